import PyProof.Rows.All
import Wide.All
import OpenK.AllK
import Wide.FinOn
import Lean
import PyProof.EqAt
import PyProof.EqKinds
import PyProof.TupleCall
import PyProof.P3In
import PyProof.NeData
import PyProof.ReprLen
import PyProof.CompUse
import KE.KSortTup
import PyProof.SumAny
import PyProof.Rows.SeqCalls
import KE.KRevIter
import PyProof.TupleOfGen
import PyProof.CollectIter
import PyProof.Draws
import PyProof.EnumMake
import KE.KEqDict
import KE.KDictSum
import PyProof.ConsumeS
import PyProof.WalkInts
import PyProof.ListNew
import PyProof.AttrMissHeap
import PyProof.FactsAll.dict
import PyProof.FactsAll.zip
import PyProof.RulesTry
import PySem.Challenge.RW_thinnet_k66_whole_thinned_twice
open PySem.W (Frag nsIn keepIn fnOf codeIn mg_of mg_none_of)
set_option compiler.extract_closed false
set_option Elab.async false
set_option linter.all false
set_option maxRecDepth 100000
open Array renaming length_toList->bi,getElem?_eq_getElem->c_,getElem?_eq_none->fj,getElem?_toList->fw,getElem?_eq_some_iff->gi,getElem_mem->gt
open Array.Perm renaming refl->iK
open Bool renaming false_ne_true->bG,and_eq_true->bL,false_eq_true->bz,eq_iff_iff->ci,eq_false_iff->eX,and_true->im
open Classical renaming propDecidable->cx,byContradiction->fE
open False renaming elim->cv
open ForInStep renaming yield->dA
open Int renaming toNat_natCast->cJ,zero_add->cK,le_refl->ca,mul_le_mul_of_nonneg_left->eV,mul_comm->eZ,mul_le_mul_of_nonneg_right->gD,mul_le_mul->gO,emod_lt_of_pos->gW,mul_assoc->gj,emod_nonneg->iJ,add_mul->iV,add_assoc->iq
open List renaming getElem?_eq_getElem->Db,length_map->FM,mem_cons_self->No,mem_singleton->On,size_toArray->Re,mem_cons_of_mem->Rs,mem_cons->TM,getElem?_eq_some_iff->TW,getElem?_map->T0,replicate->Uf,length_cons->XV,mem_map->ZB,length_append->bD,map_cons->bE,getD_eq_getElem?_getD->bF,not_mem_nil->bJ,toArray->bO,mem_append_right->bP,nodup_cons->bQ,range->bU,mem_append->bV,length_singleton->bW,lt_irrefl->bc,append_nil->bh,nodup_nil->bj,mem_of_getElem?->bq,getElem_mem->bv,pairwise_cons->b8,mem_filter->cB,nil_append->cD,map_append->cH,nodup_append->cR,getElem?_append_right->cS,mem_append_left->cU,append_assoc->cW,length_nil->cj,length_zip->cq,any_eq_true->cr,mem_range->cu,zipWith->cz,length_take->c0,length_filter_le->c7,drop_eq_getElem_cons->c9,mem_iff_getElem->dC,Nodup->dD,length_range->dH,filterMap_cons->dJ,length_zipWith->dL,length_reverse->dM,lookup_cons->dN,take_length->dO,mem_flatMap->dP,map_map->dY,length_set->de,forIn_cons->df,mem_iff_getElem?->dh,getElem?_eq_none->di,getElem?_append_left->d7,all_eq_true->eA,cons_ne_nil->eC,replicate_succ->eI,map_congr_left->eJ,filter_sublist->eK,length_eq_zero_iff->eM,find?_cons->eP,reverse_cons->eW,map_nil->eY,length_drop->eh,any_cons->e8,lt_trans->e_,perm_ext_iff_of_nodup->fA,toList_toArray->fC,of_mem_zip->fD,pairwise_iff_getElem->fF,getElem?_zip_eq_some->fG,length_erase_of_mem->fN,getElem_idxOf->fO,idxOf_lt_length_iff->fP,getElem?_replicate->fW,filter_cons_of_pos->fX,filter_cons_of_neg->fY,getLast?_cons_cons->fZ,flatten_cons->fb,getElem?_set->fc,length->fh,take_of_length_le->fi,length_pos_of_mem->fk,getElem?_zipWith->fu,singleton_append->fz,mem_of_mem_take->gF,getElem?_range->gI,forIn_nil->gL,filterMap_map->gR,zip_cons_cons->gT,forIn_toArray->gX,all_cons->gc,take_sublist->gk,take_add_one->gq,flatMap_cons->gs,ext_getElem?->gu,mem_of_find?_eq_some->gy,all_map->hU,drop_length->hV,getElem_map->iA,getElem_zip->iB,map_reverse->iD,getElem?_cons_succ->iF,pairwise_singleton->iG,getElem?_set_self->iN,range_succ_eq_map->iP,zipWith_cons_cons->iS,length_replicate->iW,take_append_drop->iY,getLast?_reverse->ig,take_succ->ii,lt_asymm->iu
open List.Pairwise renaming nil->gn
open List.cons renaming injEq->iL
open Nat renaming le_refl->Op,zero_le->bH,ne_of_lt->bK,lt_of_lt_of_le->bR,le_trans->bS,lt_irrefl->cI,le_succ->cY,lt_succ_of_lt->cy,ne_of_gt->d9,min_le_right->eg,lt_succ_self->em,le_of_lt->fH,lt_of_le_of_lt->fI,sub_self->fL,not_lt->fS,succ_le_succ->g9,le_of_eq->g_,le_add_right->h_,mod_lt->ik
open Nat.succ renaming inj->iE
open Ne renaming symm->bp
open Option renaming map_eq_some_iff->bM,isSome_map->gp,isNone->ir
open Option.some renaming inj->UF
open Or renaming inl->bC,inr->dU
open PyProof.Rows renaming slot_tuple_getitem->bZ,callWith_type1->cA,listUpdate_at->dq,get?_update_seq->eQ,boot_tuple->fV,boot_all->f6,listItems_at->gA,entry_tuple_getitem->gH,seqEpoch_at->gQ,args_tuple_getitem->gS,lt_int->iO,boot_sorted->iT
open PyProof.Rows.KeyOrd renaming kle_refl->cn,kle_of_klt->fg,kle_trans->ft,kle_antisymm->iw
open PySem renaming wpAny_bind->Ch,wpAny_pure->Go,wpAny_newObj_type->bY,sizeLine_eq->bm,wpAny_field->bn,wpAny_callSpecial?_slot->bo,wpAny_holding->bw,wpAny_mono->cC,wpAny_seqItems->cM,wpAny_loadPart'->cN,codeAny_builtin->cO,wpAny_call_entry->cP,wpAny_pyIter_tuple->cV,wpAny_Call_Name_kw->cb,plainId_quiet->cf,wpAny_pyIter_list->cg,wpAny_setField_rec->c6,wpAny_truthy_bool->dE,wpAny_typeNameOfWhole_keyiter->dI,wpAny_typeOf->dS,tupleKind_room_in1->dW,wpAny_passesOwn->dZ,wpAny_typeNameOf_keyiter->eE,wpAny_getItem_str_slice->eL,wpAny_attempt->eO,wpAny_letGo->eS,builtinLookup_eq_fast->ef,wpAny_rule->en,typeIs_str->fR,wpAny_tryCatch->fT,wpAny_isInstance->fq,wpAny_execs_nil->f7,post_val_or_str->f9,wpAny_updateSeq_pair->f_,wpAny_updateSeq->gB,typeLookup_type->gC,wpAny_setField->gK,wpAny_newTuple->gM,wpAny_of_eq->gP,wpAny_onRaise->ge,wpAny_newList->gg,wpAny_sequenceKey->gl,slot_list_getitem->gm,wpAny_dictEntries->gv,call_meets->gx,codeAny_mono->gz,noFill_tuple_add->g8,wpAny_pyIter_zip->hZ,wpAny_specialOf->iI,wpAny_dictEpoch->iM
open PySem.Around renaming under_plainId->b_,under->i5
open PySem.Builtin.Builtins renaming bindParams->gY
open PySem.Builtin.Dict renaming updateFrom->iH,pairItems->iU,showsAll->ie
open PySem.Builtin.Dict_items renaming ownsTuple->gN
open PySem.Builtin.List renaming listExtendWith->dX,listTooLong->d_,listSameRef->iC
open PySem.Builtin.Slice renaming slicePlaces->cL,sliceAdjust->c8,sliceApplied->dk,sliceFields->gw
open PySem.Builtin.SmallTypes renaming ownedTupleIsFree->be,nextOf->bg,ownedTupleHandOut->fK
open PySem.Builtin.Tuple renaming tupleExact->bu,tupleItemsOf->e7,tupleIsExact->gf
open PySem.Calls renaming spliced_cons->c5,spliced_nil->dr,callWith_builtin->eR,evalArgs_plain->f8,Name_function_global->gZ
open PySem.Code renaming isGuard->i6
open PySem.Expr renaming Call->fM
open PySem.F renaming slot_dict_keyiterator_next->cw,slot_zip_next->dB,slot_tuple_iterator_next->dn,args_zip_next_1->fe,entry_zip_next->fo,args_dict_keyiterator_next_1->gE,entry_dict_keyiterator_next->gG,args_tuple_iterator_next_1->gJ,entry_tuple_iterator_next->gU,called_tuple->iZ
open PySem.Heap renaming get?_push_of_some->Ev,get?_push_size->Sc,lt_size->Tk,get?_update_other->bN,size_push->cT,get?_update_self->da,SameBut->d8,IsTuple->hX,ExtBut->iQ,IsList->iR
open PySem.Heap.IsSliceOf renaming new->i7
open PySem.Heap.SameBut renaming update->fB
open PySem.NameKind renaming free->bx,cell->e9
open PySem.Obj renaming mapSeq->b9,data_mapFields->fJ
open PySem.PassesOwn renaming never->bd
open PySem.PyData renaming eqv->cE,depthAll->cZ,canLayAll0->dG,eqvAll->gh,leavesShortAll->iX
open PySem.SeqAt.EqAt renaming int_str->iz,str_int->i4
open PySem.Shared renaming heap->eU
open PySem.Str renaming ofString->cX
open PySem.Value renaming ref->bT,none->bX,str->dR,bool->d6,type->fQ,notImplemented->ij,int->iy
open Std.Legacy.Range renaming size->ic
open Sum renaming inr->ce,inl->eN
open Sum.inl renaming injEq->io,inj->i8
open Sum.inr renaming inj->cQ,injEq->ip
open True renaming intro->dQ
namespace _p
theorem zau0 (h : True := by first | exact .inl rfl | exact .inr rfl | assumption) : True := h
theorem zau1 (h : True := by decide) : True := h
theorem zau2 (h : True := by intro _; rfl) : True := h
theorem zau3 (h : True := by rfl) : True := h
theorem zau4 (h : True := by first | exact bC rfl | exact dU (bC rfl) | exact dU (dU rfl)) : True := h
theorem zau5 (h : True := by intro z; cases z) : True := h
theorem zau6 (h : True := by intro _ _; rfl) : True := h
theorem zau7 (h : True := by intro _ z; cases z) : True := h
theorem zau8 (h : True := by exact⟨rfl,rfl,rfl,rfl⟩) : True := h
theorem zau9 (h : True := by size_fits) : True := h
namespace L2
open PySem PySem.Spec PyProof.Rows
noncomputable abbrev Key:=Sum Int Str
noncomputable def Ka:Key->Value->Bool
 | .inl k,v=>Value.isInt k v
 | .inr x,v=>Value.isStrOf x v
noncomputable def aE(w:World):Key->Int
 | .inl k=>hashInt k
 | .inr x=>hashStr w x
theorem A5:∀{k:Key} {v:Value},Ka k v=true->(∃i t,k=eN i/\v=iy i t)\/(∃x t,k=ce x/\v=dR x t)
 | .inl i,v,h=>by
  obtain⟨t,e⟩:=Value.isInt_shape (k:=i) (v:=v) h
  exact .inl ⟨i,t,rfl,e⟩
 | .inr x,v,h=>by
  obtain⟨t,e⟩:=Value.isStrOf_shape (x:=x) (v:=v) h
  exact .inr ⟨x,t,rfl,e⟩
theorem RC(i:Int)(t:Tok):Ka (.inl i) (.int i t)=true:=by simp [Ka,Value.isInt]
theorem RB(x:Str)(t:Tok):Ka (.inr x) (.str x t)=true:=by simp [Ka,Value.isStrOf]
theorem Xm(a b:Int):decide ((eN a:Key)=eN b)=(a==b):=by
 by_cases e:a=b
 ·subst e; simp
 ·have h:¬(eN a:Key)=eN b:=λq=>e (i8 q)
  rw [decide_eq_false h]
  exact(beq_eq_false_iff_ne.mpr e).symm
theorem Xj(a b:Str):decide ((ce a:Key)=ce b)=decide (a=b):=by
 by_cases e:a=b
 ·subst e; simp
 ·have h:¬(ce a:Key)=ce b:=λq=>e (cQ q)
  rw [decide_eq_false h,decide_eq_false e]
theorem Xl(a:Int)(b:Str):decide ((eN a:Key)=ce b)=false:=decide_eq_false (λq=>nomatch q)
theorem Xk(a:Str)(b:Int):decide ((ce a:Key)=eN b)=false:=decide_eq_false (λq=>nomatch q)
noncomputable def Af(prog:Program)(w:World):PySem.KeyKind prog w Key where
 is:=Ka
 hash:=aE w
 inj:=λv a b ha hb=>by
  rcases A5 ha with ⟨i,t,rfl,rfl⟩ | ⟨x,t,rfl,rfl⟩
  ·rcases A5 hb with ⟨j,u,rfl,e⟩ | ⟨y,u,rfl,e⟩
   ·injection e with e1 _; rw [e1]
   ·exact nomatch e
  ·rcases A5 hb with ⟨j,u,rfl,e⟩ | ⟨y,u,rfl,e⟩
   ·exact nomatch e
   ·injection e with e1 _; rw [e1]
 byValue:=λk v h=>by
  rcases A5 h with ⟨i,t,rfl,rfl⟩ | ⟨x,t,rfl,rfl⟩ <;> rfl
 pyHash:=λhv h=>by
  rcases A5 hv with ⟨i,t,rfl,rfl⟩ | ⟨x,t,rfl,rfl⟩
  ·exact wpAny_pyHash_int h
  ·exact wpAny_pyHash_str h
 eqBool:=λhu hv h=>by
  rcases A5 hu with ⟨i,t,rfl,rfl⟩ | ⟨x,t,rfl,rfl⟩
  ·rcases A5 hv with ⟨j,u,rfl,rfl⟩ | ⟨y,u,rfl,rfl⟩
   ·rw [Xm] at h; exact wpAny_eqBool_int h
   ·rw [Xl] at h; exact iz i t y u _ _ _ _ h
  ·rcases A5 hv with ⟨j,u,rfl,rfl⟩ | ⟨y,u,rfl,rfl⟩
   ·rw [Xk] at h; exact i4 x t j u _ _ _ _ h
   ·rw [Xj] at h; exact wpAny_eqBool_str h
 «strs»:=λk x t v h=>by
  rcases A5 h with ⟨i,u,rfl,e⟩ | ⟨y,u,rfl,e⟩
  ·exact nomatch e
  ·injection e with e1 _
   subst e1
   cases v <;> rfl
theorem ND(prog:Program)(w:World)(i:Int)(t:Tok):(Af prog w).is (.inl i) (.int i t)=true:=RC i t
theorem NC(prog:Program)(w:World)(x:Str)(t:Tok):(Af prog w).is (.inr x) (.str x t)=true:=RB x t
inductive V where
 | non | bl (b:Bool) | int (i:Int) | str (x:Str) | byt (b:Array UInt8) | flt (b:UInt64) | ref (a:Addr) | ty (n:String)
 deriving DecidableEq
noncomputable def RelV:V->Value->Prop
 | .non,u=>u=bX
 | .bl b,u=>u=d6 b
 | .int i,u=>∃t,u=iy i t
 | .str x,u=>∃t,u=dR x t
 | .byt b,u=>∃t,u=Value.bytes b t
 | .flt b,u=>∃t,u=Value.float b t
 | .ref a,u=>u=bT a
 | .ty n,u=>u=fQ n
noncomputable abbrev Vals:List V->List Value->Prop:=Paired RelV
theorem Vals.length{xs:List V}{us:List Value}(r:Vals xs us):xs.length=us.length:=Paired.length r
theorem Vals.get:∀{xs:List V} {us:List Value} {i:Nat} {x:V},Vals xs us->xs[i]?=some x->∃u,us[i]?=some u/\RelV x u
 | _,_,_,_,.nil,e=>by simp at e
 | _,_,0,_,.cons r _,e=>by simp at e; subst e; exact⟨_,rfl,r⟩
 | _,_,i+1,x,.cons _ t,e=>by
  obtain⟨u,h1,h2⟩:=Vals.get (i:=i) (x:=x) t (by simpa using e)
  exact⟨u,by simpa using h1,h2⟩
theorem Vals.set{x:V}{u:Value}(r:RelV x u):∀{xs:List V} {us:List Value} (i:Nat),Vals xs us->Vals (xs.set i x) (us.set i u)
 | _,_,_,.nil=>.nil
 | _,_,0,.cons _ t=>.cons r t
 | _,_,i+1,.cons q t=>.cons q (Vals.set r i t)
theorem Vals.append:∀{xs ys:List V} {us ws:List Value},Vals xs us->Vals ys ws->Vals (xs++ys) (us++ws)
 | _,_,_,_,.nil,s=>s
 | _,_,_,_,.cons r t,s=>.cons r (Vals.append t s)
theorem Vals.take:∀{xs:List V} {us:List Value} (n:Nat),Vals xs us->Vals (xs.take n) (us.take n)
 | _,_,0,_=>.nil
 | _,_,_+1,.nil=>.nil
 | _,_,n+1,.cons r t=>.cons r (Vals.take n t)
theorem Vals.drop:∀{xs:List V} {us:List Value} (n:Nat),Vals xs us->Vals (xs.drop n) (us.drop n)
 | _,_,0,r=>r
 | _,_,_+1,.nil=>.nil
 | _,_,n+1,.cons _ t=>Vals.drop n t
noncomputable def RelO:Option V->Option Value->Prop
 | some v,some u=>RelV v u
 | none,none=>True
 | _,_=>False
noncomputable def KV{κ:Type}:List (κ×V)->List (κ×Value)->Prop:=Paired fun(p:κ×V) (q:κ×Value)=>p.1=q.1/\RelV p.2 q.2
noncomputable def kV:Key->V
 | .inl i=>.int i
 | .inr x=>.str x
inductive HO where
 | lst (xs:List V)
 | tup (xs:List V)
 | dK (kvs:List (Key×V)) | dT (kvs:List (List Key×V))
 | set (S:Int->Bool) (n:Nat)
 | ins (C dx:Addr) (fs:List (Str×V))
 | own (x:Addr)
 | xd (fs:List (Str×V))
 | met (f x:Addr)
 | rng (lo hi:Int)
 | frz (o:Obj) (u:HO)
 | tbl (ps:Array Value)
 | ext (φ:Heap->Prop)
noncomputable abbrev Hp:=Addr->Option HO
noncomputable def As(H:Hp)(a:Addr)(o:HO):Hp:=λb=>if b=a then some o else H b
theorem AT{H:Hp}{a:Addr}{o:HO}:As H a o a=some o:=by unfold As; rw [if_pos rfl]
theorem AK{H:Hp}{a b:Addr}{o:HO}(h:b≠a):As H a o b=H b:=by unfold As; rw [if_neg h]
theorem ZD{H:Hp}{a b:Addr}{o u:HO}(h:H a=some o)(h':H b=some u)(d:o≠u):a≠b:=by
 intro e; subst e; rw [h] at h'; exact d (UF h')
theorem Ac{H:Hp}{a b:Addr}{o:HO}(h:H a=some o)(h':H b=none):a≠b:=by
 intro e; subst e; rw [h] at h'; cases h'
noncomputable def IsTupN(h:Heap)(a:Addr)(items:Array Value):Prop:=∃o,h.get? a=some o/\o.cls=.type "tuple"/\∃n,o.data=.seq items n/\o.dict=none/\o.slots=#[]
theorem IsTupN.tup{h:Heap}{a:Addr}{items:Array Value}(x:IsTupN h a items):IsTup h a items:=let ⟨o,h1,h2,n,h3,_⟩:=x; ⟨o,h1,h2,n,h3⟩
theorem IsTupN.new(h:Heap)(items:Array Value):IsTupN (h.push { cls:=.type "tuple",data:=.seq items }) h.objs.size items:=⟨_,Sc _ rfl,rfl,_,rfl,rfl,rfl⟩
section
variable (P:Program)(w:World)
noncomputable def ObjOk(H:Hp)(h:Heap)(a:Addr):HO->Prop
 | .lst xs=>xs.length<=sizeLine/\∃(its:List Value) (n:Nat),Vals xs its/\h.get? a=some { cls:=.type "list",data:=.seq its.toArray n }
 | .tup xs=>xs.length<=sizeLine/\∃its:List Value,Vals xs its/\IsTupN h a its.toArray
 | .dK kvs=>kvs.length<=sizeLine/\(a==sysModules)=false/\∃vs,KV kvs vs/\h.DictOf (Af P w) a vs
 | .dT kvs=>kvs.length<=sizeLine/\(a==sysModules)=false/\∃xs:List (List Key×Addr×Value),
   Paired (fun(p:List Key×V) (q:List Key×Addr×Value)=>p.1=q.1/\H q.2.1=some (.tup (p.1.map kV))/\RelV p.2 q.2.2) kvs xs /\
   ∃o es ep,h.get? a=some o/\o.ExactDict/\o.data=.dict es ep/\es.toList=xs.map (entryOfKey (tupleKind (Af P w)))/\(xs.map (·.1)).Nodup
 | .set S n=>h.SetOf (intKind P w) a S n
 | .ins C dx fs=>H dx=some (.own a)/\fs.length<=1000/\dx≠a/\h.get? a=some (PySem.W.instObj C dx) /\
   ∃mA,h.Ns1 dx mA/\(∀f,RelO (fs.lookup f) (mA f))/\PySem.Within mA (fs.map (·.1))
 | .own _=>∃o,h.get? a=some o
 | .xd fs=>∃mA,h.Ns1 a mA/\∀f,RelO (fs.lookup f) (mA f)
 | .rng lo hi=>∃t u v,h.get? a=some { cls:=.type "range",data:=.fields #[.int lo t,.int hi u,.int 1 v] }
 | .frz o u=>h.get? a=some o/\ObjOk H h a u
 | .tbl ps=>h.get? a=some { cls:=.none,data:=.fields ps }
 | .met f x=>h.get? a=some (PySem.W.methodObj (.ref f) (.ref x))
 | .ext φ=>φ h/\(∃o,h.get? a=some o)/\∀h1 h2:Heap,φ h1->(∀o,h1.get? a=some o->h2.get? a=some o)->φ h2
noncomputable def HOk(H:Hp)(h:Heap):Prop:=∀a o,H a=some o->ObjOk P w H h a o
end
section
variable {P:Program}{w:World}{H H':Hp}{h h':Heap}{a:Addr}{o:HO}
theorem ObjOk.lt(x:ObjOk P w H h a o):a<h.objs.size:=by
 cases o with
 | lst xs=>obtain⟨_,_,_,_,e⟩:=x; exact Tk e
 | tup xs=>obtain⟨_,_,_,p⟩:=x; exact p.tup.lt
 | dK kvs=>obtain⟨_,_,_,_,o,_,_,e,_⟩:=x; exact Tk e
 | dT kvs=>obtain⟨_,_,_,_,o,_,_,e,_⟩:=x; exact Tk e
 | set S n=>obtain⟨o,_,_,_,e,_⟩:=x; exact Tk e
 | ins C dx fs=>obtain⟨_,_,_,e,_⟩:=x; exact Tk e
 | own y=>obtain⟨_,e⟩:=x; exact Tk e
 | xd fs=>obtain⟨_,⟨_,_,_,e,_⟩,_⟩:=x; exact Tk e
 | rng lo hi=>obtain⟨_,_,_,e⟩:=x; exact Tk e
 | frz ob u=>obtain⟨e,_⟩:=x; exact Tk e
 | tbl ps=>exact Tk (show h.get? a=some _ from x)
 | met f y=>exact Tk (show h.get? a=some _ from x)
 | ext φ=>obtain⟨_,⟨_,e⟩,_⟩:=x; exact Tk e
theorem Paired.mapP{α β:Type}{F G:α->β->Prop}:∀{l₁:List α} {l₂:List β},Paired F l₁ l₂->(∀a b,F a b->G a b)->Paired G l₁ l₂
 | _,_,.nil,_=>.nil
 | _,_,.cons r t,f=>.cons (f _ _ r) (Paired.mapP t f)
theorem ObjOk.stay(x:ObjOk P w H h a o)(k:∀b u,(b=a\/H b=some (.own a))->h.get? b=some u->h'.get? b=some u)
  (ho:∀b,H b=some (.own a)->H' b=some (.own a)) (ht:∀b xs,H b=some (.tup xs)->H' b=some (.tup xs)):ObjOk P w H' h' a o:=by
 induction o with
 | lst xs=>obtain⟨z,its,n,r,e⟩:=x; exact⟨z,its,n,r,k _ _ (.inl rfl) e⟩
 | tup xs=>obtain⟨z,its,r,ob,e,c⟩:=x; exact⟨z,its,r,ob,k _ _ (.inl rfl) e,c⟩
 | dK kvs=>obtain⟨z,y,vs,r,ob,es,ep,e,c⟩:=x; exact⟨z,y,vs,r,ob,es,ep,k _ _ (.inl rfl) e,c⟩
 | dT kvs =>
  obtain⟨z,y,xs,r,ob,es,ep,e,c⟩:=x
  exact⟨z,y,xs,Paired.mapP r λp q z=>⟨z.1,ht _ _ z.2.1,z.2.2⟩,ob,es,ep,k _ _ (.inl rfl) e,c⟩
 | set S n=>obtain⟨ob,es,ep,t,e,c⟩:=x; exact⟨ob,es,ep,t,k _ _ (.inl rfl) e,c⟩
 | ins C dx fs =>
  obtain⟨d,z,ne,e,mA,⟨od,es,ep,e2,c⟩,r⟩:=x
  exact⟨ho _ d,z,ne,k _ _ (.inl rfl) e,mA,⟨od,es,ep,k _ _ (.inr d) e2,c⟩,r⟩
 | own y=>obtain⟨ob,e⟩:=x; exact⟨ob,k _ _ (.inl rfl) e⟩
 | xd fs=>obtain⟨mA,⟨od,es,ep,e,c⟩,r⟩:=x; exact⟨mA,⟨od,es,ep,k _ _ (.inl rfl) e,c⟩,r⟩
 | rng lo hi=>obtain⟨t,u,v,e⟩:=x; exact⟨t,u,v,k _ _ (.inl rfl) e⟩
 | frz ob u ih=>obtain⟨e,q⟩:=x; exact⟨k _ _ (.inl rfl) e,ih q⟩
 | tbl ps =>
  have e:h.get? a=some { cls:=.none,data:=.fields ps }:=x
  show h'.get? a=some { cls:=.none,data:=.fields ps }
  exact k a _ (.inl rfl) e
 | met f y =>
  have e:h.get? a=some (PySem.W.methodObj (.ref f) (.ref y)):=x
  show h'.get? a=some (PySem.W.methodObj (.ref f) (.ref y))
  exact k a _ (.inl rfl) e
 | ext φ=>obtain⟨p,⟨o,e⟩,st⟩:=x; exact⟨st _ _ p λo q=>k _ _ (.inl rfl) q,⟨o,k _ _ (.inl rfl) e⟩,st⟩
theorem HOk.lt(x:HOk P w H h)(e:H a=some o):a<h.objs.size:=(x a o e).lt
theorem HOk.fresh(x:HOk P w H h)(e:h.objs.size<=a):H a=none:=by
 cases q:H a with
 | none=>rfl
 | some u=>exact absurd (bR (x.lt q) e) (cI _)
theorem HOk.kept(x:HOk P w H h)(k:∀b u,h.get? b=some u->h'.get? b=some u):HOk P w H h':=λa o e =>
 (x a o e).stay (λb u _ q=>k b u q) (λ_ q=>q) λ_ _ q=>q
theorem HOk.laid(x:HOk P w H h)(k:∀b u,h.get? b=some u->h'.get? b=some u)(hp:h.objs.size<=a)(new:ObjOk P w (As H a o) h' a o):HOk P w (As H a o) h':=λb u e=>by
 have hn:=x.fresh hp
 by_cases hb:b=a
 ·subst hb; rw [AT] at e; cases e; exact new
 ·rw [AK hb] at e
  exact(x b u e).stay (λc v _ q=>k c v q) (λc q=>by rw [AK (Ac q hn)]; exact q) λc xs q=>by rw [AK (Ac q hn)]; exact q
end
noncomputable def Rd(H:Hp)(a:Addr)(u:HO):Prop:=H a=some u\/∃o,H a=some (.frz o u)
theorem Rd.ok{P:Program}{w:World}{H:Hp}{h:Heap}{a:Addr}{u:HO}(r:Rd H a u)(x:HOk P w H h):ObjOk P w H h a u:=by
 rcases r with r | ⟨o,r⟩
 ·exact x a u r
 ·obtain⟨_,q⟩:=x a _ r
  exact q
noncomputable def Zf:Option HO->Prop
 | some (.lst _)=>True
 | some (.dK _)=>True
 | some (.dT _)=>True
 | some (.set _ _)=>True
 | some (.ins _ _ _)=>True
 | some (.ext _)=>True
 | _=>False
section
variable {P:Program}{w:World}{H:Hp}{h h':Heap}{x e:Addr}{o':HO}
theorem HOk.write(ok:HOk P w H h)(mu:Zf (H x))(he:e=x\/H e=some (.own x))(k:∀b u,b≠e->h.get? b=some u->h'.get? b=some u)(heo:∃u,h'.get? e=some u)
  (new:ObjOk P w (As H x o') h' x o'):HOk P w (As H x o') h':=λb u q=>by
 have nown:∀c y,H c=some (.own y)->c≠x:=λc y r z=>by subst z; rw [r] at mu; exact mu
 have ntup:∀c xs,H c=some (.tup xs)->c≠x:=λc xs r z=>by subst z; rw [r] at mu; exact mu
 by_cases hb:b=x
 ·subst hb; rw [AT] at q; cases q; exact new
 ·rw [AK hb] at q
  by_cases hbe:b=e
  ·have q':H b=some (.own x):=by
    rcases he with z | z
    ·exact absurd (hbe.trans z) hb
    ·rw [hbe]; exact z
   rw [q] at q'; cases q'
   obtain⟨v,hv⟩:=heo
   exact⟨v,by rw [hbe]; exact hv⟩
  ·refine(ok b u q).stay (λc v hc r=>k c v ?_ r) (λc r=>by rw [AK (nown c b r)]; exact r) λc xs r=>by rw [AK (ntup c xs r)]; exact r
   rcases hc with rfl | hc
   ·exact hbe
   ·rintro rfl
    rcases he with z | z
    ·exact nown c b hc z
    ·rw [hc] at z; cases z; exact hb rfl
end
structure Un (fs ex:List Addr) (H H':Hp) (h h':Heap):Prop where
 keep:∀b o,h.get? b=some o->H b=none->b∉fs->b∉ex->h'.get? b=some o
 slot:∀b o,h.get? b=some o->H b=none->b∈fs->b∉ex->∃sl,h'.get? b=some { o with slots:=sl }
 free:∀b o,h.get? b=some o->H b=none->b∉ex->H' b=none
 there:∀b o,h.get? b=some o->b∉ex->∃o',h'.get? b=some o'
 tups:∀b xs,H b=some (.tup xs)->H' b=some (.tup xs)
 frzs:∀b o u,H b=some (.frz o u)->H' b=some (.frz o u)
 tbls:∀b ps,H b=some (.tbl ps)->∃more,H' b=some (.tbl (ps++more))
section
variable {fs fs' ex ex':List Addr}{H H1 H2:Hp}{h h1 h2 h':Heap}{a x e:Addr}{o:HO}
theorem Un.any(u:Un fs ex H H1 h h1){b:Addr}{ob:Obj}(q:h.get? b=some ob)(n:H b=none)(hx:b∉ex):∃sl,h1.get? b=some { ob with slots:=sl }:=by
 by_cases hb:b∈fs
 ·exact u.slot b ob q n hb hx
 ·exact⟨ob.slots,u.keep b ob q n hb hx⟩
theorem Un.kept(k:∀b u,h.get? b=some u->h'.get? b=some u):Un fs ex H H h h' :=
 ⟨λb ob q _ _ _=>k b ob q,λb ob q _ _ _=>⟨ob.slots,k b ob q⟩,λ_ _ _ n _=>n,λb ob q _=>⟨ob,k b ob q⟩,λ_ _ q=>q,λ_ _ _ q=>q,λ_ ps q=>⟨#[],by rw [q]; simp⟩⟩
theorem Un.refl:Un fs ex H H h h:=Un.kept λ_ _ q=>q
theorem Un.laid(k:∀b u,h.get? b=some u->h'.get? b=some u)(hp:h.objs.size<=a)(hn:H a=none):Un fs ex H (As H a o) h h' where
 keep:=λb u q _ _ _=>k b u q
 slot:=λb u q _ _ _=>⟨u.slots,k b u q⟩
 free:=λb u q n _=>by rw [AK (bK (bR (Tk q) hp))]; exact n
 there:=λb u q _=>⟨u,k b u q⟩
 tups:=λb xs q=>by rw [AK (Ac q hn)]; exact q
 frzs:=λb u xs q=>by rw [AK (Ac q hn)]; exact q
 tbls:=λb ps q=>⟨#[],by rw [AK (Ac q hn),q]; simp⟩
theorem Un.write(mu:Zf (H x))(he:e=x\/H e=some (.own x))(k:∀b u,b≠e->h.get? b=some u->h'.get? b=some u)(heo:∃u,h'.get? e=some u):Un fs ex H (As H x o) h h':=by
 have hx:∀b,H b=none->b≠x:=λb n z=>by subst z; rw [n] at mu; exact mu
 have hb:∀b,H b=none->b≠e:=λb n z=>by
  subst z
  rcases he with r | r
  ·exact hx b n r
  ·rw [n] at r; cases r
 have hm:∀b u,H b=some u->¬Zf (some u)->b≠x:=λb u q nm z=>by subst z; rw [q] at mu; exact nm mu
 refine⟨λb u q n _ _=>k b u (hb b n) q,λb u q n _ _=>⟨u.slots,k b u (hb b n) q⟩,λb u q n _=>by rw [AK (hx b n)]; exact n,λb u q _=>?_,
  λb xs q=>by rw [AK (hm b _ q λz=>z)]; exact q,λb u xs q=>by rw [AK (hm b _ q λz=>z)]; exact q,λb ps q=>⟨#[],by rw [AK (hm b _ q λz=>z),q]; simp⟩⟩
 by_cases hbe:b=e
 ·subst hbe; exact heo
 ·exact⟨u,k b u hbe q⟩
end
noncomputable def Zl(h:Heap)(H:Hp):List Addr:=(bU h.objs.size).filter λa=>(H a).isSome
noncomputable def Lj(h:Heap)(H:Hp):Heap:=PySem.W.hideAll h (Zl h H)
theorem RG(h:Heap)(H:Hp):(Lj h H).objs.size=h.objs.size:=PySem.W.hideAll_size _ _
theorem Te{h:Heap}{H:Hp}{b:Addr}{o:Obj}(e:h.get? b=some o)(n:H b=none):(Lj h H).get? b=some o :=
 PySem.W.hideAll_get _ e λhm=>by
  have q:(H b).isSome=true:=(cB.mp hm).2
  rw [n] at q; simp at q
theorem VH{h:Heap}{H:Hp}{b:Addr}{o:Obj}(e:(Lj h H).get? b=some o):h.get? b=some o/\H b=none:=by
 have e':h.get? b=some o:=PySem.W.of_hideAll (Zl h H) e
 refine⟨e',?_⟩
 cases q:H b with
 | none=>rfl
 | some x =>
  have hm:b∈Zl h H:=cB.mpr ⟨cu.mpr (Tk e'),by simp [q]⟩
  have z:(Lj h H).get? b=none:=PySem.W.hideAll_none (Zl h H) hm
  rw [z] at e; cases e
structure Mod (K:Frag) (mg:Str->Option Value) (base:Heap):Prop where
 kin:K.In base
 glob:base.Ns mainGlobals mg
 blt:∃mb,base.Ns builtinsNs mb/\∀x:Str,x ≠ "__name__"->mb x=bootBuiltins x
 nolimit:base.NoLimit
/-- the context: a def's body (or a comprehension's block) running. base: fixed through the whole law; s₀, H₀: the entry; outer: the frames whose slots others may change (a def's callers); stack: all frames that run;
   ex: iterators that were made ahead of the entry and are walked here (a comprehension's); fn: the names whose cells were made at the entry (a def: all; a comprehension's block: its own); calm: not within an except suite; pn: pins that every state bears; xe: what is wanted of an exception that leaves the code -/
structure Cx where
 prog:Program
 w:World
 K:Frag
 mg:Str->Option Value
 base:Heap
 A:Around
 N:List Str
 s₀:Shared
 H₀:Hp
 env:Env
 outer:List Env
 stack:List Env
 ex:List Addr
 fn:Str->Bool
 calm:Bool
 pn:List (Addr×Obj)
 xe:Value->Shared->Prop
noncomputable def Rf(l:List Env):List Addr:=l.filterMap (·.frame)
noncomputable abbrev Cx.fs(X:Cx):List Addr:=Rf X.outer
noncomputable def YM(sc:Scope)(x:Str):Prop:=sc.names.lookup x=some .local\/sc.names.lookup x=some .cell\/sc.names.lookup x=some .free
noncomputable def Loc(sc:Scope)(x:Str):Prop:=sc.names.lookup x=some .local\/sc.names.lookup x=some .cell
noncomputable def Look(env:Env)(h:Heap)(m:Str->Option Value)(x:Str)(u:Value):Prop :=
 (env.kindOf x=some .local/\m x=some u)\/((env.kindOf x=some .cell\/env.kindOf x=some .free)/\∃c,env.cells.lookup x=some c/\h.IsCell c (some u))
structure Cx.Ok (X:Cx):Prop where
 mod:Mod X.K X.mg X.base
 kind:X.env.scope.kind=.function
 glob:X.env.globals=mainGlobals
 blt:X.env.builtins=builtinsNs
 above:X.s₀.heap.objs.size<=X.env.locals
 inj:∀x y c,X.env.cells.lookup x=some c->X.env.cells.lookup y=some c->x=y
 has:∀x,(X.env.kindOf x=some .cell\/X.env.kindOf x=some .free)->∃c,X.env.cells.lookup x=some c
 cab:∀x c,X.fn x=true->X.env.cells.lookup x=some c->X.s₀.heap.objs.size<=c
 hd:X.calm=true->X.A.handled=none
 frames:X.A.frames=some X.stack
 stk:X.stack=X.outer\/(X.stack=X.env::X.outer/\X.env.frame=some X.env.locals)
 exf:∀b∈X.ex,b≠X.env.locals/\∀x c,X.env.cells.lookup x=some c->c≠b
 bs:∀b o,X.base.get? b=some o->X.s₀.heap.get? b=some o/\X.H₀ b=none
 bsz:X.base.objs.size<=X.s₀.heap.objs.size
 noex:∀b o,X.base.get? b=some o->b∉X.ex
 exfs:∀b∈X.ex,b∉X.fs
 funs:X.s₀.heap.FunFrames X.base X.outer
 frf:∀b∈X.fs,X.H₀ b=none
structure Inv (X:Cx) (pins:List (Addr×Obj)) (σ:List (Option V)) (H:Hp) (s:Shared):Prop where
 ok:X.Ok
 os:s.os=X.s₀.os
 bare:AllBare s.gens
 base:Un X.fs X.ex X.H₀ H X.s₀.heap s.heap
 loc:∃m,s.heap.Ns X.env.locals m/\∀(i:Nat) (x:Str) (v:V),X.N[i]?=some x->σ[i]?=some (some v)->YM X.env.scope x->∃u,RelV v u/\Look X.env s.heap m x u
 cell:∀x c,X.env.cells.lookup x=some c->∃v,s.heap.IsCell c v
 free:H X.env.locals=none
 freeC:∀x c,X.env.cells.lookup x=some c->H c=none
 pin:∀p∈X.pn++pins,s.heap.get? p.1=some p.2/\H p.1=none/\p.1≠X.env.locals/\p.1∉X.fs/\∀v,p.2.data≠.cell v
 hok:HOk X.prog X.w H s.heap
 len:σ.length=X.N.length
section
variable {X:Cx}{pins:List (Addr×Obj)}{σ:List (Option V)}{H H':Hp}{s:Shared}{h':Heap}
theorem Cx.Ok.nofr(ok:X.Ok){b:Addr}{o:Obj}(e:X.base.get? b=some o):b∉X.fs:=λhb=>by
 have:=(ok.funs.mem hb).1
 rw [e] at this; cases this
theorem Inv.bs(I:Inv X pins σ H s):∀b o,X.base.get? b=some o->s.heap.get? b=some o/\H b=none:=λb o e =>
 ⟨I.base.keep b o (I.ok.bs b o e).1 (I.ok.bs b o e).2 (I.ok.nofr e) (I.ok.noex b o e),I.base.free b o (I.ok.bs b o e).1 (I.ok.bs b o e).2 (I.ok.noex b o e)⟩
theorem Inv.bk(I:Inv X pins σ H s):∀b o,X.base.get? b=some o->s.heap.get? b=some o:=λb o e=>(I.bs b o e).1
theorem Inv.mod(I:Inv X pins σ H s):Mod X.K X.mg X.base:=I.ok.mod
theorem Inv.kIn(I:Inv X pins σ H s):X.K.In s.heap:=I.ok.mod.kin.keeps I.bk
theorem Inv.lt(I:Inv X pins σ H s):X.env.locals<s.heap.objs.size:=let ⟨_,hn,_⟩:=I.loc; hn.lt
theorem Inv.sz(I:Inv X pins σ H s):X.s₀.heap.objs.size<=s.heap.objs.size:=bS I.ok.above (fH I.lt)
theorem Inv.nofs(I:Inv X pins σ H s){a:Addr}(h:s.heap.objs.size<=a):a∉X.fs:=λhb=>by
 obtain⟨_,o,ho,_⟩:=I.ok.funs.mem hb
 exact absurd (bR (Tk ho) (bS I.sz h)) (cI _)
theorem Inv.cne(I:Inv X pins σ H s):∀x c,X.env.cells.lookup x=some c->c≠X.env.locals:=λx c e z=>by
 obtain⟨v,o,ho,hd⟩:=I.cell x c e
 obtain⟨m,⟨o',es,ep,ho',hd',_⟩,_⟩:=I.loc
 rw [z,ho'] at ho; cases ho; rw [hd'] at hd; cases hd
theorem Inv.funs(I:Inv X pins σ H s):s.heap.FunFrames X.base X.outer:=by
 have all:∀(l:List Env),(∀b∈Rf l,b∈X.fs)->X.s₀.heap.FunFrames X.base l->s.heap.FunFrames X.base l:=by
  intro l
  induction l with
  | nil=>intro _ _; trivial
  | cons env r ih =>
   intro hs hl
   obtain⟨hk,⟨L,o,hf,hn,ho,hd⟩,hr⟩:=hl
   have hL:L∈X.fs:=hs L (by unfold Rf; rw [dJ,hf]; exact No)
   obtain⟨sl,e⟩:=I.base.slot L o ho (I.ok.frf L hL) hL λz=>I.ok.exfs L z hL
   exact⟨hk,⟨L,_,hf,hn,e,hd⟩,ih (λb hb=>hs b (by unfold Rf; rw [dJ,hf]; exact Rs _ hb)) hr⟩
 exact all X.outer (λ_ hb=>hb) I.ok.funs
theorem Inv.stack(I:Inv X pins σ H s):s.heap.FunFrames X.base X.stack:=by
 rcases I.ok.stk with e | ⟨e,hf⟩
 ·rw [e]; exact I.funs
 ·rw [e]
  obtain⟨m,hn,_⟩:=I.loc
  refine .cons (by rw [I.ok.kind]; decide) hf hn ?_ I.funs
  exact Heap.get?_none_of_le (bS I.ok.bsz I.ok.above)
theorem Inv.stkSub(I:Inv X pins σ H s):∀b∈Rf X.stack,b∈X.env.locals::X.fs:=λb hb=>by
 rcases I.ok.stk with e | ⟨e,hf⟩
 ·rw [e] at hb; exact Rs _ hb
 ·rw [e] at hb
  unfold Rf at hb
  rw [dJ,hf] at hb
  exact hb
theorem Inv.stkFree(I:Inv X pins σ H s):∀b∈Rf X.stack,H b=none:=λb hb=>by
 rcases TM.mp (I.stkSub b hb) with e | hb
 ·rw [e]; exact I.free
 ·obtain⟨_,o,ho,_⟩:=I.ok.funs.mem hb
  exact I.base.free b o ho (I.ok.frf b hb) λz=>I.ok.exfs b z hb
theorem Inv.step{g':Array GenState}{t':Nat}{d':Drawn}{ch:List Addr}(I:Inv X pins σ H s)
  (hch:∀b∈ch,(b∈X.ex\/X.s₀.heap.objs.size<=b)/\b≠X.env.locals/\(∀x c,X.env.cells.lookup x=some c->c≠b)/\∀p∈X.pn++pins,p.1≠b)
  (keep:∀b o,b≠X.env.locals->b∉X.fs->b∉ch->s.heap.get? b=some o->H b=none->h'.get? b=some o)
  (slot:∀b o,b≠X.env.locals->b∈X.fs->b∉ch->s.heap.get? b=some o->H b=none->∃sl,h'.get? b=some { o with slots:=sl }) (free:∀b o,b∉ch->s.heap.get? b=some o->H b=none->H' b=none)
  (there:∀b o,b∉ch->s.heap.get? b=some o->∃o',h'.get? b=some o')
  (tups:∀b xs,H b=some (.tup xs)->H' b=some (.tup xs)) (frzs:∀b o u,H b=some (.frz o u)->H' b=some (.frz o u)) (tbls:∀b ps,H b=some (.tbl ps)->∃more,H' b=some (.tbl (ps++more)))
  (ns:∀m,s.heap.Ns X.env.locals m->h'.Ns X.env.locals m) (hok:HOk X.prog X.w H' h') (hg:AllBare g') :
  Inv X pins σ H' { s with heap:=h',gens:=g',drawn:=d',toks:=t' }:=by
 have neL:∀b o,X.s₀.heap.get? b=some o->b≠X.env.locals:=λb o e=>bK (bR (Tk e) I.ok.above)
 have neC:∀b o,X.s₀.heap.get? b=some o->b∉X.ex->b∉ch:=λb o e hx hb=>by
  rcases (hch b hb).1 with z | z
  ·exact hx z
  ·exact absurd (bR (Tk e) z) (cI _)
 have cellK:∀x c,X.env.cells.lookup x=some c->∀v,s.heap.IsCell c v->h'.IsCell c v:=λx c e v ⟨o,ho,hd⟩=>by
  have nch:c∉ch:=λz=>(hch c z).2.2.1 x c e rfl
  by_cases hc:c∈X.fs
  ·obtain⟨sl,q⟩:=slot c o (I.cne x c e) hc nch ho (I.freeC x c e)
   exact⟨_,q,hd⟩
  ·exact⟨o,keep c o (I.cne x c e) hc nch ho (I.freeC x c e),hd⟩
 refine⟨I.ok,I.os,hg,⟨λb o e n hb hx=>?_,λb o e n hb hx=>?_,λb o e n hx=>?_,λb o e hx=>?_,λb xs e=>tups b xs (I.base.tups b xs e),λb o xs e=>frzs b o xs (I.base.frzs b o xs e),λb ps e=>?_⟩,?_,λx c e=>?_,?_,λx c e=>?_,λp hp=>?_,hok,I.len⟩
 ·exact keep b o (neL b o e) hb (neC b o e hx) (I.base.keep b o e n hb hx) (I.base.free b o e n hx)
 ·obtain⟨sl,e1⟩:=I.base.slot b o e n hb hx
  obtain⟨sl',e2⟩:=slot b _ (neL b o e) hb (neC b o e hx) e1 (I.base.free b o e n hx)
  exact⟨sl',e2⟩
 ·obtain⟨o',e1⟩:=I.base.there b o e hx
  exact free b o' (neC b o e hx) e1 (I.base.free b o e n hx)
 ·obtain⟨o',e1⟩:=I.base.there b o e hx
  exact there b o' (neC b o e hx) e1
 ·obtain⟨m1,e1⟩:=I.base.tbls b ps e
  obtain⟨m2,e2⟩:=tbls b _ e1
  exact⟨m1++m2,by rw [e2,Array.append_assoc]⟩
 ·obtain⟨m,hn,hl⟩:=I.loc
  refine⟨m,ns m hn,λi x v e1 e2 e3=>?_⟩
  obtain⟨u,r,l⟩:=hl i x v e1 e2 e3
  refine⟨u,r,?_⟩
  rcases l with l | ⟨k,c,e,z⟩
  ·exact .inl l
  ·exact .inr ⟨k,c,e,cellK x c e _ z⟩
 ·obtain⟨v,z⟩:=I.cell x c e
  exact⟨v,cellK x c e v z⟩
 ·obtain⟨m,⟨o,_,_,ho,_⟩,_⟩:=I.loc
  exact free _ o (λz=>(hch _ z).2.1 rfl) ho I.free
 ·obtain⟨v,o,ho,hd⟩:=I.cell x c e
  exact free c o (λz=>(hch c z).2.2.1 x c e rfl) ho (I.freeC x c e)
 ·obtain⟨e,n,ne,nf,d⟩:=I.pin p hp
  have nch:p.1∉ch:=λz=>(hch p.1 z).2.2.2 p hp rfl
  exact⟨keep p.1 p.2 ne nf nch e n,free p.1 p.2 nch e n,ne,nf,d⟩
theorem Inv.un{t':Nat}(I:Inv X pins σ H s)(u:Un X.fs [] H H' s.heap h')(hok:HOk X.prog X.w H' h'):Inv X pins σ H' { s with heap:=h',toks:=t' }:=by
 obtain⟨m,⟨o,es,ep,ho,r⟩,_⟩:=id I.loc
 obtain⟨sl,hL⟩:=u.any ho I.free (by simp)
 exact I.step (g':=s.gens) (d':=s.drawn) (ch:=[]) (λ_ z=>nomatch z) (λb o _ hb _ e n=>u.keep b o e n hb (by simp)) (λb o _ hb _ e n=>u.slot b o e n hb (by simp)) (λb o _ e n=>u.free b o e n (by simp)) (λb o _ e=>u.there b o e (by simp)) u.tups u.frzs u.tbls (λm' hm=>by
  obtain⟨o',es',ep',ho',r'⟩:=hm
  rw [ho] at ho'; cases ho'
  exact⟨_,es',ep',hL,r'⟩) hok I.bare
theorem Inv.call{g':Array GenState}{t':Nat}{d':Drawn}{ch:List Addr}(I:Inv X pins σ H s)(u:Un (Rf X.stack) ch H H' s.heap h')(hok:HOk X.prog X.w H' h')(hg:AllBare g')
  (hch:∀b∈ch,(b∈X.ex\/X.s₀.heap.objs.size<=b)/\b≠X.env.locals/\(∀x c,X.env.cells.lookup x=some c->c≠b)/\∀p∈X.pn++pins,p.1≠b) :
  Inv X pins σ H' { s with heap:=h',gens:=g',drawn:=d',toks:=t' }:=by
 obtain⟨m,⟨o,es,ep,ho,r⟩,_⟩:=id I.loc
 obtain⟨sl,hL⟩:=u.any ho I.free λz=>(hch _ z).2.1 rfl
 exact I.step (ch:=ch) hch (λb o hL hb hc e n=>u.keep b o e n (λz=>(TM.mp (I.stkSub b z)).elim hL hb) hc) (λb o _ _ hc e n=>u.any e n hc) (λb o hc e n=>u.free b o e n hc) (λb o hc e=>u.there b o e hc) u.tups u.frzs u.tbls (λm' hm=>by
  obtain⟨o',es',ep',ho',r'⟩:=hm
  rw [ho] at ho'; cases ho'
  exact⟨_,es',ep',hL,r'⟩) hok hg
theorem Inv.turned{t':Nat}{it:Addr}(I:Inv X pins σ H s)(k:∀b o,b≠it->s.heap.get? b=some o->h'.get? b=some o)(hn:H it=none)(hL:it≠X.env.locals)
  (h1:it∈X.ex\/X.s₀.heap.objs.size<=it) (h2:∀x c,X.env.cells.lookup x=some c->c≠it) (h3:∀p∈X.pn++pins,p.1≠it):Inv X pins σ H { s with heap:=h',toks:=t' }:=by
 have nit:∀b u,H b=some u->b≠it:=λb u e z=>by rw [z,hn] at e; cases e
 refine I.step (g':=s.gens) (d':=s.drawn) (ch:=[it]) (λb hb=>?_) (λb o _ _ hc e _=>k b o (λz=>hc (by simp [z])) e) (λb o _ _ hc e _=>⟨o.slots,k b o (λz=>hc (by simp [z])) e⟩) (λ_ _ _ _ n=>n)
  (λb o hc e=>⟨o,k b o (λz=>hc (by simp [z])) e⟩) (λ_ _ e=>e) (λ_ _ _ e=>e) (λb ps e=>⟨#[],by rw [e]; simp⟩) (λm hm=>?_) (λb u e=>?_) I.bare
 ·have e:b=it:=by simpa using hb
  subst e
  exact⟨h1,hL,h2,h3⟩
 ·obtain⟨o,es,ep,ho,r⟩:=hm
  exact⟨o,es,ep,k _ o (bp hL) ho,r⟩
 ·refine(I.hok b u e).stay (λc v hc q=>k c v ?_ q) (λ_ q=>q) λ_ _ q=>q
  rcases hc with z | z
  ·rw [z]; exact nit b u e
  ·exact nit c _ z
theorem Inv.tok(I:Inv X pins σ H s)(t:Nat):Inv X pins σ H { s with toks:=t }:=I.un (h':=s.heap) (t':=t) Un.refl I.hok
theorem Inv.kept{t':Nat}(I:Inv X pins σ H s)(k:∀b u,s.heap.get? b=some u->h'.get? b=some u):Inv X pins σ H { s with heap:=h',toks:=t' }:=I.un (Un.kept k) (I.hok.kept k)
theorem Inv.laid{a:Addr}{o:HO}{t':Nat}(I:Inv X pins σ H s)(k:∀b u,s.heap.get? b=some u->h'.get? b=some u)(hp:s.heap.objs.size<=a)(new:ObjOk X.prog X.w (As H a o) h' a o) :
  Inv X pins σ (As H a o) { s with heap:=h',toks:=t' }:=I.un (Un.laid k hp (I.hok.fresh hp)) (I.hok.laid k hp new)
theorem Inv.write{x e:Addr}{o:HO}{t':Nat}(I:Inv X pins σ H s)(mu:Zf (H x))(he:e=x\/H e=some (.own x))(k:∀b u,b≠e->s.heap.get? b=some u->h'.get? b=some u)(heo:∃u,h'.get? e=some u)
  (new:ObjOk X.prog X.w (As H x o) h' x o):Inv X pins σ (As H x o) { s with heap:=h',toks:=t' }:=I.un (Un.write mu he k heo) (I.hok.write mu he k heo new)
theorem Inv.pins_of{pins':List (Addr×Obj)}(I:Inv X pins σ H s)(h:∀p∈pins',s.heap.get? p.1=some p.2/\H p.1=none/\p.1≠X.env.locals/\p.1∉X.fs/\∀v,p.2.data≠.cell v):Inv X pins' σ H s :=
 ⟨I.ok,I.os,I.bare,I.base,I.loc,I.cell,I.free,I.freeC,λp hp=>(bV.mp hp).elim (λz=>I.pin p (cU _ z)) (h p),I.hok,I.len⟩
theorem F4{N:List Str}(hN:N.Nodup){i j:Nat}{x:Str}(a:N[i]?=some x)(b:N[j]?=some x):i=j:=by
 obtain⟨h1,e1⟩:=TW.mp a
 obtain⟨h2,e2⟩:=TW.mp b
 exact(List.getElem_inj hN).mp (e1.trans e2.symm)
theorem KI{M:Model}{A:Around}{E:Value->Shared->Prop}{i:Nat}{x:Str}{v:V}{u:Value}{Q:Unit->Shared->Prop}(I:Inv X pins σ H s)(hN:X.N.Nodup)(hi:X.N[i]?=some x)(hx:Loc X.env.scope x)(r:RelV v u)
  (h:∀s',Inv X pins (σ.set i (some v)) H s'->(∃a,d8 a s.heap s'.heap/\(a=X.env.locals\/X.env.cells.lookup x=some a))->Q () s') (hf:autoParam (X.fn x=true\/X.env.scope.names.lookup x=some .local) zau0._auto_1):wpAny M A (storeName X.env x u) Q E s:=by
 obtain⟨m,hn,hl⟩:=id I.loc
 have hcls:(X.env.scope.kind==.class||(X.env.scope.kind==.module&&X.env.locals != X.env.globals))=false:=by rw [I.ok.kind]; rfl
 have hiσ:i<σ.length:=by rw [I.len]; exact(TW.mp hi).1
 have cne:=I.cne
 have tracked:∀{a:Addr} {h':Heap},(∃o,s.heap.get? a=some o/\H a=none)->d8 a s.heap h'->HOk X.prog X.w H h':=λ{a h'} ha hs b ob e=>by
  obtain⟨_,_,hfree⟩:=ha
  refine(I.hok b ob e).stay (λc w' hc q=>(hs.2 c ?_).trans q) (λ_ q=>q) λ_ _ q=>q
  rintro rfl
  rcases hc with rfl | hc
  ·rw [hfree] at e; cases e
  ·rw [hfree] at hc; cases hc
 rcases hx with hk | hk
 ·refine wpAny_storeName_local hk hn (λh' hn' hs=>?_) hcls
  obtain⟨oL,_,_,hoL,_⟩:=id hn
  refine h _ ⟨I.ok,I.os,I.bare,⟨λb o e n hb hx=>?_,λb o e n hb hx=>?_,I.base.free,λb o e hx=>?_,I.base.tups,I.base.frzs,I.base.tbls⟩,⟨_,hn',λj y v' e1 e2 e3=>?_⟩,λy c e=>?_,I.free,I.freeC,λp hp=>?_,tracked ⟨oL,hoL,I.free⟩ hs,by simpa using I.len⟩ ⟨_,hs,.inl rfl⟩
  ·exact(hs.2 b (bK (bR (Tk e) I.ok.above))).trans (I.base.keep b o e n hb hx)
  ·obtain⟨sl,e1⟩:=I.base.slot b o e n hb hx
   exact⟨sl,(hs.2 b (bK (bR (Tk e) I.ok.above))).trans e1⟩
  ·obtain⟨o',e1⟩:=I.base.there b o e hx
   exact⟨o',(hs.2 b (bK (bR (Tk e) I.ok.above))).trans e1⟩
  ·by_cases hj:j=i
   ·subst hj
    rw [hi] at e1; cases e1
    rw [iN hiσ] at e2
    cases e2
    exact⟨u,r,.inl ⟨hk,by simp⟩⟩
   ·rw [List.getElem?_set_ne (bp hj)] at e2
    obtain⟨u',r',q⟩:=hl j y v' e1 e2 e3
    refine⟨u',r',?_⟩
    rcases q with ⟨k,e⟩ | ⟨k,c,e,z⟩
    ·refine .inl ⟨k,?_⟩
     have:y≠x:=λe=>hj (F4 hN e1 (e▸hi))
     simp [this,e]
    ·exact .inr ⟨k,c,e,z.sameBut hs (cne y c e)⟩
  ·obtain⟨w',z⟩:=I.cell y c e
   exact⟨w',z.sameBut hs (cne y c e)⟩
  ·obtain⟨e,n,ne,nf,d⟩:=I.pin p hp
   exact⟨(hs.2 p.1 ne).trans e,n,ne,nf,d⟩
 ·have hfn:X.fn x=true:=by
   rcases hf with z | z
   ·exact z
   ·rw [z] at hk; cases hk
  obtain⟨c,hc⟩:=I.ok.has x (.inl hk)
  obtain⟨w',z⟩:=I.cell x c hc
  refine wpAny_storeName_cell I.ok.kind hk hc z (λh' hc' hs=>?_)
  obtain⟨oc,hoc,hocd⟩:=id z
  refine h { s with heap:=h' } ⟨I.ok,I.os,I.bare,⟨λb o e n hb hx=>?_,λb o e n hb hx=>?_,I.base.free,λb o e hx=>?_,I.base.tups,I.base.frzs,I.base.tbls⟩,⟨m,hn.sameBut hs (bp (cne x c hc)),λj y v' e1 e2 e3=>?_⟩,λy c' e=>?_,I.free,I.freeC,λp hp=>?_,tracked ⟨oc,hoc,I.freeC x c hc⟩ hs,by simpa using I.len⟩ ⟨c,hs,.inr hc⟩
  ·exact(hs.2 b (bK (bR (Tk e) (I.ok.cab x c hfn hc)))).trans (I.base.keep b o e n hb hx)
  ·obtain⟨sl,e1⟩:=I.base.slot b o e n hb hx
   exact⟨sl,(hs.2 b (bK (bR (Tk e) (I.ok.cab x c hfn hc)))).trans e1⟩
  ·obtain⟨o',e1⟩:=I.base.there b o e hx
   exact⟨o',(hs.2 b (bK (bR (Tk e) (I.ok.cab x c hfn hc)))).trans e1⟩
  ·by_cases hj:j=i
   ·subst hj
    rw [hi] at e1; cases e1
    rw [iN hiσ] at e2
    cases e2
    exact⟨u,r,.inr ⟨.inl hk,c,hc,hc'⟩⟩
   ·rw [List.getElem?_set_ne (bp hj)] at e2
    obtain⟨u',r',q⟩:=hl j y v' e1 e2 e3
    refine⟨u',r',?_⟩
    rcases q with q | ⟨k,c',e,z'⟩
    ·exact .inl q
    ·refine .inr ⟨k,c',e,z'.sameBut hs ?_⟩
     rintro rfl
     exact hj (F4 hN e1 (I.ok.inj _ _ _ e hc▸hi))
  ·by_cases hcc:c'=c
   ·subst hcc; exact⟨_,hc'⟩
   ·obtain⟨w2,z2⟩:=I.cell y c' e
    exact⟨w2,z2.sameBut hs hcc⟩
  ·obtain⟨e,n,ne,nf,d⟩:=I.pin p hp
   refine⟨(hs.2 p.1 ?_).trans e,n,ne,nf,d⟩
   intro q
   rw [q,hoc] at e
   have q':oc=p.2:=UF e
   exact d w' (by rw [← q']; exact hocd)
theorem IS{M:Model}{A:Around}{E:Value->Shared->Prop}{i:Nat}{x:Str}{v:V}{u:Value}{Q:Unit->Shared->Prop}(I:Inv X pins σ H s)(hN:X.N.Nodup)(hi:X.N[i]?=some x)(hx:Loc X.env.scope x)(r:RelV v u)
  (h:∀s',Inv X pins (σ.set i (some v)) H s'->Q () s') (hf:autoParam (X.fn x=true\/X.env.scope.names.lookup x=some .local) zau0._auto_1):wpAny M A (storeName X.env x u) Q E s :=
 KI I hN hi hx r (λs' I' _=>h s' I') hf
theorem Inv.call'{s':Shared}{ch:List Addr}(I:Inv X pins σ H s)(ho:s'.os=s.os)(u:Un (Rf X.stack) ch H H' s.heap s'.heap)(hok:HOk X.prog X.w H' s'.heap)(hg:AllBare s'.gens)
  (hch:∀b∈ch,(b∈X.ex\/X.s₀.heap.objs.size<=b)/\b≠X.env.locals/\(∀x c,X.env.cells.lookup x=some c->c≠b)/\∀p∈X.pn++pins,p.1≠b):Inv X pins σ H' s':=by
 obtain⟨h',g',d',t',o'⟩:=s'
 have e:o'=s.os:=ho
 subst e
 exact I.call (g':=g') (t':=t') (d':=d') u hok hg hch
end
noncomputable abbrev XK:=Value->Option Addr->Hp->Prop
noncomputable abbrev St:=List (Option V)
noncomputable abbrev VK:=V->Hp->Prop
noncomputable abbrev TE:=St->Hp->VK->Prop
noncomputable abbrev TT:=St->Hp->(Bool->Hp->Prop)->Prop
noncomputable abbrev TA:=St->Hp->(List V->Hp->Prop)->Prop
structure Ends where
 nx:St->Hp->Prop
 rt:VK
 bk:St->Hp->Prop:=λ_ _=>False
 ct:St->Hp->Prop:=λ_ _=>False
noncomputable abbrev TS:=Ends->St->Hp->Prop
noncomputable def EP(X:Cx)(pins:List (Addr×Obj))(σ:St)(Q:VK)(u:Value)(s':Shared):Prop:=∃v H',Inv X pins σ H' s'/\RelV v u/\Q v H'
noncomputable def TP(X:Cx)(pins:List (Addr×Obj))(σ:St)(Q:Bool->Hp->Prop)(b:Bool)(s':Shared):Prop:=∃H',Inv X pins σ H' s'/\Q b H'
noncomputable def AP(X:Cx)(pins:List (Addr×Obj))(σ:St)(Q:List V->Hp->Prop)(us:List Value)(s':Shared):Prop:=∃vs H',Inv X pins σ H' s'/\Vals vs us/\Q vs H'
noncomputable def SP(X:Cx)(pins:List (Addr×Obj))(D:Ends)(f:Flow)(s':Shared):Prop :=
 match f with
 | .next=>∃σ' H',Inv X pins σ' H' s'/\D.nx σ' H'
 | .brk=>∃σ' H',Inv X pins σ' H' s'/\D.bk σ' H'
 | .cont=>∃σ' H',Inv X pins σ' H' s'/\D.ct σ' H'
 | .ret u=>∃v σ' H',Inv X pins σ' H' s'/\RelV v u/\D.rt v H'
noncomputable def PE(X:Cx)(e:Expr)(t:TE):Prop :=
 ∀(pins:List (Addr×Obj)) (s:Shared) (σ:St) (H:Hp) (Q:VK),Inv X pins σ H s->t σ H Q->wpAny (model X.prog X.w) X.A (eval e X.env) (EP X pins σ Q) X.xe s
noncomputable def PT(X:Cx)(e:Expr)(t:TT):Prop :=
 ∀(pins:List (Addr×Obj)) (s:Shared) (σ:St) (H:Hp) (Q:Bool->Hp->Prop),Inv X pins σ H s->t σ H Q->wpAny (model X.prog X.w) X.A (isTrue e X.env (eval e X.env)) (TP X pins σ Q) X.xe s
noncomputable def PW(X:Cx)(e:Expr)(t:TT):Prop :=
 ∀(whole:Sem Value) (pins:List (Addr×Obj)) (s:Shared) (σ:St) (H:Hp) (Q:Bool->Hp->Prop),Inv X pins σ H s->t σ H Q->wpAny (model X.prog X.w) X.A (isTrue e X.env whole) (TP X pins σ Q) X.xe s
theorem PW.pt{X:Cx}{e:Expr}{t:TT}(h:PW X e t):PT X e t:=h _
noncomputable def PA(X:Cx)(es:List Expr)(t:TA):Prop :=
 ∀(pos:Pos) (pins:List (Addr×Obj)) (s:Shared) (σ:St) (H:Hp) (Q:List V->Hp->Prop),Inv X pins σ H s->t σ H Q->wpAny (model X.prog X.w) X.A (spliced (backTo pos (starEach es X.env))) (AP X pins σ Q) X.xe s
noncomputable def PS(X:Cx)(st:Stmt)(t:TS):Prop :=
 ∀(pins:List (Addr×Obj)) (s:Shared) (σ:St) (H:Hp) (D:Ends),Inv X pins σ H s->t D σ H->wpAny (model X.prog X.w) X.A (exec st X.env) (SP X pins D) X.xe s
noncomputable def PSs(X:Cx)(st:List Stmt)(t:TS):Prop :=
 ∀(pins:List (Addr×Obj)) (s:Shared) (σ:St) (H:Hp) (D:Ends),Inv X pins σ H s->t D σ H->wpAny (model X.prog X.w) X.A (execs st X.env) (SP X pins D) X.xe s
theorem thn{α:Type}{t:Sem α}{Q Q':α->Shared->Prop}{M:Model}{A:Around}{E:Value->Shared->Prop}{s:Shared}(h:wpAny M A t Q E s)(hQ:∀a s,Q a s->Q' a s):wpAny M A t Q' E s:=cC h hQ λ_ _ x=>x
section
variable {X:Cx}
noncomputable def BJ(i:Nat):TE:=λσ H Q=>∃v,σ[i]?=some (some v)/\Q v H
noncomputable def tC(v:V):TE:=λ_ H Q=>Q v H
theorem LN{i:Nat}{x:Str}{pos:Pos}(hN:X.N[i]?=some x)(hv:YM X.env.scope x)(hd:autoParam ((x==("__debug__" : Str))=false) zau1._auto_1)(hcd:autoParam ((x==("__classdict__" : Str))=false) zau1._auto_1):PE X (.Name x pos) (BJ i):=by
 intro pins s σ H Q I h
 obtain⟨v,e,h⟩:=h
 obtain⟨m,hn,hl⟩:=I.loc
 obtain⟨u,r,l⟩:=hl i x v hN e hv
 have fin:EP X pins σ Q u s:=⟨v,H,I,r,h⟩
 rcases l with ⟨hk,hm⟩ | ⟨hk,c,hc,hcell⟩
 ·exact wpAny_Name (wpAny_loadName_local I.ok.kind hk hn hm fin) hd
 ·rcases hk with hk | hk
  ·exact wpAny_Name (wpAny_loadName_cell I.ok.kind hk hc hcell fin) hd
  ·exact wpAny_Name (wpAny_loadName_free I.ok.kind hk hc hcell fin hcd) hd
theorem Ap{i j pos}:PE X (.Constant (.int i) j pos) (tC (.int i)):=λ_ _ _ H _ I h=>wpAny_Constant_int ⟨.int i,H,I.tok _,⟨_,rfl⟩,h⟩
theorem Y_{b j pos}:PE X (.Constant (.bool b) j pos) (tC (.bl b)):=λ_ _ _ H _ I h=>Constant_bool ⟨.bl b,H,I,rfl,h⟩
theorem Iq{j pos}:PE X (.Constant .none j pos) (tC .non):=λ_ _ _ H _ I h=>Constant_none ⟨.non,H,I,rfl,h⟩
theorem XR{x j pos}:PE X (.Constant (.str x) j pos) (tC (.str x)):=λ_ _ _ H _ I h=>Calls.Constant_str ⟨.str x,H,I.tok _,⟨_,rfl⟩,h⟩
noncomputable def Gl(X:Cx)(x:Str):Prop:=X.env.kindOf x=some .globalImplicit
theorem Lf{E:Value->Shared->Prop}{pins:List (Addr×Obj)}{s:Shared}{σ:St}{H:Hp}{x:Str}{u:Value}{pos:Pos}{Q:Value->Shared->Prop}(I:Inv X pins σ H s)(hg:Gl X x)(hm:X.mg x=some u)(h:Q u s)
  (hd:autoParam ((x==("__debug__" : Str))=false) zau1._auto_1):wpAny (model X.prog X.w) X.A (eval (.Name x pos) X.env) Q E s :=
 gZ I.ok.kind hg (Calls.loadGlobal_global (by rw [I.ok.glob]; exact I.mod.glob.keeps I.bk) hm h) hd
theorem CV{E:Value->Shared->Prop}{pins:List (Addr×Obj)}{s:Shared}{σ:St}{H:Hp}{x:Str}{u:Value}{pos:Pos}{Q:Value->Shared->Prop}(I:Inv X pins σ H s)(hg:Gl X x)(hm:X.mg x=none)(hv:bootBuiltins x=some u)(h:Q u s)
  (hn:autoParam (x ≠ "__name__") zau1._auto_1) (hd:autoParam ((x==("__debug__" : Str))=false) zau1._auto_1):wpAny (model X.prog X.w) X.A (eval (.Name x pos) X.env) Q E s:=by
 obtain⟨mb,h1,h2⟩:=I.mod.blt
 exact gZ I.ok.kind hg (Calls.loadGlobal_builtin (by rw [I.ok.glob]; exact I.mod.glob.keeps I.bk) hm (by rw [I.ok.blt]; exact h1.keeps I.bk) ((h2 x hn).trans hv) h) hd
theorem U_{x:Str}{v:V}{u:Value}{pos:Pos}(hg:Gl X x)(hm:X.mg x=none)(hv:bootBuiltins x=some u)(r:RelV v u)(hn:autoParam (x ≠ "__name__") zau1._auto_1)(hd:autoParam ((x==("__debug__" : Str))=false) zau1._auto_1):PE X (.Name x pos) (tC v) :=
 λ_ _ _ H _ I h=>CV I hg hm hv ⟨v,H,I,r,h⟩ hn hd
variable {a b:Expr}{ta tb:TE}{pos:Pos}
noncomputable def tB(t:TE):TT:=λσ H Q=>t σ H λx H1=>∃c,x=.bl c/\Q c H1
theorem XM{e:Expr}{t:TE}(h:PE X e t)(he:autoParam (∀whole,isTrue e X.env whole=(do let v ← whole; standAt e.pos; holding [v] (truthy v))) zau2._auto_1):PT X e (tB t):=by
 intro pins s σ H Q I hw
 refine isTrue_plain (thn (h pins s σ H _ I hw) λv s1 ⟨x,H1,I1,r1,q1⟩=>?_) (he _)
 obtain⟨d,rfl,q⟩:=q1
 cases r1
 exact dE ⟨H1,I1,q⟩
variable {tA tB':TT}{rest:List Expr}
noncomputable def Ys(t u:TT):TT:=λσ H Q=>t σ H λc H1=>if c=true then u σ H1 Q else Q false H1
noncomputable def aq(t u:TT):TT:=λσ H Q=>t σ H λc H1=>if c=true then Q true H1 else u σ H1 Q
noncomputable def Z7(t:TT):TT:=λσ H Q=>t σ H λc H1=>Q (!c) H1
theorem LK(ha:PT X a tA):PW X (.BoolOp .And [a] pos) tA:=by
 intro wh pins s σ H Q I h
 refine isTrue_and (thn (ha pins s σ H Q I h) λc s1 e=>?_)
 cases c with
 | true=>exact isTrue_and_nil e
 | false=>exact e
theorem Sh(ha:PT X a tA):PW X (.BoolOp .Or [a] pos) tA:=by
 intro wh pins s σ H Q I h
 refine isTrue_or (thn (ha pins s σ H Q I h) λc s1 e=>?_)
 cases c with
 | false=>exact isTrue_or_nil e
 | true=>exact e
theorem OK(ha:PT X a tA)(hb:PW X (.BoolOp .And (b::rest) pos) tB'):PW X (.BoolOp .And (a::b::rest) pos) (Ys tA tB'):=by
 intro wh pins s σ H Q I h
 refine isTrue_and (thn (ha pins s σ H _ I h) λc s1 ⟨H1,I1,q1⟩=>?_)
 cases c with
 | true=>exact hb wh pins s1 σ H1 Q I1 q1
 | false=>exact⟨H1,I1,q1⟩
theorem WV(ha:PT X a tA)(hb:PW X (.BoolOp .Or (b::rest) pos) tB'):PW X (.BoolOp .Or (a::b::rest) pos) (aq tA tB'):=by
 intro wh pins s σ H Q I h
 refine isTrue_or (thn (ha pins s σ H _ I h) λc s1 ⟨H1,I1,q1⟩=>?_)
 cases c with
 | true=>exact⟨H1,I1,q1⟩
 | false=>exact hb wh pins s1 σ H1 Q I1 q1
theorem XN(ha:PT X a tA):PT X (.UnaryOp .Not a pos) (Z7 tA):=by
 intro pins s σ H Q I h
 exact isTrue_not (ha pins s σ H (λc H1=>Q (!c) H1) I h)
noncomputable def Yr(ta tb:TE):TE:=λσ H Q=>ta σ H λx H1=>∃c,x=.bl c/\if c=true then tb σ H1 Q else Q (.bl false) H1
noncomputable def Yl(ta:TE):TE:=λσ H Q=>ta σ H λx H1=>∃c,x=.bl c/\Q (.bl (!c)) H1
theorem XT{op}{t:TE}(h:PE X a t):PE X (.BoolOp op [a] pos) t:=λpins s σ H Q I hw=>BoolOp_one (h pins s σ H Q I hw)
theorem XX(ha:PE X a ta)(hb:PE X (.BoolOp .And (b::rest) pos) tb):PE X (.BoolOp .And (a::b::rest) pos) (Yr ta tb):=by
 intro pins s σ H Q I h
 refine BoolOp_and (thn (ha pins s σ H _ I h) λv s1 ⟨x,H1,I1,r1,q1⟩=>?_)
 obtain⟨c,rfl,q1⟩:=q1
 cases r1
 refine dE ?_
 cases c with
 | true=>exact hb pins s1 σ H1 Q I1 q1
 | false=>exact⟨.bl false,H1,I1,rfl,q1⟩
theorem XU(ha:PE X a ta):PE X (.UnaryOp .Not a pos) (Yl ta):=by
 intro pins s σ H Q I h
 refine UnaryOp_ (thn (ha pins s σ H _ I h) λv s1 ⟨x,H1,I1,r1,q1⟩=>?_)
 obtain⟨c,rfl,q1⟩:=q1
 cases r1
 exact not_of (dE ⟨.bl (!c),H1,I1,rfl,q1⟩)
noncomputable def ar(t:TT)(ta tb:TE):TE:=λσ H Q=>t σ H λc H1=>if c=true then ta σ H1 Q else tb σ H1 Q
theorem Mp{c:Expr}(hc:PT X c tA)(ha:PE X a ta)(hb:PE X b tb):PE X (.IfExp c a b pos) (ar tA ta tb):=by
 intro pins s σ H Q I h
 refine wpAny_IfExp (thn (hc pins s σ H _ I h) λd s1 ⟨H1,I1,q1⟩=>?_)
 cases d with
 | true=>exact ha pins s1 σ H1 Q I1 q1
 | false=>exact hb pins s1 σ H1 Q I1 q1
end
noncomputable def SqL(K:Frag)(H:Hp)(a:Addr)(xs:List V):Prop :=
 Rd H a (.lst xs) \/
  ∃(o:Obj) (its:Array Value) (n:Nat),K.lookup a=some o/\o.cls=.type "list"/\o.dict=none/\o.data=.seq its n/\its.size<=sizeLine/\Vals xs its.toList
noncomputable def SqT(K:Frag)(H:Hp)(a:Addr)(xs:List V):Prop :=
 Rd H a (.tup xs) \/
  ∃(o:Obj) (its:Array Value) (n:Nat),K.lookup a=some o/\o.cls=.type "tuple"/\o.data=.seq its n/\its.size<=sizeLine/\Vals xs its.toList
noncomputable def aP:Value->Option V
 | .none=>some .non
 | .bool b=>some (.bl b)
 | .int i _=>some (.int i)
 | .str x _=>some (.str x)
 | .bytes b _=>some (.byt b)
 | .float b _=>some (.flt b)
 | .ref a=>some (.ref a)
 | .type n=>some (.ty n)
 | _=>none
theorem RelV.abs{x:V}{u:Value}(r:RelV x u):aP u=some x:=by
 cases x with
 | non=>cases r; rfl
 | bl _=>cases r; rfl
 | int _=>obtain⟨t,rfl⟩:=r; rfl
 | str _=>obtain⟨t,rfl⟩:=r; rfl
 | byt _=>obtain⟨t,rfl⟩:=r; rfl
 | flt _=>obtain⟨t,rfl⟩:=r; rfl
 | ref _=>cases r; rfl
 | ty _=>cases r; rfl
theorem RelV.inj{x y:V}{u:Value}(r:RelV x u)(q:RelV y u):x=y:=UF (r.abs.symm.trans q.abs)
theorem Vals.inj:∀{xs ys:List V} {us:List Value},Vals xs us->Vals ys us->xs=ys
 | _,_,_,.nil,.nil=>rfl
 | _,_,_,.cons r t,.cons r' t'=>by rw [r.inj r',Vals.inj t t']
section
variable {X:Cx}{pins:List (Addr×Obj)}{σ:St}{H:Hp}{s:Shared}{a:Addr}{xs ys:List V}
theorem SqL.of{K:Frag}(h:H a=some (.lst xs)):SqL K H a xs:=.inl (.inl h)
theorem SqT.of{K:Frag}(h:H a=some (.tup xs)):SqT K H a xs:=.inl (.inl h)
theorem Inv.list(I:Inv X pins σ H s)(h:SqL X.K H a xs):∃its:List Value,Vals xs its/\PlainL s.heap a its.toArray/\xs.length<=sizeLine:=by
 rcases h with h | ⟨o,its,n,hk,hc,hd,hs,hz,r⟩
 ·obtain⟨z,its,n,r,e⟩:=h.ok I.hok
  exact⟨its,r,⟨_,n,e,rfl,rfl,rfl⟩,z⟩
 ·refine⟨its.toList,r,⟨o,n,I.kIn a o hk,hc,hd,by simpa using hs⟩,?_⟩
  have e:=r.length
  simp only [bi] at e
  omega
theorem Inv.tuple(I:Inv X pins σ H s)(h:SqT X.K H a xs):∃its:List Value,Vals xs its/\IsTup s.heap a its.toArray/\xs.length<=sizeLine:=by
 rcases h with h | ⟨o,its,n,hk,hc,hs,hz,r⟩
 ·obtain⟨z,its,r,p⟩:=h.ok I.hok
  exact⟨its,r,p.tup,z⟩
 ·refine⟨its.toList,r,⟨o,I.kIn a o hk,hc,n,by simpa using hs⟩,?_⟩
  have e:=r.length
  simp only [bi] at e
  omega
theorem Inv.list_inj(I:Inv X pins σ H s)(h:SqL X.K H a xs)(h':SqL X.K H a ys):xs=ys:=by
 obtain⟨its,r,⟨o,n,e,_,_,d⟩,_⟩:=I.list h
 obtain⟨its',r',⟨o',n',e',_,_,d'⟩,_⟩:=I.list h'
 rw [e] at e'; cases e'
 rw [d] at d'
 injection d' with d1 _
 have:its=its':=by simpa using congrArg Array.toList d1
 subst this
 exact r.inj r'
theorem Inv.tuple_inj(I:Inv X pins σ H s)(h:SqT X.K H a xs)(h':SqT X.K H a ys):xs=ys:=by
 obtain⟨its,r,⟨o,e,_,n,d⟩,_⟩:=I.tuple h
 obtain⟨its',r',⟨o',e',_,n',d'⟩,_⟩:=I.tuple h'
 rw [e] at e'; cases e'
 rw [d] at d'
 injection d' with d1 _
 have:its=its':=by simpa using congrArg Array.toList d1
 subst this
 exact r.inj r'
end
noncomputable abbrev Cx.wish(X:Cx)(E:Value->Shared->Prop):Cx:={ X with xe:=E }
noncomputable abbrev Cx.nox(X:Cx):Cx:=X.wish λ_ _=>False
theorem Cx.Ok.wish{X:Cx}(ok:X.Ok)(E:Value->Shared->Prop):(X.wish E).Ok :=
 ⟨ok.mod,ok.kind,ok.glob,ok.blt,ok.above,ok.inj,ok.has,ok.cab,ok.hd,ok.frames,ok.stk,ok.exf,ok.bs,ok.bsz,ok.noex,ok.exfs,ok.funs,ok.frf⟩
theorem Cx.Ok.unwish{X:Cx}{E:Value->Shared->Prop}(ok:(X.wish E).Ok):X.Ok :=
 ⟨ok.mod,ok.kind,ok.glob,ok.blt,ok.above,ok.inj,ok.has,ok.cab,ok.hd,ok.frames,ok.stk,ok.exf,ok.bs,ok.bsz,ok.noex,ok.exfs,ok.funs,ok.frf⟩
section
variable {X:Cx}{pins:List (Addr×Obj)}{σ:St}{H:Hp}{s:Shared}{E:Value->Shared->Prop}
theorem Inv.wish(I:Inv X pins σ H s)(E:Value->Shared->Prop):Inv (X.wish E) pins σ H s:=⟨I.ok.wish E,I.os,I.bare,I.base,I.loc,I.cell,I.free,I.freeC,I.pin,I.hok,I.len⟩
theorem Inv.unwish(I:Inv (X.wish E) pins σ H s):Inv X pins σ H s:=⟨I.ok.unwish,I.os,I.bare,I.base,I.loc,I.cell,I.free,I.freeC,I.pin,I.hok,I.len⟩
theorem SP.unwish{D:Ends}{f:Flow}{s':Shared}(h:SP (X.wish E) pins D f s'):SP X pins D f s':=by
 cases f with
 | next=>obtain⟨σ',H',I,q⟩:=h; exact⟨σ',H',I.unwish,q⟩
 | brk=>obtain⟨σ',H',I,q⟩:=h; exact⟨σ',H',I.unwish,q⟩
 | cont=>obtain⟨σ',H',I,q⟩:=h; exact⟨σ',H',I.unwish,q⟩
 | ret u=>obtain⟨v,σ',H',I,r,q⟩:=h; exact⟨v,σ',H',I.unwish,r,q⟩
theorem PSs.nox{st:List Stmt}{t:TS}(h:PSs X.nox st t):PSs X st t:=λpins s σ H D I hw =>
 cC (h pins s σ H D (I.wish _) hw) (λ_ _ q=>q.unwish) λ_ _ z=>cv z
end
section
variable {X:Cx}{st:Stmt}{rest:List Stmt}{t u:TS}{e:Expr}{te:TE}{pos:Pos}
noncomputable def WE:TS:=λD σ H=>D.nx σ H
noncomputable def N6(t u:TS):TS:=λD σ H=>t { D with nx:=u D } σ H
theorem Fy:PSs X [] WE:=λ_ _ σ H _ I h=>f7 ⟨σ,H,I,h⟩
theorem Ao(h1:PS X st t)(h2:PSs X rest u):PSs X (st::rest) (N6 t u):=by
 intro pins s σ H D I h
 refine wpAny_execs_cons (thn (h1 pins s σ H { D with nx:=u D } I h) λf s1 q=>?_)
 cases f with
 | next =>
  obtain⟨σ',H',I',q⟩:=q
  exact h2 pins s1 σ' H' D I' q
 | ret v=>exact q
 | brk=>exact q
 | cont=>exact q
theorem BE(h1:PS X st t):PSs X [st] t:=by
 intro pins s σ H D I h
 refine wpAny_execs_cons (thn (h1 pins s σ H D I h) λf s1 q=>?_)
 cases f with
 | next=>exact f7 q
 | ret v=>exact q
 | brk=>exact q
 | cont=>exact q
theorem Inv.quiet{pins:List (Addr×Obj)}{σ:St}{H:Hp}{s:Shared}(I:Inv X pins σ H s):interactive X.env=false:=by simp [interactive,I.ok.kind]
noncomputable def Yo(te:TE):TS:=λD σ H=>te σ H λ_ H1=>D.nx σ H1
theorem U3(he:PE X e te)(hs:autoParam (swapsWith e none pos.line X.env=pure false) zau3._auto_1):PS X (.Expr e pos) (Yo te):=by
 intro pins s σ H D I h
 exact wpAny_Expr_any (thn (he pins s σ H _ I h) λv s1 ⟨x,H1,I1,r1,q1⟩=>⟨σ,H1,I1,q1⟩) I.quiet hs
noncomputable def Uq(te:TE):TS:=λD σ H=>te σ H D.rt
theorem EK(he:PE X e te):PS X (.Return (some e) pos) (Uq te):=by
 intro pins s σ H D I h
 exact wpAny_Return_some (thn (he pins s σ H _ I h) λv s1 ⟨x,H1,I1,r1,q1⟩=>⟨x,σ,H1,I1,r1,q1⟩)
noncomputable def Ym(c:TT)(t u:TS):TS:=λD σ H=>c σ H λb H1=>if b=true then t D σ H1 else u D σ H1
theorem Mm{c:Expr}{a b:List Stmt}{tc:TT}(hc:PT X c tc)(ha:PSs X a t)(hb:PSs X b u):PS X (.If c a b pos) (Ym tc t u):=by
 intro pins s σ H D I h
 refine wpAny_If (thn (hc pins s σ H _ I h) λd s1 ⟨H1,I1,q1⟩=>?_)
 cases d with
 | true=>exact ha pins s1 σ H1 D I1 q1
 | false=>exact hb pins s1 σ H1 D I1 q1
end
noncomputable abbrev TG:=V->St->Hp->(St->Hp->Prop)->Prop
noncomputable abbrev YQ:=List V->St->Hp->(St->Hp->Prop)->Prop
noncomputable def PG(X:Cx)(target:Expr)(t:TG):Prop :=
 ∀(pins:List (Addr×Obj)) (s:Shared) (σ:St) (H:Hp) (v:V) (u:Value) (Q:St->Hp->Prop),Inv X pins σ H s->RelV v u->t v σ H Q ->
  wpAny (model X.prog X.w) X.A (assign target X.env u) (λ_ s'=>∃σ' H',Inv X pins σ' H' s'/\Q σ' H') X.xe s
noncomputable def Zd(X:Cx)(ts:List Expr)(t:YQ):Prop :=
 ∀(pins:List (Addr×Obj)) (s:Shared) (σ:St) (H:Hp) (vs:List V) (us:List Value) (Q:St->Hp->Prop),Inv X pins σ H s->Vals vs us->t vs σ H Q ->
  wpAny (model X.prog X.w) X.A (assignInOrder ((assignEach ts X.env).map (·.2)) us) (λ_ s'=>∃σ' H',Inv X pins σ' H' s'/\Q σ' H') X.xe s
noncomputable abbrev YO:=V->V->V->Hp->(Hp->Prop)->Prop
noncomputable def Zb(X:Cx)(t:YO):Prop :=
 ∀(pins:List (Addr×Obj)) (s:Shared) (σ:St) (H:Hp) (o i v:V) (ov iv u:Value) (Q:Hp->Prop),Inv X pins σ H s->RelV o ov->RelV i iv->RelV v u->t o i v H Q ->
  wpAny (model X.prog X.w) X.A (setItem ov iv u) (λ_ s'=>∃H',Inv X pins σ H' s'/\Q H') X.xe s
noncomputable abbrev Zw:=V->V->Hp->VK->Prop
noncomputable def af(X:Cx)(op:Operator)(t:Zw):Prop :=
 ∀(pins:List (Addr×Obj)) (s:Shared) (σ:St) (H:Hp) (x y:V) (v u:Value) (Q:VK),Inv X pins σ H s->RelV x v->RelV y u->t x y H Q ->
  wpAny (model X.prog X.w) X.A (inplaceOp op v u) (EP X pins σ Q) X.xe s
section
variable {X:Cx}{pos:Pos}
noncomputable def HE(i:Nat):TG:=λv σ H Q=>Q (σ.set i (some v)) H
theorem BZ{i:Nat}{x:Str}(hN:X.N.Nodup)(hi:X.N[i]?=some x)(hx:Loc X.env.scope x)(hf:autoParam (X.fn x=true\/X.env.scope.names.lookup x=some .local) zau0._auto_1):PG X (.Name x pos) (HE i):=by
 intro pins s σ H v u Q I r h
 exact wpAny_assign_Name (IS I hN hi hx r (λs' I'=>⟨_,H,I',h⟩) hf)
noncomputable def aJ:YQ:=λvs σ H Q=>vs=[]/\Q σ H
noncomputable def ZH(t:TG)(u:YQ):YQ:=λvs σ H Q=>∃v r,vs=v::r/\t v σ H λσ' H'=>u r σ' H' Q
theorem LL:Zd X [] aJ:=by
 intro pins s σ H vs us Q I r h
 obtain⟨e,h⟩:=h
 subst e
 cases r
 exact assignInOrder_nil ⟨σ,H,I,h⟩
theorem CS{e:Expr}{es:List Expr}{t:TG}{u:YQ}(h1:PG X e t)(h2:Zd X es u)
  (hs:autoParam ((assignEach (e::es) X.env).map (·.2)=assign e X.env::(assignEach es X.env).map (·.2)) zau3._auto_1):Zd X (e::es) (ZH t u):=by
 intro pins s σ H vs us Q I r h
 obtain⟨v,vr,e1,h⟩:=h
 subst e1
 cases r with
 | cons r rr =>
  rw [hs]
  refine assignInOrder_cons (thn (h1 pins s σ H _ _ _ I r h) λ_ s1 ⟨σ1,H1,I1,q1⟩=>?_)
  exact h2 pins s1 σ1 H1 _ _ Q I1 rr q1
noncomputable def aI(K:Frag)(n:Nat)(t:YQ):TG:=λv σ H Q=>∃a xs,v=.ref a/\SqT K H a xs/\xs.length=n/\t xs σ H Q
theorem OP{es:List Expr}{k:Nat}{t:YQ}{n:Nat}(hc:X.calm=true)(h:Zd X es t)
  (hn:autoParam ((assignEach es X.env).length=n) zau3._auto_1) (hst:autoParam ((assignEach es X.env).findIdx? (·.1)=none) zau3._auto_1):PG X (.Tuple es k pos) (aI X.K n t):=by
 intro pins s σ H v u Q I r hw
 obtain⟨a,xs,e1,hq,hl,hw⟩:=hw
 subst e1
 cases r
 obtain⟨its,rv,ht,hz⟩:=I.tuple hq
 refine assign_Tuple_tuple (I.ok.hd hc) ht (by simp [hn,← hl,rv.length]) hst λh' hx=>?_
 have I1:Inv X pins σ H { s with heap:=h' }:=I.kept (t':=s.toks) λb o e=>hx b o (bK (Tk e)) e
 exact h pins _ σ H xs _ Q I1 (by simpa using rv) hw
noncomputable def Xx(to ti:TE)(t:YO):TG:=λv σ H Q=>to σ H λo H1=>ti σ H1 λi H2=>t o i v H2 λH3=>Q σ H3
theorem FX{o i:Expr}{to ti:TE}{t:YO}(ho:PE X o to)(hi:PE X i ti)(hs:Zb X t)
  (ha:autoParam (∀v,assign (.Subscript o i pos) X.env v=(do
   let ov ← holding [v] (eval o X.env)
   let iv ← holding [v,ov] (eval i X.env)
   standAt pos
   holding [v,ov,iv] (setItem ov iv v)
   release [v,ov,iv] [])) zau2._auto_1):PG X (.Subscript o i pos) (Xx to ti t):=by
 intro pins s σ H v u Q I r h
 rw [ha]
 refine Ch (bw (thn (ho pins s σ H _ I h) λov s1 ⟨x,H1,I1,r1,q1⟩=>?_))
 refine Ch (bw (thn (hi pins s1 σ H1 _ I1 q1) λiv s2 ⟨y,H2,I2,r2,q2⟩=>?_))
 refine Ch (wpAny_standAt (Ch (bw (thn (hs pins s2 σ H2 x y v ov iv u _ I2 r1 r2 r q2) λ_ s3 ⟨H3,I3,q3⟩=>?_))))
 exact wpAny_release ⟨σ,H3,I3,q3⟩
noncomputable def MW(te:TE)(g:TG):TS:=λD σ H=>te σ H λx H1=>g x σ H1 D.nx
theorem FW{tg e:Expr}{te:TE}{g:TG}(he:PE X e te)(hg:PG X tg g)(hs:autoParam (swapsWithSole [tg] e pos.line X.env=pure false) zau3._auto_1)(hw:autoParam (swappedStores [tg] e X.env=pure none) zau3._auto_1)
  (h1:autoParam ((assignEach [tg] X.env).map (·.2)=[assign tg X.env]) zau3._auto_1):PS X (.Assign [tg] e pos) (MW te g):=by
 intro pins s σ H D I h
 refine wpAny_Assign_stores (thn (he pins s σ H _ I h) λv s1 ⟨x,H1,I1,r1,q1⟩=>?_) hs hw
 rw [h1]
 exact thn (hg pins s1 σ H1 x v _ I1 r1 q1) λ_ s2 q=>q
theorem C2{i:Nat}{x:Str}{e:Expr}{te:TE}{pos':Pos}(hN:X.N.Nodup)(hi:X.N[i]?=some x)(hx:Loc X.env.scope x)(he:PE X e te)(hs:autoParam (swapsWith e (some (.Name x pos')) pos.line X.env=pure false) zau3._auto_1)(hf:autoParam (X.fn x=true\/X.env.scope.names.lookup x=some .local) zau0._auto_1) :
  PS X (.Assign [.Name x pos'] e pos) (MW te (HE i)):=by
 intro pins s σ H D I h
 refine wpAny_Assign_Name (thn (he pins s σ H _ I h) λv s1 ⟨y,H1,I1,r1,q1⟩=>?_) hs
 exact IS I1 hN hi hx r1 (λs2 I2=>⟨_,H1,I2,q1⟩) hf
noncomputable def Z_(i:Nat)(te:TE)(ti:Zw):TS:=λD σ H=>∃x,σ[i]?=some (some x)/\te σ H λy H1=>ti x y H1 λz H2=>D.nx (σ.set i (some z)) H2
theorem XO{i:Nat}{x:Str}{e:Expr}{te:TE}{op:Operator}{ti:Zw}{pos':Pos}(hN:X.N.Nodup)(hi:X.N[i]?=some x)(hx:Loc X.env.scope x)(he:PE X e te)(ho:af X op ti)(hf:autoParam (X.fn x=true\/X.env.scope.names.lookup x=some .local) zau0._auto_1) :
  PS X (.AugAssign (.Name x pos') op e pos) (Z_ i te ti):=by
 intro pins s σ H D I h
 obtain⟨v,e1,h⟩:=h
 obtain⟨m,hn,hl⟩:=I.loc
 have vis:YM X.env.scope x:=by rcases hx with k | k; exact .inl k; exact .inr (.inl k)
 obtain⟨u,r,l⟩:=hl i x v hi e1 vis
 refine wpAny_AugAssign_Name ?_
 have go:wpAny (model X.prog X.w) X.A (eval e X.env) (λw s₂=>wpAny (model X.prog X.w) X.A (inplaceOp op u w) (λr s₃=>wpAny (model X.prog X.w) X.A (storeName X.env x r) (λ_=>SP X pins D .next) X.xe s₃) X.xe s₂) X.xe s:=by
  refine thn (he pins s σ H _ I h) λw s1 ⟨y,H1,I1,r1,q1⟩=>?_
  refine thn (ho pins s1 σ H1 v y u w _ I1 r r1 q1) λz s2 ⟨zv,H2,I2,r2,q2⟩=>?_
  exact IS I2 hN hi hx r2 (λs3 I3=>⟨_,H2,I3,q2⟩) hf
 rcases l with ⟨hk,hm⟩ | ⟨hk,c,hc,hcell⟩
 ·exact wpAny_loadName_local I.ok.kind hk hn hm go
 ·rcases hk with hk | hk
  ·exact wpAny_loadName_cell I.ok.kind hk hc hcell go
  ·rcases hx with k | k
   ·have:X.env.scope.names.lookup x=some .free:=hk
    rw [k] at this; cases this
   ·have:X.env.scope.names.lookup x=some .free:=hk
    rw [k] at this; cases this
noncomputable def av(f:Int->Int->Int):Zw:=λx y H Q=>∃i j,x=.int i/\y=.int j/\Q (.int (f i j)) H
theorem Xu:af X .Add (av λi j=>i+j):=by
 intro pins s σ H x y v u Q I r1 r2 h
 obtain⟨i,j,e1,e2,q⟩:=h
 subst e1; subst e2
 obtain⟨t,rfl⟩:=r1
 obtain⟨t',rfl⟩:=r2
 exact iadd_int ⟨.int _,H,I.tok _,⟨_,rfl⟩,q⟩
end
section
variable {X:Cx}{pos:Pos}
noncomputable def W6(c:TT)(tb:TS):TS:=λD σ H=>∃W:Nat->St->Hp->Prop,(∃m,W m σ H)/\∀m σ H,W m σ H ->
 c σ H λb H1=>if b=true then ∃N:St->Hp->Prop,(∀σ' H',N σ' H'->∃m',m'<m/\W m' σ' H')/\tb { D with nx:=N,ct:=N,bk:=D.nx } σ H1 else D.nx σ H1
theorem Sl{c:Expr}{body:List Stmt}{tc:TT}{tb:TS}(hp:PassesOwn (model X.prog X.w) X.A X.env X.xe)(hc:PT X c tc)(hb:PSs X body tb):PS X (.While c body [] pos) (W6 tc tb):=by
 intro pins s σ H D I h
 obtain⟨W,⟨m0,w0⟩,turn⟩:=h
 refine wpAny_While (codeAny_whileLoop (λn s'=>∃σ' H',Inv X pins σ' H' s'/\W n σ' H') ?_ m0 ⟨σ,H,I,w0⟩)
 rintro n s1 ⟨σ1,H1,I1,w1⟩
 refine dZ hp (thn (hc pins s1 σ1 H1 _ I1 (turn n σ1 H1 w1)) λb s2 ⟨H2,I2,q2⟩=>?_)
 cases b with
 | true =>
  obtain⟨N,hN,q2⟩:=q2
  rw [if_pos rfl]
  refine dZ hp (thn (hb pins s2 σ1 H2 _ I2 q2) λf s3 q3=>?_)
  cases f with
  | next =>
   obtain⟨σ3,H3,I3,n3⟩:=q3
   obtain⟨m',hm,w3⟩:=hN σ3 H3 n3
   exact⟨m',hm,σ3,H3,I3,w3⟩
  | cont =>
   obtain⟨σ3,H3,I3,n3⟩:=q3
   obtain⟨m',hm,w3⟩:=hN σ3 H3 n3
   exact⟨m',hm,σ3,H3,I3,w3⟩
  | brk=>exact q3
  | ret v=>exact q3
 | false =>
  rw [if_neg bG]
  exact f7 ⟨σ1,H2,I2,q2⟩
end
structure It where
 go:Nat->Hp->Prop
 yld:Nat->Hp->V->Hp->Prop
 stop:Nat->Hp->Prop
noncomputable def Gh(X:Cx)(pins:List (Addr×Obj))(H:Hp)(b:Addr):Prop :=
 H b=none/\b≠X.env.locals/\b∉X.fs/\(b∈X.ex\/X.s₀.heap.objs.size<=b)/\(∀x c,X.env.cells.lookup x=some c->c≠b)/\∀p∈X.pn++pins,p.1≠b
theorem Inv.fpOk{X:Cx}{pins:List (Addr×Obj)}{σ:St}{H H':Hp}{s:Shared}{b:Addr}(I:Inv X pins σ H s)(hb:s.heap.objs.size<=b)(hn:H' b=none):Gh X pins H' b:=by
 refine⟨hn,d9 (bR I.lt hb),I.nofs hb,.inr (bS I.sz hb),λx c e z=>?_,λp hp z=>?_⟩
 ·obtain⟨v,q⟩:=I.cell x c e
  exact absurd (bR q.lt (by rw [z]; exact hb)) (cI _)
 ·exact absurd (bR (Tk (I.pin p hp).1) (by rw [z]; exact hb)) (cI _)
structure Turn (P:Program) (w:World) (K:Frag) (tg:Expr) (J:It) (fp:List Addr) (it:Addr) (tn:Nat->Heap->Prop):Prop where
 mem:it∈fp
 obj:∀i h,tn i h->∀b∈fp,∃o,h.get? b=some o/\∀v,o.data≠.cell v
 keep:∀i h h',tn i h->(∀b∈fp,∀o,h.get? b=some o->h'.get? b=some o)->tn i h'
 item:∀(X:Cx),X.prog=P->X.w=w->X.K=K->X.calm=true->∀(i:Nat) (pins:List (Addr×Obj)) (s:Shared) (σ:St) (H:Hp) (E:Value->Shared->Prop),Inv X pins σ H s->(∀b∈fp,Gh X pins H b)->tn i s.heap->J.go i H ->
  wpAny (model P w) X.A (pyNext (.ref it)) (λr s1=>∃u,r=some u /\
   wpAny (model P w) X.A (letOwnedTupleGo tg (.ref it) u) (λ_ s2=>∃x H',Inv X pins σ H' s2/\RelV x u/\J.yld i H x H'/\tn (i+1) s2.heap/\∀b∈fp,H' b=none) E s1) E s
 done:∀(X:Cx),X.prog=P->X.w=w->X.K=K->X.calm=true->∀(i:Nat) (pins:List (Addr×Obj)) (s:Shared) (σ:St) (H:Hp) (E:Value->Shared->Prop),Inv X pins σ H s->(∀b∈fp,Gh X pins H b)->tn i s.heap->J.stop i H ->
  wpAny (model P w) X.A (pyNext (.ref it)) (λr s1=>r=none/\Inv X pins σ H s1) E s
 self:∀(A:Around) (i:Nat) (s:Shared) (Q:Value->Shared->Prop) (E:Value->Shared->Prop),tn i s.heap->Q (.ref it) s->wpAny (model P w) A (pyIter (.ref it)) Q E s
noncomputable abbrev TI:=St->Hp->(It->Hp->Prop)->Prop
noncomputable def ag(X:Cx)(pins:List (Addr×Obj))(σ:St)(tg:Expr)(R:It->Hp->Prop)(itv:Value)(s2:Shared):Prop :=
 ∃(it:Addr) (fp:List Addr) (tn:Nat->Heap->Prop) (J:It) (H':Hp),itv=.ref it/\Inv X pins σ H' s2/\Turn X.prog X.w X.K tg J fp it tn/\tn 0 s2.heap/\(∀b∈fp,Gh X pins H' b)/\R J H'
noncomputable def PI(X:Cx)(tg iter:Expr)(wi:TI):Prop :=
 ∀(pins:List (Addr×Obj)) (s:Shared) (σ:St) (H:Hp) (R:It->Hp->Prop),Inv X pins σ H s->wi σ H R ->
  wpAny (model X.prog X.w) X.A (eval iter X.env) (λv s1=>wpAny (model X.prog X.w) X.A (pyIter v) (ag X pins σ tg R) X.xe s1) X.xe s
theorem Pl {M : Model} {A : Around} {E : Value → Shared → Prop} {s : Shared} {tg : Expr} {it : Addr} {u : Value} {o : Obj} {n : String} {vs : Array Value} {Q : Unit → Shared → Prop} (ho : s.heap.get? it = some o) (hc : o.cls = .type n) (hd : o.data = .fields vs)
    (hn : ["enumerate", "zip", "dict_itemiterator", "dict_reverseitemiterator", "odict_iterator", "itertools.zip_longest", "itertools.pairwise"].contains n = false) (hQ : Q () s) : wpAny M A (letOwnedTupleGo tg (.ref it) u) Q E s := by
  unfold letOwnedTupleGo
  cases tg <;> first
    | exact Go hQ
    | (cases u <;> first
        | exact Go hQ
        | (refine Ch (wpAny_load ho ?_)
           rw [hc, hd]
           show wpAny M A (if (["enumerate", "zip", "dict_itemiterator", "dict_reverseitemiterator", "odict_iterator", "itertools.zip_longest", "itertools.pairwise"].contains n && vs[0]? == some (rawInt _)) = true then _ else _) Q E s
           rw [if_neg (by intro h; rw [hn, Bool.false_and] at h; cases h)]
           exact Go hQ))
noncomputable def Ub(K:Frag)(a:Addr):It :=
 ⟨λi H=>∃xs x,SqL K H a xs/\xs[i]?=some x,λi H x H'=>H'=H/\∀xs,SqL K H a xs->xs[i]?=some x,λi H=>∃xs,SqL K H a xs/\xs.length<=i⟩
noncomputable def Rj(K:Frag)(a:Addr):It :=
 ⟨λi H=>∃xs x,SqT K H a xs/\xs[i]?=some x,λi H x H'=>H'=H/\∀xs,SqT K H a xs->xs[i]?=some x,λi H=>∃xs,SqT K H a xs/\xs.length<=i⟩
noncomputable def YT(lo:Int)(n:Nat):It:=⟨λi _=>i<n,λi H x H'=>H'=H/\x=.int (lo+i),λi _=>n<=i⟩
theorem QT{P:Program}{w:World}{K:Frag}{tg:Expr}(a it:Addr):Turn P w K tg (Ub K a) [it] it (λi h=>h.IsListIter it a i) where
 mem:=by simp
 obj:=λi h st b hb=>by
  have e:b=it:=by simpa using hb
  subst e
  obtain⟨o,e,c,d⟩:=st
  exact⟨o,e,λv z=>by rw [d] at z; cases z⟩
 keep:=λi h h' st k=>st.at λo e=>k it (by simp) o e
 item:=by
  intro X hP hw hK hc i pins s σ H E I hf st hg
  subst hP hw hK
  obtain⟨xs,x,hq,hx⟩:=hg
  obtain⟨its,rv,p,hz⟩:=I.list hq
  obtain⟨u,hu,ru⟩:=rv.get hx
  obtain⟨f0,f1,f2,f3,f4,f5⟩:=hf it (by simp)
  refine wpAny_pyNext_list_item st p.isList (x:=u) (by simpa using hu) λh' st' sb=>?_
  have I1:Inv X pins σ H { s with heap:=h' }:=I.turned (t':=s.toks) (λb o hb e=>(sb.2 b hb).trans e) f0 f1 f3 f4 f5
  obtain⟨o,e,c,d⟩:=id st'
  exact⟨u,rfl,Pl (s:={ s with heap:=h' }) e c d (by decide) ⟨x,H,I1,ru,⟨rfl,λys hy=>by rw [I.list_inj hy hq]; exact hx⟩,st',λb hb=>(hf b hb).1⟩⟩
 done:=by
  intro X hP hw hK hc i pins s σ H E I hf st hg
  subst hP hw hK
  obtain⟨xs,hq,hx⟩:=hg
  obtain⟨its,rv,p,hz⟩:=I.list hq
  obtain⟨f0,f1,f2,f3,f4,f5⟩:=hf it (by simp)
  have hl:=rv.length
  exact wpAny_pyNext_list_end (I.ok.hd hc) st p.isList (by simp; omega) λh' eb=>⟨rfl,I.turned (t':=s.toks) (λb o hb e=>eb b o hb e) f0 f1 f3 f4 f5⟩
 self:=λ_ _ _ _ _ st h=>wpAny_pyIter_listiter st h
theorem IM{P:Program}{w:World}{K:Frag}{tg:Expr}(a it:Addr):Turn P w K tg (Rj K a) [it] it (λi h=>h.IsTupleIter it a i) where
 mem:=by simp
 obj:=λi h st b hb=>by
  have e:b=it:=by simpa using hb
  subst e
  obtain⟨o,e,c,d⟩:=st
  exact⟨o,e,λv z=>by rw [d] at z; cases z⟩
 keep:=λi h h' st k=>st.at λo e=>k it (by simp) o e
 item:=by
  intro X hP hw hK hc i pins s σ H E I hf st hg
  subst hP hw hK
  obtain⟨xs,x,hq,hx⟩:=hg
  obtain⟨its,rv,p,hz⟩:=I.tuple hq
  obtain⟨u,hu,ru⟩:=rv.get hx
  obtain⟨f0,f1,f2,f3,f4,f5⟩:=hf it (by simp)
  refine wpAny_pyNext_tuple_item st (show s.heap.IsTuple a its.toArray from p) (x:=u) (by simpa using hu) λh' st' sb=>?_
  have I1:Inv X pins σ H { s with heap:=h' }:=I.turned (t':=s.toks) (λb o hb e=>(sb.2 b hb).trans e) f0 f1 f3 f4 f5
  obtain⟨o,e,c,d⟩:=id st'
  exact⟨u,rfl,Pl (s:={ s with heap:=h' }) e c d (by decide) ⟨x,H,I1,ru,⟨rfl,λys hy=>by rw [I.tuple_inj hy hq]; exact hx⟩,st',λb hb=>(hf b hb).1⟩⟩
 done:=by
  intro X hP hw hK hc i pins s σ H E I hf st hg
  subst hP hw hK
  obtain⟨xs,hq,hx⟩:=hg
  obtain⟨its,rv,p,hz⟩:=I.tuple hq
  obtain⟨f0,f1,f2,f3,f4,f5⟩:=hf it (by simp)
  have hl:=rv.length
  exact wpAny_pyNext_tuple_end (I.ok.hd hc) st (show s.heap.IsTuple a its.toArray from p) (by simp; omega) λh' eb=>⟨rfl,I.turned (t':=s.toks) (λb o hb e=>eb b o hb e) f0 f1 f3 f4 f5⟩
 self:=λ_ _ _ _ _ st h=>wpAny_pyIter_tupleiter st h
theorem N3{P:Program}{w:World}{K:Frag}{tg:Expr}(it:Addr)(lo:Int)(n:Nat):Turn P w K tg (YT lo n) [it] it (λi h=>IsRangeIter h it (lo+(i:Nat)*1) ((n:Int) - (i:Nat)) 1) where
 mem:=by simp
 obj:=λi h st b hb=>by
  have e:b=it:=by simpa using hb
  subst e
  exact⟨_,st,λv z=>by
   have z':Data.fields _=Data.cell v:=z
   cases z'⟩
 keep:=λi h h' st k=>k it (by simp) _ st
 item:=by
  intro X hP hw hK hc i pins s σ H E I hf st hg
  subst hP hw hK
  obtain⟨f0,f1,f2,f3,f4,f5⟩:=hf it (by simp)
  have W:=Walks.range (prog:=X.prog) (w:=X.w) (I.ok.hd hc) it lo 1 n
  refine W.item i s _ _ hg st λv h' tk hv st' kk=>?_
  obtain⟨t,rfl⟩:=hv
  have I1:Inv X pins σ H { s with heap:=h',toks:=tk }:=I.turned (λb o hb e=>kk b o (by simpa using hb) e) f0 f1 f3 f4 f5
  refine⟨_,rfl,Pl (s:={ s with heap:=h',toks:=tk }) (n := "range_iterator") st' rfl rfl (by decide) ⟨.int (lo+i),H,I1,⟨t,?_⟩,⟨rfl,rfl⟩,st',λb hb=>(hf b hb).1⟩⟩
  rw [Int.mul_one]
 done:=by
  intro X hP hw hK hc i pins s σ H E I hf st hg
  subst hP hw hK
  obtain⟨f0,f1,f2,f3,f4,f5⟩:=hf it (by simp)
  exact wpAny_pyNext_range_end (I.ok.hd hc) st (by have:n<=i:=hg; omega) λh' eb=>⟨rfl,I.turned (t':=s.toks) (λb o hb e=>eb b o hb e) f0 f1 f3 f4 f5⟩
 self:=λ_ _ _ _ _ st h=>wpAny_pyIter_rangeiter st h
section
variable {X:Cx}{tg:Expr}
noncomputable def aH(K:Frag)(tl:TE):TI:=λσ H R=>tl σ H λx H1=>∃a,x=.ref a/\(∃xs,SqT K H1 a xs)/\R (Rj K a) H1
theorem Sr{l:Expr}{tl:TE}(hl:PE X l tl):PI X tg l (aH X.K tl):=by
 intro pins s σ H R I h
 refine thn (hl pins s σ H _ I h) λv s1 ⟨x,H1,I1,r1,q1⟩=>?_
 obtain⟨a,e,⟨xs,hq⟩,q⟩:=q1
 subst e
 cases r1
 obtain⟨its,rv,p,hz⟩:=I1.tuple hq
 refine cV (show s1.heap.IsTuple a its.toArray from p) ?_
 refine⟨s1.heap.objs.size,[s1.heap.objs.size],_,_,H1,rfl,I1.kept (t':=s1.toks) λb o e=>Ev _ e,IM a _,⟨_,Sc _ rfl,rfl,rfl⟩,λb hb=>?_,q⟩
 have e:b=s1.heap.objs.size:=by simpa using hb
 subst e
 exact I1.fpOk (Op _) (I1.hok.fresh (Op _))
theorem SX{pins:List (Addr×Obj)}{σ:St}{H:Hp}{s:Shared}{R:It->Hp->Prop}{E:Value->Shared->Prop}{lo hi:Int}{t u v:Tok}{tk:Nat}(I:Inv X pins σ H s)(h1:-(2 ^ 62)<=lo)(h2:lo<2 ^ 62)(h3:-(2 ^ 62)<=hi)(h4:hi<2 ^ 62)
  (q:R (YT lo (hi - lo).toNat) H):wpAny (model X.prog X.w) X.A (pyIter (.ref s.heap.objs.size)) (ag X pins σ tg R) E { s with heap:=s.heap.push { cls:=.type "range",data:=.fields #[.int lo t,.int hi u,.int 1 v] },toks:=tk }:=by
 refine wpAny_pyIter_range (IsRange.new ..) (small_one h1 h2 h3 h4) ?_
 have I1:Inv X pins σ H { s with heap:=s.heap.push { cls:=.type "range",data:=.fields #[.int lo t,.int hi u,.int 1 v] },toks:=tk }:=I.kept λb o e=>Ev _ e
 refine⟨(s.heap.push { cls:=.type "range",data:=.fields #[.int lo t,.int hi u,.int 1 v] }).objs.size,[(s.heap.push { cls:=.type "range",data:=.fields #[.int lo t,.int hi u,.int 1 v] }).objs.size],_,_,H,rfl,
  I1.kept (t':=tk) λb o e=>Ev _ e,N3 _ lo (hi - lo).toNat,?_,λb hb=>?_,q⟩
 ·have e1:lo+((0:Nat):Int)*1=lo:=by simp
  have e2:(((hi - lo).toNat:Nat):Int) - ((0:Nat):Int)=Builtin.Range.rangeSize lo hi 1:=by rw [rangeSize_one]; split <;> omega
  show IsRangeIter _ _ (lo+((0:Nat):Int)*1) ((((hi - lo).toNat:Nat):Int) - ((0:Nat):Int)) 1
  rw [e1,e2]
  exact Sc _ rfl
 ·have e:b=(s.heap.push { cls:=.type "range",data:=.fields #[.int lo t,.int hi u,.int 1 v] }).objs.size:=by simpa using hb
  subst e
  exact I1.fpOk (Op _) (I1.hok.fresh (Op _))
noncomputable def ZE(ta:TA):TI:=λσ H R=>ta σ H λvs H1=>∃j:Int,vs=[.int j]/\-(2 ^ 62)<=j/\j<2 ^ 62/\R (YT 0 j.toNat) H1
theorem CL{a:Expr}{ta:TA}{p pos:Pos}(hg:Gl X "range")(hm:X.mg "range"=none)(ha:PA X [a] ta)(hs:autoParam (starEach [a] X.env=[(false,eval a X.env)]) zau3._auto_1):PI X tg (.Call (.Name "range" p) [a] [] pos) (ZE ta):=by
 intro pins s σ H R I h
 refine Call_ (CV I hg hm boot_range (cA (thn (ha pos pins s σ H _ I h) λus s1 ⟨vs,H1,I1,r1,q1⟩=>?_) hs rfl))
 obtain⟨j,e,q1,q2,q⟩:=q1
 subst e
 cases r1 with
 | cons r rr =>
  cases rr
  obtain⟨t,rfl⟩:=r
  exact call_range_1 (SX I1 (by omega) (by omega) q1 q2 (by simpa using q))
noncomputable def Yn(wi:TI)(g:TG)(tb:TS):TS:=λD σ H=>wi σ H λJ H1=>∃W:Nat->Nat->St->Hp->Prop,(∃m,W 0 m σ H1)/\∀i m σ H,W i m σ H ->
 (J.stop i H/\D.nx σ H)\/(J.go i H/\∃N:St->Hp->Prop,(∀σ' H',N σ' H'->∃m',m'<m/\W (i+1) m' σ' H')/\∀x H',J.yld i H x H'->g x σ H' λσ2 H2=>tb { D with nx:=N,ct:=N,bk:=D.nx } σ2 H2)
noncomputable def Ip(fp:List Addr)(h:Heap):List (Addr×Obj):=fp.filterMap λb=>(h.get? b).map λo=>(b,o)
theorem Df{fp:List Addr}{h:Heap}{b:Addr}{o:Obj}(hb:b∈fp)(e:h.get? b=some o):(b,o)∈Ip fp h:=List.mem_filterMap.mpr ⟨b,hb,by rw [e]; rfl⟩
theorem Qt{fp:List Addr}{h:Heap}{p:Addr×Obj}(hp:p∈Ip fp h):p.1∈fp/\h.get? p.1=some p.2:=by
 obtain⟨b,hb,e⟩:=List.mem_filterMap.mp hp
 cases q:h.get? b with
 | none=>rw [q] at e; cases e
 | some o =>
  rw [q] at e
  have e':(b,o)=p:=UF e
  subst e'
  exact⟨hb,q⟩
theorem Inv.pinned{pins:List (Addr×Obj)}{σ:St}{H:Hp}{s:Shared}{fp:List Addr}(I:Inv X pins σ H s)(hf:∀b∈fp,Gh X pins H b)(ho:∀b∈fp,∃o,s.heap.get? b=some o/\∀v,o.data≠.cell v):Inv X (pins++Ip fp s.heap) σ H s :=
 I.pins_of λp hp=>(bV.mp hp).elim (λz=>I.pin p (bP _ z)) λz=>by
  obtain⟨hb,e⟩:=Qt z
  obtain⟨f0,f1,f2,_⟩:=hf p.1 hb
  obtain⟨o,e',d⟩:=ho p.1 hb
  rw [e] at e'; cases e'
  exact⟨e,f0,f1,f2,d⟩
theorem Inv.unpinned{pins pl:List (Addr×Obj)}{σ:St}{H:Hp}{s:Shared}(I:Inv X (pins++pl) σ H s):Inv X pins σ H s:=I.pins_of λp hp=>I.pin p (bP _ (cU _ hp))
theorem EL{iter:Expr}{body:List Stmt}{wi:TI}{g:TG}{tb:TS}{pos:Pos}(hp:PassesOwn (model X.prog X.w) X.A X.env X.xe)(hc:X.calm=true)(hi:PI X tg iter wi)(hg:PG X tg g)(hb:PSs X body tb)
  (hs:autoParam (∀x,foldedSetIterable iter X.env x=pure x) zau2._auto_1):PS X (.For tg iter body [] pos) (Yn wi g tb):=by
 intro pins s σ H D I h
 refine wpAny_For (thn (hi pins s σ H _ I h) λv s1 h1=>thn h1 λitv s2 h2=>?_) hs
 obtain⟨it,fp,tn,J,H2,e,I2,T,st2,f2,W,⟨m0,w0⟩,turn⟩:=h2
 subst e
 have stat:∀{H':Hp},(∀b∈fp,H' b=none)->∀b∈fp,Gh X pins H' b:=λhn b hb=>⟨hn b hb,(f2 b hb).2⟩
 refine codeAny_forLoop_any (λn s'=>∃i σ' H',Inv X pins σ' H' s'/\tn i s'.heap/\(∀b∈fp,H' b=none)/\W i n σ' H') ?_ m0 ⟨0,σ,H2,I2,st2,λb hb=>(f2 b hb).1,w0⟩
 rintro n s3 ⟨i,σ3,H3,I3,st3,fr3,w3⟩
 rcases turn i n σ3 H3 w3 with ⟨stop,qn⟩ | ⟨go,N,hN,step⟩
 ·refine dZ hp (thn (T.done X rfl rfl rfl hc i pins s3 σ3 H3 X.xe I3 (stat fr3) st3 stop) λr s4 ⟨hr,I4⟩=>?_)
  subst hr
  exact f7 ⟨σ3,H3,I4,qn⟩
 ·refine dZ hp (thn (T.item X rfl rfl rfl hc i pins s3 σ3 H3 X.xe I3 (stat fr3) st3 go) λr s4 ⟨u,hr,h4⟩=>?_)
  subst hr
  refine dZ hp (thn h4 λ_ s5 ⟨x,H5,I5,r5,y5,st5,fr5⟩=>?_)
  have I5':=I5.pinned (stat fr5) (T.obj _ _ st5)
  refine dZ hp (thn (hg _ s5 σ3 H5 x u _ I5' r5 (step x H5 y5)) λ_ s6 ⟨σ6,H6,I6,q6⟩=>?_)
  refine dZ hp (thn (hb _ s6 σ6 H6 _ I6 q6) λf s7 q7=>?_)
  have again:∀{σ7:St} {H7:Hp},Inv X (pins++Ip fp s5.heap) σ7 H7 s7->N σ7 H7->∃m,m<n/\∃i σ' H',Inv X pins σ' H' s7/\tn i s7.heap/\(∀b∈fp,H' b=none)/\W i m σ' H':=λ{σ7 H7} I7 n7=>by
   obtain⟨m',hm,w7⟩:=hN σ7 H7 n7
   refine⟨m',hm,i+1,σ7,H7,I7.unpinned,T.keep _ _ _ st5 λb hb o e=>(I7.pin (b,o) (bP _ (bP _ (Df hb e)))).1,λb hb=>?_,w7⟩
   obtain⟨o,e,d⟩:=T.obj _ _ st5 b hb
   exact(I7.pin (b,o) (bP _ (bP _ (Df hb e)))).2.1
  cases f with
  | next=>obtain⟨σ7,H7,I7,n7⟩:=q7; exact again I7 n7
  | cont=>obtain⟨σ7,H7,I7,n7⟩:=q7; exact again I7 n7
  | brk=>obtain⟨σ7,H7,I7,q7⟩:=q7; exact⟨σ7,H7,I7.unpinned,q7⟩
  | ret v=>obtain⟨x7,σ7,H7,I7,r7,q7⟩:=q7; exact⟨x7,σ7,H7,I7.unpinned,r7,q7⟩
end
theorem Th{K:Frag}{a:Addr}{xs:List V}{g:TG}{tb:TS}{D:Ends}{σ:St}{H:Hp}(Pv:Nat->St->Hp->Prop)(h0:Pv 0 σ H)(hl:∀i σ H,i<=xs.length->Pv i σ H->SqL K H a xs)
  (hs:∀i x σ H,xs[i]?=some x->Pv i σ H->g x σ H λσ2 H2=>tb { D with nx:=Pv (i+1),ct:=Pv (i+1),bk:=D.nx } σ2 H2) (hd:∀σ H,Pv xs.length σ H->D.nx σ H) :
  ∃W:Nat->Nat->St->Hp->Prop,(∃m,W 0 m σ H)/\∀i m σ H,W i m σ H ->
   ((Ub K a).stop i H/\D.nx σ H)\/((Ub K a).go i H/\∃N:St->Hp->Prop,(∀σ' H',N σ' H'->∃m',m'<m/\W (i+1) m' σ' H')/\∀x H',(Ub K a).yld i H x H'->g x σ H' λσ2 H2=>tb { D with nx:=N,ct:=N,bk:=D.nx } σ2 H2):=by
 refine⟨λi m σ H=>m=xs.length - i/\i<=xs.length/\Pv i σ H,⟨xs.length,by simp,bH _,h0⟩,?_⟩
 rintro i m σ H ⟨rfl,hi,p⟩
 have q:=hl i σ H hi p
 by_cases hlt:i<xs.length
 ·refine .inr ⟨⟨xs,xs[i],q,by simp [hlt]⟩,Pv (i+1),λσ' H' p'=>⟨xs.length - (i+1),by omega,rfl,hlt,p'⟩,λx H' y=>?_⟩
  obtain⟨e,y⟩:=y
  subst e
  exact hs i x σ _ (y xs q) p
 ·have e:i=xs.length:=by omega
  subst e
  exact .inl ⟨⟨xs,q,Op _⟩,hd σ H p⟩
theorem Ll{K:Frag}{a:Addr}{xs:List V}{g:TG}{tb:TS}{D:Ends}{σ:St}{H:Hp}(Pv:Nat->St->Hp->Prop)(h0:Pv 0 σ H)(hl:∀i σ H,i<=xs.length->Pv i σ H->SqT K H a xs)
  (hs:∀i x σ H,xs[i]?=some x->Pv i σ H->g x σ H λσ2 H2=>tb { D with nx:=Pv (i+1),ct:=Pv (i+1),bk:=D.nx } σ2 H2) (hd:∀σ H,Pv xs.length σ H->D.nx σ H) :
  ∃W:Nat->Nat->St->Hp->Prop,(∃m,W 0 m σ H)/\∀i m σ H,W i m σ H ->
   ((Rj K a).stop i H/\D.nx σ H)\/((Rj K a).go i H/\∃N:St->Hp->Prop,(∀σ' H',N σ' H'->∃m',m'<m/\W (i+1) m' σ' H')/\∀x H',(Rj K a).yld i H x H'->g x σ H' λσ2 H2=>tb { D with nx:=N,ct:=N,bk:=D.nx } σ2 H2):=by
 refine⟨λi m σ H=>m=xs.length - i/\i<=xs.length/\Pv i σ H,⟨xs.length,by simp,bH _,h0⟩,?_⟩
 rintro i m σ H ⟨rfl,hi,p⟩
 have q:=hl i σ H hi p
 by_cases hlt:i<xs.length
 ·refine .inr ⟨⟨xs,xs[i],q,by simp [hlt]⟩,Pv (i+1),λσ' H' p'=>⟨xs.length - (i+1),by omega,rfl,hlt,p'⟩,λx H' y=>?_⟩
  obtain⟨e,y⟩:=y
  subst e
  exact hs i x σ _ (y xs q) p
 ·have e:i=xs.length:=by omega
  subst e
  exact .inl ⟨⟨xs,q,Op _⟩,hd σ H p⟩
theorem En{lo:Int}{n:Nat}{g:TG}{tb:TS}{D:Ends}{σ:St}{H:Hp}(Pv:Nat->St->Hp->Prop)(h0:Pv 0 σ H)
  (hs:∀i σ H,i<n->Pv i σ H->g (.int (lo+i)) σ H λσ2 H2=>tb { D with nx:=Pv (i+1),ct:=Pv (i+1),bk:=D.nx } σ2 H2) (hd:∀σ H,Pv n σ H->D.nx σ H) :
  ∃W:Nat->Nat->St->Hp->Prop,(∃m,W 0 m σ H)/\∀i m σ H,W i m σ H ->
   ((YT lo n).stop i H/\D.nx σ H)\/((YT lo n).go i H/\∃N:St->Hp->Prop,(∀σ' H',N σ' H'->∃m',m'<m/\W (i+1) m' σ' H')/\∀x H',(YT lo n).yld i H x H'->g x σ H' λσ2 H2=>tb { D with nx:=N,ct:=N,bk:=D.nx } σ2 H2):=by
 refine⟨λi m σ H=>m=n - i/\i<=n/\Pv i σ H,⟨n,by simp,bH _,h0⟩,?_⟩
 rintro i m σ H ⟨rfl,hi,p⟩
 by_cases hlt:i<n
 ·refine .inr ⟨hlt,Pv (i+1),λσ' H' p'=>⟨n - (i+1),by omega,rfl,hlt,p'⟩,λx H' y=>?_⟩
  obtain⟨e,y⟩:=y
  subst e y
  exact hs i σ _ hlt p
 ·have e:i=n:=by omega
  subst e
  exact .inl ⟨Op _,hd σ H p⟩
noncomputable abbrev R2:=V->V->Hp->VK->Prop
noncomputable def OpR(X:Cx)(f:Value->Value->Sem Value)(r:R2):Prop :=
 ∀(pins:List (Addr×Obj)) (s:Shared) (σ:St) (H:Hp) (x y:V) (v u:Value) (Q:VK),Inv X pins σ H s->RelV x v->RelV y u->r x y H Q ->
  wpAny (model X.prog X.w) X.A (f v u) (EP X pins σ Q) X.xe s
noncomputable def aQ(X:Cx)(f:Value->Sem Value)(r:V->Hp->VK->Prop):Prop :=
 ∀(pins:List (Addr×Obj)) (s:Shared) (σ:St) (H:Hp) (x:V) (v:Value) (Q:VK),Inv X pins σ H s->RelV x v->r x H Q ->
  wpAny (model X.prog X.w) X.A (f v) (EP X pins σ Q) X.xe s
noncomputable def B_(X:Cx)(f:Value)(r:List V->Hp->VK->Prop):Prop :=
 ∀(pins:List (Addr×Obj)) (s:Shared) (σ:St) (H:Hp) (xs:List V) (us:List Value) (Q:VK),Inv X pins σ H s->Vals xs us->r xs H Q ->
  wpAny (model X.prog X.w) X.A (call f us) (EP X pins σ Q) X.xe s
noncomputable def aR(X:Cx)(r:V->Hp->(Bool->Hp->Prop)->Prop):Prop :=
 ∀(pins:List (Addr×Obj)) (s:Shared) (σ:St) (H:Hp) (x:V) (v:Value) (Q:Bool->Hp->Prop),Inv X pins σ H s->RelV x v->r x H Q ->
  wpAny (model X.prog X.w) X.A (truthy v) (TP X pins σ Q) X.xe s
noncomputable def Cd(r:R2)(ta tb:TE):TE:=λσ H Q=>ta σ H λx H1=>tb σ H1 λy H2=>r x y H2 Q
noncomputable def am(r:V->Hp->VK->Prop)(ta:TE):TE:=λσ H Q=>ta σ H λx H1=>r x H1 Q
noncomputable def rI(C:Int->Int->Prop)(g:Int->Int->V):R2:=λx y H Q=>∃i j,x=.int i/\y=.int j/\C i j/\Q (g i j) H
noncomputable def G_(g:Int->Int->V):R2:=λx y H Q=>∃i j,x=.int i/\y=.int j/\Q (g i j) H
noncomputable def rU(g:Int->V):V->Hp->VK->Prop:=λx H Q=>∃i,x=.int i/\Q (g i) H
section
variable {X:Cx}{a b c:Expr}{ta tb tc:TE}{pos:Pos}
theorem YB(ha:PE X a ta)(hb:PE X b tb){pins:List (Addr×Obj)}{s:Shared}{σ:St}{H:Hp}{R:V->V->Hp->Prop}(I:Inv X pins σ H s)
  (h:ta σ H λx H1=>tb σ H1 λy H2=>R x y H2) {Q:Value->Shared->Prop} {f:Value->Value->Sem Value}
  (hf:∀v u s2 x y H2,Inv X pins σ H2 s2->RelV x v->RelV y u->R x y H2->wpAny (model X.prog X.w) X.A (f v u) Q X.xe s2) :
  wpAny (model X.prog X.w) X.A (eval a X.env) (λv s₁=>wpAny (model X.prog X.w) X.A (eval b X.env) (λu s₂=>wpAny (model X.prog X.w) X.A (f v u) Q X.xe s₂) X.xe s₁) X.xe s:=by
 refine thn (ha pins s σ H _ I h) λv s1 ⟨x,H1,I1,r1,q1⟩=>?_
 refine thn (hb pins s1 σ H1 _ I1 q1) λu s2 ⟨y,H2,I2,r2,q2⟩=>?_
 exact hf v u s2 x y H2 I2 r1 r2 q2
theorem BO{op:Operator}{r:R2}(ho:OpR X (binaryOp op) r)(ha:PE X a ta)(hb:PE X b tb):PE X (.BinOp a op b pos) (Cd r ta tb):=by
 intro pins s σ H Q I h
 exact wpAny_BinOp (YB ha hb I h λv u s2 x y H2 I2 rx ry q=>ho pins s2 σ H2 x y v u Q I2 rx ry q)
theorem Y8{op:UnaryOp}{r:V->Hp->VK->Prop}(ho:aQ X (unaryOp op) r)(ha:PE X a ta):PE X (.UnaryOp op a pos) (am r ta):=by
 intro pins s σ H Q I h
 exact UnaryOp_ (thn (ha pins s σ H _ I h) λv s1 ⟨x,H1,I1,r1,q1⟩=>ho pins s1 σ H1 x v Q I1 r1 q1)
theorem Zp{f:Value->Value->Sem Value}{C:Int->Int->Prop}{g:Int->Int->Int}
  (rule:∀(i j:Int) (t u:Tok) (s:Shared) (Q:Value->Shared->Prop) (E:Value->Shared->Prop),C i j->Q (.int (g i j) s.toks) { s with toks:=s.toks+1 }->wpAny (model X.prog X.w) X.A (f (.int i t) (.int j u)) Q E s) :
  OpR X f (rI C λi j=>.int (g i j)):=by
 intro pins s σ H x y v u Q I rx ry h
 obtain⟨i,j,rfl,rfl,hc,q⟩:=h
 obtain⟨t,rfl⟩:=rx
 obtain⟨t',rfl⟩:=ry
 exact rule i j t t' s _ _ hc ⟨.int (g i j),H,I.tok _,⟨_,rfl⟩,q⟩
theorem ZC{f:Value->Value->Sem Value}{g:Int->Int->Int}
  (rule:∀(i j:Int) (t u:Tok) (s:Shared) (Q:Value->Shared->Prop) (E:Value->Shared->Prop),Q (.int (g i j) s.toks) { s with toks:=s.toks+1 }->wpAny (model X.prog X.w) X.A (f (.int i t) (.int j u)) Q E s) :
  OpR X f (G_ λi j=>.int (g i j)):=by
 intro pins s σ H x y v u Q I rx ry h
 obtain⟨i,j,rfl,rfl,q⟩:=h
 obtain⟨t,rfl⟩:=rx
 obtain⟨t',rfl⟩:=ry
 exact rule i j t t' s _ _ ⟨.int (g i j),H,I.tok _,⟨_,rfl⟩,q⟩
theorem VE{f:Value->Value->Sem Value}{g:Int->Int->Bool}
  (rule:∀(i j:Int) (t u:Tok) (s:Shared) (Q:Value->Shared->Prop) (E:Value->Shared->Prop),Q (.bool (g i j)) s->wpAny (model X.prog X.w) X.A (f (.int i t) (.int j u)) Q E s) :
  OpR X f (G_ λi j=>.bl (g i j)):=by
 intro pins s σ H x y v u Q I rx ry h
 obtain⟨i,j,rfl,rfl,q⟩:=h
 obtain⟨t,rfl⟩:=rx
 obtain⟨t',rfl⟩:=ry
 exact rule i j t t' s _ _ ⟨.bl (g i j),H,I,rfl,q⟩
noncomputable def Ug(i j:Int):Prop:=0<j/\j<1073741824
noncomputable def Ue(i j:Int):Prop:=0<=j/\j<=1000000/\i.natAbs<2 ^ 64
noncomputable def CMul(i j:Int):Prop:=(-(2 ^ 64)<i/\i<2 ^ 64)\/(-(2 ^ 64)<j/\j<2 ^ 64)
theorem CMul.ok{i j:Int}(h:CMul i j):IntMulOk i j:=by
 rcases h with ⟨h1,h2⟩ | ⟨h1,h2⟩
 ·exact .of_left (intBits_le_64 h1 h2)
 ·exact .of_right (intBits_le_64 h1 h2)
theorem op_add:OpR X (binaryOp .Add) (G_ λi j=>.int (i+j)):=ZC λ_ _ _ _ _ _ _ q=>add_int q
theorem op_sub:OpR X (binaryOp .Sub) (G_ λi j=>.int (i - j)):=ZC λ_ _ _ _ _ _ _ q=>sub_int q
theorem op_mul:OpR X (binaryOp .Mult) (rI CMul λi j=>.int (i*j)):=Zp λ_ _ _ _ _ _ _ hc q=>mul_int q hc.ok
theorem Hy:OpR X (binaryOp .FloorDiv) (rI Ug λi j=>.int (i / j)):=Zp λi j _ _ _ _ _ hc q=>by
 have h1:(0:Int)<j:=hc.1
 have h2:j<1073741824:=hc.2
 exact floordiv_int (by omega) (by rw [Int.fdiv_eq_ediv_of_nonneg i (by omega)]; exact q) (.inl (PyProof.noPylong_small (by omega)))
theorem C3:OpR X (binaryOp .Mod) (rI (λ_ j=>0<j) λi j=>.int (i % j)):=Zp λi j _ _ _ _ _ hc q=>by
 have h1:(0:Int)<j:=hc
 exact mod_int' (by omega) (by rw [Int.fmod_eq_emod_of_nonneg i (by omega)]; exact q)
theorem OR:OpR X (binaryOp .Pow) (rI Ue λi j=>.int (i ^ j.toNat)):=Zp λ_ _ _ _ _ _ _ hc q=>pow_int_small hc.1 hc.2.1 hc.2.2 q
theorem al{f:Value->Sem Value}{g:Int->Int}
  (rule:∀(i:Int) (t:Tok) (s:Shared) (Q:Value->Shared->Prop) (E:Value->Shared->Prop),Q (.int (g i) s.toks) { s with toks:=s.toks+1 }->wpAny (model X.prog X.w) X.A (f (.int i t)) Q E s) :
  aQ X f (rU λi=>.int (g i)):=by
 intro pins s σ H x v Q I rx h
 obtain⟨i,rfl,q⟩:=h
 obtain⟨t,rfl⟩:=rx
 exact rule i t s _ _ ⟨.int (g i),H,I.tok _,⟨_,rfl⟩,q⟩
theorem Wx:aQ X (unaryOp .USub) (rU λi=>.int (-i)):=al λ_ _ _ _ _ q=>neg_int q
end
noncomputable def Yt:V->V->Bool
 | .non,.non=>true | .non,.int _=>true | .int _,.non=>true | .non,.bl _=>true | .bl _,.non=>true | .non,.str _=>true | .str _,.non=>true
 | .int _,.int _=>true | .bl _,.bl _=>true | .str _,.str _=>true | .byt _,.byt _=>true
 | .int _,.str _=>true | .str _,.int _=>true | .bl _,.str _=>true | .str _,.bl _=>true
 | _,_=>false
noncomputable def aX:R2:=λx y H Q=>Yt x y=true/\Q (.bl (decide (x=y))) H
noncomputable def aU:R2:=λx y H Q=>Yt x y=true/\Q (.bl (!decide (x=y))) H
theorem IC{i j:Int}:decide (V.int i=V.int j)=(i==j):=by
 rw [ci]
 simp
theorem Lu{i j:Bool}:decide (V.bl i=V.bl j)=(i==j):=by
 rw [ci]
 simp
theorem IB{i j:Str}:decide (V.str i=V.str j)=(i==j):=by
 rw [ci]
 simp
theorem P1{i j:Array UInt8}:decide (V.byt i=V.byt j)=(i.toList==j.toList):=by
 rw [ci]
 cases i
 cases j
 simp
section
variable {X:Cx}{a b c:Expr}{ta tb tc:TE}{pos:Pos}
theorem Aq{pins:List (Addr×Obj)}{σ:St}{H:Hp}{s:Shared}{Q:VK}{k k':Bool}(I:Inv X pins σ H s)(q:Q (.bl k) H)(e:k=k'):EP X pins σ Q (.bool k') s:=by
 subst e
 exact⟨.bl k,H,I,rfl,q⟩
theorem S9:OpR X (compareOp .Eq) aX:=by
 intro pins s σ H x y v u Q I rx ry h
 obtain⟨hs,q⟩:=h
 cases x with
 | non =>
  cases rx
  cases y with
  | non=>cases ry; exact PySem.EqNone.eq_none_none (Aq I q (by simp))
  | bl j=>cases ry; exact PySem.EqNone.eq_none_bool (Aq I q (by simp))
  | int j=>obtain⟨t',rfl⟩:=ry; exact PySem.EqNone.eq_none_int (Aq I q (by simp))
  | str j=>obtain⟨t',rfl⟩:=ry; exact PySem.EqNone.eq_none_str (Aq I q (by simp))
  | _=>exact absurd (show false=true from hs) bG
 | bl i =>
  cases rx
  cases y with
  | non=>cases ry; exact PySem.EqNone.eq_bool_none (Aq I q (by simp))
  | bl j=>cases ry; exact eq_bool (Aq I q Lu)
  | str j=>obtain⟨t',rfl⟩:=ry; exact PySem.EqMixed.eq_bool_str (Aq I q (by simp))
  | _=>exact absurd (show false=true from hs) bG
 | int i =>
  obtain⟨t,rfl⟩:=rx
  cases y with
  | non=>cases ry; exact PySem.EqNone.eq_int_none (Aq I q (by simp))
  | int j=>obtain⟨t',rfl⟩:=ry; exact eq_int (Aq I q IC)
  | str j=>obtain⟨t',rfl⟩:=ry; exact PySem.EqMixed.eq_int_str (Aq I q (by simp))
  | _=>exact absurd (show false=true from hs) bG
 | str i =>
  obtain⟨t,rfl⟩:=rx
  cases y with
  | non=>cases ry; exact PySem.EqNone.eq_str_none (Aq I q (by simp))
  | bl j=>cases ry; exact PySem.EqMixed.eq_str_bool (Aq I q (by simp))
  | int j=>obtain⟨t',rfl⟩:=ry; exact PySem.EqMixed.eq_str_int (Aq I q (by simp))
  | str j=>obtain⟨t',rfl⟩:=ry; exact eq_str (Aq I q IB)
  | _=>exact absurd (show false=true from hs) bG
 | byt i =>
  obtain⟨t,rfl⟩:=rx
  cases y with
  | byt j=>obtain⟨t',rfl⟩:=ry; exact PySem.W.eq_bytes (Aq I q P1)
  | _=>exact absurd (show false=true from hs) bG
 | _=>cases y <;> exact absurd (show false=true from hs) bG
theorem Mv:OpR X (compareOp .NotEq) aU:=by
 intro pins s σ H x y v u Q I rx ry h
 obtain⟨hs,q⟩:=h
 cases x with
 | non =>
  cases rx
  cases y with
  | non=>cases ry; exact PySem.EqNone.ne_none_none (Aq I q (by simp))
  | bl j=>cases ry; exact PySem.EqNone.ne_none_bool (Aq I q (by simp))
  | int j=>obtain⟨t',rfl⟩:=ry; exact PySem.EqNone.ne_none_int (Aq I q (by simp))
  | str j=>obtain⟨t',rfl⟩:=ry; exact PySem.EqNone.ne_none_str (Aq I q (by simp))
  | _=>exact absurd (show false=true from hs) bG
 | bl i =>
  cases rx
  cases y with
  | non=>cases ry; exact PySem.EqNone.ne_bool_none (Aq I q (by simp))
  | bl j=>cases ry; exact ne_bool (Aq I q (congrArg not Lu))
  | str j=>obtain⟨t',rfl⟩:=ry; exact PySem.EqMixed.ne_bool_str (Aq I q (by simp))
  | _=>exact absurd (show false=true from hs) bG
 | int i =>
  obtain⟨t,rfl⟩:=rx
  cases y with
  | non=>cases ry; exact PySem.EqNone.ne_int_none (Aq I q (by simp))
  | int j=>obtain⟨t',rfl⟩:=ry; exact ne_int (Aq I q (congrArg not IC))
  | str j=>obtain⟨t',rfl⟩:=ry; exact PySem.EqMixed.ne_int_str (Aq I q (by simp))
  | _=>exact absurd (show false=true from hs) bG
 | str i =>
  obtain⟨t,rfl⟩:=rx
  cases y with
  | non=>cases ry; exact PySem.EqNone.ne_str_none (Aq I q (by simp))
  | bl j=>cases ry; exact PySem.EqMixed.ne_str_bool (Aq I q (by simp))
  | int j=>obtain⟨t',rfl⟩:=ry; exact PySem.EqMixed.ne_str_int (Aq I q (by simp))
  | str j=>obtain⟨t',rfl⟩:=ry; exact ne_str (Aq I q (congrArg not IB))
  | _=>exact absurd (show false=true from hs) bG
 | byt i =>
  obtain⟨t,rfl⟩:=rx
  cases y with
  | byt j=>obtain⟨t',rfl⟩:=ry; exact PySem.W.ne_bytes (Aq I q (congrArg not P1))
  | _=>exact absurd (show false=true from hs) bG
 | _=>cases y <;> exact absurd (show false=true from hs) bG
theorem op_lt:OpR X (compareOp .Lt) (G_ λi j=>.bl (decide (i<j))):=VE λ_ _ _ _ _ _ _ q=>iO q
theorem op_le:OpR X (compareOp .LtE) (G_ λi j=>.bl (decide (i<=j))):=VE λ_ _ _ _ _ _ _ q=>le_int q
theorem WX:OpR X (compareOp .Gt) (G_ λi j=>.bl (decide (j<i))):=VE λ_ _ _ _ _ _ _ q=>gt_int q
theorem WY:OpR X (compareOp .GtE) (G_ λi j=>.bl (decide (j<=i))):=VE λ_ _ _ _ _ _ _ q=>ge_int q
theorem Qp:OpR X (compareOp .Lt) (λx y H Q=>∃i j,x=.str i/\y=.str j/\Q (.bl (decide (i.cps.toList<j.cps.toList))) H):=by
 intro pins s σ H x y v u Q I rx ry h
 obtain⟨i,j,rfl,rfl,q⟩:=h
 obtain⟨t,rfl⟩:=rx
 obtain⟨t',rfl⟩:=ry
 exact lt_str (Aq I q rfl)
theorem De:OpR X (compareOp .Is) (λx y H Q=>y=.non/\Q (.bl (decide (x=.non))) H):=by
 intro pins s σ H x y v u Q I rx ry h
 obtain⟨rfl,q⟩:=h
 cases ry
 refine is_none_gen (Aq I q ?_)
 cases x <;> first
  | (cases rx; rfl)
  | (obtain⟨t,rfl⟩:=rx; rfl)
theorem F1:OpR X (compareOp .IsNot) (λx y H Q=>y=.non/\Q (.bl (!decide (x=.non))) H):=by
 intro pins s σ H x y v u Q I rx ry h
 obtain⟨rfl,q⟩:=h
 cases ry
 refine isnot_none_gen (Aq I q ?_)
 cases x <;> first
  | (cases rx; rfl)
  | (obtain⟨t,rfl⟩:=rx; rfl)
theorem OpR.or{f:Value->Value->Sem Value}{r r':R2}(h:OpR X f r)(h':OpR X f r'):OpR X f (λx y H Q=>r x y H Q\/r' x y H Q):=by
 intro pins s σ H x y v u Q I rx ry q
 rcases q with q | q
 ·exact h pins s σ H x y v u Q I rx ry q
 ·exact h' pins s σ H x y v u Q I rx ry q
theorem Ar(b:Expr){op:CmpOp}(h:autoParam (op≠.In) zau1._auto_1)(h2:autoParam (op≠.NotIn) zau1._auto_1):behindInMarks op b=false:=by
 have e1:(op==CmpOp.In)=false:=by cases op <;> first | rfl | exact absurd rfl h
 have e2:(op==CmpOp.NotIn)=false:=by cases op <;> first | rfl | exact absurd rfl h2
 cases b <;> simp [behindInMarks,e1,e2]
theorem U9{op:CmpOp}{r:R2}(ho:OpR X (compareOp op) r)(ha:PE X a ta)(hb:PE X b tb)(hm:behindInMarks op b=false):PE X (.Compare a [op] [b] pos) (Cd r ta tb):=by
 intro pins s σ H Q I h
 exact wpAny_Compare1 (YB ha hb I h λv u s2 x y H2 I2 rx ry q=>ho pins s2 σ H2 x y v u Q I2 rx ry q) hm
noncomputable def SD(t:TE):TT:=λσ H Q=>t σ H λx H'=>∃k,x=.bl k/\Q k H'
theorem CH{op:CmpOp}{r:R2}(ho:OpR X (compareOp op) r)(ha:PE X a ta)(hb:PE X b tb)(hm:behindInMarks op b=false):PT X (.Compare a [op] [b] pos) (SD (Cd r ta tb)):=by
 intro pins s σ H Q I h
 refine wpAny_isTrue_Compare1 (thn (ha pins s σ H _ I h) λv s1 ⟨x,H1,I1,r1,q1⟩=>thn (hb pins s1 σ H1 _ I1 q1) λu s2 ⟨y,H2,I2,r2,q2⟩ =>
  thn (ho pins s2 σ H2 x y v u _ I2 r1 r2 q2) λc s3 ⟨z,H3,I3,r3,k,e,q3⟩=>?_) hm
 subst e
 cases r3
 exact dE ⟨H3,I3,q3⟩
noncomputable def YN(K:Frag)(x:V)(H:Hp)(k:Bool):Prop :=
 match x with
 | .non=>k=false
 | .bl b=>k=b
 | .int i=>k=(i != 0)
 | .str y=>y.length<=sizeLine/\k=((y.length:Int) != 0)
 | .byt y=>y.size<=sizeLine/\k=((y.size:Int) != 0)
 | .ref p=>(∃xs,SqL K H p xs/\k=!xs.isEmpty)\/(∃xs,SqT K H p xs/\k=!xs.isEmpty)\/∃kvs,H p=some (.dK kvs)/\k=!kvs.isEmpty
 | _=>False
theorem Oi{κ:Type}{kvs:List (κ×V)}{vs:List (κ×Value)}(r:KV kvs vs):(!vs.isEmpty)=!kvs.isEmpty:=by
 cases r <;> rfl
theorem JJ{xs:List V}{its:List Value}(r:Vals xs its):(!its.toArray.isEmpty)=!xs.isEmpty:=by
 cases r <;> simp
theorem Gz:(sizeLine:Nat)<2 ^ 63:=by rw [bm]; decide
theorem W0:aR X (λx H Q=>∃k,YN X.K x H k/\Q k H):=by
 intro pins s σ H x v Q I rx h
 obtain⟨k,e,q⟩:=h
 have hl:=Gz
 have hs:sizeLine=16777216:=bm
 cases x with
 | non =>
  cases rx
  have e':k=false:=e
  subst e'
  exact truthy_none ⟨H,I,q⟩
 | bl b =>
  cases rx
  have e':k=b:=e
  subst e'
  exact dE ⟨H,I,q⟩
 | int i =>
  obtain⟨t,rfl⟩:=rx
  have e':k=(i != 0):=e
  subst e'
  exact PySem.P.truthy_int ⟨H,I,q⟩
 | str y =>
  obtain⟨t,rfl⟩:=rx
  obtain⟨hy,e'⟩:y.length<=sizeLine/\k=((y.length:Int) != 0):=e
  subst e'
  exact PySem.P.truthy_str (by omega) ⟨H,I.tok _,q⟩
 | byt y =>
  obtain⟨t,rfl⟩:=rx
  obtain⟨hy,e'⟩:y.size<=sizeLine/\k=((y.size:Int) != 0):=e
  subst e'
  exact PySem.W.truthy_bytes (by omega) ⟨H,I.tok _,q⟩
 | ref p =>
  cases rx
  have e':(∃xs,SqL X.K H p xs/\k=!xs.isEmpty)\/(∃xs,SqT X.K H p xs/\k=!xs.isEmpty)\/∃kvs,H p=some (.dK kvs)/\k=!kvs.isEmpty:=e
  rcases e' with ⟨xs,hx,e'⟩ | ⟨xs,hx,e'⟩ | ⟨kvs,hx,e'⟩
  ·subst e'
   obtain⟨its,r,pl,hz⟩:=I.list hx
   have hlen:=r.length
   exact wpAny_truthy_list pl.isList (by simp only [Re]; omega) ⟨H,I.tok _,by rw [JJ r]; exact q⟩
  ·subst e'
   obtain⟨its,r,pl,hz⟩:=I.tuple hx
   have hlen:=r.length
   exact truthy_tuple pl (by simp only [Re]; omega) ⟨H,I.tok _,by rw [JJ r]; exact q⟩
  ·subst e'
   obtain⟨hz,hS,vs,r,m⟩:kvs.length<=sizeLine/\(p==sysModules)=false/\∃vs,KV kvs vs/\s.heap.DictOf (Af X.prog X.w) p vs:=I.hok p _ hx
   have hlen:kvs.length=vs.length:=Paired.length r
   exact wpAny_truthy_dict hS m (by omega) ⟨H,I.tok _,by rw [Oi r]; exact q⟩
 | _=>exact(show False from e).elim
theorem Sk(ha:PE X a ta)(he:∀whole,isTrue a X.env whole=(do let v ← whole; standAt a.pos; holding [v] (truthy v))) :
  PT X a (λσ H Q=>ta σ H λx H'=>∃k,YN X.K x H' k/\Q k H'):=by
 intro pins s σ H Q I h
 exact isTrue_plain (thn (ha pins s σ H _ I h) λv s1 ⟨x,H1,I1,r1,q1⟩=>W0 pins s1 σ H1 x v Q I1 r1 q1) (he _)
theorem OS:OpR X (binaryOp .Add) (λx y H Q=>∃i j,x=.str i/\y=.str j/\i.length+j.length<=sizeLine/\Q (.str (i++j)) H):=by
 intro pins s σ H x y v u Q I rx ry h
 obtain⟨i,j,rfl,rfl,hz,q⟩:=h
 obtain⟨t,rfl⟩:=rx
 obtain⟨t',rfl⟩:=ry
 exact add_str (λt' tk=>⟨.str (i++j),H,I.tok _,⟨_,rfl⟩,q⟩) hz
theorem vals1{x:V}{us:List Value}(r:Vals [x] us):∃u,us=[u]/\RelV x u:=by
 cases r with
 | cons r1 r2=>cases r2; exact⟨_,rfl,r1⟩
theorem vals2{x y:V}{us:List Value}(r:Vals [x,y] us):∃u w',us=[u,w']/\RelV x u/\RelV y w':=by
 cases r with
 | cons r1 r2 =>
  cases r2 with
  | cons r3 r4=>cases r4; exact⟨_,_,rfl,r1,r3⟩
theorem Kk(hc:X.calm=true):B_ X (.builtin "max") (λxs H Q=>∃i j,xs=[.int i,.int j]/\Q (.int (if j > i then j else i)) H):=by
 intro pins s σ H xs us Q I r h
 obtain⟨i,j,rfl,q⟩:=h
 obtain⟨u,w',rfl,⟨t,rfl⟩,⟨t',rfl⟩⟩:=vals2 r
 refine max_two_ints (I.ok.hd hc) λh' tk k=>⟨_,H,I.kept k,?_,q⟩
 by_cases hj:j > i
 ·rw [if_pos hj,if_pos hj]; exact⟨_,rfl⟩
 ·rw [if_neg hj,if_neg hj]; exact⟨_,rfl⟩
theorem Kj(hc:X.calm=true):B_ X (.builtin "min") (λxs H Q=>∃i j,xs=[.int i,.int j]/\Q (.int (if j<i then j else i)) H):=by
 intro pins s σ H xs us Q I r h
 obtain⟨i,j,rfl,q⟩:=h
 obtain⟨u,w',rfl,⟨t,rfl⟩,⟨t',rfl⟩⟩:=vals2 r
 refine min_two_ints (I.ok.hd hc) λh' tk k=>⟨_,H,I.kept k,?_,q⟩
 by_cases hj:j<i
 ·rw [if_pos hj,if_pos hj]; exact⟨_,rfl⟩
 ·rw [if_neg hj,if_neg hj]; exact⟨_,rfl⟩
noncomputable def YS(K:Frag)(x:V)(H:Hp)(n:Nat):Prop :=
 match x with
 | .str y=>y.length<=sizeLine/\n=y.length
 | .byt y=>y.size<=sizeLine/\n=y.size
 | .ref p=>(∃xs,SqL K H p xs/\n=xs.length)\/∃xs,SqT K H p xs/\n=xs.length
 | _=>False
theorem A7:B_ X (.builtin "len") (λxs H Q=>∃x n,xs=[x]/\YS X.K x H n/\Q (.int n) H):=by
 intro pins s σ H xs us Q I r h
 obtain⟨x,n,rfl,e,q⟩:=h
 obtain⟨u,rfl,rx⟩:=vals1 r
 have hl:=Gz
 have hs:sizeLine=16777216:=bm
 cases x with
 | str y =>
  obtain⟨t,rfl⟩:=rx
  obtain⟨hy,e'⟩:y.length<=sizeLine/\n=y.length:=e
  subst e'
  exact len_str (by omega) ⟨.int _,H,I.tok _,⟨_,rfl⟩,q⟩
 | byt y =>
  obtain⟨t,rfl⟩:=rx
  obtain⟨hy,e'⟩:y.size<=sizeLine/\n=y.size:=e
  subst e'
  exact PySem.W.len_bytes (by omega) ⟨.int _,H,I.tok _,⟨_,rfl⟩,q⟩
 | ref p =>
  cases rx
  have e':(∃xs,SqL X.K H p xs/\n=xs.length)\/∃xs,SqT X.K H p xs/\n=xs.length:=e
  rcases e' with ⟨xs,hx,e'⟩ | ⟨xs,hx,e'⟩
  ·subst e'
   obtain⟨its,r',pl,hz⟩:=I.list hx
   have hlen:=r'.length
   exact Calls.call_len_list pl.isList (by simp only [Re]; omega) ⟨.int xs.length,H,I.tok _,⟨_,by simp only [Re]; rw [hlen]⟩,q⟩
  ·subst e'
   obtain⟨its,r',pl,hz⟩:=I.tuple hx
   have hlen:=r'.length
   exact len_tuple pl (by simp only [Re]; omega) ⟨.int xs.length,H,I.tok _,⟨_,by simp only [Re]; rw [hlen]⟩,q⟩
 | _=>exact(show False from e).elim
end
structure ObjM (h:Heap) (x dx C:Addr) (mA:Str->Option Value):Prop where
 obj:h.get? x=some (PySem.W.instObj C dx)
 ns:h.Ns1 dx mA
 ne:dx≠x
theorem Q9{h:Heap}{dx:Addr}{mA:Str->Option Value}(n:h.Ns1 dx mA):∃od,h.get? dx=some od/\∀name,PySem.W.lookIn name od=some (mA name):=by
 obtain⟨o,es,ep,ho,hd,hk,_,hm⟩:=n
 refine⟨o,ho,λname=>?_⟩
 have e:=hm name
 unfold nsFind findBy at e
 rw [← Array.find?_toList] at e
 unfold PySem.W.lookIn
 rw [hd]
 dsimp only
 split
 ·rename_i y q
  rw [q] at e
  exact congrArg some e
 ·rename_i q
  rw [q] at e
  have a:es.toList.any (·.refKey)=false:=by
   rw [List.any_eq_false]
   intro y hy
   obtain⟨z,t,hkey⟩:=hk y (Array.mem_toList_iff.mp hy)
   simp [DictEntry.refKey,hkey]
  have a':¬es.toList.any (·.refKey)=true:=by rw [a]; exact bG
  rw [if_neg a']
  exact congrArg some e
theorem ObjM.look{h:Heap}{x dx C:Addr}{mA:Str->Option Value}(I:ObjM h x dx C mA):∃od,PySem.W.InstAt h x (PySem.W.instObj C dx) C (some od)/\∀name,PySem.W.lookIn name od=some (mA name) :=
 let ⟨od,ho,hl⟩:=Q9 I.ns
 ⟨od,⟨I.obj,rfl,rfl,ho⟩,hl⟩
section
variable {prog:Program}{w:World}{A:Around}{E:Value->Shared->Prop}{s:Shared}{K:Frag}{x dx C f:Addr}{mA:Str->Option Value}{name:Str}{v:Value}
end
theorem RelO.some_of{v:V}{o:Option Value}(r:RelO (some v) o):∃u,o=some u/\RelV v u:=by
 cases o with
 | none=>exact(show False from r).elim
 | some u=>exact⟨u,rfl,r⟩
section
variable {P:Program}{w:World}{H H':Hp}{h h':Heap}{a C dx:Addr}{fs fs':List (Str×V)}
theorem VU(hok:HOk P w H h)(e:H a=some (.ins C dx fs)):∃mA,ObjM h a dx C mA/\(∀f,RelO (fs.lookup f) (mA f))/\PySem.Within mA (fs.map (·.1))/\fs.length<=1000/\H dx=some (.own a):=by
 obtain⟨d,z,ne,ob,mA,n,r,q⟩:=(show ObjOk P w H h a (.ins C dx fs) from hok a _ e)
 exact⟨mA,⟨ob,n,ne⟩,r,q,z,d⟩
end
structure Cls (K:Frag) (C:Addr):Prop where
 pg:PySem.W.plainGet K C Str.empty=true
 hd:PySem.W.hasDictIn K C=true
 po:PySem.W.plainOver K C=true
 sa:PySem.W.findIn K (.ref C) "__setattr__"=some (some (.builtin "object.__setattr__"))
theorem Cls.get{K:Frag}{C:Addr}(c:Cls K C)(f:Str):PySem.W.plainGet K C f=true:=c.pg
structure bB (K:Frag) (C:Addr) (f:Str) (v:V) (u:Value):Prop where
 at_:PySem.W.findIn K (.ref C) f=some (some u)
 rel:RelV v u
 get:PySem.W.specialIn K u "__get__"=some none
 cp:PySem.W.copiedNames.contains f=false
structure a9 (K:Frag) (C:Addr) (m:Str) (f:Addr):Prop where
 at_:PySem.W.findIn K (.ref C) m=some (some (.ref f))
 fn:PySem.W.isFn K (.ref f)=true
 kp:keepIn K (.ref f)=true
section
variable {X:Cx}{pins:List (Addr×Obj)}{σ:St}{H:Hp}{s:Shared}{a C dx:Addr}{fs:List (Str×V)}{f:Str}{v:V}{A:Around}{E:Value->Shared->Prop}
end
section
variable {X:Cx}{o e value:Expr}{f:Str}{pos pos' tpos:Pos}{ta tv:TE}
end
section
variable {X:Cx}{pins:List (Addr×Obj)}{σ:St}{H:Hp}{s:Shared}{A:Around}{E:Value->Shared->Prop}{Q:Value->Shared->Prop}{c:Value}{b:Bool}
inductive Fo (K:Frag) (H:Hp):V->Value->Prop where
 | non:Fo K H .non (.type "NoneType")
 | bl (x:Bool):Fo K H (.bl x) (.type "bool")
 | int (i:Int):Fo K H (.int i) (.type "int")
 | str (x:Str):Fo K H (.str x) (.type "str")
 | flt (x:UInt64):Fo K H (.flt x) (.type "float")
 | lst {a:Addr} {xs:List V} (e:H a=some (.lst xs)):Fo K H (.ref a) (.type "list")
 | frz {a:Addr} {o:Obj} {xs:List V} (e:H a=some (.frz o (.lst xs))):Fo K H (.ref a) (.type "list")
 | tup {a:Addr} {xs:List V} (e:H a=some (.tup xs)):Fo K H (.ref a) (.type "tuple")
 | dF {a:Addr} {o:Obj} {kvs:List (Key×V)} (e:H a=some (.frz o (.dK kvs))):Fo K H (.ref a) (.type "dict")
 | dK {a:Addr} {kvs:List (Key×V)} (e:H a=some (.dK kvs)):Fo K H (.ref a) (.type "dict")
 | dT {a:Addr} {kvs:List (List Key×V)} (e:H a=some (.dT kvs)):Fo K H (.ref a) (.type "dict")
 | ins {a C dx:Addr} {fs:List (Str×V)} (e:H a=some (.ins C dx fs)) (cl:Cls K C) (ha:PySem.W.findIn K (.ref C) "__class__"=some (some (.builtin "object.__class__")))
   (hn:PySem.W.specialIn K (.builtin "object.__class__") "__get__"=some (some (.builtin "getset_descriptor.__get__"))) (htk:PySem.W.takesIn K (.builtin "object.__class__")=some true)
   (hm:PySem.W.mroIn K C (.type "object")=some true):Fo K H (.ref a) (.ref C)
theorem RD{x:V}{u t:Value}(I:Inv X pins σ H s)(rx:RelV x u)(ty:Fo X.K H x t)(e:PySem.W.kitOne X.K t c=some b)(h:∀tk,Q (.bool b) { s with toks:=tk }) :
  wpAny (model X.prog X.w) A (call (.builtin "isinstance") [u,c]) Q E s:=by
 cases ty with
 | non=>cases (show u=bX from rx); exact PySem.W.kia_one PySem.W.kitx_none I.kIn dQ e (λz=>nomatch z) h
 | bl y=>cases (show u=d6 y from rx); exact PySem.W.kia_one PySem.W.kitx_bool I.kIn dQ e (λz=>nomatch z) h
 | int i=>obtain⟨t,q⟩:=(show ∃t,u=iy i t from rx); cases q; exact PySem.W.kia_one PySem.W.kitx_int I.kIn dQ e (λz=>nomatch z) h
 | str y=>obtain⟨t,q⟩:=(show ∃t,u=dR y t from rx); cases q; exact PySem.W.kia_one PySem.W.kitx_str I.kIn dQ e (λz=>nomatch z) h
 | flt y=>obtain⟨t,q⟩:=(show ∃t,u=Value.float y t from rx); cases q; exact PySem.W.kia_one PySem.W.kitx_float I.kIn dQ e (λz=>nomatch z) h
 | @lst a xs ea =>
  cases (show u=bT a from rx)
  obtain⟨_,_,n,_,h1⟩:=(show ObjOk X.prog X.w H s.heap a (.lst xs) from I.hok a _ ea)
  exact PySem.W.kia_one PySem.W.kitx_list I.kIn ⟨_,h1,rfl⟩ e (λz=>nomatch z) h
 | @frz a ob xs ea =>
  cases (show u=bT a from rx)
  obtain⟨_,_,_,n,_,h1⟩:=(show ObjOk X.prog X.w H s.heap a (.frz ob (.lst xs)) from I.hok a _ ea)
  exact PySem.W.kia_one PySem.W.kitx_list I.kIn ⟨_,h1,rfl⟩ e (λz=>nomatch z) h
 | @tup a xs ea =>
  cases (show u=bT a from rx)
  obtain⟨_,_,_,p⟩:=(show ObjOk X.prog X.w H s.heap a (.tup xs) from I.hok a _ ea)
  obtain⟨o,h1,h2,_⟩:=p
  exact PySem.W.kia_one PySem.W.kitx_tuple I.kIn ⟨o,h1,h2⟩ e (λz=>nomatch z) h
 | @dF a ob kvs ea =>
  cases (show u=bT a from rx)
  obtain⟨_,_,_,vs,_,p⟩:=(show ObjOk X.prog X.w H s.heap a (.frz ob (.dK kvs)) from I.hok a _ ea)
  obtain⟨o,es,ep,h1,h2,_⟩:=p
  exact PySem.W.kia_one PySem.W.kitx_dict I.kIn ⟨o,h1,h2.1⟩ e (λz=>nomatch z) h
 | @dK a kvs ea =>
  cases (show u=bT a from rx)
  obtain⟨_,_,vs,_,p⟩:=(show ObjOk X.prog X.w H s.heap a (.dK kvs) from I.hok a _ ea)
  obtain⟨o,es,ep,h1,h2,_⟩:=p
  exact PySem.W.kia_one PySem.W.kitx_dict I.kIn ⟨o,h1,h2.1⟩ e (λz=>nomatch z) h
 | @dT a kvs ea =>
  cases (show u=bT a from rx)
  obtain⟨_,_,xs,_,o,es,ep,h1,h2,_⟩:=(show ObjOk X.prog X.w H s.heap a (.dT kvs) from I.hok a _ ea)
  exact PySem.W.kia_one PySem.W.kitx_dict I.kIn ⟨o,h1,h2.1⟩ e (λz=>nomatch z) h
 | @ins a C dx fs ea cl ha hn htk hm =>
  cases (show u=bT a from rx)
  obtain⟨mA,O,_⟩:=VU I.hok ea
  obtain⟨od,J,_⟩:=O.look
  exact PySem.W.kia_one (PySem.W.kitx_own (cl.get _) cl.hd ha hn htk hm) I.kIn J e (λz=>nomatch z) h
end
structure Room (k:Nat) (A:Around):Prop where
 hd:A.handled=none
 dp:A.depth+3*k+5<recursionLimit
 un:A.units+16*k+200<cLine
 gd:A.guards=some []
theorem Room.mono{j k:Nat}{A:Around}(r:Room k A)(h:j<=k):Room j A:=⟨r.hd,by have:=r.dp; omega,by have:=r.un; omega,by first | exact r.gd | (show pushGuards _ _=_; rw [r.gd]; rfl) | (simp [i5,pushGuards,Code.guards,i6,r.gd])⟩
theorem Room.deeper{k:Nat}{A:Around}(r:Room (k+1) A)(env:Env):Room k (A.deeper env) :=
 ⟨r.hd,by have:=r.dp; show A.depth+1+3*k+5<_; omega,by have:=r.un; show A.units+3+16*k+200<_; omega,by first | exact r.gd | (show pushGuards _ _=_; rw [r.gd]; rfl) | (simp [i5,pushGuards,Code.guards,i6,r.gd])⟩
theorem Room.in1{k:Nat}{A:Around}(r:Room (k+1) A):Room k A.in1 :=
 ⟨r.hd,by have:=r.dp; show A.depth+3*k+5<_; omega,by have:=r.un; show A.units+1+16*k+200<_; omega,by first | exact r.gd | (show pushGuards _ _=_; rw [r.gd]; rfl) | (simp [i5,pushGuards,Code.guards,i6,r.gd])⟩
theorem Room.depth{k:Nat}{A:Around}(r:Room k A):A.depth<recursionLimit:=by have:=r.dp; omega
theorem Room.units{k:Nat}{A:Around}(r:Room k A):A.units+64<cLine:=by have:=r.un; omega
theorem Room.units0{k:Nat}{A:Around}(r:Room k A):A.units<cLine:=by have:=r.un; omega
noncomputable def QX:TA:=λ_ H Q=>Q [] H
noncomputable def MV(ta:TE)(tr:TA):TA:=λσ H Q=>ta σ H λx H1=>tr σ H1 λxs H2=>Q (x::xs) H2
section
variable {X:Cx}{e:Expr}{es:List Expr}{te:TE}{t:TA}{pos:Pos}
theorem A9:PA X [] QX:=λ_ _ _ _ H Q I h=>dr ⟨[],H,I,.nil,h⟩
theorem Av(ha:PE X e te)(hr:PA X es t)(hs:autoParam (starEach (e::es) X.env=(false,eval e X.env)::starEach es X.env) zau3._auto_1):PA X (e::es) (MV te t):=by
 intro pos pins s σ H Q I h
 rw [hs]
 show wpAny _ _ (spliced ((false,eval e X.env)::backTo pos (starEach es X.env))) _ _ s
 refine c5 (thn (ha pins s σ H _ I h) λu s1 ⟨x,H1,I1,r1,q1⟩=>?_)
 exact thn (hr pos pins s1 σ H1 _ I1 q1) λus s2 ⟨xs,H2,I2,r2,q2⟩=>⟨x::xs,H2,I2,.cons r1 r2,q2⟩
noncomputable def Z5(t:TA):TE:=λσ H Q=>t σ H λxs H1=>xs.length<=sizeLine/\∀p,H1 p=none->Q (.ref p) (As H1 p (.tup xs))
noncomputable def Z8(t:TA):TE:=λσ H Q=>t σ H λxs H1=>xs.length<=sizeLine/\∀p,H1 p=none->Q (.ref p) (As H1 p (.lst xs))
theorem XQ{x1}(h:PA X es t):PE X (.Tuple es x1 pos) (Z5 t):=by
 intro pins s σ H Q I hq
 refine wpAny_Tuple_spliced (thn (h pos pins s σ H _ I hq) λus s1 ⟨xs,H1,I1,r,z,q⟩=>⟨by rw [← r.length]; exact z,?_⟩)
 have hf:H1 s1.heap.objs.size=none:=I1.hok.fresh (Op _)
 refine⟨.ref s1.heap.objs.size,As H1 s1.heap.objs.size (.tup xs),I1.laid (t':=s1.toks) (λb u e=>Ev _ e) (Op _) ?_,rfl,q _ hf⟩
 exact⟨z,us,r,IsTupN.new _ _⟩
theorem LP(h:PA X es t):PE X (.List es pos) (Z8 t):=by
 intro pins s σ H Q I hq
 refine wpAny_List_spliced (thn (h pos pins s σ H _ I hq) λus s1 ⟨xs,H1,I1,r,z,q⟩=>⟨by rw [← r.length]; exact z,?_⟩)
 have hf:H1 s1.heap.objs.size=none:=I1.hok.fresh (Op _)
 refine⟨.ref s1.heap.objs.size,As H1 s1.heap.objs.size (.lst xs),I1.laid (t':=s1.toks) (λb u e=>Ev _ e) (Op _) ?_,rfl,q _ hf⟩
 exact⟨z,us,0,r,Sc _ rfl⟩
end
noncomputable abbrev Sp:=List V->Hp->VK->XK->Prop
noncomputable abbrev Ud:=List Env->Hp->Shared->XK->Value->Shared->Prop
structure Env0 (P:Program) (w:World) (K:Frag) (mg:Str->Option Value) (base:Heap) (A:Around) (outer:List Env) (s:Shared) (H:Hp):Prop where
 frames:A.frames=some outer
 mod:Mod K mg base
 bs:∀b o,base.get? b=some o->s.heap.get? b=some o/\H b=none
 bsz:base.objs.size<=s.heap.objs.size
 funs:s.heap.FunFrames base outer
 frf:∀b∈Rf outer,H b=none
 hok:HOk P w H s.heap
 bare:AllBare s.gens
noncomputable def CE(outer:List Env)(P:Program)(w:World)(H:Hp)(s:Shared)(Q:VK)(u:Value)(s':Shared):Prop :=
 ∃v H',s'.os=s.os/\AllBare s'.gens/\Un (Rf outer) [] H H' s.heap s'.heap/\HOk P w H' s'.heap/\RelV v u/\Q v H'
noncomputable def CR(CX:Ud)(outer:List Env)(P:Program)(w:World)(H:Hp)(s:Shared)(Q:VK)(E:XK)(r:Result)(s':Shared):Prop :=
 match r with
 | .ok (.ret u)=>CE outer P w H s Q u s'
 | .ok _=>False
 | .error e=>CX outer H s E e s'
structure A0 (P:Program) (w:World) (K:Frag) (mg:Str->Option Value) (base:Heap) (CX:Ud) (k:Nat) (f:Addr) (fd:FuncData) (ps:List Str) (sp:Sp):Prop where
 len:∀vs H Q E,sp vs H Q E->vs.length=ps.length
 run:∀(A:Around) (outer:List Env) (s:Shared) (H:Hp) (args:Args) (us:List Value) (vs:List V) (Q:VK) (E:XK),Room k A->Env0 P w K mg base A outer s H->BindsTo s fd args (ps.zip us)->Vals vs us->sp vs H Q E ->
  codeAny (model P w) A (.call (.ref f) args) (CR CX outer P w H s Q E) s
theorem Env0.in1{P:Program}{w:World}{K:Frag}{mg:Str->Option Value}{base:Heap}{A:Around}{outer:List Env}{s:Shared}{H:Hp}(e:Env0 P w K mg base A outer s H) :
  Env0 P w K mg base A.in1 outer s H:=⟨e.frames,e.mod,e.bs,e.bsz,e.funs,e.frf,e.hok,e.bare⟩
section
variable {X:Cx}{pins:List (Addr×Obj)}{σ:St}{H:Hp}{s s':Shared}
theorem Inv.env0(I:Inv X pins σ H s):Env0 X.prog X.w X.K X.mg X.base X.A X.stack s H :=
 ⟨I.ok.frames,I.ok.mod,I.bs,bS I.ok.bsz I.sz,I.stack,I.stkFree,I.hok,I.bare⟩
theorem Inv.after{Q:VK}{u:Value}(I:Inv X pins σ H s)(h:CE X.stack X.prog X.w H s Q u s'):EP X pins σ Q u s':=by
 obtain⟨v,H',os,bare,un,hok,r,q⟩:=h
 obtain⟨hh,g,d,t,os'⟩:=s'
 obtain rfl:os'=s.os:=os
 exact⟨v,H',I.call (h':=hh) (g':=g) (d':=d) (t':=t) (ch:=[]) un hok bare (λb z=>absurd z (by simp)),r,q⟩
end
noncomputable def PD(sp:Sp)(dvs:List V)(E:XK)(t:TA):TE:=λσ H Q=>t σ H λvs H1=>sp (vs++dvs) H1 Q E
noncomputable def Binds(K:Frag)(fd:FuncData)(ps:List Str)(ds:List Value):Prop :=
 ∀(s:Shared) (us:List Value),K.In s.heap->(us++ds).length=ps.length->BindsTo s fd ⟨us,[]⟩ (ps.zip (us++ds))
theorem Binds.all{K:Frag}{fd:FuncData}{ps:List Str}(h:∀us:List Value,us.length=ps.length->bindArgs fd ⟨us,[]⟩=pure (ps.zip us)):Binds K fd ps []:=λs us _ hl=>by
 rw [bh] at hl ⊢
 exact .of_eq (h us hl)
noncomputable def MD(CX:Ud)(X:Cx)(E:XK):Prop:=∀(pins:List (Addr×Obj)) (σ:St) (H:Hp) (s:Shared) (e:Value) (s':Shared),Inv X pins σ H s->CX X.stack H s E e s'->X.xe e s'
section
variable {X:Cx}{CX:Ud}{k:Nat}{f C:Addr}{fd:FuncData}{ps:List Str}{sp:Sp}{dvs:List V}{ds:List Value}{E:XK}{x m:Str}{p pos apos:Pos}{e o:Expr}{es:List Expr}{ta:TE}{t:TA}
theorem SK{pins:List (Addr×Obj)}{σ:St}{H:Hp}{s:Shared}{Q:VK}{us:List Value}{vs:List V}(F:A0 X.prog X.w X.K X.mg X.base CX k f fd ps sp)(hr:Room k X.A)(hb:Binds X.K fd ps ds)(hd:Vals dvs ds)(hx:MD CX X E)
  (I:Inv X pins σ H s) (r:Vals vs us) (h:sp (vs++dvs) H Q E):wpAny (model X.prog X.w) X.A (call (.ref f) us) (EP X pins σ Q) X.xe s:=by
 have r2:Vals (vs++dvs) (us++ds):=r.append hd
 have hl:(us++ds).length=ps.length:=by rw [← r2.length]; exact F.len _ _ _ _ h
 refine wpAny_call (gz (F.run X.A X.stack s H ⟨us,[]⟩ (us++ds) (vs++dvs) Q E hr I.env0 (hb s us I.kIn hl) r2 h) λr s' hq=>?_)
 cases r with
 | error e=>exact hx pins σ H s e s' I hq
 | ok fl =>
  cases fl with
  | ret u=>exact I.after hq
  | next=>exact cv hq
  | brk=>exact cv hq
  | cont=>exact cv hq
theorem PV(F:A0 X.prog X.w X.K X.mg X.base CX k f fd ps sp)(hr:Room k X.A)(hg:Gl X x)(hm:X.mg x=some (.ref f))(hk:keepIn X.K (.ref f)=true)(hb:Binds X.K fd ps ds)(hd:Vals dvs ds)(hx:MD CX X E)
  (ha:PA X (e::es) t) (hdb:autoParam ((x==("__debug__" : Str))=false) zau1._auto_1) (he:autoParam (starEach (e::es) X.env=(false,eval e X.env)::starEach es X.env) zau3._auto_1) (hpl:autoParam ((backTo pos (starEach es X.env)).any (·.1)=false) zau3._auto_1) :
  PE X (.Call (.Name x p) (e::es) [] pos) (PD sp dvs E t):=by
 intro pins s σ H Q I h
 refine cb (Lf I hg hm ?_ hdb)
 refine PySem.W.callWith_K (h₀:=X.base) I.ok.mod.kin hk (thn (ha pos pins s σ H _ I h) λus s1 ⟨vs,H1,I1,r,q⟩=>⟨I1.kIn,?_⟩) he hpl
 exact SK F hr hb hd hx I1 r q
theorem Sy(F:A0 X.prog X.w X.K X.mg X.base CX k f fd ps sp)(hr:Room k X.A)(hg:Gl X x)(hm:X.mg x=some (.ref f))(hk:keepIn X.K (.ref f)=true)(hb:Binds X.K fd ps ds)(hd:Vals dvs ds)(hx:MD CX X E)
  (hdb:autoParam ((x==("__debug__" : Str))=false) zau1._auto_1):PE X (.Call (.Name x p) [] [] pos) (PD sp dvs E QX):=by
 intro pins s σ H Q I h
 refine cb (Lf I hg hm ?_ hdb)
 exact PySem.W.callWith_K0 I.kIn hk (SK (us:=[]) F hr hb hd hx I .nil h)
structure Mk (K:Frag) (C f:Addr):Prop where
 makes:PySem.W.makesIn K C=true
 init:PySem.W.findIn K (.ref C) "__init__"=some (some (.ref f))
 fn:PySem.W.isFn K (.ref f)=true
 kp:keepIn K (.ref C)=true
end
section
variable {X:Cx}{CX:Ud}{k:Nat}{f C:Addr}{fd:FuncData}{ps ks:List Str}{sp:Sp}{E:XK}{x m:Str}{p pos apos kpos:Pos}{e o:Expr}{es:List Expr}{kws:List Keyword}{te ta:TE}{t tk:TA}{nm:Option Str}
structure aS (K:Frag) (fd:FuncData) (ps ks:List Str) (g:List Value->List Value->List Value) (gV:List V->List V->List V):Prop where
 to:∀(s:Shared) (us ws:List Value),K.In s.heap->(g us ws).length=ps.length->BindsTo s fd ⟨us,ks.zip ws⟩ (ps.zip (g us ws))
 rel:∀{vs:List V} {us:List Value} {zs:List V} {ws:List Value},Vals vs us->Vals zs ws->Vals (gV vs zs) (g us ws)
variable {g:List Value->List Value->List Value}{gV:List V->List V->List V}
end
structure AU (N P:List Str) (sc:Scope):Prop where
 kind:sc.kind=.function
 co:sc.isCoroutine=false
 gen:sc.isGenerator=false
 nd:N.Nodup
 pre:N.take P.length=P
 par:∀x∈P,sc.names.lookup x=some .local\/sc.names.lookup x=some .cell
 nofree:∀y∈sc.names,y.2≠.free
theorem Km{kindOf:Str->Option NameKind}{x:Str}:∀{binds:List (Str×Value)} {m:Str->Option Value},(∀v,(x,v)∉binds)->bindL kindOf binds m x=m x
 | [],_,_=>rfl
 | (n,v)::r,m,h=>by
  unfold bindL
  rw [Km λw hw=>h w (Rs _ hw)]
  split
  ·have:x≠n:=by rintro rfl; exact h v No
   simp [this]
  ·rfl
theorem Kp{kindOf:Str->Option NameKind}{x:Str}:∀{binds:List (Str×Value)} {m:Str->Option Value},(∀v,(x,v)∉binds)->bindC kindOf binds m x=m x
 | [],_,_=>rfl
 | (n,v)::r,m,h=>by
  unfold bindC
  rw [Kp λw hw=>h w (Rs _ hw)]
  split
  ·rfl
  ·have:x≠n:=by rintro rfl; exact h v No
   simp [this]
theorem Ko{kindOf:Str->Option NameKind}{x:Str}{v:Value}:∀{P:List Str} {vs:List Value} {i:Nat} {m:Str->Option Value},P.Nodup->P[i]?=some x->vs[i]?=some v->kindOf x=some .local ->
  bindL kindOf (P.zip vs) m x=some v
 | [],_,_,_,_,h,_,_=>by simp at h
 | _::_,[],_,_,_,_,h,_=>by simp at h
 | p::P,w::vs,0,m,nd,h1,h2,hk=>by
  simp at h1 h2; subst h1; subst h2
  show bindL kindOf ((p,w)::P.zip vs) m p=_
  unfold bindL
  rw [Km λv hv=>(bQ.mp nd).1 (fD hv).1,if_pos hk]
  simp
 | p::P,w::vs,i+1,m,nd,h1,h2,hk=>by
  show bindL kindOf ((p,w)::P.zip vs) m x=_
  unfold bindL
  exact Ko (i:=i) (bQ.mp nd).2 (by simpa using h1) (by simpa using h2) hk
theorem Kq{kindOf:Str->Option NameKind}{x:Str}{v:Value}:∀{P:List Str} {vs:List Value} {i:Nat} {m:Str->Option Value},P.Nodup->P[i]?=some x->vs[i]?=some v->kindOf x≠some .local ->
  bindC kindOf (P.zip vs) m x=some v
 | [],_,_,_,_,h,_,_=>by simp at h
 | _::_,[],_,_,_,_,h,_=>by simp at h
 | p::P,w::vs,0,m,nd,h1,h2,hk=>by
  simp at h1 h2; subst h1; subst h2
  show bindC kindOf ((p,w)::P.zip vs) m p=_
  unfold bindC
  rw [Kp λv hv=>(bQ.mp nd).1 (fD hv).1,if_neg hk]
  simp
 | p::P,w::vs,i+1,m,nd,h1,h2,hk=>by
  show bindC kindOf ((p,w)::P.zip vs) m x=_
  unfold bindC
  exact Kq (i:=i) (bQ.mp nd).2 (by simpa using h1) (by simpa using h2) hk
noncomputable def start(N:List Str)(vs:List V):St:=vs.map some++Uf (N.length - vs.length) none
noncomputable def Ly(CX:Ud)(P:Program)(w:World)(K:Frag)(mg:Str->Option Value)(base:Heap)(N:List Str)(qual:Str)(scope:Scope)(f:Addr)(cd:Value)(A:Around)(outer:List Env)(s:Shared)(H:Hp)(E:XK):Cx where
 prog:=P
 w:=w
 K:=K
 mg:=mg
 base:=base
 A:=A.deeper (envOfC qual scope s.heap.objs.size f cd)
 N:=N
 s₀:=s
 H₀:=H
 env:=envOfC qual scope s.heap.objs.size f cd
 outer:=outer
 stack:=envOfC qual scope s.heap.objs.size f cd::outer
 ex:=[]
 calm:=true
 fn:=λ_=>true
 pn:=[]
 xe:=λe s'=>wpAny (model P w) (A.deeper (envOfC qual scope s.heap.objs.size f cd)) (leaving (envOfC qual scope s.heap.objs.size f cd) e) (λ_ s''=>CX outer H s E e s'') (λe' s''=>CX outer H s E e' s'') s'
theorem Nh{sc:Scope}{n:Nat}{x:Str}(h:sc.names.lookup x=some .cell):∃c,(cellsFrom n sc.names []).lookup x=some c:=by
 have q:=PySem.W.cellsFrom_some sc.names n [] (.inl h)
 exact Option.isSome_iff_exists.mp q
theorem RF{CX:Ud}{P:Program}{w:World}{K:Frag}{mg:Str->Option Value}{base:Heap}{N ps:List Str}{qual:Str}{scope:Scope}{f:Addr}{cd:Value}{A:Around}{outer:List Env}{s s1:Shared}{H:Hp}{E:XK}{us:List Value}{vs:List V}
  (S:AU N ps scope) (hd:A.handled=none) (e0:Env0 P w K mg base A outer s H) (hl:vs.length=ps.length) (r:Vals vs us)
  (x:InCallC s s.heap.objs.size (bindL (envOfC qual scope s.heap.objs.size f cd).kindOf (ps.zip us) λ_=>none) (cellsFrom (s.heap.objs.size+1) scope.names []) (bindC (envOfC qual scope s.heap.objs.size f cd).kindOf (ps.zip us) λ_=>none) s1) :
  Inv (Ly CX P w K mg base N qual scope f cd A outer s H E) [] (start N vs) H s1:=by
 have hpl:ps.length<=N.length:=by have:=congrArg fh S.pre; rw [c0] at this; omega
 obtain⟨h1,tk,rfl,hk⟩:=x.done
 have noA:∀b:Addr,b∉(Ly CX P w K mg base N qual scope f cd A outer s H E).ex:=λb z=>absurd (show b∈([]:List Addr) from z) (by simp)
 refine⟨⟨e0.mod,S.kind,rfl,rfl,Op _,λy z c h1 h2=>?_,λy hy=>?_,λy c _ h=>?_,λ_=>hd,Around.frames_deeper e0.frames,.inr ⟨rfl,rfl⟩,λb z=>absurd z (noA b),e0.bs,e0.bsz,λb _ _=>noA b,λb z=>absurd z (noA b),e0.funs,e0.frf⟩,
  rfl,e0.bare,Un.kept hk,⟨_,x.toInCall.ns,λi y v h1 h2 h3=>?_⟩,λy c h=>⟨_,x.cell y c h⟩,e0.hok.fresh (Op _),λy c h=>?_,λp hp=>absurd (show p∈([]:List (Addr×Obj)) from hp) (by simp),e0.hok.kept hk,?_⟩
 ·exact name_of_addr x.apart (PySem.mem_of_lookup h1) (PySem.mem_of_lookup h2)
 ·have hy:scope.names.lookup y=some .cell\/scope.names.lookup y=some .free:=hy
  rcases hy with hy | hy
  ·exact Nh hy
  ·exact absurd rfl (S.nofree _ (PySem.mem_of_lookup hy))
 ·exact fH (x.above y c (PySem.mem_of_lookup h))
 ·have hi:i<vs.length:=by
   unfold start at h2
   by_cases hi:i<vs.length
   ·exact hi
   ·rw [cS (by simpa using hi)] at h2
    rw [fW] at h2
    split at h2 <;> cases h2
  have ha:vs[i]?=some v:=by
   unfold start at h2
   rw [d7 (by simpa using hi),T0] at h2
   cases e:vs[i]? with
   | none=>rw [e] at h2; cases h2
   | some a=>rw [e] at h2; cases h2; rfl
  obtain⟨u,hu,rv⟩:=r.get ha
  have hp:ps[i]?=some y:=by
   rw [← S.pre,List.getElem?_take_of_lt (by omega)]; exact h1
  have ndP:ps.Nodup:=by rw [← S.pre]; exact S.nd.sublist (gk _ _)
  refine⟨u,rv,?_⟩
  rcases S.par y (bq hp) with k | k
  ·exact .inl ⟨k,Ko ndP hp hu k⟩
  ·obtain⟨c,e⟩:=Nh (n:=s.heap.objs.size+1) k
   refine .inr ⟨.inl k,c,e,?_⟩
   have q:=x.cell y c e
   rw [Kq ndP hp hu (by show scope.names.lookup y≠_; rw [k]; decide)] at q
   exact q
 ·exact e0.hok.fresh (fH (x.above y c (PySem.mem_of_lookup h)))
 ·unfold start
  show _=N.length
  rw [bD,FM,iW]
  omega
theorem ZI{CX:Ud}{P:Program}{w:World}{K:Frag}{mg:Str->Option Value}{base:Heap}{k:Nat}{f:Addr}{name qual:Str}{params:Arguments}{body:List Stmt}{scope:Scope}{dV kV doc pm cdv ct oc:Value}{an od:Option Addr}
  {osl:Array (Option Value)} {N ps:List Str} {sp:Sp} (lk:K.lookup f=some ⟨oc,od,.func (fnOf name qual params body scope dV kV doc pm an cdv ct),osl⟩) (hcd:codeIn K cdv qual=true) (S:AU N ps scope)
  (len:∀vs H Q E,sp vs H Q E->vs.length=ps.length)
  (hbody:∀(A:Around) (outer:List Env) (s:Shared) (H:Hp) (vs:List V) (Q:VK) (E:XK),Room k (A.deeper (envOfC qual scope s.heap.objs.size f cdv))->sp vs H Q E ->
   ∃t,PSs (Ly CX P w K mg base N qual scope f cdv A outer s H E) body t/\t { nx:=λ_ H'=>Q .non H',rt:=Q } (start N vs) H) :
  A0 P w K mg base CX (k+1) f (fnOf name qual params body scope dV kV doc pm an cdv ct) ps sp:=by
 refine⟨len,λA outer s H args us vs Q E hr e0 hb r hsp=>?_⟩
 have hl:=len _ _ _ _ hsp
 have KX:K.In s.heap:=e0.mod.kin.keeps λb o e=>(e0.bs b o e).1
 have lim:s.heap.NoLimit:=e0.mod.nolimit.keeps λb o e=>(e0.bs b o e).1
 have hkind:∀y∈ps.zip us,scope.names.lookup y.1=some .local\/(scope.names.lookup y.1=some .cell/\((cellsFrom (s.heap.objs.size+1) scope.names []).lookup y.1).isSome=true):=fun⟨n,v⟩ hy=>by
  rcases S.par n (fD hy).1 with q | q
  ·exact .inl q
  ·exact .inr ⟨q,PySem.W.cellsFrom_some _ _ _ (.inl q)⟩
 refine codeAny_call_function hr.depth (KX _ _ lk) rfl S.co S.gen rfl (PySem.W.codeRec_of KX hcd) (hb _ _ _ _ ?_)
 refine wpAny_newFunctionEnv_cells S.kind hkind λenv he s1 x=>?_
 subst he
 refine⟨lim.keeps x.toInCall.keep,codeAny_func ?_⟩
 obtain⟨t,ht,hq⟩:=hbody A outer s H vs Q E (hr.deeper _) hsp
 have I:Inv (Ly CX P w K mg base N qual scope f cdv A outer s H E) [] (start N vs) H s1:=RF S hr.hd e0 hl r x
 refine cC (ht [] s1 (start N vs) H _ I hq) (λfl s' hs=>?_) λe s' hs=>hs
 have fin:∀{σ':St} {H':Hp} {v:V} {u:Value},Inv (Ly CX P w K mg base N qual scope f cdv A outer s H E) [] σ' H' s'->RelV v u->Q v H'->CE outer P w H s Q u s' :=
  λ{σ' H' v u} J rv q=>⟨v,H',J.os,J.bare,J.base,J.hok,rv,q⟩
 cases fl with
 | ret u =>
  obtain⟨v,σ',H',J,rv,q⟩:=hs
  exact fin J rv q
 | next =>
  obtain⟨σ',H',J,q⟩:=hs
  exact fin (v:=V.non) (u:=bX) J rfl q
 | brk =>
  obtain⟨_,_,_,q⟩:=hs
  exact cv q
 | cont =>
  obtain⟨_,_,_,q⟩:=hs
  exact cv q
section
variable {X:Cx}{x:Str}{p pos:Pos}{e:Expr}{es:List Expr}{t:TA}{id T:String}{r:List V->Hp->VK->Prop}
noncomputable def Zn(r:List V->Hp->VK->Prop)(t:TA):TE:=λσ H Q=>t σ H λvs H1=>r vs H1 Q
theorem EM(hc:B_ X (.builtin id) r)(hg:Gl X x)(hm:X.mg x=none)(hv:bootBuiltins x=some (.builtin id))(ha:PA X (e::es) t)(hn:autoParam (x ≠ "__name__") zau1._auto_1)(hdb:autoParam ((x==("__debug__" : Str))=false) zau1._auto_1)
  (he:autoParam (starEach (e::es) X.env=(false,eval e X.env)::starEach es X.env) zau3._auto_1) (hpl:autoParam ((backTo pos (starEach es X.env)).any (·.1)=false) zau3._auto_1):PE X (.Call (.Name x p) (e::es) [] pos) (Zn r t):=by
 intro pins s σ H Q I h
 refine cb (CV I hg hm hv ?_ hn hdb)
 exact PyProof.Rows.callWith_builtin1 (thn (ha pos pins s σ H _ I h) λus s1 ⟨vs,H1,I1,r1,q1⟩=>hc pins s1 σ H1 vs us Q I1 r1 q1) he hpl
theorem KQ(hc:B_ X (.type T) r)(hg:Gl X x)(hm:X.mg x=none)(hv:bootBuiltins x=some (.type T))(ha:PA X (e::es) t)(hn:autoParam (x ≠ "__name__") zau1._auto_1)(hdb:autoParam ((x==("__debug__" : Str))=false) zau1._auto_1)
  (he:autoParam (starEach (e::es) X.env=(false,eval e X.env)::starEach es X.env) zau3._auto_1) (hpl:autoParam ((backTo pos (starEach es X.env)).any (·.1)=false) zau3._auto_1):PE X (.Call (.Name x p) (e::es) [] pos) (Zn r t):=by
 intro pins s σ H Q I h
 refine cb (CV I hg hm hv ?_ hn hdb)
 exact cA (thn (ha pos pins s σ H _ I h) λus s1 ⟨vs,H1,I1,r1,q1⟩=>hc pins s1 σ H1 vs us Q I1 r1 q1) he hpl
end
end L2
namespace HT
open PySem PyProof.Rows
section
open PySem.SeqAt
open PySem.AutoSeq1 (wpAny_loadPart')
open PySem.MeetsSeq PySem.MeetsSeq2 PySem.MeetsSeq3
end
section
variable {prog:Program}{w:World}{A:Around}{E:Value->Shared->Prop}{s:Shared}
theorem cat_tup{t b:Addr}{vs ws:List Value}{Q:Value->Shared->Prop}(ht:IsTup s.heap t vs.toArray)(hb:IsTup s.heap b ws.toArray)(hv:vs≠[])
  (h1:ws=[]->Q (.ref t) s) (h2:ws≠[]->Q (.ref s.heap.objs.size) { s with heap:=s.heap.push { cls:=.type "tuple",data:=.seq (vs++ws).toArray } })
  (hsz:vs.length+ws.length<=sizeLine):wpAny (model prog w) A (binaryOp .Add (.ref t) (.ref b)) Q E s:=by
 obtain⟨⟨cls,dd,data,sl⟩,ho,hc,n,hd⟩:=id ht
 obtain⟨⟨cls2,dd2,data2,sl2⟩,ho2,hc2,n2,hd2⟩:=id hb
 simp only at hc hd hc2 hd2
 subst hc hd hc2 hd2
 have e:vs.toArray++ws.toArray=(vs++ws).toArray:=by simp
 by_cases hw:ws=[]
 ·exact concat_meets ⟨_,ho,rfl⟩ ⟨_,ho2,rfl⟩ g8 seq_tuple_add PySem.F.slot_tuple_add PySem.F.entry_tuple_add (PySem.F.args_tuple_add_2 _ _)
   (tuple_addW1 t b vs.toArray ws.toArray n n2 dd dd2 sl sl2 (by simpa using hv) (by simp [hw])) ⟨ho,ho2,h1 hw⟩
 ·refine concat_meets ⟨_,ho,rfl⟩ ⟨_,ho2,rfl⟩ g8 seq_tuple_add PySem.F.slot_tuple_add PySem.F.entry_tuple_add (PySem.F.args_tuple_add_2 _ _)
   (tuple_addW2 t b vs.toArray ws.toArray n n2 dd dd2 sl sl2 (by simpa using hv) (by simpa using hw) (by rw [Re,Re]; exact hsz)) ⟨ho,ho2,?_⟩
  rw [e]
  exact h2 hw
noncomputable def sIx(n d:Nat):Option Int->Nat
 | none=>d
 | some v=>if v<0 then (v+(n:Int)).toNat else min v.toNat n
theorem sIx_none(n d:Nat):sIx n d none=d:=rfl
theorem sIx_nat(n d k:Nat):sIx n d (some (k:Int))=min k n:=by
 show (if (k:Int)<0 then ((k:Int)+(n:Int)).toNat else min (k:Int).toNat n)=min k n
 rw [if_neg (by omega),cJ]
theorem XD(n d:Nat)(hd:d<=n)(o:Option Int):sIx n d o<=n:=by
 cases o with
 | none=>exact hd
 | some v =>
  show (if v<0 then (v+(n:Int)).toNat else min v.toNat n)<=n
  by_cases hv:v<0
  ·rw [if_pos hv]; omega
  ·rw [if_neg hv]; exact eg _ _
theorem P6(v:Int)(n d:Nat):(if v<0 then max (v+(n:Int)) 0 else min v (n:Int))=((sIx n d (some v):Nat):Int):=by
 show (if v<0 then max (v+(n:Int)) 0 else min v (n:Int))=(((if v<0 then (v+(n:Int)).toNat else min v.toNat n):Nat):Int)
 by_cases hv:v<0
 ·simp only [if_pos hv]; omega
 ·simp only [if_neg hv]; omega
theorem O2(lo hi:Option Int)(n:Nat):c8 lo hi 1 (n:Int)=(((sIx n 0 lo:Nat):Int),((sIx n n hi:Nat):Int)):=by
 have h1:¬((1:Int)<0):=by omega
 unfold c8
 simp only [h1,if_false]
 refine Prod.ext ?_ ?_
 ·cases lo with
  | none=>rfl
  | some v=>exact P6 v n 0
 ·cases hi with
  | none=>rfl
  | some v=>exact P6 v n n
theorem OM(i j:Nat):cL (i:Int) (j:Int) 1=j - i:=by
 unfold cL
 have h1:(1:Int) > 0:=by omega
 simp only [h1,if_true,Int.ediv_one]
 split <;> omega
theorem slicePart_{v:Value}{o:Option Int}{Q:Option Int->Shared->Prop}(p:IsPart v o)(h:Q o s):wpAny (model prog w) A (Builtin.Slice.slicePartIndex v) Q E s:=by
 cases p with
 | none=>exact slicePart_none h
 | int i t=>exact slicePart_int h
theorem sliceApplied_gen{sl:Addr}{vl vu:Value}{lo hi:Option Int}{n:Nat}{Q:Int×Int×Nat->Shared->Prop}(hs:s.heap.IsSliceOf sl vl vu .none)(pl:IsPart vl lo)(pu:IsPart vu hi)
  (h:Q (((sIx n 0 lo:Nat):Int),1,sIx n n hi - sIx n 0 lo) s):wpAny (model prog w) A (dk (.ref sl) (pure (n:Int))) Q E s:=by
 obtain⟨os,hos,hcs,hds⟩:=id hs
 unfold dk gw
 refine Ch (Ch (bn hos hds (x:=vl) rfl (Ch (bn hos hds (x:=vu) rfl (Ch (bn hos hds (x:=.none) rfl (Go ?_)))))))
 refine Ch (slicePart_none ?_)
 show wpAny _ _ (if ((1:Int)==0)=true then _ else _) _ _ s
 rw [if_neg (by decide)]
 refine Ch (slicePart_ pl (Ch (slicePart_ pu (Ch (Go ?_)))))
 show wpAny _ _ (match c8 lo hi 1 (n:Int) with | (lo,hi)=>pure (lo,(1:Int),cL lo hi 1)) _ _ s
 rw [O2 lo hi n]
 show wpAny _ _ (pure (((sIx n 0 lo:Nat):Int),(1:Int),cL ((sIx n 0 lo:Nat):Int) ((sIx n n hi:Nat):Int) 1)) _ _ s
 rw [OM]
 exact Go h
theorem Sn(xs:Array Value)(i k:Nat):((bU k).filterMap fun(m:Nat)=>xs[((i:Int)+(m:Int)*1).toNat]?).toArray=((xs.toList.drop i).take k).toArray:=by
 have e:(fun(m:Nat)=>xs[((i:Int)+(m:Int)*1).toNat]?)=λm=>xs[i+m]?:=by
  funext m
  have:((i:Int)+(m:Int)*1).toNat=i+m:=by omega
  rw [this]
 rw [e]
 have:=pick_run xs i k
 rw [gR] at this
 have e2:((λx=>xs[x]?)∘λx=>i+x)=λm=>xs[i+m]?:=rfl
 rw [e2] at this
 rw [this]
theorem getItem_tuple_cut{t sl:Addr}{items:Array Value}{vl vu:Value}{lo hi:Option Int}{Q:Value->Shared->Prop}(ht:IsTup s.heap t items)(hs:s.heap.IsSliceOf sl vl vu .none)(pl:IsPart vl lo)(pu:IsPart vu hi)
  (hw:¬(sIx items.size 0 lo=0/\sIx items.size items.size hi=items.size))
  (h:Q (.ref s.heap.objs.size) { s with heap:=s.heap.push { cls:=.type "tuple",data:=.seq ((items.toList.drop (sIx items.size 0 lo)).take (sIx items.size items.size hi - sIx items.size 0 lo)).toArray } })
  (hsz:items.size<=sizeLine):wpAny (model prog w) A (getItem (.ref t) (.ref sl)) Q E s:=by
 have htake:sizeOk (.seq ((items.toList.drop (sIx items.size 0 lo)).take (sIx items.size items.size hi - sIx items.size 0 lo)).toArray):=by
  show ((items.toList.drop (sIx items.size 0 lo)).take (sIx items.size items.size hi - sIx items.size 0 lo)).toArray.size<=sizeLine
  rw [Re,c0,eh,bi]
  omega
 have hj:sIx items.size items.size hi<=items.size:=XD _ _ (Op _) hi
 obtain⟨os,hos,hcs,hds⟩:=id hs
 have hTs:s.TypeIs (.ref sl) "slice":=⟨os,hos,hcs⟩
 unfold getItem
 try with_reducible refine bw ?_
 first | refine Ch (Go ?_) | skip
 refine Ch (gl ht.typeIs (by decide) ?_)
 refine Ch (bo (name:=cX "__getitem__") ht.typeIs bZ
  (cP bZ ht.typeIs gH ?_ (gS _ _)))
 show wpAny _ _ (e7 (.ref t) >>= _) _ _ s
 refine Ch (tupleItemsOf_ ht ?_)
 refine Ch (dS hTs ?_)
 rw [if_pos (by decide)]
 refine Ch (sliceApplied_gen hs pl pu ?_)
 have hno:¬((((sIx items.size 0 lo:Nat):Int)==0&&(1:Int)==1&&(sIx items.size items.size hi - sIx items.size 0 lo)==items.size)=true):=by
  intro q
  rw [bL,bL] at q
  have q1:((sIx items.size 0 lo:Nat):Int)=0:=eq_of_beq q.1.1
  have q2:sIx items.size items.size hi - sIx items.size 0 lo=items.size:=eq_of_beq q.2
  exact hw ⟨by omega,by omega⟩
 show wpAny _ _ (if (((sIx items.size 0 lo:Nat):Int)==0&&(1:Int)==1&&(sIx items.size items.size hi - sIx items.size 0 lo)==items.size)=true then _ else _) _ _ s
 rw [if_neg hno,Sn]
 first
  | exact Ch (m:=bu _) (bY (Go ⟨_,rfl,Go h⟩) htake)
  | exact Ch (m:=bu _) (bY (Ch (Go (Go ⟨_,rfl,Go h⟩))) htake)
  | exact Ch (Ch (m:=bu _) (bY (Go (Go ⟨_,rfl,Go h⟩)) htake))
  | exact Ch (Ch (m:=bu _) (bY (Go ⟨_,rfl,Go h⟩) htake))
end
end HT
namespace L2
open PySem PySem.Spec PyProof.Rows
noncomputable abbrev TO:=St->Hp->(Option Int->Hp->Prop)->Prop
noncomputable def PO(X:Cx)(e:Option Expr)(t:TO):Prop :=
 ∀(pins:List (Addr×Obj)) (s:Shared) (σ:St) (H:Hp) (Q:Option Int->Hp->Prop),Inv X pins σ H s->t σ H Q ->
  wpAny (model X.prog X.w) X.A (evalPart e X.env) (λu s'=>∃o H',Inv X pins σ H' s'/\IsPart u o/\Q o H') X.xe s
noncomputable def Ur:TO:=λ_ H Q=>Q none H
noncomputable def Yk(t:TE):TO:=λσ H Q=>t σ H λx H1=>∃i,x=.int i/\Q (some i) H1
section
variable {X:Cx}{e:Expr}{te:TE}{lo hi:Option Expr}{tl th:TO}{pos p2:Pos}
theorem PR:PO X none Ur:=by
 intro pins s σ H Q I h
 rw [evalPart_none]
 exact Go ⟨none,H,I,.none,h⟩
theorem PQ(h:PE X e te):PO X (some e) (Yk te):=by
 intro pins s σ H Q I hw
 rw [evalPart_some]
 refine thn (h pins s σ H _ I hw) λu s1 ⟨x,H1,I1,r1,q1⟩=>?_
 obtain⟨i,rfl,q⟩:=q1
 obtain⟨t,rfl⟩:=r1
 exact⟨some i,H1,I1,.int i t,q⟩
noncomputable def SlR(X:Cx)(r:V->Option Int->Option Int->Hp->VK->Prop):Prop :=
 ∀(pins:List (Addr×Obj)) (s:Shared) (σ:St) (H:Hp) (x:V) (v vl vu:Value) (lo hi:Option Int) (sl:Addr) (Q:VK),Inv X pins σ H s->RelV x v->s.heap.IsSliceOf sl vl vu .none->IsPart vl lo->IsPart vu hi->r x lo hi H Q ->
  ∃T id,typeLookup (.type T) "__getitem__"=pure (some (.builtin id))/\s.TypeIs v T/\wpAny (model X.prog X.w) X.A (getItem v (.ref sl)) (EP X pins σ Q) X.xe s
theorem SlR.or{r r':V->Option Int->Option Int->Hp->VK->Prop}(h:SlR X r)(h':SlR X r'):SlR X (λx lo hi H Q=>r x lo hi H Q\/r' x lo hi H Q):=by
 intro pins s σ H x v vl vu lo hi sl Q I rx hs pl pu q
 rcases q with q | q
 ·exact h pins s σ H x v vl vu lo hi sl Q I rx hs pl pu q
 ·exact h' pins s σ H x v vl vu lo hi sl Q I rx hs pl pu q
noncomputable def ao(r:V->Option Int->Option Int->Hp->VK->Prop)(te:TE)(tl th:TO):TE:=λσ H Q=>te σ H λx H1=>tl σ H1 λl H2=>th σ H2 λu H3=>r x l u H3 Q
theorem Mo{r:V->Option Int->Option Int->Hp->VK->Prop}(hr:SlR X r)(he:PE X e te)(hl:PO X lo tl)(hu:PO X hi th):PE X (.Subscript e (.Slice lo hi none p2) pos) (ao r te tl th):=by
 intro pins s σ H Q I h
 refine Subscript_ (thn (he pins s σ H _ I h) λv s1 ⟨x,H1,I1,r1,q1⟩=>?_)
 refine wpAny_Slice (thn (hl pins s1 σ H1 _ I1 q1) λvl s2 ⟨l,H2,I2,pl,q2⟩=>thn (hu pins s2 σ H2 _ I2 q2) λvu s3 ⟨u,H3,I3,pu,q3⟩=>?_)
 rw [evalPart_none]
 refine Go ?_
 have I4:Inv X pins σ H3 { s3 with heap:=s3.heap.push { cls:=.type "slice",data:=.fields #[vl,vu,.none] } }:=I3.kept (t':=s3.toks) λb ob q=>Ev _ q
 obtain⟨T,id,hT,ht,hg⟩:=hr pins { s3 with heap:=s3.heap.push { cls:=.type "slice",data:=.fields #[vl,vu,.none] } } σ H3 x v vl vu l u s3.heap.objs.size Q I4 r1 (i7 ..) pl pu q3
 show wpAny (model X.prog X.w) X.A (subscriptTail e (.Slice lo hi none p2) v (.ref s3.heap.objs.size)) (EP X pins σ Q) X.xe { s3 with heap:=s3.heap.push { cls:=.type "slice",data:=.fields #[vl,vu,.none] } }
 exact tail_any (ops:=[.ref s3.heap.objs.size,v]) ht hT hg (by with_unfolding_all rfl)
noncomputable def Jz(xs:List V)(lo hi:Option Int):List V:=(xs.drop (HT.sIx xs.length 0 lo)).take (HT.sIx xs.length xs.length hi - HT.sIx xs.length 0 lo)
theorem HI(xs:List V)(lo hi:Option Int):(Jz xs lo hi).length<=xs.length:=by
 unfold Jz
 rw [c0,eh]
 omega
noncomputable def Yw(K:Frag):V->Option Int->Option Int->Hp->VK->Prop:=λx lo hi H Q=>∃a xs,x=.ref a/\SqT K H a xs /\
 ¬(HT.sIx xs.length 0 lo=0/\HT.sIx xs.length xs.length hi=xs.length)/\∀p,H p=none->Q (.ref p) (As H p (.tup (Jz xs lo hi)))
theorem sl_tup:SlR X (Yw X.K):=by
 intro pins s σ H x v vl vu lo hi sl Q I rx hs pl pu h
 obtain⟨a,xs,rfl,hx,hw,q⟩:=h
 cases rx
 obtain⟨its,r,ht,hz⟩:=I.tuple hx
 have hlen:its.toArray.size=xs.length:=by rw [Re]; exact r.length.symm
 refine⟨"tuple",_,bZ.lookup,ht.typeIs,?_⟩
 refine HT.getItem_tuple_cut ht hs pl pu (by rw [hlen]; exact hw) ?_ (by rw [hlen]; exact hz)
 rw [hlen]
 refine⟨.ref s.heap.objs.size,_,I.laid (t':=s.toks) (o:=.tup (Jz xs lo hi)) (λb ob q=>Ev _ q) (Op _) ?_,rfl,q _ (I.hok.fresh (Op _))⟩
 exact⟨bS (HI xs lo hi) hz,_,(r.drop (HT.sIx xs.length 0 lo)).take (HT.sIx xs.length xs.length hi - HT.sIx xs.length 0 lo),IsTupN.new _ _⟩
noncomputable def Sf(K:Frag):R2:=λx y H Q=>∃a b xs ys,x=.ref a/\y=.ref b/\SqT K H a xs/\SqT K H b ys/\xs≠[]/\xs.length+ys.length<=sizeLine /\
 (ys=[]->Q (.ref a) H)/\(ys≠[]->∀p,H p=none->Q (.ref p) (As H p (.tup (xs++ys))))
theorem Vals.nil_iff{xs:List V}{us:List Value}(r:Vals xs us):us=[]↔xs=[]:=by
 cases r with
 | nil=>simp
 | cons _ _=>simp
theorem op_catT:OpR X (binaryOp .Add) (Sf X.K):=by
 intro pins s σ H x y v u Q I rx ry h
 obtain⟨a,b,xs,ys,rfl,rfl,ha,hb,hx,hz,q1,q2⟩:=h
 cases rx
 cases ry
 obtain⟨its,r1,p1,_⟩:=I.tuple ha
 obtain⟨its2,r2,p2,_⟩:=I.tuple hb
 refine HT.cat_tup p1 p2 (λz=>hx (r1.nil_iff.mp z)) (λz=>⟨.ref a,H,I,rfl,q1 (r2.nil_iff.mp z)⟩) (λz=>?_) (by rw [← r1.length,← r2.length]; exact hz)
 refine⟨.ref s.heap.objs.size,_,I.laid (t':=s.toks) (o:=.tup (xs++ys)) (λb ob q=>Ev _ q) (Op _) ?_,rfl,q2 (λw=>z (r2.nil_iff.mpr w)) _ (I.hok.fresh (Op _))⟩
 exact⟨by rw [bD]; exact hz,_,r1.append r2,IsTupN.new _ _⟩
end
noncomputable def Rc(n:Nat)(i:Int):Option Nat:=if 0<=i then (if i<n then some i.toNat else none) else if -(n:Int)<=i then some (i+n).toNat else none
noncomputable def atI{α:Type}(xs:List α)(i:Int):Option α:=(Rc xs.length i).bind λj=>xs[j]?
theorem Pj{n:Nat}{i:Int}{j:Nat}(h:Rc n i=some j):seqIndex? i n=some j/\j<n/\-(n:Int)<=i/\i<n:=by
 unfold Rc at h
 by_cases h0:0<=i
 ·rw [if_pos h0] at h
  by_cases h1:i<n
  ·rw [if_pos h1] at h
   have e:i.toNat=j:=UF h
   exact⟨by rw [seqIndex_of h0 h1,e],by omega,by omega,h1⟩
  ·rw [if_neg h1] at h; cases h
 ·rw [if_neg h0] at h
  by_cases h1:-(n:Int)<=i
  ·rw [if_pos h1] at h
   have e:(i+n).toNat=j:=UF h
   exact⟨by rw [seqIndex_neg (by omega) h1,e],by omega,h1,by omega⟩
  ·rw [if_neg h1] at h; cases h
theorem L4{α:Type}{xs:List α}{i:Int}{v:α}(h:atI xs i=some v):∃j,seqIndex? i xs.length=some j/\xs[j]?=some v/\j<xs.length/\-(xs.length:Int)<=i/\i<xs.length:=by
 unfold atI at h
 cases e:Rc xs.length i with
 | none=>rw [e] at h; cases h
 | some j =>
  rw [e] at h
  obtain⟨h1,h2,h3,h4⟩:=Pj e
  exact⟨j,h1,h,h2,h3,h4⟩
theorem AQ{α:Type}{xs:List α}{j:Nat}{v:α}(h:xs[j]?=some v):atI xs (j:Int)=some v:=by
 have hj:j<xs.length:=(TW.mp h).1
 have e:Rc xs.length (j:Int)=some j:=by
  unfold Rc
  rw [if_pos (by omega),if_pos (by omega)]; simp
 unfold atI; rw [e]; exact h
theorem UL{α:Type}(xs:List α)(v:α):atI (xs++[v]) (-1)=some v:=by
 have hl:(xs++[v]).length=xs.length+1:=by simp
 have e:Rc (xs++[v]).length (-1)=some xs.length:=by
  unfold Rc
  rw [hl,if_neg (by decide),if_pos (by omega)]
  congr 1
  omega
 unfold atI
 rw [e]
 show (xs++[v])[xs.length]?=some v
 simp
noncomputable def QO(b:Expr):Prop:=∀o i,subscripted b false o i=operate [o,i] (getItem o i)
noncomputable def IxR(X:Cx)(r:R2):Prop :=
 ∀(value slice:Expr) (pins:List (Addr×Obj)) (s:Shared) (σ:St) (H:Hp) (x y:V) (v u:Value) (Q:VK),Inv X pins σ H s->RelV x v->RelV y u->r x y H Q ->
  subscripted slice false v u=operate [v,u] (getItem v u)->wpAny (model X.prog X.w) X.A (subscriptTail value slice v u) (EP X pins σ Q) X.xe s
noncomputable def Zg(X:Cx)(id:String)(r:V->List V->Hp->VK->Prop):Prop :=
 ∀(pins:List (Addr×Obj)) (s:Shared) (σ:St) (H:Hp) (x:V) (xs:List V) (v:Value) (us:List Value) (Q:VK),Inv X pins σ H s->RelV x v->Vals xs us->r x xs H Q ->
  wpAny (model X.prog X.w) X.A (call (.builtin id) (v::us)) (EP X pins σ Q) X.xe s
section
variable {X:Cx}{a b:Expr}{ta tb:TE}{pos:Pos}
theorem IxR.or{r r':R2}(h:IxR X r)(h':IxR X r'):IxR X (λx y H Q=>r x y H Q\/r' x y H Q):=by
 intro value slice pins s σ H x y v u Q I rx ry q hs
 rcases q with q | q
 ·exact h value slice pins s σ H x y v u Q I rx ry q hs
 ·exact h' value slice pins s σ H x y v u Q I rx ry q hs
theorem BD{r:R2}(hr:IxR X r)(ha:PE X a ta)(hb:PE X b tb)(hs:QO b):PE X (.Subscript a b pos) (Cd r ta tb):=by
 intro pins s σ H Q I h
 exact Subscript_ (YB ha hb I h λv u s2 x y H2 I2 rx ry q=>hr a b pins s2 σ H2 x y v u Q I2 rx ry q (hs _ _))
noncomputable def Qe(K:Frag):R2:=λx y H Q=>∃p xs i v,x=.ref p/\y=.int i/\SqL K H p xs/\atI xs i=some v/\Q v H
noncomputable def Y2(K:Frag):R2:=λx y H Q=>∃p xs i v,x=.ref p/\y=.int i/\SqT K H p xs/\atI xs i=some v/\Q v H
noncomputable def Y3:R2:=λx y H Q=>∃z i c,x=.str z/\y=.int i/\z.length<=sizeLine/\atI z.cps.toList i=some c/\Q (.str ⟨#[c]⟩) H
theorem ix_list:IxR X (Qe X.K):=by
 intro value slice pins s σ H x y v u Q I rx ry h hs
 obtain⟨p,xs,i,z,rfl,rfl,hq,he,q⟩:=h
 cases rx
 obtain⟨t,rfl⟩:=ry
 obtain⟨its,r,pl,hz⟩:=I.list hq
 obtain⟨j,h1,h2,h3,h4,h5⟩:=L4 he
 obtain⟨w,ew,rw'⟩:=r.get h2
 have hl:=r.length
 have hn:=Gz
 have fin:EP X pins σ Q w s:=⟨z,H,I,rw',q⟩
 by_cases h0:0<=i
 ·have hj:i.toNat=j:=by
   rw [seqIndex_of h0 h5] at h1
   exact UF h1
  exact item_listR pl.isList h0 (by omega) (by rw [hj]; simpa using ew) fin hs
 ·have hj:(i+(its.toArray.size:Int)).toNat=j:=by
   rw [seqIndex_neg (by omega) h4] at h1
   rw [Re,← hl]
   exact UF h1
  exact subscriptTail_builtinR (x:=w) pl.isList.typeIs gm.lookup
   (wpAny_getItem_list_neg (Q:=λr s'=>r=w/\EP X pins σ Q r s') pl.isList (by omega) (by rw [Re] <;> omega) (by omega) (by rw [hj]; simpa using ew) ⟨rfl,fin⟩) hs
theorem ix_tup:IxR X (Y2 X.K):=by
 intro value slice pins s σ H x y v u Q I rx ry h hs
 obtain⟨p,xs,i,z,rfl,rfl,hq,he,q⟩:=h
 cases rx
 obtain⟨t,rfl⟩:=ry
 obtain⟨its,r,pl,hz⟩:=I.tuple hq
 obtain⟨j,h1,h2,h3,h4,h5⟩:=L4 he
 obtain⟨w,ew,rw'⟩:=r.get h2
 have hl:=r.length
 have hn:=Gz
 have fin:EP X pins σ Q w s:=⟨z,H,I,rw',q⟩
 exact subscriptTail_builtinR (x:=w) pl.typeIs bZ.lookup
  (getItem_tuple (j:=j) (Q:=λr s'=>r=w/\EP X pins σ Q r s') pl (by omega) (by omega) (by rw [Re,← hl]; exact h1) (by simpa using ew) ⟨rfl,fin⟩) hs
theorem Xp:IxR X Y3:=by
 intro value slice pins s σ H x y v u Q I rx ry h hs
 obtain⟨z,i,c,rfl,rfl,hz,he,q⟩:=h
 obtain⟨t,rfl⟩:=rx
 obtain⟨t',rfl⟩:=ry
 obtain⟨j,h1,h2,h3,h4,h5⟩:=L4 he
 have hl:z.cps.toList.length=z.length:=by simp [Str.length]
 rw [hl] at h1 h4 h5
 have hn:=Gz
 exact tail_any (fR s z t) slot_str_getitem.lookup (getItem_str (c:=c) (by
  have e1:decide (i < -(2 ^ 63:Int))=false:=decide_eq_false (by omega)
  have e2:decide (i≥2 ^ 63)=false:=decide_eq_false (by omega)
  rw [e1,e2,Bool.or_false]) (by rw [h1]; simpa using h2) ⟨.str ⟨#[c]⟩,H,I.tok _,⟨_,rfl⟩,q⟩) hs
noncomputable def aV(K:Frag):R2:=λx y H Q=>Qe K x y H Q\/Y2 K x y H Q\/Y3 x y H Q
theorem AS:IxR X (aV X.K):=ix_list.or (ix_tup.or Xp)
theorem Ob(its:List Value)(n j:Nat)(u:Value):b9 (·.setIfInBounds j u) { cls:=.type "list",data:=.seq its.toArray n }={ cls:=.type "list",data:=.seq (its.set j u).toArray n }:=by
 simp [b9]
theorem Inv.lst{pins:List (Addr×Obj)}{σ:St}{H:Hp}{s:Shared}{p:Addr}{xs:List V}(I:Inv X pins σ H s)(h:H p=some (.lst xs)) :
  ∃(its:List Value) (n:Nat),Vals xs its/\s.heap.get? p=some { cls:=.type "list",data:=.seq its.toArray n }/\xs.length<=sizeLine:=by
 obtain⟨z,its,n,r,e⟩:=I.hok p _ h
 exact⟨its,n,r,e,z⟩
theorem Inv.lstUpd{pins:List (Addr×Obj)}{σ:St}{H:Hp}{s:Shared}{p:Addr}{xs ys:List V}{its its':List Value}{n n':Nat}{f:Obj->Obj}(I:Inv X pins σ H s)(h:H p=some (.lst xs))
  (ho:s.heap.get? p=some { cls:=.type "list",data:=.seq its.toArray n }) (hf:f { cls:=.type "list",data:=.seq its.toArray n }={ cls:=.type "list",data:=.seq its'.toArray n' }) (r:Vals ys its') (hz:ys.length<=sizeLine) (t:Nat) :
  Inv X pins σ (As H p (.lst ys)) { s with heap:=s.heap.update p f,toks:=t }:=by
 have e:(s.heap.update p f).get? p=some { cls:=.type "list",data:=.seq its'.toArray n' }:=by
  rw [da f ho (by rw [hf] <;> rfl),hf]
 refine I.write (x:=p) (e:=p) (by rw [h]; trivial) (.inl rfl) (λb u hb q=>(bN _ _ (bp hb)).trans q) ⟨_,e⟩ ?_
 exact⟨hz,its',n',r,e⟩
noncomputable def Sd:V->V->V->Hp->(Hp->Prop)->Prop:=λo i v H Q=>∃p xs k j,o=.ref p/\i=.int k/\H p=some (.lst xs)/\Rc xs.length k=some j/\Q (As H p (.lst (xs.set j v)))
theorem set_list:Zb X Sd:=by
 intro pins s σ H o i v ov iv u Q I ro ri rv h
 obtain⟨p,xs,k,j,rfl,rfl,hp,hj,q⟩:=h
 cases ro
 obtain⟨t,rfl⟩:=ri
 obtain⟨its,n,r,ho,hz⟩:=I.lst hp
 obtain⟨h1,h2,h3,h4⟩:=Pj hj
 have hl:=r.length
 have hn:=Gz
 have I':Inv X pins σ (As H p (.lst (xs.set j v))) { s with heap:=s.heap.update p (b9 (·.setIfInBounds j u)) } :=
  I.lstUpd hp ho (Ob its n j u) (r.set rv j) (by rw [de]; exact hz) s.toks
 by_cases h0:0<=k
 ·have hk:k.toNat=j:=by
   rw [seqIndex_of h0 h4] at h1
   exact UF h1
  exact PySem.W.ki_setAt ho h0 (by omega) (by rw [Re,← hl]; exact h4) (by rw [hk]; exact⟨_,I',q⟩)
 ·have hk:(k+(its.toArray.size:Int)).toNat=j:=by
   rw [seqIndex_neg (by omega) h3] at h1
   rw [Re,← hl]
   exact UF h1
  exact PySem.W.ki_setBack ho (by omega) (by rw [Re,← hl]; exact h3) (by omega) (by rw [hk]; exact⟨_,I',q⟩)
theorem K8(lo hi:Option Int)(n:Nat):(sliceBounds lo hi none n).1=((HT.sIx n 0 lo:Nat):Int)/\(sliceBounds lo hi none n).2.1=((HT.sIx n n hi:Nat):Int)/\(sliceBounds lo hi none n).2.2=1:=by
 refine⟨?_,?_,rfl⟩
 ·cases lo with
  | none=>simp [sliceBounds,HT.sIx]
  | some i =>
   simp only [sliceBounds,HT.sIx,Option.getD_none,show (1:Int) > 0 by decide,if_true]
   by_cases h:i<0
   ·simp only [h,if_true] <;> omega
   ·simp only [h,if_false] <;> omega
 ·cases hi with
  | none=>simp [sliceBounds,HT.sIx]
  | some i =>
   simp only [sliceBounds,HT.sIx,Option.getD_none,show (1:Int) > 0 by decide,if_true]
   by_cases h:i<0
   ·simp only [h,if_true] <;> omega
   ·simp only [h,if_false] <;> omega
theorem Jj(its:List Value)(lo hi:Option Int):slicePick its.toArray lo hi none=((its.drop (HT.sIx its.length 0 lo)).take (HT.sIx its.length its.length hi - HT.sIx its.length 0 lo)).toArray:=by
 obtain⟨h1,h2,h3⟩:=K8 lo hi its.toArray.size
 unfold slicePick
 rw [h1,h2,h3]
 simp only [sliceRange_one,pick_run,Re] <;> rfl
noncomputable def Yx(K:Frag):V->Option Int->Option Int->Hp->VK->Prop:=λx lo hi H Q=>∃a xs,x=.ref a/\SqL K H a xs/\∀p,H p=none->Q (.ref p) (As H p (.lst (Jz xs lo hi)))
theorem sl_list:SlR X (Yx X.K):=by
 intro pins s σ H x v vl vu lo hi sl Q I rx hs pl pu h
 obtain⟨a,xs,rfl,hx,q⟩:=h
 cases rx
 obtain⟨its,r,ht,hz⟩:=I.list hx
 have hlen:=r.length
 refine⟨"list",_,gm.lookup,ht.isList.typeIs,?_⟩
 refine wpAny_getItem_list_slice ht.isList hs pl pu .none (by simp) ?_ (by rw [Re] <;> omega)
 rw [Jj,← hlen]
 refine⟨.ref s.heap.objs.size,_,I.laid (t':=s.toks) (o:=.lst (Jz xs lo hi)) (λb ob q=>Ev _ q) (Op _) ?_,rfl,q _ (I.hok.fresh (Op _))⟩
 exact⟨bS (HI xs lo hi) hz,_,0,(r.drop (HT.sIx xs.length 0 lo)).take (HT.sIx xs.length xs.length hi - HT.sIx xs.length 0 lo),Sc _ rfl⟩
noncomputable def Wa:V->Bool
 | .non=>true
 | .bl _=>true
 | .int _=>true
 | .str _=>true
 | _=>false
noncomputable def ZO:V->V->Bool
 | .non,.non=>true
 | .bl a,.bl b=>a==b
 | .bl a,.int b=>(if a then 1 else 0)==b
 | .int a,.bl b=>a==(if b then 1 else 0)
 | .int a,.int b=>a==b
 | .str a,.str b=>a==b
 | _,_=>false
theorem Ln{A:Around}{s:Shared}{y x:V}{u v:Value}(ry:RelV y u)(rx:RelV x v)(fy:Wa y=true)(fx:Wa x=true):SeqAt.EqAt A s u v (ZO y x):=by
 cases y with
 | non =>
  cases ry
  cases x with
  | non=>cases rx; exact SeqAt.EqAt.same _
  | bl b=>cases rx; exact SeqAt.EqAt.none_bool b
  | int b=>obtain⟨t,rfl⟩:=rx; exact SeqAt.EqAt.none_int b t
  | str b=>obtain⟨t,rfl⟩:=rx; exact SeqAt.EqAt.none_str b t
  | _=>exact absurd (show false=true from fx) bG
 | bl a =>
  cases ry
  cases x with
  | non=>cases rx; exact SeqAt.EqAt.bool_none a
  | bl b=>cases rx; exact SeqAt.EqAt.bool_bool a b
  | int b=>obtain⟨t,rfl⟩:=rx; exact SeqAt.EqAt.bool_int a b t
  | str b=>obtain⟨t,rfl⟩:=rx; exact SeqAt.EqAt.bool_str a b t
  | _=>exact absurd (show false=true from fx) bG
 | int a =>
  obtain⟨t',rfl⟩:=ry
  cases x with
  | non=>cases rx; exact SeqAt.EqAt.int_none a t'
  | bl b=>cases rx; exact SeqAt.EqAt.int_bool a t' b
  | int b=>obtain⟨t,rfl⟩:=rx; exact SeqAt.EqAt.int_int a t' b t
  | str b=>obtain⟨t,rfl⟩:=rx; exact iz a t' b t
  | _=>exact absurd (show false=true from fx) bG
 | str a =>
  obtain⟨t',rfl⟩:=ry
  cases x with
  | non=>cases rx; exact SeqAt.EqAt.str_none a t'
  | bl b=>cases rx; exact SeqAt.EqAt.str_bool a t' b
  | int b=>obtain⟨t,rfl⟩:=rx; exact i4 a t' b t
  | str b=>obtain⟨t,rfl⟩:=rx; exact SeqAt.EqAt.str_str a t' b t
  | _=>exact absurd (show false=true from fx) bG
 | _=>exact absurd (show false=true from fy) bG
theorem L3:B_ X (.type "list") (λxs H Q=>∃p ys,xs=[.ref p]/\(SqL X.K H p ys\/SqT X.K H p ys)/\∀l,H l=none->Q (.ref l) (As H l (.lst ys))):=by
 intro pins s σ H xs us Q I r h
 obtain⟨p,ys,rfl,hq,q⟩:=h
 obtain⟨u,rfl,rx⟩:=vals1 r
 cases rx
 have fin:∀(its:List Value),Vals ys its->ys.length<=sizeLine->∀(h':Heap) (c':Nat),(∀b o',s.heap.get? b=some o'->h'.get? b=some o') ->
   h'.get? s.heap.objs.size=some { cls:=.type "list",dict:=none,data:=.seq its.toArray c',slots:=#[] }->EP X pins σ Q (.ref s.heap.objs.size) { s with heap:=h' }:=λits r' hz h' c' kp e =>
  ⟨.ref s.heap.objs.size,_,I.laid (t':=s.toks) kp (Op _) (show ObjOk X.prog X.w _ h' _ (.lst ys) from⟨hz,its,c',r',e⟩),rfl,q _ (I.hok.fresh (Op _))⟩
 rcases hq with hq | hq
 ·obtain⟨its,r',pl,hz⟩:=I.list hq
  have hlen:=r'.length
  obtain⟨o,ho,hc,n,hd⟩:=pl.isList
  exact call_list_seq p (.inl rfl) ho hc hd (λh' c' kp e=>fin its r' hz h' c' kp e) (by simp only [Re] <;> omega)
 ·obtain⟨its,r',pl,hz⟩:=I.tuple hq
  have hlen:=r'.length
  obtain⟨o,ho,hc,n,hd⟩:=pl
  exact call_list_seq p (.inr rfl) ho hc hd (λh' c' kp e=>fin its r' hz h' c' kp e) (by simp only [Re] <;> omega)
theorem BU:B_ X (.type "tuple") (λxs H Q=>∃p ys,xs=[.ref p]/\((SqL X.K H p ys/\∀l,H l=none->Q (.ref l) (As H l (.tup ys)))\/(SqT X.K H p ys/\Q (.ref p) H))):=by
 intro pins s σ H xs us Q I r h
 obtain⟨p,ys,rfl,h⟩:=h
 obtain⟨u,rfl,rx⟩:=vals1 r
 cases rx
 rcases h with ⟨hq,q⟩ | ⟨hq,q⟩
 ·obtain⟨its,r',pl,hz⟩:=I.list hq
  have hlen:=r'.length
  refine call_tuple_list pl.isList (λh' kp=>?_) (by simp only [Re] <;> omega)
  have I1:Inv X pins σ H { s with heap:=h' }:=I.kept (t':=s.toks) kp
  have I2:Inv X pins σ (As H h'.objs.size (.tup ys)) { s with heap:=h'.push { cls:=.type "tuple",data:=.seq its.toArray } } :=
   I1.laid (t':=s.toks) (λb o e=>Ev _ e) (Op _) (show ObjOk X.prog X.w _ _ _ (.tup ys) from⟨hz,its,r',IsTupN.new _ _⟩)
  exact⟨.ref h'.objs.size,_,I2,rfl,q _ (I1.hok.fresh (Op _))⟩
 ·obtain⟨its,r',pl,hz⟩:=I.tuple hq
  exact call_tuple_same pl ⟨.ref p,H,I,rfl,q⟩
noncomputable def Z2(K:Frag)(T:String)(x:V)(H:Hp):Prop:=match x with
 | .str _=>T = "str"
 | .int _=>T = "int"
 | .ref p=>(T = "list"/\∃xs,SqL K H p xs)\/(T = "tuple"/\∃o,K.lookup p=some o/\o.cls=.type "tuple"/\o.dict=none) \/
   (T = "dict"/\((∃kvs,H p=some (.dK kvs))\/∃kvs,H p=some (.dT kvs)))\/(T = "set"/\∃S n,H p=some (.set S n))
 | _=>False
theorem Wy{pins:List (Addr×Obj)}{σ:St}{H:Hp}{s:Shared}{T:String}{x:V}{v:Value}(I:Inv X pins σ H s)(r:RelV x v)(ty:Z2 X.K T x H) :
  s.TypeIs v T/\∀a,v=.ref a->∃ob,s.heap.get? a=some ob/\ob.dict=none:=by
 cases x with
 | str z =>
  obtain⟨t,rfl⟩:=r
  cases (show T = "str" from ty)
  exact⟨fR s z t,λ_ e=>nomatch e⟩
 | int i =>
  obtain⟨t,rfl⟩:=r
  cases (show T = "int" from ty)
  exact⟨typeIs_int s i t,λ_ e=>nomatch e⟩
 | ref p =>
  cases r
  rcases ty with ⟨rfl,xs,hq⟩ | ⟨rfl,o,hk,hc,hd⟩ | ⟨rfl,hk⟩ | ⟨rfl,S,n,hk⟩
  ·obtain⟨its,_,pl,_⟩:=I.list hq
   refine⟨pl.isList.typeIs,λa e=>?_⟩
   cases e
   obtain⟨o,n,e,c,hd,_⟩:=pl
   exact⟨o,e,hd⟩
  ·refine⟨⟨o,I.kIn p o hk,hc⟩,λa e=>?_⟩
   cases e
   exact⟨o,I.kIn _ o hk,hd⟩
  ·have z:∃o,s.heap.get? p=some o/\o.ExactDict:=by
    rcases hk with ⟨kvs,hk⟩ | ⟨kvs,hk⟩
    ·obtain⟨_,_,_,_,o,_,_,e,ex,_⟩:=I.hok p _ hk
     exact⟨o,e,ex⟩
    ·obtain⟨_,_,_,_,o,_,_,e,ex,_⟩:=I.hok p _ hk
     exact⟨o,e,ex⟩
   obtain⟨o,e,ex⟩:=z
   refine⟨⟨o,e,ex.1⟩,λa e2=>?_⟩
   cases e2
   exact⟨o,e,ex.2.1⟩
  ·obtain⟨o,_,_,_,e,ex,_⟩:=I.hok p _ hk
   refine⟨⟨o,e,ex.1⟩,λa e2=>?_⟩
   cases e2
   exact⟨o,e,ex.2.1⟩
 | _=>exact cv ty
noncomputable def au(K:Frag)(T:String)(r:V->List V->Hp->VK->Prop)(to:TE)(t:TA):TE:=λσ H Q=>to σ H λx H1=>Z2 K T x H1/\t σ H1 λxs H2=>r x xs H2 Q
variable {o e:Expr}{es:List Expr}{to:TE}{t:TA}{name:Str}{apos cpos:Pos}{T id:String}{r:V->List V->Hp->VK->Prop}
theorem Y9(pa:PlainAttrs T)(slot:Slot T name id)(hty:typeOf (.builtin id)=pure (.type "method_descriptor"))(hm:Zg X id r)(ho:PE X o to)(ha:PA X (e::es) t)
  (hbase:autoParam (attributeBase o name X.env (eval o X.env)=eval o X.env) zau3._auto_1)
  (hfew:autoParam (((backTo cpos (starEach (e::es) X.env)).all (λx=>!x.1)&&(backToKw cpos (keywordEach [] X.env)).all (λx=>x.1.isSome)
   && decide ((e::es).length+([]:List Keyword).length+(if ([]:List Keyword).isEmpty then 0 else 1)<30))=true) zau3._auto_1)
  (hline:autoParam ((apos.endLine==cpos.line)=true) zau3._auto_1) (hs:autoParam (starEach (e::es) X.env=(false,eval e X.env)::starEach es X.env) zau3._auto_1) (hplain:autoParam ((backTo cpos (starEach es X.env)).any (·.1)=false) zau3._auto_1) :
  PE X (.Call (.Attribute o name apos) (e::es) [] cpos) (au X.K T r to t):=by
 intro pins s σ H Q I h
 refine wpAny_Call_method_late hbase hfew hline rfl (thn (ho pins s σ H _ I h) λv s1 ⟨x,H1,I1,r1,ty,q1⟩=>?_)
 obtain⟨h1,h2⟩:=Wy I1 r1 ty
 refine⟨T,id,pa,slot,hty,h1,h2,?_⟩
 have hA:=ha cpos pins s1 σ H1 _ I1 q1
 rw [hs] at hA ⊢
 refine eR (by show (false||(backTo cpos (starEach es X.env)).any (·.1))=false; rw [hplain] <;> rfl) (f8 ?_)
 exact thn hA λus s2 ⟨vs,H2,I2,r2,q2⟩=>hm pins s2 σ H2 x vs v us Q I2 r1 r2 q2
end
noncomputable def ah(X:Cx)(id:String)(r:V->List V->Hp->VK->Prop):Prop :=
 ∀(pins:List (Addr×Obj)) (s:Shared) (σ:St) (H:Hp) (x:V) (xs:List V) (v:Value) (us:List Value) (Q:VK),Inv X pins σ H s->RelV x v->Vals xs us->r x xs H Q ->
  wpAny (model X.prog X.w) X.A (call (.builtin id) (v::us)) (EP X pins σ Q) X.xe s
theorem Vals.one:∀{x:V} {us:List Value},Vals [x] us->∃u,us=[u]/\RelV x u
 | _,_,.cons r .nil=>⟨_,rfl,r⟩
theorem Vals.eraseIdx:∀{xs:List V} {us:List Value} (i:Nat),Vals xs us->Vals (xs.eraseIdx i) (us.eraseIdx i)
 | _,_,_,.nil=>.nil
 | _,_,0,.cons _ t=>t
 | _,_,i+1,.cons r t=>.cons r (Vals.eraseIdx i t)
theorem Vals.reverse{xs:List V}{us:List Value}(h:Vals xs us):Vals xs.reverse us.reverse:=by
 induction h with
 | nil=>exact .nil
 | cons r t ih=>rw [eW,eW]; exact Vals.append ih (.cons r .nil)
theorem Vals.rep{xs:List V}{us:List Value}(h:Vals xs us):∀k:Nat,Vals (Uf k xs).flatten (Uf k us).flatten
 | 0=>.nil
 | k+1=>by
  rw [eI,eI,fb,fb]
  exact Vals.append h (Vals.rep h k)
theorem KW{α:Type}:∀(l:List α) (i:Nat),(l.eraseIdx i).length<=l.length
 | [],_=>Op _
 | _::_,0=>cY _
 | _::r,i+1=>g9 (KW r i)
theorem foldl_rep(its:List Value):∀(k:Nat) (acc:List Value),
  List.foldl (λx1 x2=>x1++x2) acc.toArray (Uf k its.toArray)=(acc++(Uf k its).flatten).toArray
 | 0,acc=>by simp
 | k+1,acc=>by
  have e:acc.toArray++its.toArray=(acc++its).toArray:=by simp
  have e2:(acc++its)++(Uf k its).flatten=acc++(Uf (k+1) its).flatten:=by
   rw [eI,fb,cW]
  rw [← e2,← foldl_rep its k (acc++its),← e,eI,List.foldl_cons]
section
variable {X:Cx}{pins:List (Addr×Obj)}{σ:St}{H:Hp}{s:Shared}{l b:Addr}{xs ys zs:List V}
theorem Inv.lset{its its':List Value}{n:Nat}{f:Array Value->Array Value}{t':Nat}(I:Inv X pins σ H s)(hH:H l=some (.lst xs))
  (e:s.heap.get? l=some { cls:=.type "list",data:=.seq its.toArray n }) (hf:f its.toArray=its'.toArray) (hv:Vals ys its') (hz:ys.length<=sizeLine) :
  Inv X pins σ (As H l (.lst ys)) { s with heap:=s.heap.update l (b9 f),toks:=t' }:=by
 have q:=PySem.IsL.update e f
 rw [hf] at q
 refine I.write (x:=l) (e:=l) (by rw [hH]; exact trivial) (.inl rfl) (λb' u hb hu=>(bN s.heap (b9 f) (bp hb)).trans hu) ⟨_,q⟩ ?_
 exact⟨hz,its',_,hv,q⟩
theorem Inv.lnew{its:List Value}{t':Nat}(I:Inv X pins σ H s)(hv:Vals ys its)(hz:ys.length<=sizeLine) :
  Inv X pins σ (As H s.heap.objs.size (.lst ys)) { s with heap:=s.heap.push { cls:=.type "list",data:=.seq its.toArray },toks:=t' } :=
 I.laid (λ_ _ q=>Ev _ q) (Op _) ⟨hz,its,0,hv,Sc _ rfl⟩
theorem Inv.fresh(I:Inv X pins σ H s):H s.heap.objs.size=none:=I.hok.fresh (Op _)
theorem Inv.lstM(I:Inv X pins σ H s)(hH:H l=some (.lst xs)):xs.length<=sizeLine/\∃(its:List Value) (n:Nat),Vals xs its/\xs.length=its.length/\s.heap.get? l=some { cls:=.type "list",data:=.seq its.toArray n }:=by
 obtain⟨z,its,n,r,e⟩:=I.hok l _ hH
 exact⟨z,its,n,r,r.length,e⟩
theorem NA{n:Nat}(h:n<=sizeLine):d_ n=false:=by
 unfold d_
 exact decide_eq_false (by omega)
end
section
variable {X:Cx}
noncomputable def PL:V->List V->Hp->VK->Prop:=λx vs H Q=>∃l xs y,x=.ref l/\vs=[y]/\H l=some (.lst xs)/\xs.length<sizeLine/\Q .non (As H l (.lst (xs++[y])))
theorem DC:ah X "list.append" PL:=by
 intro pins s σ H x vs v us Q I rx rv h
 obtain⟨l,xs,y,rfl,rfl,hH,hz,q⟩:=h
 cases rx
 obtain⟨u,rfl,ru⟩:=rv.one
 obtain⟨z,its,n,r,hl,e⟩:=I.lstM hH
 refine gx F.slot_list_append ⟨_,e,rfl⟩ F.entry_list_append (F.args_list_append_2 _ _) (PySem.list_append l its.toArray n u (by rw [Re]; omega)) ⟨e,?_⟩
 refine⟨.non,_,I.lset (its':=its++[u]) hH e (by simp) (r.append (.cons ru .nil)) ?_,rfl,q⟩
 rw [bD,bW]
 omega
noncomputable def aB:R2:=λx y H Q=>∃l k xs,x=.ref l/\y=.int k/\H l=some (.lst xs)/\-(2 ^ 63)<=k/\k<2 ^ 63/\xs.length*k.toNat<=sizeLine /\
 ∀p,H p=none->Q (.ref p) (As H p (.lst (Uf k.toNat xs).flatten))
theorem len_rep{α:Type}(xs:List α)(k:Nat):(Uf k xs).flatten.length=k*xs.length:=by
 induction k with
 | zero=>simp
 | succ k ih=>rw [eI,fb,bD,ih,Nat.succ_mul,Nat.add_comm]
theorem XY:OpR X (binaryOp .Mult) aB:=by
 intro pins s σ H x y v u Q I rx ry h
 obtain⟨l,k,xs,rfl,rfl,hH,h1,h2,hz,q⟩:=h
 cases rx
 obtain⟨t,rfl⟩:=ry
 obtain⟨z,its,n,r,hl,e⟩:=I.lstM hH
 have hlen:its.toArray.size*k.toNat<=sizeLine:=by rw [Re,← hl]; exact hz
 have hcap:¬its.toArray.size*k.toNat > (2 ^ 63 - 1) / 8:=by
  have:(sizeLine:Nat)<=(2 ^ 63 - 1) / 8:=by decide
  omega
 have hfit:¬(!Builtin.List.listFitsIndex k)=true:=by
  rw [fitsIndex_both h1 h2]
  exact bG
 have hlong:¬d_ (its.toArray.size*k.toNat)=true:=by
  rw [NA hlen]
  exact bG
 have hnew:List.foldl (λx1 x2=>x1++x2) #[] (Uf (if its.toArray.isEmpty=true then 0 else k.toNat) its.toArray)=(Uf k.toNat its).flatten.toArray:=by
  have f0:∀m:Nat,List.foldl (λx1 x2=>x1++x2) #[] (Uf m its.toArray)=(Uf m its).flatten.toArray:=λm=>by
   have:=foldl_rep its m []
   rw [cD] at this
   exact this
  rw [f0]
  cases its with
  | nil=>simp
  | cons a r'=>rw [if_neg (by simp)]
 refine wpAny_binaryOp_repeat_ref (T := "list") (U := "int") (by decide) ⟨_,e,rfl⟩ (λs'=>typeIs_int s' k t) noFill_list_mul F.fills_int_mul F.slot_int_rmul repeat_list F.slot_int_index.lookup
  (gx F.slot_int_rmul (typeIs_int s k t) F.entry_int_rmul (F.args_int_rmul_2 _ _) (int___rmul___int_list k t l its.toArray n)
   ⟨e,rfl,⟨_,e,rfl⟩,gx F.slot_list_mul ⟨_,e,rfl⟩ F.entry_list_mul (F.args_list_mul_2 _ _) (AutoListH.list___mul___list_int_3 l its.toArray n k t hfit hcap hlong) ⟨e,?_⟩⟩)
 rw [hnew]
 exact⟨.ref _,_,I.lnew (t':=s.toks) (r.rep k.toNat) (by rw [len_rep,Nat.mul_comm]; exact hz),rfl,q _ I.fresh⟩
end
section
variable {prog:Program}{w:World}{A:Around}{E:Value->Shared->Prop}{s:Shared}
end
section
variable {X:Cx}
end
end L2
namespace Att
open PySem PySem.W PySem.Calls PyProof.Rows
theorem Hj{P:Params}{h:Heap}:∀(ns:List Int) (vs:List Value),WellAll P h vs (ns.map WData.int)->IntsAre vs ns:=by
 intro ns
 induction ns with
 | nil =>
  intro vs w
  rw [eY] at w
  cases w
  exact .nil
 | cons n ns ih =>
  intro vs w
  rw [bE] at w
  cases w with
  | cons a b =>
   cases a
   exact .cons _ _ (ih _ b)
theorem QZ{l:OpenLaw}{n:Nat}(hn:l.most=some n){P:Params}{h:Heap}{args:List WData}{vals:List Value}
  (hpre:l.row.toRowW.claim.pre args=true) (hwl:WellAll P h vals args) :
  ∃a vs ns,vals=[bT a]/\args=[WData.list (ns.map WData.int)]/\h.get? a=some { cls:=.type "list",data:=.seq vs.toArray }/\IntsAre vs ns/\ns.length<=n:=by
 have hsh:WShape.hasAll [] args [.list .int]=true:=(pre_splitW hpre).1
 have hc:l.pre.holds [] { args:=args }=true:=(pre_splitW hpre).2
 obtain⟨d,r,rfl,h1,h2⟩:=hasAllW_cons hsh
 obtain rfl:=hasAllW_nil h2
 obtain⟨xs,rfl,h3⟩:=hasW_list h1
 obtain⟨ns,rfl⟩:=items_int h3
 have hlen:ns.length<=n:=by
  unfold OpenLaw.pre at hc
  have h4:(WTm.not (.lt (.lit (.int (n:Int))) (.len (.arg 0)))).holds [] { args:=[.list (ns.map .int)] }=true:=by
   have h4:=(holds_andW hc).1
   rw [hn] at h4
   exact h4
  have h5:=condW_of h4 (w_not (w_lt w_lit (w_len_list (w_arg rfl))))
  rw [FM] at h5
  refine Nat.le_of_not_lt λq=>?_
  have q':(n:Int)<((ns.length:Nat):Int):=by omega
  first
   | (rw [decide_eq_true q'] at h5; exact absurd h5 (by decide))
   | (simp at h5; omega)
 cases hwl with
 | cons w1 w2 =>
  cases w2
  cases w1 with
  | list ho hall=>exact⟨_,_,ns,rfl,rfl,ho,Hj ns _ hall,hlen⟩
theorem Qi(l:OpenLaw)(args:List WData):l.row.toRowW.claim.post args (.bool true) args=true :=
 postW_of (r:=l.row.toRowW) (X:=(true==true))
  (show WShape.has [] (.bool true) .bool=true by first | rfl | decide | simp [WShape.has,WShape.arms,WShape.armsAll])
  (show (WTm.eq .res (.lit (.bool true))).value [] { args:=args,res:=some (.bool true),after:=args }=some (.bool (true==true)) from w_eq_bool (w_res rfl) w_lit) rfl
theorem attach_call{l:OpenLaw}{n:Nat}{q:Program}{loose:List Str}{XP:(Str->Option Value)->Heap->Prop}{YP:World->Heap->Prop}{d:DefRec}
  (hn:l.most=some n) (hdf:d.params.defaults=[])
  (call:∀(w:World) (s₀ s₁:Shared) (mg mb:Str->Option Value) (fa:Addr) (o:Obj) (pm cd doc:Value) (a:Addr) (vs:List Value) (ns:List Int),
   Ground q loose [] XP w s₀ mg mb s₁.heap->YP w s₁.heap ->
   s₁.heap.get? fa=some o->o.data=.func (docDef d.name d.params d.body d.scope pm cd doc)->s₁.heap.CodeRec cd d.name->mg d.name=some (.ref fa) ->
   s₁.heap.get? a=some { cls:=.type "list",data:=.seq vs.toArray }->IntsAre vs ns->ns.length<=n->s₁.gens=#[] ->
   codeAny (model l.prog w) callerA (.call (.ref fa) ⟨[.ref a],[]⟩) (λr s'=>r=.ok (.ret (.bool true))/\OldK s₁.heap s'.heap/\s'.os=s₁.os/\AllBare s'.gens) s₁) :
  WalkO q loose XP YP l.row.toRowW d [] (λf vs=>PySem.call f vs):=by
 intro w s₀ s₁ mg mb G Y fa o pm cd doc dV kV ho hd hcd hD hmg hg args vals as hpre hlay hrd hwl hlo
 obtain rfl:dV=.none:=Dflts.none hD hdf
 obtain rfl:kV=.none:=Dflts.noKw hD
 obtain⟨a,vs,ns,rfl,rfl,hobj,hints,hlen⟩:=QZ hn hpre hwl
 refine enter_call (gz (call w s₀ s₁ mg mb fa o pm cd doc a vs ns G Y ho (fd_plain hd) hcd hmg hobj hints hlen hg) λr s' hq=>?_)
 obtain⟨rfl,h2,h3,h4⟩:=hq
 exact⟨.inl ⟨.bool true,.bool true,[],rfl,λ_=>rfl,.bool true,Qi l _,λ_=>⟨gn,λ_ hm=>(nomatch hm)⟩⟩,h2,h3,h4⟩
section
variable {prog:Program}{w:World}{A:Around}{E:Value->Shared->Prop}{s:Shared}{K:Frag}
end
end Att
namespace L2
open PySem PySem.Spec PyProof.Rows
theorem J_:∀{vs:List Value} {ns:List Int},IntsAre vs ns->Vals (ns.map V.int) vs
 | _,_,.nil=>.nil
 | _,_,.cons n t h=>.cons ⟨t,rfl⟩ (J_ h)
noncomputable def YR(H:Hp):Prop:=∀b,H b=none\/∃o xs,H b=some (.frz o (.lst xs))
theorem TQ{P:Program}{w:World}{K:Frag}{mg mb:Str->Option Value}{CX:Ud}{k:Nat}{fa a:Addr}{fd:FuncData}{x:Str}{sp:Sp}{s₁:Shared}{vs:List Value}{ns:List Int}
  (KX:K.In s₁.heap) (hns:s₁.heap.Ns mainGlobals mg) (hb:s₁.heap.Ns builtinsNs mb) (hbb:∀x:Str,x ≠ "__name__"->mb x=bootBuiltins x) (hlim:s₁.heap.NoLimit) (hg:s₁.gens=#[])
  (ha:s₁.heap.get? a=some { cls:=.type "list",data:=.seq vs.toArray }) (hi:IntsAre vs ns) (hl:ns.length<=sizeLine) (hr:Room k callerA)
  (F:∀base:Heap,K.In base->base.Ns mainGlobals mg->A0 P w K mg base CX k fa fd [x] sp) (hbind:∀(s:Shared) (u:Value),BindsTo s fd ⟨[u],[]⟩ [(x,u)])
  (hsp:∀H:Hp,YR H->SqL K H a (ns.map V.int)->sp [.ref a] H (λv _=>v=.bl true) λ_ _ _=>False)
  (hCX:∀H e s',CX [] H s₁ (λ_ _ _=>False) e s'->False) :
  codeAny (model P w) callerA (.call (.ref fa) ⟨[.ref a],[]⟩) (λr s'=>r=.ok (.ret (.bool true))/\OldK s₁.heap s'.heap/\s'.os=s₁.os/\AllBare s'.gens) s₁:=by
 have rv:=J_ hi
 have lenV:=hi.length
 have core:∀H:Hp,YR H->SqL K H a (ns.map V.int)->HOk P w H s₁.heap->(∀b,H b≠none->b=a)->(H a≠none->K.lookup a=none) ->
   codeAny (model P w) callerA (.call (.ref fa) ⟨[.ref a],[]⟩) (λr s'=>r=.ok (.ret (.bool true))/\OldK s₁.heap s'.heap/\s'.os=s₁.os/\AllBare s'.gens) s₁:=by
  intro H hO hS hok hA hK
  have base_of:∀{b:Addr} {o:Obj},s₁.heap.get? b=some o->H b=none->(Lj s₁.heap H).get? b=some o:=λe n=>Te e n
  have noA:∀{b:Addr} {o:Obj} {es:Array DictEntry} {ep:Nat},s₁.heap.get? b=some o->o.data=.dict es ep->H b=none:=λ{b o es ep} e d=>by
   cases q:H b with
   | none=>rfl
   | some u =>
    have e':b=a:=hA b (by rw [q]; simp)
    subst e'
    rw [ha] at e; cases e
    have d':Data.seq vs.toArray _=Data.dict es ep:=d
    cases d'
  have nsK:∀{b:Addr} {m:Str->Option Value},s₁.heap.Ns b m->(Lj s₁.heap H).Ns b m:=λ{b m} ⟨o,es,ep,e,d,r⟩=>⟨o,es,ep,base_of e (noA e d),d,r⟩
  have hKb:K.In (Lj s₁.heap H):=λb o e=>base_of (KX b o e) (by
   cases q:H b with
   | none=>rfl
   | some u =>
    have e':b=a:=hA b (by rw [q]; simp)
    subst e'
    rw [hK (by rw [q]; simp)] at e; cases e)
  have hM:Mod K mg (Lj s₁.heap H):=⟨hKb,nsK hns,⟨mb,nsK hb,hbb⟩,let ⟨mc,h1,h2⟩:=hlim; ⟨mc,nsK h1,h2⟩⟩
  have e0:Env0 P w K mg (Lj s₁.heap H) callerA [] s₁ H:=⟨rfl,hM,λb o e=>VH e,g_ (RG _ _),trivial,λb hb=>absurd (show b∈([]:List Addr) from hb) (by simp),hok,.of_eq hg⟩
  refine gz ((F _ hKb (nsK hns)).run callerA [] s₁ H ⟨[.ref a],[]⟩ [.ref a] [.ref a] _ _ hr e0 (hbind s₁ (.ref a)) (.cons rfl .nil) (hsp H hO hS)) λr s' h=>?_
  cases r with
  | error e=>exact(hCX H e s' h).elim
  | ok fl =>
   cases fl with
   | next=>exact cv h
   | brk=>exact cv h
   | cont=>exact cv h
   | ret u =>
    obtain⟨v,H',os,bare,un,hok',r',q⟩:=h
    have q':v=.bl true:=q
    subst q'
    obtain rfl:u=d6 true:=r'
    refine⟨rfl,OldK.of_keep λb o e=>?_,os,bare⟩
    cases q:H b with
    | none=>exact un.keep b o e q (by intro z; exact absurd (show b∈([]:List Addr) from z) (by simp)) (by simp)
    | some u =>
     rcases hO b with z | ⟨ob,xs,z⟩
     ·rw [q] at z; cases z
     ·have z2:=un.frzs b ob _ z
      obtain⟨e1,_⟩:=hok b _ z
      obtain⟨e2,_⟩:=hok' b _ z2
      rw [e] at e1; cases e1
      exact e2
 cases hk:K.lookup a with
 | some o =>
  have e:=KX a o hk
  rw [ha] at e
  cases e
  refine core (λ_=>none) (λ_=>.inl rfl) (.inr ⟨_,vs.toArray,_,hk,rfl,rfl,rfl,by rw [Re,lenV]; exact hl,by simpa using rv⟩) (λb u z=>by have z':(none:Option HO)=some u:=z; cases z') (λb z=>absurd rfl z) λz=>absurd rfl z
 | none =>
  refine core (λb=>if b=a then some (.frz { cls:=.type "list",data:=.seq vs.toArray } (.lst (ns.map V.int))) else none) (λb=>?_) (.inl (.inr ⟨{ cls:=.type "list",data:=.seq vs.toArray },if_pos rfl⟩)) (λb u z=>?_) (λb z=>?_) λ_=>hk
  ·by_cases hb:b=a
   ·exact .inr ⟨_,_,if_pos hb⟩
   ·exact .inl (if_neg hb)
  ·by_cases hb:b=a
   ·have z':=(if_pos hb).symm.trans z
    cases z'
    subst hb
    exact⟨ha,by rw [FM]; exact hl,vs,_,rv,ha⟩
   ·have z':=(if_neg hb).symm.trans z
    cases z'
  ·by_cases hb:b=a
   ·exact hb
   ·exact absurd (if_neg hb) z
theorem O7{l:PySem.W.OpenLaw}{n k:Nat}{q:Program}{loose:List Str}{XP:(Str->Option Value)->Heap->Prop}{YP:World->Heap->Prop}{d:DefRec}{K:Params->Frag}{CX:World->Ud}{sp:World->Sp}{x:Str}
  (hn:l.most=some n) (hn2:n<=sizeLine) (hdf:d.params.defaults=[]) (hr:Room k callerA)
  (hY:∀(w:World) (h:Heap),YP w h->(K w.params).In h)
  (F:∀(w:World) (mg:Str->Option Value) (fa:Addr) (h:Heap),(K w.params).In h->h.Ns mainGlobals mg->mg d.name=some (.ref fa) ->
   ∃fd:FuncData,(∀(s:Shared) (u:Value),BindsTo s fd ⟨[u],[]⟩ [(x,u)]) /\
    ∀base:Heap,(K w.params).In base->base.Ns mainGlobals mg->A0 l.prog w (K w.params) mg base (CX w) k fa fd [x] (sp w))
  (hsp:∀(w:World) (H:Hp) (a:Addr) (ns:List Int),ns.length<=n->YR H->SqL (K w.params) H a (ns.map V.int)->sp w [.ref a] H (λv _=>v=.bl true) λ_ _ _=>False)
  (hCX:∀(w:World) (H:Hp) (s:Shared) (e:Value) (s':Shared),CX w [] H s (λ_ _ _=>False) e s'->False) :
  PySem.W.WalkO q loose XP YP l.row.toRowW d [] (λf vs=>PySem.call f vs):=by
 refine Att.attach_call hn hdf λw s₀ s₁ mg mb fa o pm cd doc a vs ns G Y ho hd hcd hmg hobj hints hlen hg=>?_
 have KX:=hY w _ Y
 obtain⟨fd,hb,hF⟩:=F w mg fa _ KX G.T.g hmg
 exact TQ KX G.T.g G.T.b G.T.builtins G.T.nolimit hg hobj hints (bS hlen hn2) hr hF hb (λH hO hS=>hsp w H a ns hlen hO hS) λH e s'=>hCX w H s₁ e s'
end L2
/- THE LAST THEOREM (shape; LID, My.* are yours):
   My.Adr: a structure of the addresses that your layer names (classes, functions); My.Txt K t: a structure (Prop) of the equations over K;
   My.txt_mk : {K} {implicit addresses ..} (e1 : nsIn K mainGlobals "law" = some (some (.ref f))) (e2 : K.lookup f = some ⟨oc, od, .func (fnOf "law" "law" params body scope dV kV doc pm an cdv ct), sl⟩) (e3 : codeIn K cdv "law" = true) .. : ∃ t, My.Txt K t
set_option maxRecDepth 100000 in
set_option maxHeartbeats 0 in
theorem PySem.Challenge.cw_LID_holds : PySem.Challenge.rw_LID.Holds := by
 w_on; o_law; k_head; (case hw=>w_witness2)
 k_fill
 refine L2.O7 (l:=PySem.Challenge.rw_LID) (n:=63) (k:=40) (x := "script") (CX:=λw=>..) (sp:=λ_=>My.sp_law) rfl (by decide) rfl ⟨rfl,by decide,by decide⟩ (λw h Y=>PySem.W.kIn_of Y) ?F ?S ?C
 case F =>
  intro w mg fa h KX G hmg
  have T:∃t,My.Txt (L2.KOf KX) t:=by
   dsimp only [L2.KOf]                          -- K must stand as «<heap const> w.params» for k_is
   refine' My.txt_mk ?e1 ?e2 ?e3 ..
   (case e1=>PySem.W.k_is)                    -- in the order: a name -> its address -> its object -> its parts
   (case e2=>PySem.W.k_is)
   ..
  obtain⟨t,T⟩:=T
  have e0:=hmg.symm.trans (mg_of KX G T.law)
  cases e0                                       -- fa is the law's own address
  exact⟨_,λs u=>.of_eq rfl,λbase kb nb=>My.law_fn T kb nb⟩     -- if «.of_eq rfl» comes too early: refine' ⟨_,?b,λbase kb nb=>My.law_fn T kb nb⟩; exact λs u=>.of_eq rfl
 case S=>exact λw H a ns hl hO hS=>..
 case C=>exact ..
(the tactic k_is has no namespace: write k_is) -/
namespace L2
open PySem PySem.Spec PyProof.Rows
noncomputable def Cq(s:Stmt):Arguments:=match s with
 | .FunctionDef _ a _ _ _ _ _ _ _ _=>a
 | _=>{ posonlyargs:=[],args:=[],vararg:=none,kwonlyargs:=[],kw_defaults:=[],kwarg:=none,defaults:=[] }
noncomputable def Bo(s:Stmt):List Stmt:=match s with
 | .FunctionDef _ _ b _ _ _ _ _ _ _=>b
 | _=>[]
noncomputable def AN(s:Stmt):Scope:=match s with
 | .FunctionDef _ _ _ _ _ _ sc _ _ _=>sc
 | _=>{ kind:=.function,names:=[],isGenerator:=false,isCoroutine:=false }
noncomputable abbrev Br:Ud:=λ_ _ _ _ _ _=>False
noncomputable abbrev E0:XK:=λ_ _ _=>False
theorem Sz{X:Cx}:MD Br X E0:=λ_ _ _ _ _ _ _ h=>h.elim
structure Fun (K:Frag) (x qual:Str) (st:Stmt) (f:Addr) (fd:FuncData):Prop where
 ex:∃(oc:Value) (od:Option Addr) (kV doc pm:Value) (an:Option Addr) (cdv ct:Value) (osl:Array (Option Value)),
  fd=fnOf x qual (Cq st) (Bo st) (AN st) .none kV doc pm an cdv ct/\K.lookup f=some ⟨oc,od,.func fd,osl⟩/\codeIn K cdv qual=true
 kp:keepIn K (.ref f)=true
section
variable {P:Program}{w:World}{K:Frag}{mg:Str->Option Value}{base:Heap}
theorem Fun.ok{x qual:Str}{st:Stmt}{f:Addr}{fd:FuncData}{N ps:List Str}{k:Nat}{sp:Sp}(F:Fun K x qual st f fd)(S:AU N ps (AN st))(len:∀vs H Q E,sp vs H Q E->vs.length=ps.length)
  (hbody:∀(cdv:Value) (A:Around) (outer:List Env) (s:Shared) (H:Hp) (vs:List V) (Q:VK) (E:XK),Room k (A.deeper (envOfC qual (AN st) s.heap.objs.size f cdv))->sp vs H Q E ->
   ∃t,PSs (Ly Br P w K mg base N qual (AN st) f cdv A outer s H E).nox (Bo st) t/\t { nx:=λ_ H'=>Q .non H',rt:=Q } (start N vs) H):A0 P w K mg base Br (k+1) f fd ps sp:=by
 obtain⟨oc,od,kV,doc,pm,an,cdv,ct,osl,rfl,lk,hcd⟩:=F.ex
 refine ZI lk hcd S len λA outer s H vs Q E hr hsp=>?_
 obtain⟨t,h,q⟩:=hbody cdv A outer s H vs Q E hr hsp
 exact⟨t,h.nox,q⟩
theorem Fun.binds{x qual:Str}{st:Stmt}{f:Addr}{fd:FuncData}{ps:List Str}(F:Fun K x qual st f fd)
  (h:∀(kV doc pm:Value) (an:Option Addr) (cdv ct:Value) (us:List Value),us.length=ps.length->bindArgs (fnOf x qual (Cq st) (Bo st) (AN st) .none kV doc pm an cdv ct) ⟨us,[]⟩=pure (ps.zip us)):Binds K fd ps []:=by
 obtain⟨oc,od,kV,doc,pm,an,cdv,ct,osl,rfl,lk,hcd⟩:=F.ex
 exact .all (h kV doc pm an cdv ct)
theorem Tg{x qual:Str}{st:Stmt}{f:Addr}{oc:Value}{od an:Option Addr}{osl:Array (Option Value)}{kV doc pm cdv ct:Value}(l:K.lookup f=some ⟨oc,od,.func (fnOf x qual (Cq st) (Bo st) (AN st) .none kV doc pm an cdv ct),osl⟩)
  (c:codeIn K cdv qual=true) (k:keepIn K (.ref f)=true):Fun K x qual st f (fnOf x qual (Cq st) (Bo st) (AN st) .none kV doc pm an cdv ct):=⟨⟨oc,od,kV,doc,pm,an,cdv,ct,osl,rfl,l,c⟩,k⟩
end
theorem HD{A:Around}{k:Nat}(hr:Room k A):A.units+1<cLine:=fI (Nat.add_le_add_left (by decide:1<=64) _) hr.units
section
variable {X:Cx}
theorem pv(i:Nat){x:Str}{pos:Pos}(hN:autoParam (X.N[i]?=some x) zau3._auto_1)(hv:autoParam (YM X.env.scope x) zau4._auto_1)(hd:autoParam ((x==("__debug__" : Str))=false) zau1._auto_1)
  (hcd:autoParam ((x==("__classdict__" : Str))=false) zau1._auto_1):PE X (.Name x pos) (BJ i):=LN hN hv hd hcd
end
theorem GC{A B:Prop}(h:B):if false=true then A else B:=by
 rw [if_neg bG]
 exact h
theorem JH{A B:Prop}(h:A):if true=true then A else B:=by
 rw [if_pos rfl]
 exact h
theorem Cg{c A B:Prop}[Decidable c](h1:c->A)(h2:¬c->B):if c then A else B:=by
 by_cases h:c
 ·rw [if_pos h]
  exact h1 h
 ·rw [if_neg h]
  exact h2 h
section
variable {κ:Type}[DecidableEq κ]
noncomputable def Bg(kvs:List (κ×V))(k:κ):Option V:=(kvs.find? λkv=>decide (kv.1=k)).map (·.2)
noncomputable def putK(kvs:List (κ×V))(k:κ)(v:V):List (κ×V) :=
 if (kvs.any λkv=>decide (kv.1=k))=true then kvs.map (λkv=>if kv.1=k then (kv.1,v) else kv) else kvs++[(k,v)]
theorem DA{p:κ×V}{r:List (κ×V)}{k:κ}(e:p.1=k):Bg (p::r) k=some p.2:=by simp [Bg,eP,e]
theorem DB{p:κ×V}{r:List (κ×V)}{k:κ}(e:¬p.1=k):Bg (p::r) k=Bg r k:=by simp [Bg,eP,e]
theorem ML(k:κ):∀kvs:List (κ×V),(kvs.any λkv=>decide (kv.1=k))=(Bg kvs k).isSome
 | []=>rfl
 | p::r=>by
  rw [e8]
  by_cases e:p.1=k
  ·simp only [DA e,decide_eq_true e,Bool.true_or,Option.isSome_some]
  ·rw [DB e,decide_eq_false e,Bool.false_or]; exact ML k r
theorem EQ(kvs:List (κ×V))(k:κ)(v:V):(putK kvs k v).length<=kvs.length+1:=by
 unfold putK
 split
 ·rw [FM]; omega
 ·rw [bD,XV,cj]; omega
theorem RelO.isSome_eq{o:Option V}{u:Option Value}(r:RelO o u):o.isSome=u.isSome:=by
 cases o with
 | none=>cases u with
  | none=>rfl
  | some _=>exact(show False from r).elim
 | some _=>cases u with
  | none=>exact(show False from r).elim
  | some _=>rfl
theorem RelO.getD{o:Option V}{u:Option Value}{d:V}{d':Value}(r:RelO o u)(rd:RelV d d'):RelV (o.getD d) (u.getD d'):=by
 cases o with
 | none=>cases u with
  | none=>exact rd
  | some _=>exact(show False from r).elim
 | some _=>cases u with
  | none=>exact(show False from r).elim
  | some _=>exact r
theorem KV.val{kvs:List (κ×V)}{vs:List (κ×Value)}(r:KV kvs vs)(k:κ):RelO (Bg kvs k) (valueAt vs k):=by
 unfold KV at r
 induction r with
 | nil=>exact dQ
 | @cons p q ps qs h t ih =>
  obtain⟨h1,h2⟩:=h
  by_cases e:p.1=k
  ·have e':q.1=k:=h1.symm.trans e
   have b:valueAt (q::qs) k=some q.2:=by simp [valueAt,eP,e']
   rw [DA e,b]; exact h2
  ·have e':¬q.1=k:=λz=>e (h1.trans z)
   have b:valueAt (q::qs) k=valueAt qs k:=by simp [valueAt,eP,e']
   rw [DB e,b]; exact ih
theorem KV.any{kvs:List (κ×V)}{vs:List (κ×Value)}(r:KV kvs vs)(k:κ):(kvs.any λkv=>decide (kv.1=k))=vs.any λkv=>decide (kv.1=k):=by
 unfold KV at r
 induction r with
 | nil=>rfl
 | cons h t ih=>rw [e8,e8,ih,h.1]
theorem KV.repl{kvs:List (κ×V)}{vs:List (κ×Value)}(r:KV kvs vs)(k:κ){y:V}{u:Value}(ry:RelV y u) :
  KV (kvs.map λkv=>if kv.1=k then (kv.1,y) else kv) (vs.map λkv=>if kv.1=k then (kv.1,u) else kv):=by
 unfold KV at r ⊢
 induction r with
 | nil=>exact .nil
 | @cons p q ps qs h t ih =>
  rw [bE,bE]
  refine .cons ?_ ih
  obtain⟨h1,h2⟩:=h
  by_cases e:p.1=k
  ·rw [if_pos e,if_pos (h1.symm.trans e)]; exact⟨h1,ry⟩
  ·rw [if_neg e,if_neg (λz=>e (h1.trans z))]; exact⟨h1,h2⟩
theorem KV.put{kvs:List (κ×V)}{vs:List (κ×Value)}(r:KV kvs vs)(k:κ){y:V}{u:Value}(ry:RelV y u):KV (putK kvs k y) (stored vs k u):=by
 unfold putK stored
 rw [r.any k]
 by_cases e:(vs.any λkv=>decide (kv.1=k))=true
 ·rw [if_pos e,if_pos e]; exact r.repl k ry
 ·rw [if_neg e,if_neg e]; exact Paired.snoc r ⟨rfl,ry⟩
theorem KV.length{kvs:List (κ×V)}{vs:List (κ×Value)}(r:KV kvs vs):kvs.length=vs.length:=Paired.length r
end
theorem JF{P:Program}{w:World}{k:Key}{u:Value}(r:RelV (kV k) u):(Af P w).is k u=true:=by
 cases k with
 | inl i=>obtain⟨t,e⟩:=(show ∃t,u=iy i t from r); subst e; exact ND P w i t
 | inr x=>obtain⟨t,e⟩:=(show ∃t,u=dR x t from r); subst e; exact NC P w x t
theorem Kc{P:Program}{w:World}:∀{ks:List Key} {us:List Value},Vals (ks.map kV) us->ItemsAre (Af P w) ks us
 | [],_,r=>by rw [eY] at r; cases r; exact .nil
 | k::ks,_,r=>by
  rw [bE] at r
  cases r with
  | cons h t=>exact .cons (JF h) (Kc t)
noncomputable abbrev KT(H:Hp):List (List Key×V)->List (List Key×Addr×Value)->Prop:=Paired λp q=>p.1=q.1/\H q.2.1=some (.tup (p.1.map kV))/\RelV p.2 q.2.2
theorem KT.val{H:Hp}{kvs:List (List Key×V)}{xs:List (List Key×Addr×Value)}(r:KT H kvs xs)(k:List Key):RelO (Bg kvs k) ((atKey xs k).map (·.2)):=by
 induction r with
 | nil=>exact dQ
 | @cons p q ps qs h t ih =>
  obtain⟨h1,_,h2⟩:=h
  by_cases e:p.1=k
  ·have e':q.1=k:=h1.symm.trans e
   have b:atKey (q::qs) k=some q.2:=by simp [atKey,eP,e']
   rw [DA e,b]; exact h2
  ·have e':¬q.1=k:=λz=>e (h1.trans z)
   have b:atKey (q::qs) k=atKey qs k:=by simp [atKey,eP,e']
   rw [DB e,b]; exact ih
theorem KT.repl{H:Hp}{kvs:List (List Key×V)}{xs:List (List Key×Addr×Value)}(r:KT H kvs xs)(k:List Key){y:V}{u:Value}(ry:RelV y u) :
  KT H (kvs.map λkv=>if kv.1=k then (kv.1,y) else kv) (xs.map (putAt k u)):=by
 induction r with
 | nil=>exact .nil
 | @cons p q ps qs h t ih =>
  rw [bE,bE]
  refine .cons ?_ ih
  obtain⟨h1,h2,h3⟩:=h
  unfold putAt
  by_cases e:p.1=k
  ·rw [if_pos e,if_pos (h1.symm.trans e)]; exact⟨h1,h2,ry⟩
  ·rw [if_neg e,if_neg (λz=>e (h1.trans z))]; exact⟨h1,h2,h3⟩
theorem KT.put{H:Hp}{kvs:List (List Key×V)}{xs:List (List Key×Addr×Value)}(r:KT H kvs xs)(k:List Key){b:Addr}{y:V}{u:Value}(hb:H b=some (.tup (k.map kV)))(ry:RelV y u) :
  KT H (putK kvs k y) (storedH xs k b u):=by
 have e:(kvs.any λkv=>decide (kv.1=k))=(atKey xs k).isSome:=by
  rw [ML,(r.val k).isSome_eq,gp]
 unfold putK storedH
 rw [e]
 by_cases q:(atKey xs k).isSome=true
 ·rw [if_pos q,if_pos q]; exact r.repl k ry
 ·rw [if_neg q,if_neg q]; exact Paired.snoc r ⟨rfl,hb,ry⟩
theorem KT.keeps{H H':Hp}{kvs:List (List Key×V)}{xs:List (List Key×Addr×Value)}(r:KT H kvs xs)(ht:∀b ys,H b=some (.tup ys)->H' b=some (.tup ys)):KT H' kvs xs :=
 Paired.mapP r λ_ _ z=>⟨z.1,ht _ _ z.2.1,z.2.2⟩
section
variable {P:Program}{w:World}{H:Hp}{h:Heap}{a:Addr}
theorem WF{u:HO}(ok:HOk P w H h)(e:Rd H a u):ObjOk P w H h a u:=e.ok ok
theorem HG{kvs:List (Key×V)}(ok:HOk P w H h)(e:Rd H a (.dK kvs)):kvs.length<=sizeLine/\(a==sysModules)=false/\∃vs,KV kvs vs/\h.DictOf (Af P w) a vs :=
 show ObjOk P w H h a (.dK kvs) from WF ok e
theorem Wg{kvs:List (Key×V)}(ok:HOk P w H h)(e:H a=some (.dK kvs)):kvs.length<=sizeLine/\(a==sysModules)=false/\∃vs,KV kvs vs/\h.DictOf (Af P w) a vs:=HG ok (.inl e)
theorem Fd{ks:List Key}(ok:HOk P w H h)(e:H a=some (.tup (ks.map kV))):(tupleKind (Af P w)).is h ks a:=by
 obtain⟨_,its,r,o,h1,h2,n,h3,_⟩:=(show ObjOk P w H h a (.tup (ks.map kV)) from ok a _ e)
 exact⟨o,its.toArray,n,h1,h2,h3,by simpa using Kc r⟩
theorem GH{kvs:List (List Key×V)}(ok:HOk P w H h)(e:Rd H a (.dT kvs)):kvs.length<=sizeLine/\(a==sysModules)=false /\
  ∃xs,KT H kvs xs/\h.DictOfH (tupleKind (Af P w)) a xs:=by
 obtain⟨z,y,xs,r,o,es,ep,h1,h2,h3,h4,h5⟩:=(show ObjOk P w H h a (.dT kvs) from WF ok e)
 refine⟨z,y,xs,r,o,es,ep,h1,h2,h3,h4,λx hx=>?_,h5⟩
 have all:∀{l:List (List Key×V)} {m:List (List Key×Addr×Value)},KT H l m->∀x∈m,(tupleKind (Af P w)).is h x.1 x.2.1:=by
  intro l m q
  induction q with
  | nil=>intro x hx; exact nomatch hx
  | @cons p q ps qs hq t ih =>
   intro x hx
   rcases TM.mp hx with e | hx
   ·subst e
    exact Fd ok (by rw [← hq.1]; exact hq.2.1)
   ·exact ih x hx
 exact all r x hx
theorem ZQ{kvs:List (List Key×V)}(ok:HOk P w H h)(e:H a=some (.dT kvs)):kvs.length<=sizeLine/\(a==sysModules)=false /\
  ∃xs,KT H kvs xs/\h.DictOfH (tupleKind (Af P w)) a xs:=GH ok (.inl e)
end
noncomputable def DGet(H:Hp)(a:Addr)(y:V)(r:Option V):Prop :=
 (∃kvs k,Rd H a (.dK kvs)/\y=kV k/\r=Bg kvs k)\/∃kvs k b,Rd H a (.dT kvs)/\y=.ref b/\H b=some (.tup (k.map kV))/\r=Bg kvs k
noncomputable def DPut(H:Hp)(a:Addr)(y v:V)(H':Hp):Prop :=
 (∃kvs k,H a=some (.dK kvs)/\y=kV k/\kvs.length<sizeLine/\H'=As H a (.dK (putK kvs k v))) \/
 ∃kvs k b,H a=some (.dT kvs)/\y=.ref b/\H b=some (.tup (k.map kV))/\kvs.length<sizeLine/\H'=As H a (.dT (putK kvs k v))
theorem DGet.k{H:Hp}{a:Addr}{kvs:List (Key×V)}{k:Key}(e:H a=some (.dK kvs)):DGet H a (kV k) (Bg kvs k):=.inl ⟨kvs,k,.inl e,rfl,rfl⟩
theorem DPut.k{H:Hp}{a:Addr}{kvs:List (Key×V)}{k:Key}{v:V}(e:H a=some (.dK kvs))(hl:kvs.length<sizeLine):DPut H a (kV k) v (As H a (.dK (putK kvs k v))):=.inl ⟨kvs,k,e,rfl,hl,rfl⟩
theorem DPut.t{H:Hp}{a b:Addr}{kvs:List (List Key×V)}{k:List Key}{v:V}(e:H a=some (.dT kvs))(eb:H b=some (.tup (k.map kV)))(hl:kvs.length<sizeLine) :
  DPut H a (.ref b) v (As H a (.dT (putK kvs k v))):=.inr ⟨kvs,k,b,e,rfl,eb,hl,rfl⟩
section
variable {X:Cx}{pins:List (Addr×Obj)}{σ:St}{H:Hp}{s:Shared}{a:Addr}{y v:V}{u r:Value}{o:Option V}{A:Around}{E:Value->Shared->Prop}
theorem Inv.big(I:Inv X pins σ H s):sysModules<s.heap.objs.size:=by
 have h:mainGlobals<s.heap.objs.size:=(I.mod.glob.keeps I.bk).lt
 exact Nat.lt_trans (by decide) h
theorem RQ{Q:Value->Shared->Prop}(hu:A.units+1<cLine)(I:Inv X pins σ H s)(g:DGet H a y (some v))(ry:RelV y u)(h:∀w' s',Inv X pins σ H s'->RelV v w'->Q w' s') :
  wpAny (model X.prog X.w) A (getItem (.ref a) u) Q E s:=by
 rcases g with ⟨kvs,k,e,ey,l⟩ | ⟨kvs,k,b,e,ey,eb,l⟩
 ·subst ey
  obtain⟨z,hd,vs,rel,dd⟩:=HG I.hok e
  obtain⟨w',hw,rw'⟩:=RelO.some_of (v:=v) (o:=valueAt vs k) (by rw [l]; exact rel.val k)
  exact wpAny_getItem_of (JF ry) dd.mapOf hw (h w' _ (I.tok _) rw')
 ·subst ey
  cases (show u=bT b from ry)
  obtain⟨z,hd,xs,rel,dd⟩:=GH I.hok e
  obtain⟨w',hw,rw'⟩:=RelO.some_of (v:=v) (o:=(atKey xs k).map (·.2)) (by rw [l]; exact rel.val k)
  obtain⟨p,hp,hp2⟩:=bM.mp hw
  refine wpAny_getItem_heap (dW hu) (Fd I.hok eb) dd hp ?_
  rw [hp2]
  exact h w' _ (I.tok _) rw'
theorem aN{Q:Value->Shared->Prop}(hu:A.units+1<cLine)(I:Inv X pins σ H s)(g:DGet H a y o)(ry:RelV y u)(h:∀s',Inv X pins σ H s'->Q (.bool o.isSome) s') :
  wpAny (model X.prog X.w) A (compareOp .In u (.ref a)) Q E s:=by
 rcases g with ⟨kvs,k,e,ey,l⟩ | ⟨kvs,k,b,e,ey,eb,l⟩
 ·subst ey
  obtain⟨z,hd,vs,rel,dd⟩:=HG I.hok e
  refine wpAny_in_of (JF ry) hd dd.mapOf ?_
  rw [← (rel.val k).isSome_eq,← l]
  exact h _ (I.tok _)
 ·subst ey
  cases (show u=bT b from ry)
  obtain⟨z,hd,xs,rel,dd⟩:=GH I.hok e
  refine wpAny_in_heap (dW hu) (Fd I.hok eb) hd dd ?_
  have q:=(rel.val k).isSome_eq
  rw [gp] at q
  rw [← q,← l]
  exact h _ (I.tok _)
theorem Vz{Q:Value->Shared->Prop}(hu:A.units+1<cLine)(I:Inv X pins σ H s)(g:DGet H a y o)(ry:RelV y u)(h:∀s',Inv X pins σ H s'->Q (.bool (!o.isSome)) s') :
  wpAny (model X.prog X.w) A (compareOp .NotIn u (.ref a)) Q E s:=by
 rcases g with ⟨kvs,k,e,ey,l⟩ | ⟨kvs,k,b,e,ey,eb,l⟩
 ·subst ey
  obtain⟨z,hd,vs,rel,dd⟩:=HG I.hok e
  refine wpAny_notIn_of (JF ry) hd dd.mapOf ?_
  rw [← (rel.val k).isSome_eq,← l]
  exact h _ (I.tok _)
 ·subst ey
  cases (show u=bT b from ry)
  obtain⟨z,hd,xs,rel,dd⟩:=GH I.hok e
  refine wpAny_notIn_heap (dW hu) (Fd I.hok eb) hd dd ?_
  have q:=(rel.val k).isSome_eq
  rw [gp] at q
  rw [← q,← l]
  exact h _ (I.tok _)
theorem Lx{h':Heap}{t':Nat}{ob:HO}(I:Inv X pins σ H s)(mu:Zf (H a))(hs:d8 a s.heap h')(he:∃q,h'.get? a=some q)(new:ObjOk X.prog X.w (As H a ob) h' a ob) :
  Inv X pins σ (As H a ob) { s with heap:=h',toks:=t' } :=
 I.write (x:=a) (e:=a) mu (.inl rfl) (λb q hb z=>(hs.2 b hb).trans z) he new
theorem T4{P:Program}{w:World}{H':Hp}{h':Heap}{kvs:List (Key×V)}{vs:List (Key×Value)}(z:kvs.length<=sizeLine)(hd:(a==sysModules)=false)(rel:KV kvs vs)(dd:h'.DictOf (Af P w) a vs) :
  ObjOk P w H' h' a (.dK kvs):=⟨z,hd,vs,rel,dd⟩
theorem RP{H':Hp}{Q:Unit->Shared->Prop}(hu:A.units+1<cLine)(I:Inv X pins σ H s)(g:DPut H a y v H')(ry:RelV y u)(rv:RelV v r)(h:∀s',Inv X pins σ H' s'->Q () s') :
  wpAny (model X.prog X.w) A (setItem (.ref a) u r) Q E s:=by
 rcases g with ⟨kvs,k,e,ey,l,eH⟩ | ⟨kvs,k,b,e,ey,eb,l,eH⟩
 ·subst ey eH
  obtain⟨z,hd,vs,rel,dd⟩:=Wg I.hok e
  have hz:vs.length<=sizeLine:=by rw [← rel.length]; exact z
  have hl:(putK kvs k v).length<=sizeLine:=by have:=EQ kvs k v; omega
  refine wpAny_setItem_pairs (hsz:=hz) (JF ry) dd λh' dd' hs=>h _ ?_
  have he:∃q,h'.get? a=some q:=let ⟨q,_,_,hq,_⟩:=dd'; ⟨q,hq⟩
  exact Lx I (by rw [e]; exact dQ) hs he (T4 hl hd (rel.put k rv) dd')
 ·subst ey eH
  cases (show u=bT b from ry)
  obtain⟨z,hd,xs,rel,dd⟩:=ZQ I.hok e
  have hz:xs.length<=sizeLine:=by rw [← Paired.length rel]; exact z
  have hl:(putK kvs k v).length<=sizeLine:=by have:=EQ kvs k v; omega
  refine wpAny_setItem_heap (hsz:=hz) (dW hu) (Fd I.hok eb) dd λh' dd' hs=>h _ ?_
  obtain⟨q,es,ep,hq,h2,h3,h4,_,h5⟩:=dd'
  refine Lx I (by rw [e]; exact dQ) hs ⟨q,hq⟩ ⟨hl,hd,_,(rel.put k eb rv).keeps λc ys ec=>?_,q,es,ep,hq,h2,h3,h4,h5⟩
  rw [AK (ZD ec e (λz=>nomatch z))]
  exact ec
end
section
variable {X:Cx}{pins:List (Addr×Obj)}{σ:St}{H:Hp}{s:Shared}{a:Addr}{kvs:List (Key×V)}{k:Key}{u:Value}{A:Around}{E:Value->Shared->Prop}
end
noncomputable def V8(i:Expr):Prop:=∀ov iv,subscripted i false ov iv=operate [ov,iv] (getItem ov iv)
theorem Uu{prog:Program}{w:World}{A:Around}{E:Value->Shared->Prop}{s:Shared}{env:Env}{value slice:Expr}{pos:Pos}{T id:String}{Q:Value->Shared->Prop}
  (hl:typeLookup (.type T) "__getitem__"=pure (some (.builtin id))) (hs:V8 slice)
  (h:wpAny (model prog w) A (eval value env) (λo s₁=>wpAny (model prog w) A (eval slice env) (λi s₂=>s₂.TypeIs o T/\wpAny (model prog w) A (getItem o i) Q E s₂) E s₁) E s) :
  wpAny (model prog w) A (eval (.Subscript value slice pos) env) Q E s:=by
 refine Subscript_ (cC h (λo s₁ h₁=>cC h₁ (λi s₂ h₂=>?_) λ_ _ x=>x) λ_ _ x=>x)
 obtain⟨hT,h₂⟩:=h₂
 unfold subscriptTail
 refine Ch ?_
 rw [getitemInPython_of_ne hT.not_modules]
 refine Ch (iI hT hl ?_)
 have fin:wpAny (model prog w) A (subscripted slice false o i) (λr s₃=>wpAny (model prog w) A (letTemporaryGo value o r >>= λ_=>pure r) Q E s₃) E s₂:=by
  rw [hs o i]
  exact wpAny_operating (cC h₂ (λr s₃ h₃=>Ch (wpAny_letTemporaryGo (Go h₃))) λ_ _ x=>x)
 first
  | exact Go (Ch fin)
  | exact Ch (Go (Ch fin))
  | exact Ch fin
theorem Na{X:Cx}{pins:List (Addr×Obj)}{σ:St}{H:Hp}{s:Shared}{a:Addr}{y:V}{o:Option V}(I:Inv X pins σ H s)(g:DGet H a y o):s.TypeIs (.ref a) "dict":=by
 rcases g with ⟨kvs,k,e,_,_⟩ | ⟨kvs,k,b,e,_,_,_⟩
 ·obtain⟨_,_,vs,_,dd⟩:=HG I.hok e
  exact dd.typeIs
 ·obtain⟨_,_,xs,_,dd⟩:=GH I.hok e
  exact dd.typeIs
noncomputable def Yq(td ty:TE):TE:=λσ H Q=>td σ H λx H1=>ty σ H1 λy H2=>∃a v,x=.ref a/\DGet H2 a y (some v)/\Q v H2
noncomputable def Yu(td ty tv:TE):TS:=λD σ H=>tv σ H λv H1=>td σ H1 λx H2=>ty σ H2 λy H3=>∃a H4,x=.ref a/\DPut H3 a y v H4/\D.nx σ H4
section
variable {X:Cx}{o i e value:Expr}{pos pos' tpos:Pos}{td ty tv:TE}
theorem Hw(hu:X.A.units+1<cLine)(ho:PE X o td)(hi:PE X i ty)(hs:V8 i):PE X (.Subscript o i pos) (Yq td ty):=by
 intro pins s σ H Q I h
 refine Uu PySem.F.slot_dict_getitem.lookup hs (thn (ho pins s σ H _ I h) λu s1 ⟨x,H1,I1,rx,q1⟩=>thn (hi pins s1 σ H1 _ I1 q1) λiv s2 ⟨y,H2,I2,ry,a,v,ex,g,q2⟩=>?_)
 subst ex
 obtain rfl:u=bT a:=rx
 exact⟨Na I2 g,RQ hu I2 g ry λw' s3 I3 rw'=>⟨v,H2,I3,rw',q2⟩⟩
theorem Fz(hu:X.A.units+1<cLine)(ho:PE X o td)(hi:PE X i ty)(hv:PE X value tv)(hs:swapsWith value (some (.Subscript o i pos')) pos.line X.env=pure false) :
  PS X (.Assign [.Subscript o i pos'] value pos) (Yu td ty tv):=by
 intro pins s σ H D I h
 refine wpAny_Assign_Subscript (thn (hv pins s σ H _ I h) λr s1 ⟨v,H1,I1,rv,q1⟩=>thn (ho pins s1 σ H1 _ I1 q1) λu s2 ⟨x,H2,I2,rx,q2⟩=>thn (hi pins s2 σ H2 _ I2 q2) λiv s3 ⟨y,H3,I3,ry,a,H4,ex,g,q3⟩=>?_) hs
 subst ex
 obtain rfl:u=bT a:=rx
 exact RP hu I3 g ry rv λs4 I4=>⟨σ,H4,I4,q3⟩
end
theorem NZ{P:Program}{w:World}{H:Hp}(h:Heap)(hb:sysModules<h.objs.size):ObjOk P w H (h.push { cls:=.type "dict",data:=.dict #[] }) h.objs.size (.dK []) :=
 ⟨bH _,beq_eq_false_iff_ne.mpr (bp (bK hb)),[],.nil,Heap.DictOf.new h⟩
theorem T3{P:Program}{w:World}{H:Hp}(h:Heap)(hb:sysModules<h.objs.size):ObjOk P w H (h.push { cls:=.type "dict",data:=.dict #[] }) h.objs.size (.dT []) :=
 ⟨bH _,beq_eq_false_iff_ne.mpr (bp (bK hb)),[],.nil,_,#[],0,Sc _ rfl,⟨rfl,rfl,rfl⟩,rfl,rfl,bj⟩
noncomputable def W_:TE:=λ_ H Q=>∀p,H p=none->Q (.ref p) (As H p (.dK []))
noncomputable def W9:TE:=λ_ H Q=>∀p,H p=none->Q (.ref p) (As H p (.dT []))
section
variable {X:Cx}{pos:Pos}
theorem Mq:PE X (.Dict [] [] pos) W_:=λpins s σ H Q I h =>
 wpAny_Dict_empty ⟨.ref s.heap.objs.size,_,I.laid (a:=s.heap.objs.size) (o:=.dK []) (t':=s.toks) (λ_ _ q=>Ev _ q) (Op _) (NZ s.heap I.big),rfl,h _ (I.hok.fresh (Op _))⟩
theorem Sv:PE X (.Dict [] [] pos) W9:=λpins s σ H Q I h =>
 wpAny_Dict_empty ⟨.ref s.heap.objs.size,_,I.laid (a:=s.heap.objs.size) (o:=.dT []) (t':=s.toks) (λ_ _ q=>Ev _ q) (Op _) (T3 s.heap I.big),rfl,h _ (I.hok.fresh (Op _))⟩
end
noncomputable def N7:List (TE×TE)->St->Hp->(List (V×V)->Hp->Prop)->Prop
 | [],_,H,Q=>Q [] H
 | (tk,tv)::r,σ,H,Q=>tk σ H λx H1=>tv σ H1 λy H2=>N7 r σ H2 λps H3=>Q ((x,y)::ps) H3
noncomputable abbrev VV:List (V×V)->List (Value×Value)->Prop:=Paired λp q=>RelV p.1 q.1/\RelV p.2 q.2
noncomputable def Zx(X:Cx)(pos:Pos)(keys:List (Option Expr))(values:List Expr)(trs:List (TE×TE)):Prop :=
 ∀(pins:List (Addr×Obj)) (s:Shared) (σ:St) (H:Hp) (Q:List (V×V)->Hp->Prop),Inv X pins σ H s->N7 trs σ H Q ->
  wpAny (model X.prog X.w) X.A (evalPairs (pairTrees keys values X.env pos)) (λvs s'=>∃ps H',Inv X pins σ H' s'/\VV ps vs/\Q ps H') X.xe s
theorem U4{X:Cx}{pos:Pos}:Zx X pos [] [] []:=λpins s σ H Q I h=>pairTrees_nil_walk ⟨[],H,I,.nil,h⟩
theorem Sm{X:Cx}{pos:Pos}{k v:Expr}{ks:List (Option Expr)}{vs:List Expr}{tk tv:TE}{trs:List (TE×TE)}(hk:PE X k tk)(hv:PE X v tv)(hr:Zx X pos ks vs trs) :
  Zx X pos (some k::ks) (v::vs) ((tk,tv)::trs):=λpins s σ H Q I h =>
 pairTrees_cons_walk (thn (hk pins s σ H _ I h) λu s1 ⟨x,H1,I1,rx,q1⟩=>thn (hv pins s1 σ H1 _ I1 q1) λw2 s2 ⟨y,H2,I2,ry,q2⟩ =>
  thn (hr pins s2 σ H2 _ I2 q2) λws s3 ⟨ps,H3,I3,rel,q3⟩=>⟨(x,y)::ps,H3,I3,.cons ⟨rx,ry⟩ rel,q3⟩)
noncomputable def I0(kvs more:List (Key×V)):List (Key×V):=more.foldl (λacc kv=>putK acc kv.1 kv.2) kvs
theorem KV.merge:∀{more:List (Key×V)} {rs:List (Key×Value)} {kvs:List (Key×V)} {vs:List (Key×Value)},KV more rs->KV kvs vs->KV (I0 kvs more) (merged vs rs):=by
 intro more rs kvs vs r
 unfold KV at r
 induction r generalizing kvs vs with
 | nil=>intro q; exact q
 | @cons p q ps qs h t ih =>
  intro r0
  have e:KV (putK kvs p.1 p.2) (stored vs q.1 q.2):=by
   have:=r0.put p.1 h.2
   rw [← h.1]; exact this
  exact ih e
theorem E6:∀(more kvs:List (Key×V)),(I0 kvs more).length<=kvs.length+more.length
 | [],kvs=>by show kvs.length<=kvs.length+0; omega
 | p::r,kvs=>by
  have h1:=E6 r (putK kvs p.1 p.2)
  have h2:=EQ kvs p.1 p.2
  show (I0 (putK kvs p.1 p.2) r).length<=_
  rw [XV]; omega
theorem JV{P:Program}{w:World}:∀{kvs:List (Key×V)} {ws:List (Value×Value)},VV (kvs.map λkv=>(kV kv.1,kv.2)) ws->∃rs,Carries (Af P w) ws rs/\KV kvs rs
 | [],_,r=>by rw [eY] at r; cases r; exact⟨[],dQ,.nil⟩
 | p::kvs,_,r=>by
  rw [bE] at r
  cases r with
  | @cons a b as bs h t =>
   obtain⟨rs,c,q⟩:=JV (P:=P) (w:=w) t
   obtain⟨b1,b2⟩:=b
   exact⟨(p.1,b2)::rs,⟨JF h.1,rfl,c⟩,.cons ⟨rfl,h.2⟩ q⟩
noncomputable def Yp(trs:List (TE×TE)):TE:=λσ H Q=>∀p,H p=none->N7 trs σ (As H p (.dK [])) λps H2=>H2 p=some (.dK [])/\∃kvs:List (Key×V),ps=kvs.map (λkv=>(kV kv.1,kv.2))/\kvs.length<=15/\Q (.ref p) (As H2 p (.dK (I0 [] kvs)))
theorem U7{X:Cx}{pos:Pos}{keys:List (Option Expr)}{values:List Expr}{trs:List (TE×TE)}(h:Zx X pos keys values trs)(hall:keys.all (·.isSome)=true)(hl:keys.length=values.length)(h0:keys≠[])
  (h15:keys.length<=15):PE X (.Dict keys values pos) (Yp trs):=by
 intro pins s σ H Q I q
 have hn:=I.hok.fresh (Op s.heap.objs.size)
 have I1:=I.laid (a:=s.heap.objs.size) (o:=.dK []) (h':=s.heap.push { cls:=.type "dict",data:=.dict #[] }) (t':=s.toks) (λ_ _ q=>Ev _ q) (Op _) (NZ s.heap I.big)
 refine wpAny_Dict_walk (knd:=Af X.prog X.w) hall hl h0 h15 (thn (h pins _ σ _ _ I1 (q _ hn)) λws s2 ⟨ps,H2,I2,rel,e,kvs,ep,lk,q2⟩=>?_)
 subst ep
 obtain⟨rs,c,rk⟩:=JV (P:=X.prog) (w:=X.w) rel
 obtain⟨z,hd,vs0,r0,dd⟩:=Wg I2.hok e
 cases r0
 refine⟨rs,c,dd,λh' dd' hs=>⟨.ref s.heap.objs.size,_,?_,rfl,q2⟩⟩
 have hz:(I0 [] kvs).length<=sizeLine:=by
  have h1:=E6 kvs []
  rw [cj] at h1
  rw [bm]; omega
 have he:∃q,h'.get? s.heap.objs.size=some q:=let ⟨q,_,_,hq,_⟩:=dd'; ⟨q,hq⟩
 exact Lx I2 (by rw [e]; exact dQ) hs he (T4 hz hd (rk.merge .nil) dd')
structure M1 (X:Cx) (o:Expr) (m:Str) (apos:Pos) (e:Expr) (cpos:Pos):Prop where
 base:attributeBase o m X.env (eval o X.env)=eval o X.env
 few:((backTo cpos (starEach [e] X.env)).all (λx=>!x.1)&&(backToKw cpos (keywordEach [] X.env)).all (λx=>x.1.isSome)
  && decide (([e]:List Expr).length+([]:List Keyword).length+(if ([]:List Keyword).isEmpty then 0 else 1)<30))=true
 line:(apos.endLine==cpos.line)=true
 trees:backTo cpos (starEach [e] X.env)=[(false,eval e X.env)]
structure M2 (X:Cx) (o:Expr) (m:Str) (apos:Pos) (e f:Expr) (cpos:Pos):Prop where
 base:attributeBase o m X.env (eval o X.env)=eval o X.env
 few:((backTo cpos (starEach [e,f] X.env)).all (λx=>!x.1)&&(backToKw cpos (keywordEach [] X.env)).all (λx=>x.1.isSome)
  && decide (([e,f]:List Expr).length+([]:List Keyword).length+(if ([]:List Keyword).isEmpty then 0 else 1)<30))=true
 line:(apos.endLine==cpos.line)=true
 trees:backTo cpos (starEach [e,f] X.env)=[(false,eval e X.env),(false,eval f X.env)]
noncomputable def ak(H:Hp)(a:Addr):Prop:=(∃kvs,Rd H a (.dK kvs))\/∃kvs,Rd H a (.dT kvs)
theorem Tc{X:Cx}{pins:List (Addr×Obj)}{σ:St}{H:Hp}{s:Shared}{a:Addr}(I:Inv X pins σ H s)(d:ak H a) :
  s.TypeIs (.ref a) "dict"/\(∀b,bT a=.ref b->∃ob,s.heap.get? b=some ob/\ob.dict=none)/\(a==sysModules)=false:=by
 rcases d with ⟨kvs,e⟩ | ⟨kvs,e⟩
 ·obtain⟨_,hd,vs,_,dd⟩:=HG I.hok e
  refine⟨dd.typeIs,λb q=>?_,hd⟩
  cases q
  obtain⟨ob,_,_,h1,h2,_⟩:=dd
  exact⟨ob,h1,h2.2.1⟩
 ·obtain⟨_,hd,xs,_,dd⟩:=GH I.hok e
  refine⟨dd.typeIs,λb q=>?_,hd⟩
  cases q
  obtain⟨ob,_,_,h1,h2,_⟩:=dd
  exact⟨ob,h1,h2.2.1⟩
section
variable {X:Cx}{pins:List (Addr×Obj)}{σ:St}{H:Hp}{s:Shared}{a:Addr}{y d:V}{u r:Value}{o:Option V}{A:Around}{E:Value->Shared->Prop}
theorem X9{Q:Value->Shared->Prop}(hu:A.units+1<cLine)(I:Inv X pins σ H s)(g:DGet H a y o)(ry:RelV y u)(rd:RelV d r)(h:∀w' s',Inv X pins σ H s'->RelV (o.getD d) w'->Q w' s') :
  wpAny (model X.prog X.w) A (call (.builtin "dict.get") [.ref a,u,r]) Q E s:=by
 rcases g with ⟨kvs,k,e,ey,l⟩ | ⟨kvs,k,b,e,ey,eb,l⟩
 ·subst ey
  obtain⟨z,hd,vs,rel,dd⟩:=HG I.hok e
  refine call_meetsIn PySem.F.slot_dict_get dd.typeIs PySem.F.entry_dict_get (PySem.F.args_dict_get_3 _ _ _) (meets_dict_get_default (Af X.prog X.w) a (JF ry) hd r) ⟨_,dd.mapOf,h _ _ (I.tok _) ?_⟩
  rw [l]
  exact(rel.val k).getD rd
 ·subst ey
  cases (show u=bT b from ry)
  obtain⟨z,hd,xs,rel,dd⟩:=GH I.hok e
  refine call_meetsIn PySem.F.slot_dict_get dd.typeIs PySem.F.entry_dict_get (PySem.F.args_dict_get_3 _ _ _) (meetsH_dict_get_default (tupleKind (Af X.prog X.w)) a b hd r) ⟨dW hu,k,xs,Fd I.hok eb,dd,h _ _ (I.tok _) ?_⟩
  rw [l]
  exact(rel.val k).getD rd
end
noncomputable def XA(td ty tx:TE):TE:=λσ H Q=>td σ H λx H1=>∃a,x=.ref a/\ak H1 a/\ty σ H1 λy H2=>tx σ H2 λz H3=>∃o,DGet H3 a y o/\Q (o.getD z) H3
section
variable {X:Cx}{o e f:Expr}{apos cpos:Pos}{td ty tx:TE}
theorem Sx(hu:X.A.units+1<cLine)(ho:PE X o td)(he:PE X e ty)(hf:PE X f tx)(m:M2 X o "get" apos e f cpos):PE X (.Call (.Attribute o "get" apos) [e,f] [] cpos) (XA td ty tx):=by
 intro pins s σ H Q I h
 refine wpAny_Call_method m.base m.few m.line PySem.F.plainAttrs_dict PySem.F.slot_dict_get PySem.F.type_dict_get (thn (ho pins s σ H _ I h) λu s1 ⟨x,H1,I1,rx,a,ex,d,q1⟩=>?_)
 subst ex
 obtain rfl:u=bT a:=rx
 obtain⟨t1,t2,_⟩:=Tc I1 d
 refine⟨t1,t2,?_⟩
 rw [m.trees]
 refine eR rfl (f8 (c5 (thn (he pins s1 σ H1 _ I1 q1) λiv s2 ⟨y,H2,I2,ry,q2⟩ =>
  c5 (thn (hf pins s2 σ H2 _ I2 q2) λfv s3 ⟨z,H3,I3,rz,ov,g,q3⟩=>dr ?_))))
 exact X9 hu I3 g ry rz λw' s4 I4 rw'=>⟨_,H3,I4,rw',q3⟩
end
section
variable {X:Cx}{pins:List (Addr×Obj)}{σ:St}{H:Hp}{s:Shared}{a:Addr}{kvs:List (Key×V)}{A:Around}{E:Value->Shared->Prop}
end
section
variable {X:Cx}{pins:List (Addr×Obj)}{σ:St}{H:Hp}{s:Shared}{a:Addr}{y:V}{u:Value}{A:Around}{E:Value->Shared->Prop}
end
end L2
set_option maxHeartbeats 4000000
namespace L2
open PySem PySem.Spec PyProof.Rows
section
theorem Ou{env:Env}:∀(names:List (Str×NameKind)) (cs:List (Str×Addr)),(∀x,(x,bx)∈names->∃c,env.cells.lookup x=some c)->(∀x c,cs.lookup x=some c->env.cells.lookup x=some c) ->
  ∃cl,(forIn names cs fun(x:Str×NameKind) (r:List (Str×Addr))=>(if (x.2==bx)=true then do let a ← cellOf env x.1; pure (dA ((x.1,a)::r)) else pure (dA r):Sem (ForInStep (List (Str×Addr)))))=(pure cl:Sem _) /\
   (∀x c,cl.lookup x=some c->env.cells.lookup x=some c)/\(∀x,((x,bx)∈names\/∃c,cs.lookup x=some c)->∃c,cl.lookup x=some c):=by
 intro names
 induction names with
 | nil =>
  intro cs _ h2
  exact⟨cs,rfl,h2,λx hx=>hx.elim (λz=>absurd z (by simp)) λz=>z⟩
 | cons p r ih =>
  intro cs h1 h2
  obtain⟨n,k⟩:=p
  by_cases hk:k=bx
  ·subst hk
   obtain⟨c,hc⟩:=h1 n No
   have hcell:cellOf env n=pure c:=by simp only [cellOf,hc]
   obtain⟨cl,e,a,b⟩:=ih ((n,c)::cs) (λx hx=>h1 x (Rs _ hx)) (λx c' hx=>by
    rw [dN] at hx
    cases hb:x==n with
    | true =>
     rw [hb] at hx
     have hx':some c=some c':=hx
     cases hx'
     have:x=n:=by simpa using hb
     rw [this]; exact hc
    | false=>rw [hb] at hx; exact h2 x c' hx)
   refine⟨cl,?_,a,λx hx=>b x ?_⟩
   ·rw [df]
    simp only [beq_self_eq_true,if_true,hcell,pure_bind]
    exact e
   ·by_cases hxn:x=n
    ·subst hxn
     exact .inr ⟨c,by simp [dN]⟩
    ·rcases hx with hx | ⟨c',hx⟩
     ·rcases TM.mp hx with hx | hx
      ·cases hx; exact absurd rfl hxn
      ·exact .inl hx
     ·refine .inr ⟨c',?_⟩
      have:(x==n)=false:=by simpa using hxn
      rw [dN,this]
      exact hx
  ·have hk':(k==bx)=false:=by simpa using hk
   obtain⟨cl,e,a,b⟩:=ih cs (λx hx=>h1 x (Rs _ hx)) h2
   refine⟨cl,?_,a,λx hx=>b x ?_⟩
   ·rw [df]
    simp only [hk',bz,if_false,pure_bind]
    exact e
   ·rcases hx with hx | hx
    ·rcases TM.mp hx with hx | hx
     ·cases hx; exact absurd rfl hk
     ·exact .inl hx
    ·exact .inr hx
theorem JU{scope:Scope}{env:Env}(h:∀x,(x,bx)∈scope.names->∃c,env.cells.lookup x=some c) :
  ∃cl,closureFor scope env=pure cl/\(∀x c,cl.lookup x=some c->env.cells.lookup x=some c)/\(∀x,(x,bx)∈scope.names->∃c,cl.lookup x=some c):=by
 obtain⟨cl,e,a,b⟩:=Ou scope.names [] h (λx c hx=>by simp at hx)
 refine⟨cl,?_,a,λx hx=>b x (.inl hx)⟩
 simp only [closureFor]
 rw [e,pure_bind]
variable {prog:Program}{w:World}{A:Around}{E:Value->Shared->Prop}{R:Result->Shared->Prop}{s:Shared}
theorem Lz{elt target iter:Expr}{ifs:List Expr}{scope:Scope}{pos:Pos}{it acc:Value}{env:Env}(I:Nat->Shared->Prop)
  (turn:∀n s,I n s->wpAny (model prog w) A (pyNext it) (λr s₁=>match r with
   | none=>R (.ok .next) s₁
   | some v=>wpAny (model prog w) A (letOwnedTupleGo target it v) (λ_ s₁'=>wpAny (model prog w) A (assign target env v) (λ_ s₂ =>
     wpAny (model prog w) A (forIn ifs true λc r=>if r=true then do let ok ← isTrue c env (eval c env); pure (dA ok) else pure (dA r)) (λok s₃ =>
      if ok=true then wpAny (model prog w) A (eval elt env) (λx s₄ =>
       wpAny (model prog w) A (call (.builtin "list.append") [acc,x]) (λ_ s₅=>∃m,m<n/\I m s₅) (λ_ _=>False) s₄) (λ_ _=>False) s₃
      else ∃m,m<n/\I m s₃) (λ_ _=>False) s₂) (λ_ _=>False) s₁') (λ_ _=>False) s₁) (λ_ _=>False) s)
  (n:Nat) (h:I n s) :
  codeAny (model prog w) A (.compLoop (.ListComp elt [⟨target,iter,ifs,0⟩] scope pos) 0 it acc env) R s:=by
 refine codeAny_loop rfl I (λn s hI=>?_) n h
 show wpAny _ A ((compTurn (.ListComp elt [⟨target,iter,ifs,0⟩] scope pos) 0 it acc env).onRaise (λx=>do noteFrame x env; theTreesLotGoes x)) _ _ s
 refine wpAny_noted ?_
 rw [compTurn_list]
 refine Ch (wpAny_standAt (Ch (cC (turn n s hI) (λr s₁ h₁=>?_) λ_ _ h'=>h'.elim)))
 cases r with
 | none=>exact Go h₁
 | some v =>
  refine Ch (cC h₁ (λ_ s₁' h₁'=>?_) λ_ _ h'=>h'.elim)
  refine Ch (cC h₁' (λ_ s₂ h₂=>Ch (cC h₂ (λok s₃ h₃=>?_) λ_ _ h'=>h'.elim)) λ_ _ h'=>h'.elim)
  cases ok with
  | false=>exact Go ⟨rfl,h₃⟩
  | true =>
   exact Ch (Ch (cC h₃ (λx s₄ h₄=>Ch (cC h₄ (λ_ s₅ h₅=>Go (Go ⟨rfl,h₅⟩)) λ_ _ h'=>h'.elim)) λ_ _ h'=>h'.elim))
end
noncomputable def Ax(X:Cx)(sc:Scope)(N':List Str)(cl:List (Str×Addr))(C:Addr)(s:Shared)(H:Hp)(ex:List Addr):Cx where
 prog:=X.prog
 w:=X.w
 K:=X.K
 mg:=X.mg
 base:=X.base
 A:=X.A
 N:=N'
 s₀:=s
 H₀:=H
 env:=compEnvC sc cl C X.env
 outer:=X.stack
 stack:=X.stack
 ex:=ex
 fn:=λ_=>false
 calm:=true
 pn:=[]
 xe:=λ_ _=>False
noncomputable def By(js:List (Option Nat))(σ:St):St:=js.map λo=>match o with
 | some i=>(σ[i]?).getD none
 | none=>none
noncomputable def VT(o:Option NameKind):Bool:=match o with
 | some .cell=>true
 | some .free=>true
 | _=>false
theorem Pk{o:Option NameKind}(h:VT o=true):o=some .cell\/o=some .free:=by
 unfold VT at h
 split at h
 ·exact .inl rfl
 ·exact .inr rfl
 ·cases h
noncomputable def isFree(o:Option NameKind):Bool:=match o with
 | some .free=>true
 | _=>false
theorem RE{o:Option NameKind}(h:isFree o=true):o=some .free:=by
 unfold isFree at h
 split at h
 ·rfl
 ·cases h
noncomputable def TZ(o:Option NameKind):Bool:=match o with
 | some .local=>true
 | _=>false
theorem TY{o:Option NameKind}(h:TZ o=true):o=some .local:=by
 unfold TZ at h
 split at h
 ·rfl
 ·cases h
noncomputable def Tb(k:ScopeKind):Bool:=match k with
 | .function=>true
 | _=>false
theorem Ta{k:ScopeKind}(h:Tb k=true):k=.function:=by
 unfold Tb at h
 split at h
 ·rfl
 ·cases h
noncomputable def aC(sc esc:Scope)(p:Str×NameKind):Bool:=match p.2 with
 | .cell=>false
 | .free=>VT (esc.names.lookup p.1)
 | .local=>TZ (sc.names.lookup p.1)
 | _=>true
noncomputable def aM(x:Option Str)(y:Str):Bool:=match x with
 | some z=>z==y
 | none=>false
theorem X1{x:Option Str}{y:Str}(h:aM x y=true):x=some y:=by
 unfold aM at h
 split at h
 ·exact congrArg some (by simpa using h)
 ·cases h
noncomputable def GN(sc esc:Scope)(N:List Str):List Str->List (Option Nat)->Bool
 | [],[]=>true
 | x::xs,some j::js=>isFree (sc.names.lookup x)&&aM (N[j]?) x&&VT (esc.names.lookup x)&&GN sc esc N xs js
 | _::xs,none::js=>GN sc esc N xs js
 | _,_=>false
noncomputable def JS(sc esc:Scope)(N N':List Str)(js:List (Option Nat)):Bool:=Tb sc.kind&&sc.names.all (aC sc esc)&&GN sc esc N N' js
theorem EU{sc esc:Scope}{N:List Str}:∀{N':List Str} {js:List (Option Nat)},GN sc esc N N' js=true->js.length=N'.length
 | [],[],_=>rfl
 | x::xs,some j::js,h=>by
  unfold GN at h
  rw [bL] at h
  rw [XV,XV,EU h.2]
 | x::xs,none::js,h=>by
  unfold GN at h
  rw [XV,XV,EU h]
 | [],some _::_,h=>by unfold GN at h; cases h
 | [],none::_,h=>by unfold GN at h; cases h
 | _::_,[],h=>by unfold GN at h; cases h
theorem L1{sc esc:Scope}{N:List Str}:∀{N':List Str} {js:List (Option Nat)},GN sc esc N N' js=true->∀{k:Nat} {x:Str} {j:Nat},N'[k]?=some x->js[k]?=some (some j) ->
  sc.names.lookup x=some .free/\N[j]?=some x/\(esc.names.lookup x=some .cell\/esc.names.lookup x=some .free)
 | [],_,_,k,x,j,h1,_=>by simp at h1
 | _::_,[],h,_,_,_,_,_=>by unfold GN at h; cases h
 | y::ys,some i::js,h,k,x,j,h1,h2=>by
  unfold GN at h
  rw [bL,bL,bL] at h
  cases k with
  | zero =>
   simp at h1 h2
   subst h1 h2
   exact⟨RE h.1.1.1,X1 h.1.1.2,Pk h.1.2⟩
  | succ k=>exact L1 h.2 (k:=k) (by simpa using h1) (by simpa using h2)
 | y::ys,none::js,h,k,x,j,h1,h2=>by
  unfold GN at h
  cases k with
  | zero=>simp at h2
  | succ k=>exact L1 h (k:=k) (by simpa using h1) (by simpa using h2)
theorem Q_{js:List (Option Nat)}{σ:St}{k:Nat}{v:V}(h:(By js σ)[k]?=some (some v)):∃j,js[k]?=some (some j)/\σ[j]?=some (some v):=by
 unfold By at h
 rw [T0] at h
 cases e:js[k]? with
 | none=>rw [e] at h; cases h
 | some o =>
  rw [e] at h
  cases o with
  | none=>cases h
  | some j =>
   refine⟨j,rfl,?_⟩
   have h':some ((σ[j]?).getD none)=some (some v):=h
   have h2:=UF h'
   cases q:σ[j]? with
   | none=>rw [q] at h2; cases h2
   | some w=>rw [q] at h2; exact congrArg some h2
theorem CC{env:Env}:∀{names:List (Str×NameKind)} {x:Str},names.lookup x=some .free ->
  (names.map fun(n,k)=>if (k==bx&&env.scope.kind==.function&&env.kindOf n==some .cell) then (n,e9) else (n,k)).lookup x=some .cell \/
  (names.map fun(n,k)=>if (k==bx&&env.scope.kind==.function&&env.kindOf n==some .cell) then (n,e9) else (n,k)).lookup x=some .free
 | [],_,h=>by simp at h
 | (n,k)::r,x,h=>by
  have ih:=@CC env r x
  show List.lookup x ((if (k==bx&&env.scope.kind==.function&&env.kindOf n==some .cell)=true then (n,e9) else (n,k))::_)=_\/List.lookup x ((if (k==bx&&env.scope.kind==.function&&env.kindOf n==some .cell)=true then (n,e9) else (n,k))::_)=_
  by_cases hc:(k==bx&&env.scope.kind==.function&&env.kindOf n==some .cell)=true
  ·rw [if_pos hc]
   cases hx:x==n with
   | true=>exact .inl (by simp only [dN,hx])
   | false =>
    simp only [dN,hx] at h ⊢
    exact ih h
  ·rw [if_neg hc]
   cases hx:x==n with
   | true =>
    simp only [dN,hx] at h ⊢
    exact .inr h
   | false =>
    simp only [dN,hx] at h ⊢
    exact ih h
theorem OF{env:Env}{sc:Scope}(hcell:∀y∈sc.names,y.2≠.cell){x:Str}(h:(relabel sc env).names.lookup x=some .cell\/(relabel sc env).names.lookup x=some .free):(x,bx)∈sc.names:=by
 have hm:(x,e9)∈(relabel sc env).names\/(x,bx)∈(relabel sc env).names:=h.elim (λz=>.inl (PySem.mem_of_lookup z)) λz=>.inr (PySem.mem_of_lookup z)
 have go:∀k:NameKind,(k=.cell\/k=.free)->(x,k)∈(relabel sc env).names->(x,bx)∈sc.names:=by
  intro k hk hmem
  unfold relabel at hmem
  obtain⟨⟨n,k0⟩,hn,e⟩:=ZB.mp hmem
  by_cases hc:(k0==bx&&env.scope.kind==.function&&env.kindOf n==some .cell)=true
  ·have e':(n,e9)=(x,k):=by
    have:=e
    simp only [hc,if_true] at this
    exact this
   have hk0:k0=.free:=by
    rw [bL,bL] at hc
    simpa using hc.1.1
   cases e'
   subst hk0
   exact hn
  ·have e':(n,k0)=(x,k):=by
    have:=e
    simp only [hc,if_false] at this
    exact this
   cases e'
   rcases hk with rfl | rfl
   ·exact absurd rfl (hcell _ hn)
   ·exact hn
 exact hm.elim (go _ (.inl rfl)) (go _ (.inr rfl))
section
variable {X:Cx}{pins:List (Addr×Obj)}{σ:St}{H:Hp}{s:Shared}
structure CompOk (X:Cx) (sc:Scope) (N':List Str) (js:List (Option Nat)):Prop where
 kind:sc.kind=.function
 cell:∀y∈sc.names,y.2≠.cell
 free:∀x,(x,bx)∈sc.names->X.env.scope.names.lookup x=some .cell\/X.env.scope.names.lookup x=some .free
 names:∀y∈sc.names,y.2=.local->sc.names.lookup y.1=some .local
 cap:GN sc X.env.scope X.N N' js=true
theorem CompOk.of{sc:Scope}{N':List Str}{js:List (Option Nat)}(h:JS sc X.env.scope X.N N' js=true):CompOk X sc N' js:=by
 unfold JS at h
 rw [bL,bL,eA] at h
 obtain⟨⟨h1,h2⟩,h3⟩:=h
 refine⟨Ta h1,λy hy e=>?_,λx hx=>?_,λy hy e=>?_,h3⟩
 ·have q:=h2 y hy
  unfold aC at q
  rw [e] at q
  cases q
 ·have q:=h2 _ hx
  exact Pk q
 ·have q:=h2 y hy
  unfold aC at q
  rw [e] at q
  exact TY q
theorem NQ{sc:Scope}{N':List Str}{js:List (Option Nat)}{cl:List (Str×Addr)}{fp:List Addr}{h₁:Heap}{tk:Nat}(I:Inv X pins σ H s)(hc:X.calm=true)(O:CompOk X sc N' js)
  (hcl:∀x c,cl.lookup x=some c->X.env.cells.lookup x=some c) (hcl2:∀x,(x,bx)∈sc.names->∃c,cl.lookup x=some c)
  (hf:∀b∈fp,Gh X pins H b) (ho:∀b∈fp,∃o,s.heap.get? b=some o)
  (hns:h₁.Ns (s.heap.objs.size+1) (λ_=>none)) (hk:∀b o,s.heap.get? b=some o->h₁.get? b=some o) (hD:∃n,h₁.get? s.heap.objs.size=some { cls:=.type "list",data:=.seq #[] n }) :
  Inv (Ax X sc N' cl (s.heap.objs.size+1) s H fp) [] (By js σ) (As H s.heap.objs.size (.lst [])) { s with heap:=h₁,toks:=tk }:=by
 have fr:∀a,s.heap.objs.size<=a->H a=none:=λa ha=>I.hok.fresh ha
 have cellLt:∀x c,cl.lookup x=some c->c<s.heap.objs.size:=λx c e=>by
  obtain⟨v,q⟩:=I.cell x c (hcl x c e)
  exact q.lt
 have ok:(Ax X sc N' cl (s.heap.objs.size+1) s H fp).Ok:=by
  refine⟨I.ok.mod,O.kind,I.ok.glob,I.ok.blt,cY _,λx y c h1 h2=>I.ok.inj x y c (hcl x c h1) (hcl y c h2),λx hx=>?_,λx c hx=>?_,λ_=>I.ok.hd hc,I.ok.frames,.inl rfl,λb hb=>⟨?_,λx c e=>?_⟩,I.bs,bS I.ok.bsz I.sz,λb o e hb=>?_,λb hb hb2=>?_,I.stack,I.stkFree⟩
  ·exact hcl2 x (OF (env:=X.env) O.cell hx)
  ·exact absurd (show false=true from hx) bG
  ·obtain⟨o,e⟩:=ho b hb
   exact bK (cy (Tk e))
  ·exact(hf b hb).2.2.2.2.1 x c (hcl x c e)
  ·rcases (hf b hb).2.2.2.1 with z | z
   ·exact I.ok.noex b o e z
   ·have h1:b<X.base.objs.size:=Tk e
    exact absurd (bR h1 (bS I.ok.bsz z)) (cI _)
  ·rcases TM.mp (I.stkSub b hb2) with z | z
   ·exact(hf b hb).2.1 z
   ·exact(hf b hb).2.2.1 z
 refine⟨ok,rfl,I.bare,?_,⟨_,hns,λi x v h1 h2 h3=>?_⟩,λx c e=>?_,?_,λx c e=>?_,λp hp=>absurd (show p∈([]:List (Addr×Obj)) from hp) (by simp),?_,?_⟩
 ·exact Un.laid hk (Op _) (fr _ (Op _))
 ·obtain⟨j,e1,e2⟩:=Q_ h2
  obtain⟨c1,c2,c3⟩:=L1 O.cap h1 e1
  obtain⟨m,_,hl⟩:=I.loc
  obtain⟨u,r,l⟩:=hl j x v c2 e2 (.inr c3)
  refine⟨u,r,.inr ⟨CC c1,?_⟩⟩
  rcases l with ⟨l1,_⟩ | ⟨_,c,l2,l3⟩
  ·have l1':X.env.scope.names.lookup x=some .local:=l1
   rcases c3 with c3 | c3 <;> (rw [l1'] at c3; cases c3)
  ·obtain⟨c',e'⟩:=hcl2 x (PySem.mem_of_lookup c1)
   have:c'=c:=UF ((hcl x c' e').symm.trans l2)
   subst this
   obtain⟨oc,hoc,hocd⟩:=id l3
   exact⟨c',e',oc,hk _ _ hoc,hocd⟩
 ·obtain⟨v,oc,hoc,hocd⟩:=I.cell x c (hcl x c e)
  exact⟨v,oc,hk _ _ hoc,hocd⟩
 ·show As H s.heap.objs.size (.lst []) (s.heap.objs.size+1)=none
  rw [AK (Nat.succ_ne_self _)]
  exact fr _ (cY _)
 ·show As H s.heap.objs.size (.lst []) c=none
  rw [AK (bK (cellLt x c e))]
  exact I.freeC x c (hcl x c e)
 ·refine I.hok.laid hk (Op _) ?_
  obtain⟨n,e⟩:=hD
  exact⟨bH _,[],n,.nil,e⟩
 ·unfold By
  show (js.map _).length=N'.length
  rw [FM]
  exact EU O.cap
theorem Un.but{fs ex:List Addr}{H H1:Hp}{h h1 h':Heap}{C:Addr}(u:Un fs ex H H1 h h1)(hC:h.get? C=none)(hs:∀b,b≠C->h'.get? b=h1.get? b):Un fs ex H H1 h h':=by
 have ne:∀{b:Addr} {o:Obj},h.get? b=some o->b≠C:=λ{b o} e z=>by rw [z,hC] at e; cases e
 refine⟨λb o e n h1 h2=>(hs b (ne e)).trans (u.keep b o e n h1 h2),λb o e n h1 h2=>?_,u.free,λb o e h1=>?_,u.tups,u.frzs,u.tbls⟩
 ·obtain⟨sl,q⟩:=u.slot b o e n h1 h2
  exact⟨sl,(hs b (ne e)).trans q⟩
 ·obtain⟨o',q⟩:=u.there b o e h1
  exact⟨o',(hs b (ne e)).trans q⟩
theorem JK{sc:Scope}{N':List Str}{cl:List (Str×Addr)}{C:Addr}{fp:List Addr}{pins':List (Addr×Obj)}{σ':St}{H':Hp}{s':Shared}{h':Heap}(I:Inv X pins σ H s)(hf:∀b∈fp,Gh X pins H b)(hC:s.heap.objs.size<=C)
  (J:Inv (Ax X sc N' cl C s H fp) pins' σ' H' s') (hs:∀b,b≠C->h'.get? b=s'.heap.get? b):Inv X pins σ H' { s' with heap:=h' }:=by
 have nC:s.heap.get? C=none:=by
  cases e:s.heap.get? C with
  | none=>rfl
  | some o=>exact absurd (Tk e) (fS.mpr hC)
 have hC':H' C=none:=J.free
 refine I.call' (s':={ s' with heap:=h' }) (ch:=fp) J.os (Un.but J.base nC hs) (λa o e=>?_) J.bare λb hb=>?_
 ·exact(J.hok a o e).stay (λb u hb q=>(hs b (λz=>by
   rw [z] at hb
   rcases hb with z2 | z2
   ·rw [← z2,hC'] at e; cases e
   ·rw [hC'] at z2; cases z2)).trans q) (λ_ q=>q) λ_ _ q=>q
 ·obtain⟨f0,f1,f2,f3,f4,f5⟩:=hf b hb
  exact⟨f3,f1,f4,f5⟩
end
noncomputable def Zc(X:Cx)(ifs:List Expr)(t:TT):Prop :=
 ∀(pins:List (Addr×Obj)) (s:Shared) (σ:St) (H:Hp) (Q:Bool->Hp->Prop),Inv X pins σ H s->t σ H Q ->
  wpAny (model X.prog X.w) X.A (forIn ifs true λc r=>if r=true then do let ok ← isTrue c X.env (eval c X.env); pure (dA ok) else pure (dA r)) (TP X pins σ Q) X.xe s
noncomputable def Z4:TT:=λ_ H Q=>Q true H
theorem PU{X:Cx}:Zc X [] Z4:=λpins s σ H Q I h=>wpAny_tests_nil ⟨H,I,h⟩
theorem U5{X:Cx}{c:Expr}{t:TT}(h:PT X c t):Zc X [c] t:=λpins s σ H Q I q=>wpAny_tests_one (h pins s σ H Q I q)
noncomputable def SF(X:Cx)(sc:Scope)(N':List Str)(js:List (Option Nat))(tg elt:Expr)(ifs:List Expr)(wi:TI):TE:=λσ H Q=>wi σ H λJ H1=>∀l,H1 l=none->X.K.lookup l=none->∀cl C s H0 fp,∃(g:TG) (tt:TT) (te:TE) (W:Nat->Nat->St->Hp->Prop),
 PG (Ax X sc N' cl C s H0 fp) tg g/\Zc (Ax X sc N' cl C s H0 fp) ifs tt/\PE (Ax X sc N' cl C s H0 fp) elt te/\(∃m,W 0 m (By js σ) (As H1 l (.lst [])))/\∀i m σ' H',W i m σ' H' ->
 (J.stop i H'/\Q (.ref l) H')\/(J.go i H'/\∀x H2,J.yld i H' x H2->g x σ' H2 λσ3 H3=>tt σ3 H3 λb H4=>if b=true then te σ3 H4 λy H5=>∃ys,H5 l=some (.lst ys)/\ys.length<sizeLine/\∃m',m'<m/\W (i+1) m' σ3 (As H5 l (.lst (ys++[y]))) else ∃m',m'<m/\W (i+1) m' σ3 H4)
section
variable {X:Cx}{tg elt iter:Expr}{ifs:List Expr}{sc:Scope}{pos:Pos}{N':List Str}{js:List (Option Nat)}{wi:TI}{g:TG}{tt:TT}{te:TE}
theorem Ki{pins:List (Addr×Obj)}{σ:St}{H:Hp}{s:Shared}{cl:List (Str×Addr)}{C l it:Addr}{fp:List Addr}{tn:Nat->Heap->Prop}{J:It}{s3:Shared}{Q:VK}{R:Result->Shared->Prop}{W:Nat->Nat->St->Hp->Prop}{m0:Nat}{σ0:St}{H0:Hp}
  (I:Inv X pins σ H s) (hf:∀b∈fp,Gh X pins H b) (hlt:∀b∈fp,b<s.heap.objs.size) (hC:s.heap.objs.size<=C)
  (T:Turn X.prog X.w X.K tg J fp it tn)
  (hg:PG (Ax X sc N' cl C s H fp) tg g) (ht:Zc (Ax X sc N' cl C s H fp) ifs tt) (he:PE (Ax X sc N' cl C s H fp) elt te)
  (hW:∀i m σ' H',W i m σ' H' ->
   (J.stop i H'/\Q (.ref l) H')\/(J.go i H'/\∀x H2,J.yld i H' x H2->g x σ' H2 λσ3 H3=>tt σ3 H3 λb H4=>if b=true then te σ3 H4 λy H5=>∃ys,H5 l=some (.lst ys)/\ys.length<sizeLine/\∃m',m'<m/\W (i+1) m' σ3 (As H5 l (.lst (ys++[y]))) else ∃m',m'<m/\W (i+1) m' σ3 H4))
  (hR:∀σ' H' s',Inv (Ax X sc N' cl C s H fp) [] σ' H' s'->Q (.ref l) H'->R (.ok .next) s')
  (I3:Inv (Ax X sc N' cl C s H fp) [] σ0 H0 s3) (t3:tn 0 s3.heap) (f3:∀b∈fp,H0 b=none) (w0:W 0 m0 σ0 H0) :
  codeAny (model X.prog X.w) X.A (.compLoop (.ListComp elt [⟨tg,iter,ifs,0⟩] sc pos) 0 (.ref it) (.ref l) (compEnvC sc cl C X.env)) R s3:=by
 have stat:∀{H':Hp},(∀b∈fp,H' b=none)->∀b∈fp,Gh (Ax X sc N' cl C s H fp) [] H' b:=λhn b hb=>by
  have q:=I3.ok.exf b hb
  refine⟨hn b hb,q.1,I3.ok.exfs b hb,.inl hb,q.2,λp hp=>absurd (show p∈([]:List (Addr×Obj)) from hp) (by simp)⟩
 refine Lz (λn s'=>∃i σ' H',Inv (Ax X sc N' cl C s H fp) [] σ' H' s'/\tn i s'.heap/\(∀b∈fp,H' b=none)/\W i n σ' H') ?_ m0 ⟨0,σ0,H0,I3,t3,f3,w0⟩
 rintro n s4 ⟨i,σ4,H4,I4,st4,fr4,w4⟩
 rcases hW i n σ4 H4 w4 with ⟨stop,qn⟩ | ⟨go,step⟩
 ·refine thn (T.done (Ax X sc N' cl C s H fp) rfl rfl rfl rfl i [] s4 σ4 H4 (λ_ _=>False) I4 (stat fr4) st4 stop) λr s5 ⟨hr,I5⟩=>?_
  subst hr
  exact hR σ4 H4 s5 I5 qn
 ·refine thn (T.item (Ax X sc N' cl C s H fp) rfl rfl rfl rfl i [] s4 σ4 H4 (λ_ _=>False) I4 (stat fr4) st4 go) λr s5 ⟨u,hr,h5⟩=>?_
  subst hr
  refine thn h5 λ_ s6 ⟨x,H6,I6,r6,y6,st6,fr6⟩=>?_
  have I6':=I6.pinned (stat fr6) (T.obj _ _ st6)
  refine thn (hg _ s6 σ4 H6 x u _ I6' r6 (step x H6 y6)) λ_ s7 ⟨σ7,H7,I7,q7⟩=>?_
  have again:∀{σ9:St} {H9:Hp} {s9:Shared} {m':Nat},Inv (Ax X sc N' cl C s H fp) ([]++Ip fp s6.heap) σ9 H9 s9->m'<n->W (i+1) m' σ9 H9->∃m,m<n/\∃i σ' H',Inv (Ax X sc N' cl C s H fp) [] σ' H' s9/\tn i s9.heap/\(∀b∈fp,H' b=none)/\W i m σ' H':=λ{σ9 H9 s9 m'} I9 hm w9=>by
   refine⟨m',hm,i+1,σ9,H9,I9.unpinned,T.keep _ _ _ st6 λb hb o e=>(I9.pin (b,o) (bP _ (bP _ (Df hb e)))).1,λb hb=>?_,w9⟩
   obtain⟨o,e,d⟩:=T.obj _ _ st6 b hb
   exact(I9.pin (b,o) (bP _ (bP _ (Df hb e)))).2.1
  refine thn (ht _ s7 σ7 H7 _ I7 q7) λok s8 ⟨H8,I8,q8⟩=>?_
  cases ok with
  | false =>
   have q8':∃m',m'<n/\W (i+1) m' σ7 H8:=q8
   obtain⟨m',hm,w8⟩:=q8'
   show ∃m,m<n/\_
   exact again I8 hm w8
  | true =>
   refine thn (he _ s8 σ7 H8 _ I8 q8) λy s9 ⟨yv,H9,I9,ry,q9⟩=>?_
   obtain⟨ys,hl,hz,m',hm,w9⟩:=q9
   refine thn (DC (X:=Ax X sc N' cl C s H fp) _ s9 σ7 H9 (.ref l) [yv] (.ref l) [y] (λv H'=>v=.non/\H'=As H9 l (.lst (ys++[yv]))) I9 rfl (.cons ry .nil) ⟨l,ys,yv,rfl,rfl,hl,hz,rfl,rfl⟩) λ_ sa ⟨v,Ha,Ia,_,_,eH⟩=>?_
   subst eH
   exact again Ia hm w9
theorem U8(hc:X.calm=true)(N':List Str)(js:List (Option Nat))(hi:PI X tg iter wi)
  (hB:JS sc X.env.scope X.N N' js=true)
  (hs:autoParam (∀x,foldedSetIterable iter X.env x=pure x) zau2._auto_1) :
  PE X (.ListComp elt [⟨tg,iter,ifs,0⟩] sc pos) (SF X sc N' js tg elt ifs wi):=by
 intro pins s σ H Q I h
 have O:CompOk X sc N' js:=CompOk.of hB
 obtain⟨cl,hclos,hcl,hcl2⟩:=JU (scope:=sc) (env:=X.env) λx hx=>I.ok.has x (O.free x hx)
 rw [eval_ListComp]
 refine wpAny_comprehension_free (use:=none) rfl hs hclos O.kind O.names (thn (hi pins s σ H _ I h) λv s1 h1=>thn h1 λitv s2 h2=>?_)
 obtain⟨it,fp,tn,J,H2,e,I2,T,st2,f2,hq⟩:=h2
 subst e
 have kfree:X.K.lookup s2.heap.objs.size=none:=by
  cases q:X.K.lookup s2.heap.objs.size with
  | none=>rfl
  | some o=>exact absurd (Tk (I2.kIn _ _ q)) (cI _)
 obtain⟨g,tt,te,W,hg,ht,he,⟨m0,w0⟩,hW⟩:=hq s2.heap.objs.size (I2.hok.fresh (Op _)) kfree cl (s2.heap.objs.size+1) s2 H2 fp
 refine bY (wpAny_newFunctionEnv O.cell (by intro y hy; simp at hy) (λh₁ hns₁ hsb₁=>?_) O.kind)
 dsimp only at hns₁ hsb₁ ⊢
 generalize hH2:s2.heap.push { cls:=.type "list",dict:=none,data:=.seq ([]:List Value).toArray }=Hh at hns₁ hsb₁ ⊢
 have hCe:Hh.objs.size=s2.heap.objs.size+1:=by rw [← hH2,cT]
 have hlt:∀b∈fp,b<s2.heap.objs.size:=λb hb=>by
  obtain⟨o,e,_⟩:=T.obj _ _ st2 b hb
  exact Tk e
 have old:∀b o,s2.heap.get? b=some o->h₁.get? b=some o:=λb o e=>hsb₁.extBut b o (by rw [hCe]; exact bK (cy (Tk e))) (Ev _ (hH2▸Ev _ e))
 have hD:∃n,h₁.get? s2.heap.objs.size=some { cls:=.type "list",data:=.seq #[] n }:=⟨_,hsb₁.extBut _ _ (by rw [hCe]; exact bK (em _)) (Ev _ (hH2▸Sc _ rfl))⟩
 have I3:∀tk,Inv (Ax X sc N' cl (s2.heap.objs.size+1) s2 H2 fp) [] (By js σ) (As H2 s2.heap.objs.size (.lst [])) { s2 with heap:=h₁,toks:=tk }:=λtk =>
  NQ I2 hc O hcl hcl2 f2 (λb hb=>let ⟨o,e,_⟩:=T.obj _ _ st2 b hb; ⟨o,e⟩) (by rw [← hCe]; exact hns₁) old hD
 have st3:tn 0 h₁:=T.keep _ _ _ st2 λb hb o e=>old b o e
 have fr3:∀b∈fp,As H2 s2.heap.objs.size (.lst []) b=none:=λb hb=>by
  rw [AK (bK (hlt b hb))]
  exact(f2 b hb).1
 have loop:∀tk,codeAny (model X.prog X.w) X.A (.compLoop (.ListComp elt [⟨tg,iter,ifs,0⟩] sc pos) 0 (.ref it) (.ref s2.heap.objs.size) (compEnvC sc cl (s2.heap.objs.size+1) X.env))
   (compPost (model X.prog X.w) X.A X.xe none (EP X pins σ Q) (.ref s2.heap.objs.size) (s2.heap.objs.size+1)) { s2 with heap:=h₁,toks:=tk }:=λtk=>by
  refine Ki (W:=W) (m0:=m0) (Q:=Q) I2 f2 hlt (cY _) T hg ht he hW (λσ' H' s' J' q'=>?_) (I3 tk) st3 fr3 w0
  obtain⟨m,hn,_⟩:=J'.loc
  exact⟨m,hn,λh' hs'=>⟨.ref _,H',JK I2 f2 (cY _) J' λb hb=>hs'.2 b hb,rfl,q'⟩⟩
 rw [show (newEnv sc Hh.objs.size X.env.globals cl X.env.qual none .none (some X.env) builtinsNs).locals=s2.heap.objs.size+1 from hCe]
 show codeAny (model X.prog X.w) X.A (.compStart (.ListComp elt [⟨tg,iter,ifs,0⟩] sc pos) 0 (.ref it) (.ref s2.heap.objs.size) (compEnvC sc cl (s2.heap.objs.size+1) X.env)) _ _
 exact codeAny_compStart_list (loop _) (T.self _ 0 _ _ _ st3 (loop _))
end
end L2
namespace Dp
open PySem PySem.Spec PyProof.Rows L2
inductive D where
 | non | bl (b:Bool) | int (i:Int) | str (x:Str) | tup (xs:List D) | lst (xs:List D) | dic (ks:List Key) (xs:List D) | fdi (ks:List Key) (xs:List D) | dit (ks:List (List Key)) (xs:List D)
 deriving Inhabited
noncomputable def NdT(M:Addr->Prop)(H:Hp)(a:Addr)(vs:List V):Prop:=H a=some (.tup vs)
noncomputable def NdL(M:Addr->Prop)(H:Hp)(a:Addr)(vs:List V):Prop:=¬M a/\H a=some (.lst vs)
noncomputable def NdD(M:Addr->Prop)(H:Hp)(a:Addr)(ks:List Key)(vs:List V):Prop:=¬M a/\H a=some (.dK (ks.zip vs))
noncomputable def NdF(M:Addr->Prop)(H:Hp)(a:Addr)(ks:List Key)(vs:List V):Prop:=∃o,¬M a/\H a=some (.frz o (.dK (ks.zip vs)))
noncomputable def NdU(M:Addr->Prop)(H:Hp)(a:Addr)(ks:List (List Key))(vs:List V):Prop:=¬M a/\H a=some (.dT (ks.zip vs))
mutual
noncomputable def At(K:Frag)(M:Addr->Prop)(H:Hp):D->V->Prop
 | .non,v=>v=.non
 | .bl b,v=>v=.bl b
 | .int i,v=>v=.int i
 | .str x,v=>v=.str x/\x.length<=sizeLine
 | .tup ds,v=>∃a vs,v=.ref a/\NdT M H a vs/\Ats K M H ds vs
 | .lst ds,v=>∃a vs,v=.ref a/\NdL M H a vs/\Ats K M H ds vs
 | .dic ks ds,v=>∃a vs,v=.ref a/\NdD M H a ks vs/\ks.length=ds.length/\Ats K M H ds vs
 | .fdi ks ds,v=>∃a vs,v=.ref a/\NdF M H a ks vs/\ks.length=ds.length/\Ats K M H ds vs
 | .dit ks ds,v=>∃a vs,v=.ref a/\NdU M H a ks vs/\ks.length=ds.length/\Ats K M H ds vs
noncomputable def Ats(K:Frag)(M:Addr->Prop)(H:Hp):List D->List V->Prop
 | [],vs=>vs=[]
 | d::ds,vs=>∃v r,vs=v::r/\At K M H d v/\Ats K M H ds r
end
section
variable {K:Frag}{M M':Addr->Prop}{H H':Hp}{a:Addr}{vs:List V}{ks:List Key}
theorem NdT.sq(h:NdT M H a vs):SqT K H a vs:=.inl (.inl h)
theorem NdL.sq(h:NdL M H a vs):SqL K H a vs:=.inl (.inl h.2)
noncomputable def Pres(M:Addr->Prop)(H:Hp)(M':Addr->Prop)(H':Hp):Prop:=(∀b o,H b=some o->¬M b->H' b=some o)/\(∀b,M' b->M b\/H b=none)/\∀b vs,H b=some (.tup vs)->H' b=some (.tup vs)
theorem Pres.nd{u:HO}(p:Pres M H M' H')(n:¬M a)(h:H a=some u):¬M' a/\H' a=some u:=by
 refine⟨λz=>?_,p.1 _ _ h n⟩
 rcases p.2.1 a z with z | z
 ·exact n z
 ·rw [z] at h; cases h
theorem NdT.pres(p:Pres M H M' H')(h:NdT M H a vs):NdT M' H' a vs:=p.2.2 _ _ h
theorem NdL.pres(p:Pres M H M' H')(h:NdL M H a vs):NdL M' H' a vs:=p.nd h.1 h.2
theorem NdD.pres(p:Pres M H M' H')(h:NdD M H a ks vs):NdD M' H' a ks vs:=p.nd h.1 h.2
theorem NdU.pres{ks:List (List Key)}(p:Pres M H M' H')(h:NdU M H a ks vs):NdU M' H' a ks vs:=p.nd h.1 h.2
theorem NdF.pres(p:Pres M H M' H')(h:NdF M H a ks vs):NdF M' H' a ks vs:=let ⟨o,h1,h2⟩:=h; ⟨o,p.nd h1 h2⟩
mutual
theorem At.pres(p:Pres M H M' H'):∀{d:D} {v:V},At K M H d v->At K M' H' d v
 | .non,v,h=>h
 | .bl b,v,h=>h
 | .int i,v,h=>h
 | .str x,v,h=>h
 | .tup ds,v,h=>by
  obtain⟨a,vs,e,hn,hs⟩:=h
  exact⟨a,vs,e,hn.pres p,Ats.pres p hs⟩
 | .lst ds,v,h=>by
  obtain⟨a,vs,e,hn,hs⟩:=h
  exact⟨a,vs,e,hn.pres p,Ats.pres p hs⟩
 | .dic ks ds,v,h=>by
  obtain⟨a,vs,e,hn,hl,hs⟩:=h
  exact⟨a,vs,e,hn.pres p,hl,Ats.pres p hs⟩
 | .fdi ks ds,v,h=>by
  obtain⟨a,vs,e,hn,hl,hs⟩:=h
  exact⟨a,vs,e,hn.pres p,hl,Ats.pres p hs⟩
 | .dit ks ds,v,h=>by
  obtain⟨a,vs,e,hn,hl,hs⟩:=h
  exact⟨a,vs,e,hn.pres p,hl,Ats.pres p hs⟩
theorem Ats.pres(p:Pres M H M' H'):∀{ds:List D} {vs:List V},Ats K M H ds vs->Ats K M' H' ds vs
 | [],vs,h=>h
 | d::ds,vs,h=>by
  obtain⟨v,r,e,h1,h2⟩:=h
  exact⟨v,r,e,At.pres p h1,Ats.pres p h2⟩
end
theorem Pres.trans{M1 M2 M3:Addr->Prop}{H1 H2 H3:Hp}(p:Pres M1 H1 M2 H2)(q:Pres M2 H2 M3 H3):Pres M1 H1 M3 H3:=by
 refine⟨λb o e n=>?_,λb z=>?_,λb vs e=>q.2.2 b vs (p.2.2 b vs e)⟩
 ·refine q.1 b o (p.1 b o e n) λz=>?_
  rcases p.2.1 b z with z | z
  ·exact n z
  ·rw [z] at e; cases e
 ·rcases q.2.1 b z with z | z
  ·exact p.2.1 b z
  ·cases e:H1 b with
   | none=>exact .inr rfl
   | some o =>
    by_cases n:M1 b
    ·exact .inl n
    ·rw [p.1 b o e n] at z; cases z
theorem Pres.refl(M:Addr->Prop)(H:Hp):Pres M H M H:=⟨λ_ _ e _=>e,λ_ z=>.inl z,λ_ _ e=>e⟩
theorem Pres.less(h:∀b,M' b->M b):Pres M H M' H:=⟨λ_ _ e _=>e,λb z=>.inl (h b z),λ_ _ e=>e⟩
theorem Ats.length:∀{ds:List D} {vs:List V},Ats K M H ds vs->vs.length=ds.length
 | [],vs,h=>by cases h; rfl
 | d::ds,vs,h=>by
  obtain⟨v,r,e,h1,h2⟩:=h
  subst e
  rw [XV,XV,Ats.length h2]
theorem Ats.get:∀{ds:List D} {vs:List V} {i:Nat} {d:D},Ats K M H ds vs->ds[i]?=some d->∃v,vs[i]?=some v/\At K M H d v
 | [],vs,i,d,h,e=>by simp at e
 | d0::ds,vs,0,d,h,e=>by
  obtain⟨v,r,e1,h1,h2⟩:=h
  simp at e
  subst e e1
  exact⟨v,rfl,h1⟩
 | d0::ds,vs,i+1,d,h,e=>by
  obtain⟨v,r,e1,h1,h2⟩:=h
  subst e1
  obtain⟨u,e2,h3⟩:=Ats.get (i:=i) (d:=d) h2 (by simpa using e)
  exact⟨u,by simpa using e2,h3⟩
theorem Ats.append:∀{ds es:List D} {vs us:List V},Ats K M H ds vs->Ats K M H es us->Ats K M H (ds++es) (vs++us)
 | [],es,vs,us,h,g=>by cases h; exact g
 | d::ds,es,vs,us,h,g=>by
  obtain⟨v,r,e,h1,h2⟩:=h
  subst e
  exact⟨v,r++us,rfl,h1,Ats.append h2 g⟩
theorem Ats.drop:∀{ds:List D} {vs:List V} (n:Nat),Ats K M H ds vs->Ats K M H (ds.drop n) (vs.drop n)
 | ds,vs,0,h=>h
 | [],vs,n+1,h=>by cases h; exact rfl
 | d::ds,vs,n+1,h=>by
  obtain⟨v,r,e,h1,h2⟩:=h
  subst e
  exact Ats.drop n h2
theorem Ats.take:∀{ds:List D} {vs:List V} (n:Nat),Ats K M H ds vs->Ats K M H (ds.take n) (vs.take n)
 | ds,vs,0,h=>rfl
 | [],vs,n+1,h=>by cases h; exact rfl
 | d::ds,vs,n+1,h=>by
  obtain⟨v,r,e,h1,h2⟩:=h
  subst e
  exact⟨v,r.take n,rfl,h1,Ats.take n h2⟩
theorem Ats.one{d:D}{v:V}(h:At K M H d v):Ats K M H [d] [v]:=⟨v,[],rfl,h,rfl⟩
theorem Ats.eraseIdx:∀{ds:List D} {vs:List V} (i:Nat),Ats K M H ds vs->Ats K M H (ds.eraseIdx i) (vs.eraseIdx i)
 | [],vs,i,h=>by cases h; exact rfl
 | d0::ds,vs,0,h=>by
  obtain⟨u,r,e1,h1,h2⟩:=h
  subst e1
  exact h2
 | d0::ds,vs,i+1,h=>by
  obtain⟨u,r,e1,h1,h2⟩:=h
  subst e1
  exact⟨u,r.eraseIdx i,rfl,h1,Ats.eraseIdx i h2⟩
theorem Ats.reverse:∀{ds:List D} {vs:List V},Ats K M H ds vs->Ats K M H ds.reverse vs.reverse
 | [],vs,h=>by cases h; exact rfl
 | d::ds,vs,h=>by
  obtain⟨v,r,e,h1,h2⟩:=h
  subst e
  rw [eW,eW]
  exact Ats.append (Ats.reverse h2) (Ats.one h1)
end
inductive Kd where
 | sh | tp | fr
noncomputable def Tops(K:Frag)(M:Addr->Prop)(H:Hp)(a:Addr):D->Prop
 | .lst ds=>∃vs,H a=some (.lst vs)/\Ats K M H ds vs
 | .dic ks ds=>∃vs,H a=some (.dK (ks.zip vs))/\ks.length=ds.length/\Ats K M H ds vs
 | .dit ks ds=>∃vs,H a=some (.dT (ks.zip vs))/\ks.length=ds.length/\Ats K M H ds vs
 | _=>False
theorem Tops.notT{K:Frag}{M:Addr->Prop}{H:Hp}{a:Addr}{d:D}(h:Tops K M H a d){vs:List V}:H a≠some (.tup vs):=λq=>by
 cases d with
 | lst ds=>obtain⟨us,e,_⟩:=h; rw [e] at q; cases q
 | dic ks ds=>obtain⟨us,e,_⟩:=h; rw [e] at q; cases q
 | dit ks ds=>obtain⟨us,e,_⟩:=h; rw [e] at q; cases q
 | _=>exact h.elim
theorem Tops.pres{K:Frag}{M M':Addr->Prop}{H H':Hp}{a:Addr}{d:D}(h:Tops K M H a d)(p:Pres M H M' H')(e:∀o,H a=some o->H' a=some o):Tops K M' H' a d:=by
 cases d with
 | lst ds=>obtain⟨vs,h1,h2⟩:=h; exact⟨vs,e _ h1,h2.pres p⟩
 | dic ks ds=>obtain⟨vs,h1,h2,h3⟩:=h; exact⟨vs,e _ h1,h2,h3.pres p⟩
 | dit ks ds=>obtain⟨vs,h1,h2,h3⟩:=h; exact⟨vs,e _ h1,h2,h3.pres p⟩
 | _=>exact(show False from h).elim
theorem Tops.at{K:Frag}{M:Addr->Prop}{H:Hp}{a:Addr}{d:D}(h:Tops K M H a d)(n:¬M a):At K M H d (.ref a):=by
 cases d with
 | lst ds=>obtain⟨vs,h1,h2⟩:=h; exact⟨a,vs,rfl,⟨n,h1⟩,h2⟩
 | dic ks ds=>obtain⟨vs,h1,h2,h3⟩:=h; exact⟨a,vs,rfl,⟨n,h1⟩,h2,h3⟩
 | dit ks ds=>obtain⟨vs,h1,h2,h3⟩:=h; exact⟨a,vs,rfl,⟨n,h1⟩,h2,h3⟩
 | _=>exact(show False from h).elim
noncomputable def AtT(K:Frag)(U:Addr->Prop)(M:Addr->Prop)(H:Hp):D->V->Prop
 | .lst ds,v=>∃a vs,v=.ref a/\¬U a/\Rd H a (.lst vs)/\Ats K M H ds vs
 | .dic ks ds,v=>∃a vs,v=.ref a/\¬U a/\H a=some (.dK (ks.zip vs))/\ks.length=ds.length/\Ats K M H ds vs
 | .dit ks ds,v=>∃a vs,v=.ref a/\¬U a/\H a=some (.dT (ks.zip vs))/\ks.length=ds.length/\Ats K M H ds vs
 | d,v=>At K M H d v
theorem Tops.att{K:Frag}{U M:Addr->Prop}{H:Hp}{a:Addr}{d:D}(h:Tops K M H a d)(n:¬U a):AtT K U M H d (.ref a):=by
 cases d with
 | lst ds=>obtain⟨vs,h1,h2⟩:=h; exact⟨a,vs,rfl,n,.inl h1,h2⟩
 | dic ks ds=>obtain⟨vs,h1,h2,h3⟩:=h; exact⟨a,vs,rfl,n,h1,h2,h3⟩
 | dit ks ds=>obtain⟨vs,h1,h2,h3⟩:=h; exact⟨a,vs,rfl,n,h1,h2,h3⟩
 | _=>exact(show False from h).elim
noncomputable def VR(K:Frag)(U:Addr->Prop)(M:Addr->Prop)(H H':Hp):Kd->V->D->Prop
 | .sh,v,d=>At K M H' d v
 | .tp,v,d=>AtT K U M H' d v
 | .fr,v,d=>∃a,v=.ref a/\H a=none/\Tops K (λb=>M b\/b=a) H' a d
noncomputable def FeedOk(K:Frag)(M:Addr->Prop)(H:Hp)(f:Addr×Addr)(n:Nat):Prop :=
 ∃(at_ rest:Int) (cells:List Int),H f.1=some (.lst [.ref f.2,.int at_,.int rest])/\f.2≠f.1/\NdL M H f.2 (cells.map V.int)/\cells.length<=63/\0<=at_/\at_+n<=2 ^ 60
noncomputable def FeedC(K:Frag)(F:Option (Addr×Addr))(M:Addr->Prop)(H:Hp)(n:Nat):Prop:=∀f,F=some f->FeedOk K M H f n
noncomputable def Ext(U:Addr->Prop)(H H':Hp):Prop:=∀b o,H b=some o->∃o',H' b=some o'/\(¬U b->o'=o)/\∀vs,o=.tup vs->o'=o
theorem Ext.keep{U:Addr->Prop}{H H':Hp}(p:Ext U H H'){b:Addr}{o:HO}(e:H b=some o)(n:¬U b):H' b=some o:=by
 obtain⟨o',q,r,_⟩:=p b o e
 rw [q,r n]
theorem Ext.tup{U:Addr->Prop}{H H':Hp}(p:Ext U H H'){b:Addr}{vs:List V}(e:H b=some (.tup vs)):H' b=some (.tup vs):=by
 obtain⟨o',q,_,r⟩:=p b _ e
 rw [q,r vs rfl]
theorem Ext.free{U:Addr->Prop}{H H':Hp}(p:Ext U H H'){b:Addr}(e:H' b=none):H b=none:=by
 cases q:H b with
 | none=>rfl
 | some o =>
  obtain⟨o',z,_⟩:=p b o q
  rw [e] at z; cases z
theorem Ext.refl(U:Addr->Prop)(H:Hp):Ext U H H:=λ_ o e=>⟨o,e,λ_=>rfl,λ_ _=>rfl⟩
theorem Ext.trans{U:Addr->Prop}{H1 H2 H3:Hp}(p:Ext U H1 H2)(q:Ext U H2 H3):Ext U H1 H3:=λb o e=>by
 obtain⟨o',e1,r1,t1⟩:=p b o e
 obtain⟨o2,e2,r2,t2⟩:=q b o' e1
 exact⟨o2,e2,λn=>(r2 n).trans (r1 n),λvs z=>(t2 vs ((t1 vs z).trans z)).trans (t1 vs z)⟩
noncomputable def Grow(H H':Hp):Prop:=H'=H\/∃p o,H p=none/\H'=As H p o
theorem Grow.all{H H':Hp}(g:Grow H H'):∀b o,H b=some o->H' b=some o:=by
 intro b o e
 rcases g with rfl | ⟨p,u,n,rfl⟩
 ·exact e
 ·rw [AK (Ac e n)]; exact e
theorem Grow.refl{H:Hp}:Grow H H:=.inl rfl
theorem Grow.ext{U:Addr->Prop}{H H':Hp}(g:Grow H H'):Ext U H H':=λb o e=>⟨o,g.all b o e,λ_=>rfl,λ_ _=>rfl⟩
theorem Grow.pres{M:Addr->Prop}{H H':Hp}(g:Grow H H'):Pres M H M H':=⟨λb o e _=>g.all b o e,λ_ z=>.inl z,λb vs e=>g.all b _ e⟩
theorem FeedOk.pres{K:Frag}{M M':Addr->Prop}{H H':Hp}{f:Addr×Addr}{n:Nat}(h:FeedOk K M H f n)(p:Pres M H M' H')(e:∀o,H f.1=some o->H' f.1=some o):FeedOk K M' H' f n:=by
 obtain⟨a,r,cs,h1,h2,h3,h4⟩:=h
 exact⟨a,r,cs,e _ h1,h2,h3.pres p,h4⟩
theorem FeedC.pres{K:Frag}{F:Option (Addr×Addr)}{M M':Addr->Prop}{H H':Hp}{n:Nat}(h:FeedC K F M H n)(p:Pres M H M' H')(e:∀f o,F=some f->H f.1=some o->H' f.1=some o):FeedC K F M' H' n:=λf hf=>(h f hf).pres p λo q=>e f o hf q
theorem FeedC.grow{K:Frag}{F:Option (Addr×Addr)}{M:Addr->Prop}{H H':Hp}{n:Nat}(h:FeedC K F M H n)(g:Grow H H'):FeedC K F M H' n:=h.pres g.pres λf o _ e=>g.all f.1 o e
theorem FeedC.more{K:Frag}{F:Option (Addr×Addr)}{M:Addr->Prop}{H:Hp}{n:Nat}(h:FeedC K F M H n)(a:Addr)(ha:∀f,F=some f->f.2≠a):FeedC K F (λb=>M b\/b=a) H n:=λf hf=>by
 obtain⟨x,r,cs,h1,h2,h3,h4⟩:=h f hf
 exact⟨x,r,cs,h1,h2,⟨λz=>z.elim h3.1 (ha f hf),h3.2⟩,h4⟩
inductive Slot where
 | no | sh (d:D) | br (d:D) | fd | ow (d:D) | lt (a:Addr) (d:D)
noncomputable def Slot.owns:Slot->Bool
 | .ow _=>true
 | .lt _ _=>true
 | _=>false
noncomputable def SlotOk(K:Frag)(F:Option (Addr×Addr))(U:Addr->Prop)(M:Addr->Prop)(H:Hp):Slot->Option V->Prop
 | .no,_=>True
 | .sh d,o=>∃v,o=some v/\At K M H d v
 | .br d,o=>∃v,o=some v/\AtT K U M H d v
 | .fd,o=>∃f,o=some (.ref f.1)/\F=some f
 | .ow d,o=>∃a,o=some (.ref a)/\M a/\¬U a/\Tops K M H a d
 | .lt a d,o=>o=some (.ref a)/\M a/\¬U a/\Tops K M H a d
structure Fm where
 M0:Addr->Prop
 F:Option (Addr×Addr)
 U:Addr->Prop
 V:Addr->Prop
 H0:Hp
 pins:List ((Addr->Prop)×Hp)
 kp:List (Addr×HO)
noncomputable def Apart(ρ:List Slot)(σ:L2.St):Prop:=∀(i j:Nat) (s t:Slot) (a:Addr),ρ[i]?=some s->s.owns=true->ρ[j]?=some t->t.owns=true->(σ[i]?).getD none=some (.ref a)->(σ[j]?).getD none=some (.ref a)->i=j
structure Rel (K:Frag) (C:Fm) (M:Addr->Prop) (H:Hp) (n:Nat) (ρ:List Slot) (σ:L2.St):Prop where
 len:ρ.length=σ.length
 sub:∀a,C.M0 a->M a
 dom:∀a,M a->∃o,H a=some o
 ext:Ext C.U C.H0 H
 fU:∀f,C.F=some f->C.U f.1
 uV:∀a,C.U a->C.V a
 vM:∀a,C.V a->M a
 feed:FeedC K C.F M H n
 sl:∀(i:Nat) (s:Slot),ρ[i]?=some s->SlotOk K C.F C.V M H s ((σ[i]?).getD none)
 pin:∀p∈C.pins,Pres p.1 p.2 M H
 br0:∀(i:Nat) (d:D) (a:Addr),ρ[i]?=some (.br d)->(σ[i]?).getD none=some (.ref a)->∃o,C.H0 a=some o
 new:∀(i:Nat) (s:Slot) (a:Addr),ρ[i]?=some s->s.owns=true->(σ[i]?).getD none=some (.ref a)->¬C.M0 a/\C.H0 a=none
 two:Apart ρ σ
 kept:∀p∈C.kp,H p.1=some p.2/\M p.1/\¬C.V p.1/\∀(i:Nat) (d:D),ρ[i]?=some (.ow d)->(σ[i]?).getD none≠some (.ref p.1)
section
variable {K:Frag}{C:Fm}{M:Addr->Prop}{H H':Hp}{n n':Nat}{ρ:List Slot}{σ:L2.St}{d:D}{v:V}{κ:Kd}
theorem Rel.pres(R:Rel K C M H n ρ σ)(e:Ext C.U H H'):Pres M H M H':=⟨λb o q nb=>e.keep q λz=>nb (R.vM b (R.uV b z)),λ_ z=>.inl z,λb vs q=>e.tup q⟩
theorem AtT.pres{U V':Addr->Prop}{M':Addr->Prop}(h:AtT K V' M H d v)(p:Pres M H M' H')(e:Ext U H H')(uV:∀a,U a->V' a):AtT K V' M' H' d v:=by
 cases d with
 | lst ds =>
  obtain⟨a,vs,e1,n1,hq,hs⟩:=h
  refine⟨a,vs,e1,n1,?_,hs.pres p⟩
  rcases hq with hq | ⟨o,hq⟩
  ·exact .inl (e.keep hq λz=>n1 (uV a z))
  ·exact .inr ⟨o,e.keep hq λz=>n1 (uV a z)⟩
 | dic ks ds =>
  obtain⟨a,vs,e1,n1,hq,hl,hs⟩:=h
  exact⟨a,vs,e1,n1,e.keep hq λz=>n1 (uV a z),hl,hs.pres p⟩
 | dit ks ds =>
  obtain⟨a,vs,e1,n1,hq,hl,hs⟩:=h
  exact⟨a,vs,e1,n1,e.keep hq λz=>n1 (uV a z),hl,hs.pres p⟩
 | non=>exact At.pres (K:=K) p (d:=.non) h
 | bl b=>exact At.pres (K:=K) p (d:=.bl b) h
 | int i=>exact At.pres (K:=K) p (d:=.int i) h
 | str x=>exact At.pres (K:=K) p (d:=.str x) h
 | tup ds=>exact At.pres (K:=K) p (d:=.tup ds) h
 | fdi ks ds=>exact At.pres (K:=K) p (d:=.fdi ks ds) h
theorem AtT.same{U V':Addr->Prop}{M':Addr->Prop}(h:AtT K U M H d v)(p:Pres M H M' H')(e:∀a o,v=.ref a->H a=some o->H' a=some o)(nv:∀a,v=.ref a->¬U a->¬V' a):AtT K V' M' H' d v:=by
 cases d with
 | lst ds =>
  obtain⟨a,vs,e1,n1,hq,hs⟩:=h
  refine⟨a,vs,e1,nv a e1 n1,?_,hs.pres p⟩
  rcases hq with hq | ⟨o,hq⟩
  ·exact .inl (e a _ e1 hq)
  ·exact .inr ⟨o,e a _ e1 hq⟩
 | dic ks ds =>
  obtain⟨a,vs,e1,n1,hq,hl,hs⟩:=h
  exact⟨a,vs,e1,nv a e1 n1,e a _ e1 hq,hl,hs.pres p⟩
 | dit ks ds =>
  obtain⟨a,vs,e1,n1,hq,hl,hs⟩:=h
  exact⟨a,vs,e1,nv a e1 n1,e a _ e1 hq,hl,hs.pres p⟩
 | non=>exact At.pres (K:=K) p (d:=.non) h
 | bl b=>exact At.pres (K:=K) p (d:=.bl b) h
 | int i=>exact At.pres (K:=K) p (d:=.int i) h
 | str x=>exact At.pres (K:=K) p (d:=.str x) h
 | tup ds=>exact At.pres (K:=K) p (d:=.tup ds) h
 | fdi ks ds=>exact At.pres (K:=K) p (d:=.fdi ks ds) h
theorem AtT.lies{U:Addr->Prop}{a:Addr}(h:AtT K U M H d (.ref a)):∃o,H a=some o:=by
 cases d with
 | lst ds =>
  obtain⟨b,vs,e,_,hq,_⟩:=h
  cases e
  rcases hq with hq | ⟨o,hq⟩
  ·exact⟨_,hq⟩
  ·exact⟨_,hq⟩
 | dic ks ds =>
  obtain⟨b,vs,e,_,hq,_⟩:=h
  cases e
  exact⟨_,hq⟩
 | dit ks ds =>
  obtain⟨b,vs,e,_,hq,_⟩:=h
  cases e
  exact⟨_,hq⟩
 | non=>cases (show V.ref a=.non from h)
 | bl b=>cases (show V.ref a=.bl b from h)
 | int i=>cases (show V.ref a=.int i from h)
 | str x=>cases (show V.ref a=.str x/\_ from h).1
 | tup ds =>
  obtain⟨b,vs,e,hq,_⟩:=h
  cases e
  exact⟨_,hq⟩
 | fdi ks ds =>
  obtain⟨b,vs,e,⟨o,_,hq⟩,_⟩:=h
  cases e
  exact⟨_,hq⟩
theorem SlotOk.pres{F:Option (Addr×Addr)}{U V' M':Addr->Prop}{s:Slot}{o:Option V}(h:SlotOk K F V' M H s o)(p:Pres M H M' H')(m:∀a,M a->M' a)(e:Ext U H H')(uV:∀a,U a->V' a):SlotOk K F V' M' H' s o:=by
 cases s with
 | no=>trivial
 | sh d=>obtain⟨v,e1,h1⟩:=h; exact⟨v,e1,h1.pres p⟩
 | br d=>obtain⟨v,e1,h1⟩:=h; exact⟨v,e1,h1.pres p e uV⟩
 | fd=>exact h
 | ow d=>obtain⟨a,e1,h1,h2,h3⟩:=h; exact⟨a,e1,m a h1,h2,h3.pres p λo q=>e.keep q λz=>h2 (uV a z)⟩
 | lt a d=>obtain⟨e1,h1,h2,h3⟩:=h; exact⟨e1,m a h1,h2,h3.pres p λo q=>e.keep q λz=>h2 (uV a z)⟩
theorem Rel.step(R:Rel K C M H n ρ σ)(e:Ext C.U H H')(f:FeedC K C.F M H' n'):Rel K C M H' n' ρ σ:=by
 have p:=R.pres e
 refine⟨R.len,R.sub,λa z=>?_,R.ext.trans e,R.fU,R.uV,R.vM,f,λi s q=>(R.sl i s q).pres p (λ_ z=>z) e R.uV,λq hq=>(R.pin q hq).trans p,R.br0,R.new,R.two,λq hq=>?_⟩
 ·obtain⟨o,h1⟩:=R.dom a z
  obtain⟨o',h2,_⟩:=e a o h1
  exact⟨o',h2⟩
 ·obtain⟨h1,h2,h3,h4⟩:=R.kept q hq
  exact⟨e.keep h1 λz=>h3 (R.uV _ z),h2,h3,h4⟩
theorem Rel.udom(R:Rel K C M H n ρ σ):∀a,C.U a->∃o,H a=some o:=λa z=>R.dom a (R.vM a (R.uV a z))
theorem At.tp{U:Addr->Prop}(uM:∀a,U a->M a)(h:At K M H d v):AtT K U M H d v:=by
 cases d with
 | lst ds =>
  obtain⟨a,vs,e,hn,hs⟩:=h
  exact⟨a,vs,e,λz=>hn.1 (uM a z),.inl hn.2,hs⟩
 | dic ks ds =>
  obtain⟨a,vs,e,hn,hl,hs⟩:=h
  exact⟨a,vs,e,λz=>hn.1 (uM a z),hn.2,hl,hs⟩
 | dit ks ds =>
  obtain⟨a,vs,e,hn,hl,hs⟩:=h
  exact⟨a,vs,e,λz=>hn.1 (uM a z),hn.2,hl,hs⟩
 | non=>exact h
 | bl b=>exact h
 | int i=>exact h
 | str x=>exact h
 | tup ds=>exact h
 | fdi ks ds=>exact h
theorem VR.back{U V':Addr->Prop}{H1:Hp}(e:Ext U H H1)(h:VR K V' M H1 H' κ v d):VR K V' M H H' κ v d:=by
 cases κ with
 | sh=>exact h
 | tp=>exact h
 | fr =>
  obtain⟨a,e1,h1,h2⟩:=h
  exact⟨a,e1,e.free h1,h2⟩
theorem VR.shOf{U:Addr->Prop}(dom:∀a,M a->∃o,H a=some o)(h:VR K U M H H' κ v d)(hk:κ≠.tp):At K M H' d v:=by
 cases κ with
 | sh=>exact h
 | tp=>exact absurd rfl hk
 | fr =>
  obtain⟨a,rfl,h1,h2⟩:=h
  refine(h2.pres (Pres.less (M':=M) λ_ z=>.inl z) λ_ z=>z).at λz=>?_
  obtain⟨o,q⟩:=dom a z
  rw [h1] at q; cases q
theorem VR.tpOf{U:Addr->Prop}(dom:∀a,M a->∃o,H a=some o)(uM:∀a,U a->M a)(h:VR K U M H H' κ v d):AtT K U M H' d v:=by
 cases κ with
 | sh=>exact At.tp uM h
 | tp=>exact h
 | fr=>exact At.tp uM (VR.shOf dom h (by intro z; cases z))
theorem IU{α:Type}{l:List α}{i j:Nat}{x y:α}(h:(l.set i x)[j]?=some y):(j=i/\i<l.length/\y=x)\/(j≠i/\l[j]?=some y):=by
 rw [fc] at h
 by_cases e:i=j
 ·rw [if_pos e] at h
  by_cases hl:i<l.length
  ·rw [if_pos hl] at h
   exact .inl ⟨e.symm,hl,(UF h).symm⟩
  ·rw [if_neg hl] at h; cases h
 ·rw [if_neg e] at h
  exact .inr ⟨λz=>e z.symm,h⟩
theorem K9{l:L2.St}{i j:Nat}{x:Option V}(h:j≠i):((l.set i x)[j]?).getD none=(l[j]?).getD none:=by
 rw [fc,if_neg (λz=>h z.symm)]
theorem SJ{l:L2.St}{i:Nat}{x:Option V}(h:i<l.length):((l.set i x)[i]?).getD none=x:=by
 rw [fc,if_pos rfl,if_pos h]
 rfl
theorem Rel.set(R:Rel K C M H n ρ σ){i:Nat}(h:At K M H d v):Rel K C M H n (ρ.set i (.sh d)) (σ.set i (some v)):=by
 have two:∀(j:Nat) (s:Slot),(ρ.set i (.sh d))[j]?=some s->s.owns=true->ρ[j]?=some s/\((σ.set i (some v))[j]?).getD none=(σ[j]?).getD none:=λj s q o=>by
  rcases IU q with ⟨_,_,rfl⟩ | ⟨hj,q⟩
  ·cases o
  ·exact⟨q,K9 hj⟩
 refine⟨by rw [de,de]; exact R.len,R.sub,R.dom,R.ext,R.fU,R.uV,R.vM,R.feed,λj s q=>?_,R.pin,λj e a q q2=>?_,λj s a q o q2=>?_,λj k s t a q1 o1 q2 o2 z1 z2=>?_,λp hp=>?_⟩
 ·rcases IU q with ⟨rfl,hl,rfl⟩ | ⟨hj,q⟩
  ·rw [SJ (by rw [← R.len]; exact hl)]
   exact⟨v,rfl,h⟩
  ·rw [K9 hj]
   exact R.sl j s q
 ·rcases IU q with ⟨_,_,e⟩ | ⟨hj,q⟩
  ·cases e
  ·rw [K9 hj] at q2
   exact R.br0 j e a q q2
 ·obtain⟨q1,e⟩:=two j s q o
  rw [e] at q2
  exact R.new j s a q1 o q2
 ·obtain⟨p1,e1⟩:=two j s q1 o1
  obtain⟨p2,e2⟩:=two k t q2 o2
  rw [e1] at z1
  rw [e2] at z2
  exact R.two j k s t a p1 o1 p2 o2 z1 z2
 ·obtain⟨h1,h2,h3,h4⟩:=R.kept p hp
  refine⟨h1,h2,h3,λj e q=>?_⟩
  obtain⟨q1,e2⟩:=two j _ q rfl
  rw [e2]
  exact h4 j e q1
theorem Rel.owner(R:Rel K C M H n ρ σ){i:Nat}{s:Slot}(h:ρ[i]?=some s)(o:s.owns=true):∃a e,(σ[i]?).getD none=some (.ref a)/\M a/\¬C.V a/\Tops K M H a e/\¬C.M0 a/\C.H0 a=none:=by
 have q:=R.sl i s h
 cases s with
 | ow d=>obtain⟨a,e1,h1,h2,h3⟩:=q; exact⟨a,d,e1,h1,h2,h3,R.new i _ a h o e1⟩
 | lt a d=>obtain⟨e1,h1,h2,h3⟩:=q; exact⟨a,d,e1,h1,h2,h3,R.new i _ a h o e1⟩
 | _=>cases o
theorem Rel.setOw(R:Rel K C M H n ρ σ){i:Nat}{a:Addr}(e:Ext C.U H H')(f:FeedC K C.F M H' n')(ha:H a=none)(h:Tops K (λb=>M b\/b=a) H' a d) :
  Rel K C (λb=>M b\/b=a) H' n' (ρ.set i (.ow d)) (σ.set i (some (.ref a))):=by
 have R1:=R.step e f
 have ne:∀b,M b->b≠a:=λb z q=>by
  obtain⟨o,w⟩:=R.dom b z
  rw [q,ha] at w; cases w
 have a0:¬C.M0 a/\C.H0 a=none:=⟨λz=>ne a (R.sub a z) rfl,R.ext.free ha⟩
 have pr:Pres M H (λb=>M b\/b=a) H':=⟨λb o q nb=>e.keep q λz=>nb (R.vM b (R.uV b z)),λb z=>z.elim .inl λz=>.inr (by rw [z]; exact ha),λb vs q=>e.tup q⟩
 have two:∀(j:Nat) (s:Slot),(ρ.set i (.ow d))[j]?=some s->(j=i/\s=.ow d/\((σ.set i (some (.ref a)))[j]?).getD none=some (.ref a))\/(j≠i/\ρ[j]?=some s/\((σ.set i (some (.ref a)))[j]?).getD none=(σ[j]?).getD none):=λj s q=>by
  rcases IU q with ⟨rfl,hl,rfl⟩ | ⟨hj,q⟩
  ·exact .inl ⟨rfl,rfl,SJ (by rw [← R.len]; exact hl)⟩
  ·exact .inr ⟨hj,q,K9 hj⟩
 have old:∀(j:Nat) (s:Slot) (b:Addr),ρ[j]?=some s->s.owns=true->(σ[j]?).getD none=some (.ref b)->b≠a:=λj s b q o z=>by
  obtain⟨c,_,e1,m,_⟩:=R.owner q o
  rw [e1] at z
  cases z
  exact ne _ m
 have hd:∃o,H' a=some o:=by
  cases d with
  | lst ds=>obtain⟨vs,q,_⟩:=h; exact⟨_,q⟩
  | dic ks ds=>obtain⟨vs,q,_⟩:=h; exact⟨_,q⟩
  | dit ks ds=>obtain⟨vs,q,_⟩:=h; exact⟨_,q⟩
  | _=>exact(show False from h).elim
 refine⟨by rw [de,de]; exact R.len,λb z=>.inl (R.sub b z),λb z=>?_,R1.ext,R.fU,R.uV,λb z=>.inl (R.vM b z),f.more a λg hg q=>?_,λj s q=>?_,λq hq=>(R.pin q hq).trans pr,λj e2 b q q2=>?_,λj s b q o q2=>?_,λj k s t b q1 o1 q2 o2 z1 z2=>?_,λp hp=>?_⟩
 ·rcases z with z | z
  ·exact R1.dom b z
  ·rw [z]; exact hd
 ·obtain⟨_,_,_,_,_,h3,_⟩:=R.feed g hg
  have:=h3.2
  rw [q,ha] at this; cases this
 ·rcases two j s q with ⟨rfl,rfl,e1⟩ | ⟨hj,q1,e1⟩
  ·rw [e1]
   exact⟨a,rfl,.inr rfl,λz=>ne a (R.vM a z) rfl,h⟩
  ·rw [e1]
   exact(R.sl j s q1).pres pr (λ_ z=>.inl z) e R.uV
 ·rcases two j _ q with ⟨_,e1,_⟩ | ⟨hj,q1,e1⟩
  ·cases e1
  ·rw [e1] at q2
   exact R.br0 j e2 b q1 q2
 ·rcases two j s q with ⟨_,_,e1⟩ | ⟨hj,q1,e1⟩
  ·rw [e1] at q2
   cases q2
   exact a0
  ·rw [e1] at q2
   exact R.new j s b q1 o q2
 ·rcases two j s q1 with ⟨rfl,_,e1⟩ | ⟨hj,p1,e1⟩
  ·rw [e1] at z1
   cases z1
   rcases two k t q2 with ⟨rfl,_,_⟩ | ⟨hk,p2,e2⟩
   ·rfl
   ·rw [e2] at z2
    exact absurd rfl (old k t a p2 o2 z2)
  ·rw [e1] at z1
   rcases two k t q2 with ⟨rfl,_,e2⟩ | ⟨hk,p2,e2⟩
   ·rw [e2] at z2
    cases z2
    exact absurd rfl (old j s a p1 o1 z1)
   ·rw [e2] at z2
    exact R.two j k s t b p1 o1 p2 o2 z1 z2
 ·obtain⟨h1,h2,h3,h4⟩:=R1.kept p hp
  refine⟨h1,.inl h2,h3,λj e2 q=>?_⟩
  rcases two j _ q with ⟨_,_,e1⟩ | ⟨hj,q1,e1⟩
  ·rw [e1]
   intro z
   cases z
   exact ne _ h2 rfl
  ·rw [e1]
   exact h4 j e2 q1
theorem Rel.mut(R:Rel K C M H n ρ σ){i:Nat}{a:Addr}{e:D}{o:HO}(hi:ρ[i]?=some (.ow d))(ha:(σ[i]?).getD none=some (.ref a))(h:Tops K M (As H a o) a e) :
  Rel K C M (As H a o) n (ρ.set i (.ow e)) σ:=by
 obtain⟨b,_,e1,m,nv,t,n0,h0⟩:=R.owner hi rfl
 rw [ha] at e1
 cases e1
 have pr:Pres M H M (As H a o):=⟨λb o' q nb=>by rw [AK (λz=>nb (by rw [z]; exact m))]; exact q,λ_ z=>.inl z,λb vs q=>by rw [AK (λz=>t.notT (by rw [← z]; exact q))]; exact q⟩
 have old:∀(j:Nat) (s:Slot),(ρ.set i (.ow e))[j]?=some s->(j=i/\s=.ow e)\/(j≠i/\ρ[j]?=some s):=λj s q=>by
  rcases IU q with ⟨rfl,hl,rfl⟩ | ⟨hj,q⟩
  ·exact .inl ⟨rfl,rfl⟩
  ·exact .inr ⟨hj,q⟩
 have far:∀(j:Nat) (s:Slot) (b:Addr),j≠i->ρ[j]?=some s->s.owns=true->(σ[j]?).getD none=some (.ref b)->b≠a:=λj s b hj q o z w=>by
  subst w
  exact hj (R.two j i s _ b q o hi rfl z ha)
 refine⟨by rw [de]; exact R.len,R.sub,λb z=>?_,λb o' q=>?_,R.fU,R.uV,R.vM,R.feed.pres pr λf o' hf q=>?_,λj s q=>?_,λq hq=>(R.pin q hq).trans pr,λj e2 b q q2=>?_,λj s b q o2 q2=>?_,λj k s t b q1 o1 q2 o2 z1 z2=>?_,λp hp=>?_⟩
 ·by_cases hb:b=a
  ·exact⟨o,by rw [hb,AT]⟩
  ·obtain⟨o',q⟩:=R.dom b z
   exact⟨o',by rw [AK hb]; exact q⟩
 ·obtain⟨o2,q2,r⟩:=R.ext b o' q
  have hb:b≠a:=λz=>by rw [z,h0] at q; cases q
  exact⟨o2,by rw [AK hb]; exact q2,r⟩
 ·have hb:f.1≠a:=λz=>nv (by rw [← z]; exact R.uV _ (R.fU f hf))
  rw [AK hb]; exact q
 ·rcases old j s q with ⟨rfl,rfl⟩ | ⟨hj,q1⟩
  ·rw [ha]
   exact⟨a,rfl,m,nv,h⟩
  ·have q2:=R.sl j s q1
   cases s with
   | no=>trivial
   | sh d=>obtain⟨v,e1,h1⟩:=q2; exact⟨v,e1,h1.pres pr⟩
   | br d =>
    obtain⟨v,e1,h1⟩:=q2
    refine⟨v,e1,h1.same pr (λb o' z q=>?_) λ_ _ z=>z⟩
    subst z
    obtain⟨o3,w⟩:=R.br0 j d b q1 e1
    rw [AK (λz=>by rw [z,h0] at w; cases w)]
    exact q
   | fd=>exact q2
   | ow d =>
    obtain⟨b,e1,h1,h2,h3⟩:=q2
    exact⟨b,e1,h1,h2,h3.pres pr λo' w=>by rw [AK (far j _ b hj q1 rfl e1)]; exact w⟩
   | lt b d =>
    obtain⟨e1,h1,h2,h3⟩:=q2
    exact⟨e1,h1,h2,h3.pres pr λo' w=>by rw [AK (far j _ b hj q1 rfl e1)]; exact w⟩
 ·rcases old j _ q with ⟨_,e1⟩ | ⟨hj,q1⟩
  ·cases e1
  ·exact R.br0 j e2 b q1 q2
 ·rcases old j s q with ⟨rfl,_⟩ | ⟨hj,q1⟩
  ·exact R.new j _ b hi rfl q2
  ·exact R.new j s b q1 o2 q2
 ·rcases old j s q1 with ⟨rfl,rfl⟩ | ⟨hj,p1⟩
  ·rcases old k t q2 with ⟨rfl,_⟩ | ⟨hk,p2⟩
   ·rfl
   ·exact R.two j k _ t b hi rfl p2 o2 z1 z2
  ·rcases old k t q2 with ⟨rfl,rfl⟩ | ⟨hk,p2⟩
   ·exact R.two j k s _ b p1 o1 hi rfl z1 z2
   ·exact R.two j k s t b p1 o1 p2 o2 z1 z2
 ·obtain⟨h1,h2,h3,h4⟩:=R.kept p hp
  have hb:p.1≠a:=λz=>h4 i d hi (by rw [ha,z])
  refine⟨by rw [AK hb]; exact h1,h2,h3,λj e2 q=>?_⟩
  rcases old j _ q with ⟨rfl,_⟩ | ⟨hj,q1⟩
  ·exact h4 j d hi
  ·exact h4 j e2 q1
end
noncomputable abbrev DW:=Nat->List Slot->(D->Nat->Prop)->Prop
noncomputable abbrev Hm:=Nat->List Slot->(Bool->Nat->Prop)->Prop
noncomputable abbrev Et:=Nat->List Slot->(List D->Nat->Prop)->Prop
noncomputable abbrev YV:=Nat->List Slot->(List Slot->Nat->Prop)->Prop
section
variable (X:Cx)
noncomputable def DE(e:Expr)(κ:Kd)(w:DW):Prop:=∃t,PE X e t/\∀(C:Fm) (M:Addr->Prop) (H:Hp) (n:Nat) (ρ:List Slot) (σ:L2.St) (P:D->Nat->Prop) (Q:VK),Rel X.K C M H n ρ σ->w n ρ P ->
 (∀v H' d n',Ext C.U H H'->FeedC X.K C.F M H' n'->VR X.K C.V M H H' κ v d->P d n'->Q v H')->t σ H Q
noncomputable def DT(e:Expr)(w:Hm):Prop:=∃t,PT X e t/\∀(C:Fm) (M:Addr->Prop) (H:Hp) (n:Nat) (ρ:List Slot) (σ:L2.St) (P:Bool->Nat->Prop) (Q:Bool->Hp->Prop),Rel X.K C M H n ρ σ->w n ρ P ->
 (∀b H' n',Ext C.U H H'->FeedC X.K C.F M H' n'->P b n'->Q b H')->t σ H Q
noncomputable def DTW(e:Expr)(w:Hm):Prop:=∃t,PW X e t/\∀(C:Fm) (M:Addr->Prop) (H:Hp) (n:Nat) (ρ:List Slot) (σ:L2.St) (P:Bool->Nat->Prop) (Q:Bool->Hp->Prop),Rel X.K C M H n ρ σ->w n ρ P ->
 (∀b H' n',Ext C.U H H'->FeedC X.K C.F M H' n'->P b n'->Q b H')->t σ H Q
noncomputable def Wo(es:List Expr)(w:Et):Prop:=∃t,PA X es t/\∀(C:Fm) (M:Addr->Prop) (H:Hp) (n:Nat) (ρ:List Slot) (σ:L2.St) (P:List D->Nat->Prop) (Q:List V->Hp->Prop),Rel X.K C M H n ρ σ->w n ρ P ->
 (∀vs H' ds n',Ext C.U H H'->FeedC X.K C.F M H' n'->Paired (λv d=>AtT X.K C.V M H' d v) vs ds->P ds n'->Q vs H')->t σ H Q
noncomputable def YW(es:List Expr)(w:Et):Prop:=∃t,PA X es t/\∀(C:Fm) (M:Addr->Prop) (H:Hp) (n:Nat) (ρ:List Slot) (σ:L2.St) (P:List D->Nat->Prop) (Q:List V->Hp->Prop),Rel X.K C M H n ρ σ->w n ρ P ->
 (∀vs H' ds n',Ext C.U H H'->FeedC X.K C.F M H' n'->Ats X.K M H' ds vs->P ds n'->Q vs H')->t σ H Q
noncomputable def K1(K:Frag)(F:Option (Addr×Addr))(V' M:Addr->Prop)(H:Hp)(v:V)(s:Slot):Prop:=SlotOk K F V' M H s (some v)/\s.owns=false
noncomputable def Z0(e:Expr)(w:Nat->List Slot->(Slot->Nat->Prop)->Prop):Prop:=∃t,PE X e t/\∀(C:Fm) (M:Addr->Prop) (H:Hp) (n:Nat) (ρ:List Slot) (σ:L2.St) (P:Slot->Nat->Prop) (Q:VK),Rel X.K C M H n ρ σ->w n ρ P ->
 (∀v H' s n',Ext C.U H H'->FeedC X.K C.F M H' n'->K1 X.K C.F C.V M H' v s->P s n'->Q v H')->t σ H Q
noncomputable def Zj(es:List Expr)(w:YV):Prop:=∃t,PA X es t/\∀(C:Fm) (M:Addr->Prop) (H:Hp) (n:Nat) (ρ:List Slot) (σ:L2.St) (P:List Slot->Nat->Prop) (Q:List V->Hp->Prop),Rel X.K C M H n ρ σ->w n ρ P ->
 (∀vs H' ss n',Ext C.U H H'->FeedC X.K C.F M H' n'->Paired (K1 X.K C.F C.V M H') vs ss->P ss n'->Q vs H')->t σ H Q
end
noncomputable def AC(i:Nat):DW:=λn ρ P=>match ρ[i]? with
 | some (.sh d)=>P d n
 | _=>False
noncomputable def BM(i:Nat):DW:=λn ρ P=>match ρ[i]? with
 | some (.sh d)=>P d n
 | some (.br d)=>P d n
 | some (.ow d)=>P d n
 | some (.lt _ d)=>P d n
 | _=>False
noncomputable def wC(d:D):DW:=λn _ P=>P d n
section
variable {X:Cx}{a b c e:Expr}{κ κa κb:Kd}{wa wb wc:DW}{pos:Pos}
theorem getD_some{σ:L2.St}{i:Nat}{v:V}(h:(σ[i]?).getD none=some v):σ[i]?=some (some v):=by
 cases q:σ[i]? with
 | none=>rw [q] at h; cases h
 | some o=>rw [q] at h; exact congrArg some h
theorem Vw{i:Nat}(h:PE X e (BJ i)):DE X e .sh (AC i):=by
 refine⟨_,h,λC M H n ρ σ P Q R w q=>?_⟩
 unfold AC at w
 split at w
 ·rename_i d hd
  obtain⟨v,e1,h1⟩:=R.sl i _ hd
  exact⟨v,getD_some e1,q v H d n (Ext.refl _ _) R.feed h1 w⟩
 ·exact w.elim
theorem UA{i:Nat}(h:PE X e (BJ i)):DE X e .tp (BM i):=by
 refine⟨_,h,λC M H n ρ σ P Q R w q=>?_⟩
 unfold BM at w
 split at w
 ·rename_i d hd
  obtain⟨v,e1,h1⟩:=R.sl i _ hd
  exact⟨v,getD_some e1,q v H d n (Ext.refl _ _) R.feed (At.tp R.vM h1) w⟩
 ·rename_i d hd
  obtain⟨v,e1,h1⟩:=R.sl i _ hd
  exact⟨v,getD_some e1,q v H d n (Ext.refl _ _) R.feed h1 w⟩
 ·rename_i d hd
  obtain⟨a,e1,_,h2,h3⟩:=R.sl i _ hd
  exact⟨.ref a,getD_some e1,q _ H d n (Ext.refl _ _) R.feed (h3.att h2) w⟩
 ·rename_i a d hd
  obtain⟨e1,_,h2,h3⟩:=R.sl i _ hd
  exact⟨.ref a,getD_some e1,q _ H d n (Ext.refl _ _) R.feed (h3.att h2) w⟩
 ·exact w.elim
theorem dv(i:Nat){x:Str}{pos:Pos}(hN:autoParam (X.N[i]?=some x) zau3._auto_1)(hv:autoParam (YM X.env.scope x) zau4._auto_1)(hd:autoParam ((x==("__debug__" : Str))=false) zau1._auto_1)
  (hcd:autoParam ((x==("__classdict__" : Str))=false) zau1._auto_1):DE X (.Name x pos) .sh (AC i):=Vw (LN hN hv hd hcd)
theorem Nx(i:Nat){x:Str}{pos:Pos}(hN:autoParam (X.N[i]?=some x) zau3._auto_1)(hv:autoParam (YM X.env.scope x) zau4._auto_1)(hd:autoParam ((x==("__debug__" : Str))=false) zau1._auto_1)
  (hcd:autoParam ((x==("__classdict__" : Str))=false) zau1._auto_1):DE X (.Name x pos) .tp (BM i):=UA (LN hN hv hd hcd)
theorem GL{d:D}{v:V}(h:PE X e (tC v))(hd:∀M H,At X.K M H d v):DE X e .sh (wC d) :=
 ⟨_,h,λC M H n ρ σ P Q R w q=>q v H d n (Ext.refl _ _) R.feed (hd M H) w⟩
theorem AG{i:Int}{j pos}:DE X (.Constant (.int i) j pos) .sh (wC (.int i)):=GL Ap λ_ _=>rfl
theorem Du{b:Bool}{j pos}:DE X (.Constant (.bool b) j pos) .sh (wC (.bl b)):=GL Y_ λ_ _=>rfl
theorem A_{j pos}:DE X (.Constant .none j pos) .sh (wC .non):=GL Iq λ_ _=>rfl
theorem Az{x:Str}{j pos}(hx:autoParam (decide (x.length<=1000)=true) zau3._auto_1):DE X (.Constant (.str x) j pos) .sh (wC (.str x)) :=
 GL XR λ_ _=>⟨rfl,bS (of_decide_eq_true hx) (by rw [bm]; decide)⟩
theorem DE.sh(h:DE X e κ wa)(hk:autoParam (κ≠.tp) zau5._auto_1):DE X e .sh wa:=by
 obtain⟨t,h1,h2⟩:=h
 exact⟨t,h1,λC M H n ρ σ P Q R w q=>h2 C M H n ρ σ P Q R w λv H' d n' e f r p=>q v H' d n' e f (r.shOf R.dom hk) p⟩
noncomputable def Ez(K:Frag)(κ:Kd)(r:R2)(f:D->D->(D->Prop)->Prop):Prop:=∀(U:Addr->Prop) (M:Addr->Prop) (H:Hp) (d e:D) (x y:V) (P:D->Prop) (Q:VK),(∀a,M a->∃o,H a=some o)->(∀a,U a->M a) ->
 AtT K U M H d x->AtT K U M H e y->f d e P->(∀v H' z,Grow H H'->VR K U M H H' κ v z->P z->Q v H')->r x y H Q
noncomputable def Ad(f:D->D->(D->Prop)->Prop)(wa wb:DW):DW:=λn ρ P=>wa n ρ λx n1=>wb n1 ρ λy n2=>f x y λz=>P z n2
theorem Do{r:R2}{f:D->D->(D->Prop)->Prop}(hA:Ez X.K κ r f){ta tb:TE}(ha:∀(C:Fm) (M:Addr->Prop) (H:Hp) (n:Nat) (ρ:List Slot) (σ:L2.St) (P:D->Nat->Prop) (Q:VK),Rel X.K C M H n ρ σ->wa n ρ P ->
   (∀v H' d n',Ext C.U H H'->FeedC X.K C.F M H' n'->VR X.K C.V M H H' κa v d->P d n'->Q v H')->ta σ H Q)
  (hb:∀(C:Fm) (M:Addr->Prop) (H:Hp) (n:Nat) (ρ:List Slot) (σ:L2.St) (P:D->Nat->Prop) (Q:VK),Rel X.K C M H n ρ σ->wb n ρ P ->
   (∀v H' d n',Ext C.U H H'->FeedC X.K C.F M H' n'->VR X.K C.V M H H' κb v d->P d n'->Q v H')->tb σ H Q)
  (C:Fm) (M:Addr->Prop) (H:Hp) (n:Nat) (ρ:List Slot) (σ:L2.St) (P:D->Nat->Prop) (Q:VK) (R:Rel X.K C M H n ρ σ) (w:Ad f wa wb n ρ P)
  (q:∀v H' d n',Ext C.U H H'->FeedC X.K C.F M H' n'->VR X.K C.V M H H' κ v d->P d n'->Q v H'):Cd r ta tb σ H Q:=by
 refine ha C M H n ρ σ _ _ R w λx H1 d n1 e1 f1 r1 w1=>?_
 have R1:=R.step e1 f1
 refine hb C M H1 n1 ρ σ _ _ R1 w1 λy H2 e n2 e2 f2 r2 w2=>?_
 have R2':=R1.step e2 f2
 refine hA C.V M H2 d e x y _ _ R2'.dom R2'.vM ((r1.tpOf R.dom R.vM).pres (R1.pres e2) e2 R.uV) (r2.tpOf R1.dom R1.vM) w2 λv H3 z g vr p=>?_
 exact q v H3 z n2 ((e1.trans e2).trans g.ext) (f2.grow g) (VR.back (e1.trans e2) vr) p
theorem BC{op:Operator}{r:R2}{f:D->D->(D->Prop)->Prop}(ho:OpR X (binaryOp op) r)(hA:Ez X.K κ r f)(ha:DE X a κa wa)(hb:DE X b κb wb):DE X (.BinOp a op b pos) κ (Ad f wa wb):=by
 obtain⟨ta,ha1,ha2⟩:=ha
 obtain⟨tb,hb1,hb2⟩:=hb
 exact⟨_,BO ho ha1 hb1,λC M H n ρ σ P Q R w q=>Do hA ha2 hb2 C M H n ρ σ P Q R w q⟩
theorem AX{r:R2}{f:D->D->(D->Prop)->Prop}(ho:IxR X r)(hA:Ez X.K κ r f)(ha:DE X a κa wa)(hb:DE X b κb wb)(hs:autoParam (QO b) zau6._auto_1):DE X (.Subscript a b pos) κ (Ad f wa wb):=by
 obtain⟨ta,ha1,ha2⟩:=ha
 obtain⟨tb,hb1,hb2⟩:=hb
 exact⟨_,BD ho ha1 hb1 hs,λC M H n ρ σ P Q R w q=>Do hA ha2 hb2 C M H n ρ σ P Q R w q⟩
theorem Dn{op:CmpOp}{r:R2}{f:D->D->(D->Prop)->Prop}(ho:OpR X (compareOp op) r)(hA:Ez X.K .sh r f)(ha:DE X a κa wa)(hb:DE X b κb wb)(hm:behindInMarks op b=false):DE X (.Compare a [op] [b] pos) .sh (Ad f wa wb):=by
 obtain⟨ta,ha1,ha2⟩:=ha
 obtain⟨tb,hb1,hb2⟩:=hb
 exact⟨_,U9 ho ha1 hb1 hm,λC M H n ρ σ P Q R w q=>Do hA ha2 hb2 C M H n ρ σ P Q R w q⟩
noncomputable def Am(w:DW):Hm:=λn ρ P=>w n ρ λd n1=>match d with
 | .bl b=>P b n1
 | _=>False
theorem Hr{U:Addr->Prop}{K:Frag}{M:Addr->Prop}{H H':Hp}{v:V}{b:Bool}(h:VR K U M H H' κ v (.bl b)):v=.bl b:=by
 cases κ with
 | sh=>exact h
 | tp=>exact h
 | fr=>obtain⟨a,_,_,t⟩:=h; exact(show False from t).elim
theorem A1{op:CmpOp}{r:R2}{f:D->D->(D->Prop)->Prop}(ho:OpR X (compareOp op) r)(hA:Ez X.K .sh r f)(ha:DE X a κa wa)(hb:DE X b κb wb)(hm:behindInMarks op b=false):DT X (.Compare a [op] [b] pos) (Am (Ad f wa wb)):=by
 obtain⟨ta,ha1,ha2⟩:=ha
 obtain⟨tb,hb1,hb2⟩:=hb
 refine⟨_,CH ho ha1 hb1 hm,λC M H n ρ σ P Q R w q=>?_⟩
 refine Do hA ha2 hb2 C M H n ρ σ _ _ R w λv H' d n' e f r p=>?_
 cases d with
 | bl b=>exact⟨b,Hr r,q b H' n' e f p⟩
 | _=>exact p.elim
theorem CY(h:DE X e κ wa)(he:autoParam (∀whole,isTrue e X.env whole=(do let v ← whole; standAt e.pos; holding [v] (truthy v))) zau2._auto_1):DT X e (Am wa):=by
 obtain⟨t,h1,h2⟩:=h
 refine⟨_,XM h1 he,λC M H n ρ σ P Q R w q=>?_⟩
 refine h2 C M H n ρ σ _ _ R w λv H' d n' e f r p=>?_
 cases d with
 | bl b=>exact⟨b,Hr r,q b H' n' e f p⟩
 | _=>exact p.elim
noncomputable def WC(u v:Hm):Hm:=λn ρ P=>u n ρ λc n1=>if c=true then v n1 ρ P else P false n1
noncomputable def IJ(u v:Hm):Hm:=λn ρ P=>u n ρ λc n1=>if c=true then P true n1 else v n1 ρ P
noncomputable def D3(u:Hm):Hm:=λn ρ P=>u n ρ λc n1=>P (!c) n1
variable {wA wB:Hm}{rest:List Expr}
theorem Vj(h:DT X a wA):DTW X (.BoolOp .And [a] pos) wA:=by
 obtain⟨t,h1,h2⟩:=h
 exact⟨t,LK h1,h2⟩
theorem ES(h:DT X a wA):DTW X (.BoolOp .Or [a] pos) wA:=by
 obtain⟨t,h1,h2⟩:=h
 exact⟨t,Sh h1,h2⟩
theorem X3(ha:DT X a wA)(hb:DTW X (.BoolOp .And (b::rest) pos) wB):DTW X (.BoolOp .And (a::b::rest) pos) (WC wA wB):=by
 obtain⟨t,h1,h2⟩:=ha
 obtain⟨u,g1,g2⟩:=hb
 refine⟨_,OK h1 g1,λC M H n ρ σ P Q R w q=>?_⟩
 refine h2 C M H n ρ σ _ _ R w λc H1 n1 e1 f1 p=>?_
 cases c with
 | false=>exact q false H1 n1 e1 f1 p
 | true=>exact g2 C M H1 n1 ρ σ P Q (R.step e1 f1) p λb H2 n2 e2 f2 p2=>q b H2 n2 (e1.trans e2) f2 p2
theorem E8(ha:DT X a wA)(hb:DTW X (.BoolOp .Or (b::rest) pos) wB):DTW X (.BoolOp .Or (a::b::rest) pos) (IJ wA wB):=by
 obtain⟨t,h1,h2⟩:=ha
 obtain⟨u,g1,g2⟩:=hb
 refine⟨_,WV h1 g1,λC M H n ρ σ P Q R w q=>?_⟩
 refine h2 C M H n ρ σ _ _ R w λc H1 n1 e1 f1 p=>?_
 cases c with
 | true=>exact q true H1 n1 e1 f1 p
 | false=>exact g2 C M H1 n1 ρ σ P Q (R.step e1 f1) p λb H2 n2 e2 f2 p2=>q b H2 n2 (e1.trans e2) f2 p2
theorem DTW.dt(h:DTW X e wA):DT X e wA:=by
 obtain⟨t,h1,h2⟩:=h
 exact⟨t,h1.pt,h2⟩
theorem C5(ha:DT X a wA):DT X (.UnaryOp .Not a pos) (D3 wA):=by
 obtain⟨t,h1,h2⟩:=ha
 refine⟨_,XN h1,λC M H n ρ σ P Q R w q=>?_⟩
 exact h2 C M H n ρ σ _ _ R w λc H1 n1 e1 f1 p=>q (!c) H1 n1 e1 f1 p
noncomputable def QS(u v:DW):DW:=λn ρ P=>u n ρ λc n1=>match c with
 | .bl true=>v n1 ρ P
 | .bl false=>P (.bl false) n1
 | _=>False
noncomputable def Yc(u:DW):DW:=λn ρ P=>u n ρ λc n1=>match c with
 | .bl b=>P (.bl (!b)) n1
 | _=>False
theorem Lw{op}(h:DE X a κ wa):DE X (.BoolOp op [a] pos) κ wa:=by
 obtain⟨t,h1,h2⟩:=h
 exact⟨t,XT h1,h2⟩
theorem JR(ha:DE X a κa wa)(hb:DE X (.BoolOp .And (b::rest) pos) .sh wb):DE X (.BoolOp .And (a::b::rest) pos) .sh (QS wa wb):=by
 obtain⟨t,h1,h2⟩:=ha
 obtain⟨u,g1,g2⟩:=hb
 refine⟨_,XX h1 g1,λC M H n ρ σ P Q R w q=>?_⟩
 refine h2 C M H n ρ σ _ _ R w λc H1 d n1 e1 f1 r1 p=>?_
 cases d with
 | bl k =>
  refine⟨k,Hr r1,?_⟩
  cases k with
  | false=>exact q _ H1 _ n1 e1 f1 (show VR X.K C.V M H H1 .sh (.bl false) (.bl false) from rfl) p
  | true =>
   show u σ H1 Q
   exact g2 C M H1 n1 ρ σ P Q (R.step e1 f1) p λv H2 d n2 e2 f2 r2 p2=>q v H2 d n2 (e1.trans e2) f2 r2 p2
 | _=>exact p.elim
theorem X8(ha:DE X a κa wa):DE X (.UnaryOp .Not a pos) .sh (Yc wa):=by
 obtain⟨t,h1,h2⟩:=ha
 refine⟨_,XU h1,λC M H n ρ σ P Q R w q=>?_⟩
 refine h2 C M H n ρ σ _ _ R w λc H1 d n1 e1 f1 r1 p=>?_
 cases d with
 | bl k=>exact⟨k,Hr r1,q _ H1 _ n1 e1 f1 (show VR X.K C.V M H H1 .sh (.bl (!k)) (.bl (!k)) from rfl) p⟩
 | _=>exact p.elim
noncomputable def Yd(t:Hm)(u v:DW):DW:=λn ρ P=>t n ρ λc n1=>if c=true then u n1 ρ P else v n1 ρ P
theorem UB(hc:DT X c wA)(ha:DE X a κ wa)(hb:DE X b κ wb):DE X (.IfExp c a b pos) κ (Yd wA wa wb):=by
 obtain⟨t,h1,h2⟩:=hc
 obtain⟨u,g1,g2⟩:=ha
 obtain⟨u',k1,k2⟩:=hb
 refine⟨_,Mp h1 g1 k1,λC M H n ρ σ P Q R w q=>?_⟩
 refine h2 C M H n ρ σ _ _ R w λc H1 n1 e1 f1 p=>?_
 cases c with
 | true=>exact g2 C M H1 n1 ρ σ P Q (R.step e1 f1) p λv H2 d n2 e2 f2 r2 p2=>q v H2 d n2 (e1.trans e2) f2 (VR.back e1 r2) p2
 | false=>exact k2 C M H1 n1 ρ σ P Q (R.step e1 f1) p λv H2 d n2 e2 f2 r2 p2=>q v H2 d n2 (e1.trans e2) f2 (VR.back e1 r2) p2
noncomputable def Ae:Et:=λn _ P=>P [] n
noncomputable def AE(w:DW)(ws:Et):Et:=λn ρ P=>w n ρ λd n1=>ws n1 ρ λds n2=>P (d::ds) n2
variable {es:List Expr}{ws:Et}
theorem AZ:Wo X [] Ae:=⟨_,A9,λC M H n ρ σ P Q R w q=>q [] H [] n (Ext.refl _ _) R.feed .nil w⟩
theorem Ab:YW X [] Ae:=⟨_,A9,λC M H n ρ σ P Q R w q=>q [] H [] n (Ext.refl _ _) R.feed rfl w⟩
theorem AR(ha:DE X e κ wa)(hr:Wo X es ws)(hs:autoParam (starEach (e::es) X.env=(false,eval e X.env)::starEach es X.env) zau3._auto_1):Wo X (e::es) (AE wa ws):=by
 obtain⟨t,h1,h2⟩:=ha
 obtain⟨u,g1,g2⟩:=hr
 refine⟨_,Av h1 g1 hs,λC M H n ρ σ P Q R w q=>?_⟩
 refine h2 C M H n ρ σ _ _ R w λv H1 d n1 e1 f1 r1 p=>?_
 have R1:=R.step e1 f1
 refine g2 C M H1 n1 ρ σ _ _ R1 p λvs H2 ds n2 e2 f2 r2 p2=>?_
 exact q (v::vs) H2 (d::ds) n2 (e1.trans e2) f2 (.cons ((r1.tpOf R.dom R.vM).pres (R1.pres e2) e2 R.uV) r2) p2
theorem AD(ha:DE X e κ wa)(hr:YW X es ws)(hk:autoParam (κ≠.tp) zau5._auto_1)(hs:autoParam (starEach (e::es) X.env=(false,eval e X.env)::starEach es X.env) zau3._auto_1):YW X (e::es) (AE wa ws):=by
 obtain⟨t,h1,h2⟩:=ha
 obtain⟨u,g1,g2⟩:=hr
 refine⟨_,Av h1 g1 hs,λC M H n ρ σ P Q R w q=>?_⟩
 refine h2 C M H n ρ σ _ _ R w λv H1 d n1 e1 f1 r1 p=>?_
 have R1:=R.step e1 f1
 refine g2 C M H1 n1 ρ σ _ _ R1 p λvs H2 ds n2 e2 f2 r2 p2=>?_
 exact q (v::vs) H2 (d::ds) n2 (e1.trans e2) f2 ⟨v,vs,rfl,(r1.shOf R.dom hk).pres (R1.pres e2),r2⟩ p2
noncomputable def CG(ws:Et):DW:=λn ρ P=>ws n ρ λds n1=>ds.length<=sizeLine/\P (.tup ds) n1
noncomputable def He(ws:Et):DW:=λn ρ P=>ws n ρ λds n1=>ds.length<=sizeLine/\P (.lst ds) n1
theorem Fh{M:Addr->Prop}{H:Hp}{p:Addr}{o:HO}(h:H p=none):Pres M H (λb=>M b\/b=p) (As H p o):=⟨λb u e _=>by rw [AK (Ac e h)]; exact e,λb z=>z.elim .inl λz=>.inr (by rw [z]; exact h),λb vs e=>by rw [AK (Ac e h)]; exact e⟩
theorem Al{H:Hp}{p:Addr}{o:HO}(h:H p=none):Grow H (As H p o):=.inr ⟨p,o,h,rfl⟩
theorem BH{x1}(h:YW X es ws):DE X (.Tuple es x1 pos) .sh (CG ws):=by
 obtain⟨t,h1,h2⟩:=h
 refine⟨_,XQ h1,λC M H n ρ σ P Q R w q=>?_⟩
 refine h2 C M H n ρ σ _ _ R w λvs H1 ds n1 e1 f1 r1 p=>?_
 refine⟨by rw [r1.length]; exact p.1,λa ha=>?_⟩
 have g:Grow H1 (As H1 a (.tup vs)):=Al ha
 refine q _ _ (.tup ds) n1 (e1.trans g.ext) (f1.grow g) ⟨a,vs,rfl,AT,r1.pres g.pres⟩ p.2
theorem CZ(h:YW X es ws):DE X (.List es pos) .fr (He ws):=by
 obtain⟨t,h1,h2⟩:=h
 refine⟨_,LP h1,λC M H n ρ σ P Q R w q=>?_⟩
 refine h2 C M H n ρ σ _ _ R w λvs H1 ds n1 e1 f1 r1 p=>?_
 refine⟨by rw [r1.length]; exact p.1,λa ha=>?_⟩
 have g:Grow H1 (As H1 a (.lst vs)):=Al ha
 exact q _ _ (.lst ds) n1 (e1.trans g.ext) (f1.grow g) (VR.back e1 ⟨a,rfl,ha,vs,AT,r1.pres (Fh ha)⟩) p.2
noncomputable def Cv(K:Frag)(κ:Kd)(r:List V->Hp->VK->Prop)(f:List D->(D->Prop)->Prop):Prop:=∀(U:Addr->Prop) (M:Addr->Prop) (H:Hp) (ds:List D) (vs:List V) (P:D->Prop) (Q:VK),(∀a,M a->∃o,H a=some o)->(∀a,U a->M a) ->
 Paired (λv d=>AtT K U M H d v) vs ds->f ds P->(∀v H' z,Grow H H'->VR K U M H H' κ v z->P z->Q v H')->r vs H Q
noncomputable def Dy(f:List D->(D->Prop)->Prop)(ws:Et):DW:=λn ρ P=>ws n ρ λds n1=>f ds λz=>P z n1
theorem Wi{r:List V->Hp->VK->Prop}{f:List D->(D->Prop)->Prop}{t:TA}(hA:Cv X.K κ r f)(h2:∀(C:Fm) (M:Addr->Prop) (H:Hp) (n:Nat) (ρ:List Slot) (σ:L2.St) (P:List D->Nat->Prop) (Q:List V->Hp->Prop),Rel X.K C M H n ρ σ->ws n ρ P ->
   (∀vs H' ds n',Ext C.U H H'->FeedC X.K C.F M H' n'->Paired (λv d=>AtT X.K C.V M H' d v) vs ds->P ds n'->Q vs H')->t σ H Q)
  (C:Fm) (M:Addr->Prop) (H:Hp) (n:Nat) (ρ:List Slot) (σ:L2.St) (P:D->Nat->Prop) (Q:VK) (R:Rel X.K C M H n ρ σ) (w:Dy f ws n ρ P)
  (q:∀v H' d n',Ext C.U H H'->FeedC X.K C.F M H' n'->VR X.K C.V M H H' κ v d->P d n'->Q v H'):Zn r t σ H Q:=by
 refine h2 C M H n ρ σ _ _ R w λvs H1 ds n1 e1 f1 r1 p=>?_
 have R1:=R.step e1 f1
 refine hA C.V M H1 ds vs _ _ R1.dom R1.vM r1 p λv H2 z g vr pz=>?_
 exact q v H2 z n1 (e1.trans g.ext) (f1.grow g) (VR.back e1 vr) pz
theorem Ak{x:Str}{id:String}{p:Pos}{r:List V->Hp->VK->Prop}{f:List D->(D->Prop)->Prop}(hc:B_ X (.builtin id) r)(hA:Cv X.K κ r f)(hg:Gl X x)(hm:X.mg x=none)(hv:bootBuiltins x=some (.builtin id))(ha:Wo X (e::es) ws)
  (hn:autoParam (x ≠ "__name__") zau1._auto_1) (hdb:autoParam ((x==("__debug__" : Str))=false) zau1._auto_1)
  (he:autoParam (starEach (e::es) X.env=(false,eval e X.env)::starEach es X.env) zau3._auto_1) (hpl:autoParam ((backTo pos (starEach es X.env)).any (·.1)=false) zau3._auto_1):DE X (.Call (.Name x p) (e::es) [] pos) κ (Dy f ws):=by
 obtain⟨t,h1,h2⟩:=ha
 exact⟨_,EM hc hg hm hv h1 hn hdb he hpl,λC M H n ρ σ P Q R w q=>Wi hA h2 C M H n ρ σ P Q R w q⟩
theorem CN{x:Str}{T:String}{p:Pos}{r:List V->Hp->VK->Prop}{f:List D->(D->Prop)->Prop}(hc:B_ X (.type T) r)(hA:Cv X.K κ r f)(hg:Gl X x)(hm:X.mg x=none)(hv:bootBuiltins x=some (.type T))(ha:Wo X (e::es) ws)
  (hn:autoParam (x ≠ "__name__") zau1._auto_1) (hdb:autoParam ((x==("__debug__" : Str))=false) zau1._auto_1)
  (he:autoParam (starEach (e::es) X.env=(false,eval e X.env)::starEach es X.env) zau3._auto_1) (hpl:autoParam ((backTo pos (starEach es X.env)).any (·.1)=false) zau3._auto_1):DE X (.Call (.Name x p) (e::es) [] pos) κ (Dy f ws):=by
 obtain⟨t,h1,h2⟩:=ha
 exact⟨_,KQ hc hg hm hv h1 hn hdb he hpl,λC M H n ρ σ P Q R w q=>Wi hA h2 C M H n ρ σ P Q R w q⟩
end
end Dp
namespace L2
open PySem PySem.Spec PyProof.Rows
noncomputable def Zy(z:Str):It:=⟨λi _=>i<z.cps.size,λi H x H'=>H'=H/\∃c,z.cps[i]?=some c/\x=.str ⟨#[c]⟩,λi _=>z.cps.size<=i⟩
theorem MP{P:Program}{w:World}{K:Frag}{tg:Expr}(it:Addr)(z:Str)(t:Tok)(ty:String)(hty:ty = "str_ascii_iterator"\/ty = "str_iterator")
  (W:∀A':Around,A'.handled=none->Walks P w A' it [it] [it] z.cps.size (SignAt z) (λi h=>h.IsStrIter it ty z t i)):Turn P w K tg (Zy z) [it] it (λi h=>h.IsStrIter it ty z t i) where
 mem:=by simp
 obj:=λi h st b hb=>by
  have e:b=it:=by simpa using hb
  subst e
  obtain⟨o,e,c,d⟩:=st
  exact⟨o,e,λv z=>by rw [d] at z; cases z⟩
 keep:=λi h h' st k=>let ⟨o,ho,r⟩:=st; ⟨o,k it (by simp) o ho,r⟩
 item:=by
  intro X hP hw hK hc i pins s σ H E I hf st hg
  subst hP hw hK
  obtain⟨f0,f1,f2,f3,f4,f5⟩:=hf it (by simp)
  refine(W X.A (I.ok.hd hc)).item i s _ _ hg st λv h' tk hv st' kk=>?_
  obtain⟨c,u,hcu,rfl⟩:=hv
  have I1:Inv X pins σ H { s with heap:=h',toks:=tk }:=I.turned (λb o hb e=>kk b o (by simpa using hb) e) f0 f1 f3 f4 f5
  obtain⟨o,e,cc,d⟩:=id st'
  exact⟨_,rfl,Pl (s:={ s with heap:=h',toks:=tk }) e cc d (by rcases hty with rfl | rfl <;> decide) ⟨.str ⟨#[c]⟩,H,I1,⟨_,rfl⟩,⟨rfl,c,hcu,rfl⟩,st',λb hb=>(hf b hb).1⟩⟩
 done:=by
  intro X hP hw hK hc i pins s σ H E I hf st hg
  subst hP hw hK
  obtain⟨f0,f1,f2,f3,f4,f5⟩:=hf it (by simp)
  have hx:z.cps[i]?=none:=by
   have:z.cps.size<=i:=hg
   simp [this]
  rcases hty with rfl | rfl
  ·exact wpAny_pyNext_ascii_end (I.ok.hd hc) st hx λh' eb=>⟨rfl,I.turned (t':=s.toks) (λb o hb e=>eb b o hb e) f0 f1 f3 f4 f5⟩
  ·exact wpAny_pyNext_wide_end (I.ok.hd hc) st hx λh' eb=>⟨rfl,I.turned (t':=s.toks) (λb o hb e=>eb b o hb e) f0 f1 f3 f4 f5⟩
 self:=λA i s Q E st h=>by
  rcases hty with rfl | rfl
  ·exact wpAny_pyIter_striter_ascii st h
  ·exact wpAny_pyIter_striter_wide st h
section
variable {X:Cx}{tg:Expr}
noncomputable def ZG(K:Frag)(tl:TE):TI:=λσ H R=>tl σ H λx H1 =>
 (∃a,x=.ref a/\(∃xs,SqL K H1 a xs)/\R (Ub K a) H1)\/(∃a,x=.ref a/\(∃xs,SqT K H1 a xs)/\R (Rj K a) H1)\/∃z,x=.str z/\R (Zy z) H1
theorem OO{l:Expr}{tl:TE}(hl:PE X l tl):PI X tg l (ZG X.K tl):=by
 intro pins s σ H R I h
 refine thn (hl pins s σ H _ I h) λv s1 ⟨x,H1,I1,r1,q1⟩=>?_
 have hne:∀b,b∈[s1.heap.objs.size]->Gh X pins H1 b:=λb hb=>by
  have e:b=s1.heap.objs.size:=by simpa using hb
  subst e
  exact I1.fpOk (Op _) (I1.hok.fresh (Op _))
 rcases q1 with ⟨a,e,⟨xs,hq⟩,q⟩ | ⟨a,e,⟨xs,hq⟩,q⟩ | ⟨z,e,q⟩
 ·subst e
  cases r1
  obtain⟨its,rv,p,hz⟩:=I1.list hq
  refine cg p.isList ?_
  exact⟨s1.heap.objs.size,[s1.heap.objs.size],_,_,H1,rfl,I1.kept (t':=s1.toks) λb o e=>Ev _ e,QT a _,⟨_,Sc _ rfl,rfl,rfl⟩,hne,q⟩
 ·subst e
  cases r1
  obtain⟨its,rv,p,hz⟩:=I1.tuple hq
  refine cV (show s1.heap.IsTuple a its.toArray from p) ?_
  exact⟨s1.heap.objs.size,[s1.heap.objs.size],_,_,H1,rfl,I1.kept (t':=s1.toks) λb o e=>Ev _ e,IM a _,⟨_,Sc _ rfl,rfl,rfl⟩,hne,q⟩
 ·subst e
  obtain⟨t,rfl⟩:=r1
  cases ha:z.cps.all (·<128)
  ·refine wpAny_pyIter_wide ha ?_
   exact⟨s1.heap.objs.size,[s1.heap.objs.size],_,_,H1,rfl,I1.kept (t':=s1.toks) λb o e=>Ev _ e,MP _ z t "str_iterator" (.inr rfl) (λA' hA=>Walks.strWide hA _ z t),⟨_,Sc _ rfl,rfl,rfl⟩,hne,q⟩
  ·refine wpAny_pyIter_ascii ha ?_
   exact⟨s1.heap.objs.size,[s1.heap.objs.size],_,_,H1,rfl,I1.kept (t':=s1.toks) λb o e=>Ev _ e,MP _ z t "str_ascii_iterator" (.inl rfl) (λA' hA=>Walks.strAscii hA _ z t),⟨_,Sc _ rfl,rfl,rfl⟩,hne,q⟩
end
section
variable {X:Cx}
theorem Jr(bs:List Bool):((bU bs.length).all λi=>(bs[i]?).getD true)=bs.all id:=by
 induction bs with
 | nil=>rfl
 | cons b r ih =>
  rw [XV,iP,gc,hU,gc]
  simp only [List.getElem?_cons_zero,Option.getD_some,id_eq]
  congr 1
theorem JX(hc:X.calm=true):B_ X (.builtin "all") (λxs H Q=>∃(p:Addr) (bs:List Bool),xs=[.ref p]/\SqL X.K H p (bs.map V.bl)/\Q (.bl (bs.all id)) H):=by
 intro pins s σ H xs us Q I r h
 obtain⟨p,bs,rfl,hq,q⟩:=h
 obtain⟨u,rfl,rx⟩:=vals1 r
 cases rx
 obtain⟨its,r',pl,hz⟩:=I.list hq
 have hlen:=r'.length
 have hl:s.heap.IsList p its.toArray:=pl.isList
 have hlt:p<s.heap.objs.size:=by obtain⟨_,e,_⟩:=id hl; exact Tk e
 refine call_all_walk (cg hl ?_)
 refine⟨s.heap.objs.size,[s.heap.objs.size,p],[s.heap.objs.size],its.toArray.size,_,_,λi=>(bs[i]?).getD true,rfl,Walks.list (A:=X.A.in1) (I.ok.hd hc) _ p (bK hlt) its.toArray,
  ⟨⟨_,Sc _ rfl,rfl,rfl⟩,hl.push _⟩,λi v s' Q' E' hP hQ=>?_,λh' tk hk=>?_⟩
 ·have hv:its[i]?=some v:=by simpa using hP
  have hb:∃b,bs[i]?=some b:=by
   have hi:i<its.length:=(TW.mp hv).1
   rw [FM] at hlen
   exact⟨bs[i]'(by omega),Db (by omega)⟩
  obtain⟨b,eb⟩:=hb
  obtain⟨u,eu,ru⟩:=r'.get (i:=i) (x:=.bl b) (by rw [T0,eb]; rfl)
  rw [hv] at eu
  cases eu
  cases ru
  simp only [eb,Option.getD_some] at hQ
  exact dE hQ
 ·have e:((bU its.toArray.size).all λi=>(bs[i]?).getD true)=bs.all id:=by
   rw [Re,← hlen,FM]; exact Jr bs
  rw [e]
  exact⟨.bl _,H,I.kept (t':=tk) λb x e=>hk b x (λhm=>by rw [On.mp hm] at e; exact cI _ (Tk e)) (Ev _ e),rfl,q⟩
theorem Ni:B_ X (.builtin "isinstance") (λxs H Q=>∃x T t b,xs=[x,.ty T]/\Fo X.K H x t/\PySem.W.kitOne X.K t (.type T)=some b/\Q (.bl b) H):=by
 intro pins s σ H xs us Q I r h
 obtain⟨x,T,t,b,rfl,ty,e,q⟩:=h
 obtain⟨u,w',rfl,rx,rt⟩:=vals2 r
 cases rt
 exact RD I rx ty e λtk=>⟨.bl b,H,I.tok _,rfl,q⟩
theorem Qq:OpR X (compareOp .LtE) (λx y H Q=>∃i j,x=.str i/\y=.str j/\Q (.bl (!(j.cps.toList<i.cps.toList))) H):=by
 intro pins s σ H x y v u Q I rx ry h
 obtain⟨i,j,rfl,rfl,q⟩:=h
 obtain⟨t,rfl⟩:=rx
 obtain⟨t',rfl⟩:=ry
 exact PySem.P.le_str ⟨.bl _,H,I,rfl,q⟩
theorem N9{ys:List Str}:∀{us:List Value},Vals (ys.map V.str) us->StrsAre us ys:=by
 induction ys with
 | nil=>intro us r; rw [eY] at r; cases r; exact .nil
 | cons n ns ih =>
  intro us r
  rw [bE] at r
  cases r with
  | cons r1 r2 =>
   obtain⟨t,e⟩:=r1
   subst e
   exact .cons n t (ih r2)
theorem XC:SlR X (λx lo hi H Q=>∃z,x=.str z/\z.length<=sizeLine/\Q (.str (Txt.slice z lo hi)) H):=by
 intro pins s σ H x v vl vu lo hi sl Q I rx hs pl pu h
 obtain⟨z,rfl,hz,q⟩:=h
 obtain⟨t,rfl⟩:=rx
 refine⟨"str",_,F.slot_str_getitem.lookup,fR _ _ _,?_⟩
 have fin:∀t' k,EP X pins σ Q (.str (Txt.slice z lo hi) t') { s with toks:=k }:=λt' k=>⟨.str _,H,I.tok _,⟨_,rfl⟩,q⟩
 cases pl with
 | none =>
  cases pu with
  | none=>exact eL (l:=none) (u:=none) (st:=none) hs rfl (f9 ⟨bS (Txt.slice_le z _ _) hz,λt' k=>fin t' k⟩)
  | int j tj=>exact eL (l:=none) (u:=some (j,tj)) (st:=none) hs rfl (f9 ⟨bS (Txt.slice_le z _ _) hz,λt' k=>fin t' k⟩)
 | int i ti =>
  cases pu with
  | none=>exact eL (l:=some (i,ti)) (u:=none) (st:=none) hs rfl (f9 ⟨bS (Txt.slice_le z _ _) hz,λt' k=>fin t' k⟩)
  | int j tj=>exact eL (l:=some (i,ti)) (u:=some (j,tj)) (st:=none) hs rfl (f9 ⟨bS (Txt.slice_le z _ _) hz,λt' k=>fin t' k⟩)
theorem Qo(hu:X.A.units<cLine):OpR X (compareOp .NotEq) (λx y H Q=>∃a b xs,x=.ref a/\y=.ref b/\SqL X.K H a xs/\SqL X.K H b []/\Q (.bl (!xs.isEmpty)) H):=by
 intro pins s σ H x y v u Q I rx ry h
 obtain⟨a,b,xs,rfl,rfl,ha,hb,q⟩:=h
 cases rx
 cases ry
 obtain⟨its,r1,p1,_⟩:=I.list ha
 obtain⟨its2,r2,p2,_⟩:=I.list hb
 cases r2
 cases r1 with
 | nil=>exact SeqAt.RcNeAt.lists (e:=λ_=>true) p1.isList p2.isList rfl hu (λj h1 h2=>absurd h1 (by simp)) X.prog X.w X.xe _ ⟨.bl _,H,I,rfl,q⟩
 | cons r1 r2=>exact SeqAt.RcNeAt.lists_lengths p1.isList p2.isList (by simp) hu X.prog X.w X.xe _ ⟨.bl _,H,I,rfl,q⟩
end
end L2
namespace Dp
open PySem PySem.Spec PyProof.Rows L2
noncomputable def Za(K:Frag)(F:Option (Addr×Addr))(U V' M:Addr->Prop)(H:Hp)(n:Nat)(ss:List Slot)(vs:List V):Prop :=
 (∀a,M a->∃o,H a=some o)/\(∀f,F=some f->U f.1)/\(∀a,U a->V' a)/\(∀a,V' a->M a)/\FeedC K F M H n/\Paired (K1 K F V' M H) vs ss
noncomputable abbrev W2:=List Slot->Nat->(D->Nat->Prop)->Prop
noncomputable def Ci(K:Frag)(κ:Kd)(W:W2)(np:Nat):Sp:=λvs H Q _=>vs.length=np/\∃(F:Option (Addr×Addr)) (U V' M:Addr->Prop) (n:Nat) (ss:List Slot) (P:D->Nat->Prop),Za K F U V' M H n ss vs/\W ss n P /\
 ∀v H' d n',Ext U H H'->FeedC K F M H' n'->VR K V' M H H' κ v d->P d n'->Q v H'
noncomputable def AH(w:DW):Nat->List Slot->(Slot->Nat->Prop)->Prop:=λn ρ P=>w n ρ λd n1=>P (.sh d) n1
noncomputable def FI(w:DW):Nat->List Slot->(Slot->Nat->Prop)->Prop:=λn ρ P=>w n ρ λd n1=>P (.br d) n1
noncomputable def Bc(i:Nat):Nat->List Slot->(Slot->Nat->Prop)->Prop:=λn ρ P=>match ρ[i]? with
 | some .fd=>P .fd n
 | _=>False
noncomputable def AW:YV:=λn _ P=>P [] n
noncomputable def AB(w:Nat->List Slot->(Slot->Nat->Prop)->Prop)(ws:YV):YV:=λn ρ P=>w n ρ λs n1=>ws n1 ρ λss n2=>P (s::ss) n2
noncomputable def AV(W:W2)(was:YV):DW:=λn ρ P=>was n ρ λss n1=>W ss n1 P
section
variable {X:Cx}{a b c e:Expr}{es:List Expr}{κ κa κb:Kd}{wa wb wc:DW}{pos:Pos}{w1:Nat->List Slot->(Slot->Nat->Prop)->Prop}{was:YV}{ws:Et}
theorem AL(h:DE X e κ wa)(hk:autoParam (κ≠.tp) zau5._auto_1):Z0 X e (AH wa):=by
 obtain⟨t,h1,h2⟩:=h
 refine⟨t,h1,λC M H n ρ σ P Q R w q=>h2 C M H n ρ σ _ _ R w λv H' d n' e f r p=>?_⟩
 exact q v H' (.sh d) n' e f ⟨⟨v,rfl,r.shOf R.dom hk⟩,rfl⟩ p
theorem P2(h:DE X e κ wa):Z0 X e (FI wa):=by
 obtain⟨t,h1,h2⟩:=h
 refine⟨t,h1,λC M H n ρ σ P Q R w q=>h2 C M H n ρ σ _ _ R w λv H' d n' e f r p=>?_⟩
 exact q v H' (.br d) n' e f ⟨⟨v,rfl,r.tpOf R.dom R.vM⟩,rfl⟩ p
theorem Bq(i:Nat){x:Str}{pos:Pos}(hN:autoParam (X.N[i]?=some x) zau3._auto_1)(hv:autoParam (YM X.env.scope x) zau4._auto_1)(hd:autoParam ((x==("__debug__" : Str))=false) zau1._auto_1)
  (hcd:autoParam ((x==("__classdict__" : Str))=false) zau1._auto_1):Z0 X (.Name x pos) (Bc i):=by
 refine⟨_,LN hN hv hd hcd,λC M H n ρ σ P Q R w q=>?_⟩
 unfold Bc at w
 split at w
 ·rename_i hd
  obtain⟨f,e1,h1⟩:=R.sl i _ hd
  exact⟨.ref f.1,getD_some e1,q _ H .fd n (Ext.refl _ _) R.feed ⟨⟨f,rfl,h1⟩,rfl⟩ w⟩
 ·exact w.elim
theorem AO:Zj X [] AW:=⟨_,A9,λC M H n ρ σ P Q R w q=>q [] H [] n (Ext.refl _ _) R.feed .nil w⟩
theorem AA(ha:Z0 X e w1)(hr:Zj X es was)(hs:autoParam (starEach (e::es) X.env=(false,eval e X.env)::starEach es X.env) zau3._auto_1):Zj X (e::es) (AB w1 was):=by
 obtain⟨t,h1,h2⟩:=ha
 obtain⟨u,g1,g2⟩:=hr
 refine⟨_,Av h1 g1 hs,λC M H n ρ σ P Q R w q=>?_⟩
 refine h2 C M H n ρ σ _ _ R w λv H1 d n1 e1 f1 r1 p=>?_
 have R1:=R.step e1 f1
 refine g2 C M H1 n1 ρ σ _ _ R1 p λvs H2 ds n2 e2 f2 r2 p2=>?_
 exact q (v::vs) H2 (d::ds) n2 (e1.trans e2) f2 (.cons ⟨r1.1.pres (R1.pres e2) (λ_ z=>z) e2 R.uV,r1.2⟩ r2) p2
theorem Vy{k:Nat}{f:Addr}{fd:FuncData}{ps:List Str}{W:W2}{x:Str}{p:Pos}(G:A0 X.prog X.w X.K X.mg X.base Br k f fd ps (Ci X.K κ W ps.length))(hW:∀ss n P,W ss n P->ss.length=ps.length)
  (hr:Room k X.A) (hg:Gl X x) (hm:X.mg x=some (.ref f)) (hk:keepIn X.K (.ref f)=true) (hb:Binds X.K fd ps []) (ha:Zj X (e::es) was)
  (hdb:autoParam ((x==("__debug__" : Str))=false) zau1._auto_1) (he:autoParam (starEach (e::es) X.env=(false,eval e X.env)::starEach es X.env) zau3._auto_1) (hpl:autoParam ((backTo pos (starEach es X.env)).any (·.1)=false) zau3._auto_1) :
  DE X (.Call (.Name x p) (e::es) [] pos) κ (AV W was):=by
 obtain⟨t,h1,h2⟩:=ha
 refine⟨_,PV G hr hg hm hk hb .nil Sz h1 hdb he hpl,λC M H n ρ σ P Q R w q=>?_⟩
 refine h2 C M H n ρ σ _ _ R w λvs H1 ss n1 e1 f1 r1 p=>?_
 have R1:=R.step e1 f1
 show Ci X.K κ W ps.length (vs++[]) H1 Q E0
 rw [bh]
 refine⟨(Paired.length r1).trans (hW _ _ _ p),C.F,C.U,C.V,M,n1,ss,P,⟨R1.dom,R1.fU,R1.uV,R1.vM,f1,r1⟩,p,λv H2 d n2 e2 f2 r2 p2=>?_⟩
 exact q v H2 d n2 (e1.trans e2) f2 (VR.back e1 r2) p2
noncomputable def aY(T:String)(d:D):Prop:=match d with
 | .str _=>T = "str"
 | .int _=>T = "int"
 | .lst _=>T = "list"
 | _=>False
theorem Xt{T:String}{K:Frag}{U:Addr->Prop}{M:Addr->Prop}{H:Hp}{d:D}{x:V}(h:aY T d)(hx:AtT K U M H d x):Z2 K T x H:=by
 cases d with
 | str z=>obtain⟨e,_⟩:=hx; subst e; exact h
 | int i=>cases (show x=.int i from hx); exact h
 | lst ds=>obtain⟨a,vs,e,_,hq,_⟩:=hx; subst e; exact .inl ⟨h,vs,.inl hq⟩
 | _=>exact(show False from h).elim
noncomputable def DO(X:Cx)(e:Option Expr)(w:Nat->List Slot->(Option Int->Nat->Prop)->Prop):Prop:=∃t,PO X e t/\∀(C:Fm) (M:Addr->Prop) (H:Hp) (n:Nat) (ρ:List Slot) (σ:L2.St) (P:Option Int->Nat->Prop) (Q:Option Int->Hp->Prop),Rel X.K C M H n ρ σ->w n ρ P ->
 (∀o H' n',Ext C.U H H'->FeedC X.K C.F M H' n'->P o n'->Q o H')->t σ H Q
noncomputable def Eh:Nat->List Slot->(Option Int->Nat->Prop)->Prop:=λn _ P=>P none n
noncomputable def J8(w:DW):Nat->List Slot->(Option Int->Nat->Prop)->Prop:=λn ρ P=>w n ρ λd n1=>match d with
 | .int i=>P (some i) n1
 | _=>False
theorem GK:DO X none Eh:=⟨_,PR,λC M H n ρ σ P Q R w q=>q none H n (Ext.refl _ _) R.feed w⟩
theorem Li{U:Addr->Prop}{K:Frag}{M:Addr->Prop}{H H':Hp}{v:V}{i:Int}(h:VR K U M H H' κ v (.int i)):v=.int i:=by
 cases κ with
 | sh=>exact h
 | tp=>exact h
 | fr=>obtain⟨a,_,_,t⟩:=h; exact(show False from t).elim
theorem GJ(h:DE X e κ wa):DO X (some e) (J8 wa):=by
 obtain⟨t,h1,h2⟩:=h
 refine⟨_,PQ h1,λC M H n ρ σ P Q R w q=>?_⟩
 refine h2 C M H n ρ σ _ _ R w λv H1 d n1 e1 f1 r1 p=>?_
 cases d with
 | int i=>exact⟨i,Li r1,q _ H1 n1 e1 f1 p⟩
 | _=>exact p.elim
noncomputable def ac(K:Frag)(κ:Kd)(r:V->Option Int->Option Int->Hp->VK->Prop)(f:D->Option Int->Option Int->(D->Prop)->Prop):Prop:=∀(U:Addr->Prop) (M:Addr->Prop) (H:Hp) (d:D) (x:V) (lo hi:Option Int) (P:D->Prop) (Q:VK),(∀a,M a->∃o,H a=some o)->(∀a,U a->M a) ->
 AtT K U M H d x->f d lo hi P->(∀v H' z,Grow H H'->VR K U M H H' κ v z->P z->Q v H')->r x lo hi H Q
noncomputable def YX(f:D->Option Int->Option Int->(D->Prop)->Prop)(w:DW)(wl wh:Nat->List Slot->(Option Int->Nat->Prop)->Prop):DW:=λn ρ P=>w n ρ λd n1=>wl n1 ρ λlo n2=>wh n2 ρ λhi n3=>f d lo hi λz=>P z n3
theorem Nb{lo hi:Option Expr}{p2:Pos}{r:V->Option Int->Option Int->Hp->VK->Prop}{f:D->Option Int->Option Int->(D->Prop)->Prop}{wl wh:Nat->List Slot->(Option Int->Nat->Prop)->Prop}(hr:SlR X r)(hA:ac X.K κ r f)(he:DE X e κa wa)(hl:DO X lo wl)(hh:DO X hi wh) :
  DE X (.Subscript e (.Slice lo hi none p2) pos) κ (YX f wa wl wh):=by
 obtain⟨t,h1,h2⟩:=he
 obtain⟨u,g1,g2⟩:=hl
 obtain⟨u',k1,k2⟩:=hh
 refine⟨_,Mo hr h1 g1 k1,λC M H n ρ σ P Q R w q=>?_⟩
 refine h2 C M H n ρ σ _ _ R w λv H1 d n1 e1 f1 r1 p=>?_
 have R1:=R.step e1 f1
 have tv:=r1.tpOf R.dom R.vM
 refine g2 C M H1 n1 ρ σ _ _ R1 p λlo H2 n2 e2 f2 p2=>?_
 have R2':=R1.step e2 f2
 refine k2 C M H2 n2 ρ σ _ _ R2' p2 λhi H3 n3 e3 f3 p3=>?_
 have R3:=R2'.step e3 f3
 refine hA C.V M H3 d v lo hi _ _ R3.dom R3.vM ((tv.pres (R1.pres e2) e2 R.uV).pres (R2'.pres e3) e3 R.uV) p3 λv H4 z g vr pz=>?_
 exact q v H4 z n3 (((e1.trans e2).trans e3).trans g.ext) (f3.grow g) (VR.back ((e1.trans e2).trans e3) vr) pz
end
structure E2 where
 nx:Nat->List Slot->Prop
 rt:D->Nat->Prop
 bk:Nat->List Slot->Prop:=λ_ _=>False
 ct:Nat->List Slot->Prop:=λ_ _=>False
noncomputable abbrev Aa:=E2->Nat->List Slot->Prop
structure UZ (K:Frag) (C:Fm) (κ:Kd) (D2:E2) (E:Ends):Prop where
 nx:∀M H n ρ σ,Rel K C M H n ρ σ->D2.nx n ρ->E.nx σ H
 rt:∀v H d n,Ext C.U C.H0 H->FeedC K C.F C.M0 H n->VR K C.V C.M0 C.H0 H κ v d->D2.rt d n->E.rt v H
 bk:∀M H n ρ σ,Rel K C M H n ρ σ->D2.bk n ρ->E.bk σ H
 ct:∀M H n ρ σ,Rel K C M H n ρ σ->D2.ct n ρ->E.ct σ H
noncomputable def DS(X:Cx)(κ:Kd)(st:Stmt)(w:Aa):Prop:=∃t,PS X st t/\∀(C:Fm) (M:Addr->Prop) (H:Hp) (n:Nat) (ρ:List Slot) (σ:L2.St) (D2:E2) (E:Ends),Rel X.K C M H n ρ σ->UZ X.K C κ D2 E->w D2 n ρ->t E σ H
noncomputable def Uc(X:Cx)(κ:Kd)(st:List Stmt)(w:Aa):Prop:=∃t,PSs X st t/\∀(C:Fm) (M:Addr->Prop) (H:Hp) (n:Nat) (ρ:List Slot) (σ:L2.St) (D2:E2) (E:Ends),Rel X.K C M H n ρ σ->UZ X.K C κ D2 E->w D2 n ρ->t E σ H
noncomputable def BI:Aa:=λD2 n ρ=>D2.nx n ρ
noncomputable def Ai(u v:Aa):Aa:=λD2 n ρ=>u { D2 with nx:=v D2 } n ρ
noncomputable def A3(w:DW):Aa:=λD2 n ρ=>w n ρ λd n1=>D2.rt d n1
noncomputable def Bp(t:Hm)(u v:Aa):Aa:=λD2 n ρ=>t n ρ λc n1=>if c=true then u D2 n1 ρ else v D2 n1 ρ
noncomputable def BA(i:Nat)(w:DW):Aa:=λD2 n ρ=>w n ρ λd n1=>D2.nx n1 (ρ.set i (.sh d))
section
variable {X:Cx}{κ κe:Kd}{st:Stmt}{rest:List Stmt}{u v:Aa}{wa:DW}{wA:Hm}{e c:Expr}{pos:Pos}
theorem A4:Uc X κ [] BI:=⟨_,Fy,λC M H n ρ σ D2 E R L w=>L.nx M H n ρ σ R w⟩
theorem AF(h1:DS X κ st u)(h2:Uc X κ rest v):Uc X κ (st::rest) (Ai u v):=by
 obtain⟨t,a1,a2⟩:=h1
 obtain⟨t',b1,b2⟩:=h2
 refine⟨_,Ao a1 b1,λC M H n ρ σ D2 E R L w=>?_⟩
 exact a2 C M H n ρ σ { D2 with nx:=v D2 } { E with nx:=t' E } R ⟨λM H n ρ σ R w=>b2 C M H n ρ σ D2 E R L w,L.rt,L.bk,L.ct⟩ w
theorem AM(h1:DS X κ st u):Uc X κ [st] u:=by
 obtain⟨t,a1,a2⟩:=h1
 exact⟨t,BE a1,a2⟩
theorem XE{K:Frag}{C:Fm}{M:Addr->Prop}{H H':Hp}{n n':Nat}{ρ:List Slot}{σ:L2.St}{D2:E2}{E:Ends}{d:D}{v:V}(R:Rel K C M H n ρ σ)(L:UZ K C κ D2 E)(e:Ext C.U H H')(f:FeedC K C.F M H' n')(r:VR K C.V M H H' κ v d)(hk:κ≠.tp)(p:D2.rt d n'):E.rt v H':=by
 have less:Pres M H' C.M0 H':=Pres.less R.sub
 refine L.rt v H' d n' (R.ext.trans e) (f.pres less λ_ _ _ z=>z) ?_ p
 cases κ with
 | sh=>exact At.pres less r
 | tp=>exact absurd rfl hk
 | fr =>
  have r':=VR.back (κ:=.fr) R.ext r
  obtain⟨a,e1,h1,h2⟩:=r'
  exact⟨a,e1,h1,h2.pres (Pres.less λb z=>z.imp (R.sub b) id) λ_ z=>z⟩
theorem AY(h:DE X e κ wa)(hk:autoParam (κ≠.tp) zau5._auto_1):DS X κ (.Return (some e) pos) (A3 wa):=by
 obtain⟨t,a1,a2⟩:=h
 refine⟨_,EK a1,λC M H n ρ σ D2 E R L w=>?_⟩
 exact a2 C M H n ρ σ _ _ R w λv H' d n' e1 f1 r1 p=>XE R L e1 f1 r1 hk p
theorem Bb{a b:List Stmt}(hc:DT X c wA)(ha:Uc X κ a u)(hb:Uc X κ b v):DS X κ (.If c a b pos) (Bp wA u v):=by
 obtain⟨t,a1,a2⟩:=hc
 obtain⟨t',b1,b2⟩:=ha
 obtain⟨t'',c1,c2⟩:=hb
 refine⟨_,Mm a1 b1 c1,λC M H n ρ σ D2 E R L w=>?_⟩
 refine a2 C M H n ρ σ _ _ R w λb H1 n1 e1 f1 p=>?_
 cases b with
 | true=>exact b2 C M H1 n1 ρ σ D2 E (R.step e1 f1) L p
 | false=>exact c2 C M H1 n1 ρ σ D2 E (R.step e1 f1) L p
theorem Ah{i:Nat}{x:Str}{pos':Pos}(hN:X.N.Nodup)(hi:X.N[i]?=some x)(hx:Loc X.env.scope x)(he:DE X e κe wa)(hk:autoParam (κe≠.tp) zau5._auto_1)(hs:autoParam (swapsWith e (some (.Name x pos')) pos.line X.env=pure false) zau3._auto_1)
  (hf:autoParam (X.fn x=true\/X.env.scope.names.lookup x=some .local) zau0._auto_1):DS X κ (.Assign [.Name x pos'] e pos) (BA i wa):=by
 obtain⟨t,a1,a2⟩:=he
 refine⟨_,C2 hN hi hx a1 hs hf,λC M H n ρ σ D2 E R L w=>?_⟩
 refine a2 C M H n ρ σ _ _ R w λv H' d n' e1 f1 r1 p=>?_
 exact L.nx M H' n' _ _ ((R.step e1 f1).set (r1.shOf R.dom hk)) p
end
section
variable {X:Cx}{κ κe:Kd}{e:Expr}{wa:DW}{pos:Pos}
noncomputable def G9(i:Nat)(w:DW):Aa:=λD2 n ρ=>w n ρ λd n1=>D2.nx n1 (ρ.set i (.ow d))
theorem Dl{i:Nat}{x:Str}{pos':Pos}(hN:X.N.Nodup)(hi:X.N[i]?=some x)(hx:Loc X.env.scope x)(he:DE X e .fr wa)(hs:autoParam (swapsWith e (some (.Name x pos')) pos.line X.env=pure false) zau3._auto_1)
  (hf:autoParam (X.fn x=true\/X.env.scope.names.lookup x=some .local) zau0._auto_1):DS X κ (.Assign [.Name x pos'] e pos) (G9 i wa):=by
 obtain⟨t,a1,a2⟩:=he
 refine⟨_,C2 hN hi hx a1 hs hf,λC M H n ρ σ D2 E R L w=>?_⟩
 refine a2 C M H n ρ σ _ _ R w λv H' d n' e1 f1 r1 p=>?_
 obtain⟨a,rfl,h1,h2⟩:=r1
 exact L.nx _ H' n' _ _ (R.setOw e1 f1 h1 h2) p
noncomputable def Rw(i:Nat):Aa:=λD2 n ρ=>∃d,ρ[i]?=some (.ow d)/\D2.rt d n
theorem Vq{x:Str}{p:Pos}(i:Nat)(h:PE X (.Name x p) (BJ i)):DS X .fr (.Return (some (.Name x p)) pos) (Rw i):=by
 refine⟨_,EK h,λC M H n ρ σ D2 E R L ⟨d,hd,hw⟩=>?_⟩
 obtain⟨a,e1,m,nv,t⟩:=R.sl i _ hd
 refine⟨.ref a,getD_some e1,L.rt _ H d n R.ext (R.feed.pres (Pres.less R.sub) λ_ _ _ z=>z) ⟨a,rfl,(R.new i _ a hd rfl e1).2,?_⟩ hw⟩
 exact t.pres (Pres.less λb z=>z.elim (R.sub b) λz=>by rw [z]; exact m) λ_ z=>z
noncomputable def V9(K:Frag)(r:V->List V->Hp->VK->Prop)(f:D->List D->(D->D->Prop)->Prop):Prop:=∀(M:Addr->Prop) (H:Hp) (a:Addr) (d:D) (ds:List D) (vs:List V) (P:D->D->Prop) (Q:VK),M a->Tops K M H a d->Ats K M H ds vs->f d ds P ->
 (∀o e z v,Tops K M (As H a o) a e->At K M (As H a o) z v->P e z->Q v (As H a o))->r (.ref a) vs H Q
noncomputable def Uk(i:Nat)(T:String)(f:D->List D->(D->D->Prop)->Prop)(ws:Et):Aa:=λD2 n ρ=>∃d,ρ[i]?=some (.ow d)/\aY T d/\ws n ρ λds n1=>f d ds λe _=>D2.nx n1 (ρ.set i (.ow e))
theorem Co{M:Addr->Prop}{H:Hp}{a:Addr}{o u:HO}(m:M a)(e:H a=some u)(t:autoParam (∀vs,u≠.tup vs) zau7._auto_1):Pres M H M (As H a o):=⟨λb o' q nb=>by rw [AK (λz=>nb (by rw [z]; exact m))]; exact q,λ_ z=>.inl z,λb vs q=>by rw [AK (λz=>by rw [z,e] at q; exact t vs (UF q))]; exact q⟩
theorem Kh{x name:Str}{p apos cpos:Pos}{T id:String}{r:V->List V->Hp->VK->Prop}{f:D->List D->(D->D->Prop)->Prop}{es:List Expr}{ws:Et}(i:Nat)(pa:PlainAttrs T)(slot:PySem.Slot T name id)(hty:typeOf (.builtin id)=pure (.type "method_descriptor"))
  (hm:Zg X id r) (hA:V9 X.K r f) (h:PE X (.Name x p) (BJ i)) (ha:YW X (e::es) ws)
  (hbase:autoParam (attributeBase (.Name x p) name X.env (eval (.Name x p) X.env)=eval (.Name x p) X.env) zau3._auto_1)
  (hfew:autoParam (((backTo cpos (starEach (e::es) X.env)).all (λx=>!x.1)&&(backToKw cpos (keywordEach [] X.env)).all (λx=>x.1.isSome)
   && decide ((e::es).length+([]:List Keyword).length+(if ([]:List Keyword).isEmpty then 0 else 1)<30))=true) zau3._auto_1)
  (hline:autoParam ((apos.endLine==cpos.line)=true) zau3._auto_1) (hs:autoParam (starEach (e::es) X.env=(false,eval e X.env)::starEach es X.env) zau3._auto_1) (hplain:autoParam ((backTo cpos (starEach es X.env)).any (·.1)=false) zau3._auto_1)
  (hsw:autoParam (swapsWith (.Call (.Attribute (.Name x p) name apos) (e::es) [] cpos) none pos.line X.env=pure false) zau3._auto_1) :
  DS X κ (.Expr (.Call (.Attribute (.Name x p) name apos) (e::es) [] cpos) pos) (Uk i T f ws):=by
 obtain⟨t,a1,a2⟩:=ha
 refine⟨_,U3 (Y9 pa slot hty hm h a1 hbase hfew hline hs hplain) hsw,λC M H n ρ σ D2 E R L ⟨d,hd,hT,hw⟩=>?_⟩
 obtain⟨a,e1,m,nv,tt⟩:=R.sl i _ hd
 refine⟨.ref a,getD_some e1,Xt hT (tt.att nv),?_⟩
 refine a2 C M H n ρ σ _ _ R hw λvs H1 ds n1 ee f1 r1 p=>?_
 have R1:=R.step ee f1
 obtain⟨a',e1',m',nv',tt'⟩:=R1.sl i _ hd
 rw [e1] at e1'
 cases e1'
 exact hA M H1 a d ds vs _ _ m' tt' r1 p λo d' z v t2 hz pp=>L.nx M _ n1 _ σ (R1.mut hd e1 t2) pp
noncomputable def Om(d:D)(ds:List D)(P:D->D->Prop):Prop:=∃xs y,d=.lst xs/\ds=[y]/\xs.length<sizeLine/\P (.lst (xs++[y])) .non
theorem QD{K:Frag}:V9 K PL Om:=by
 intro M H a d ds vs P Q m t hv w q
 obtain⟨xs,y,rfl,rfl,hl,w⟩:=w
 obtain⟨us,h1,h2⟩:=t
 obtain⟨u,r,rfl,hu,hr⟩:=hv
 cases (show r=[] from hr)
 refine⟨a,us,u,rfl,rfl,h1,by rw [h2.length]; exact hl,q _ (.lst (xs++[y])) .non _ ⟨us++[u],AT,?_⟩ rfl w⟩
 exact(h2.append (Ats.one hu)).pres (Co m h1)
end
noncomputable def Yields(K:Frag)(M:Addr->Prop)(H:Hp)(J:It)(ds:List D):Prop:=∀(i:Nat) (M':Addr->Prop) (H':Hp),Pres M H M' H'->(∀a,M' a->∃o,H' a=some o) ->
 (∀d,ds[i]?=some d->J.go i H'/\∀x H2,J.yld i H' x H2->Grow H' H2/\At K M' H2 d x)/\(ds.length<=i->J.stop i H')
noncomputable def QE(K:Frag)(U M:Addr->Prop)(H:Hp)(J:It)(ds:List D):Prop:=∀(i:Nat) (M':Addr->Prop) (H':Hp),Pres M H M' H'->Ext U H H'->(∀a,M' a->∃o,H' a=some o) ->
 (∀d,ds[i]?=some d->J.go i H'/\∀x H2,J.yld i H' x H2->Grow H' H2/\At K M' H2 d x)/\(ds.length<=i->J.stop i H')
theorem Yields.e{K:Frag}{U M:Addr->Prop}{H:Hp}{J:It}{ds:List D}(h:Yields K M H J ds):QE K U M H J ds:=λi M' H' p _ d=>h i M' H' p d
noncomputable def Ya(X:Cx)(tg iter:Expr)(w:Et):Prop:=∃wi,PI X tg iter wi/\∀(C:Fm) (M:Addr->Prop) (H:Hp) (n:Nat) (ρ:List Slot) (σ:L2.St) (P:List D->Nat->Prop) (R:It->Hp->Prop),Rel X.K C M H n ρ σ->w n ρ P ->
 (∀J H' ds n',Ext C.U H H'->FeedC X.K C.F M H' n'->QE X.K C.U M H' J ds->P ds n'->R J H')->wi σ H R
noncomputable def DI(X:Cx)(tg iter:Expr)(w:Et):Prop:=∃wi,PI X tg iter wi/\∀(C:Fm) (M:Addr->Prop) (H:Hp) (n:Nat) (ρ:List Slot) (σ:L2.St) (P:List D->Nat->Prop) (R:It->Hp->Prop),Rel X.K C M H n ρ σ->w n ρ P ->
 (∀J H' ds n',Ext C.U H H'->FeedC X.K C.F M H' n'->Yields X.K M H' J ds->P ds n'->R J H')->wi σ H R
noncomputable def signs(x:Str):List D:=x.cps.toList.map λc=>.str ⟨#[c]⟩
noncomputable def Cw(w:DW):Et:=λn ρ P=>w n ρ λd n1=>match d with
 | .lst ds=>P ds n1
 | .tup ds=>P ds n1
 | .str x=>P (signs x) n1
 | _=>False
theorem MF{K:Frag}{M:Addr->Prop}{H:Hp}{a:Addr}{vs:List V}{ds:List D}(h:NdL M H a vs)(hs:Ats K M H ds vs):Yields K M H (Ub K a) ds:=by
 intro i M' H' p _
 have hq:SqL K H' a vs:=(h.pres p).sq
 refine⟨λd hd=>?_,λhl=>⟨vs,hq,by rw [hs.length]; exact hl⟩⟩
 obtain⟨v,e,hv⟩:=(hs.pres p).get hd
 refine⟨⟨vs,v,hq,e⟩,λx H2 y=>?_⟩
 obtain⟨e2,y⟩:=y
 subst e2
 have:some v=some x:=e.symm.trans (y vs hq)
 cases this
 exact⟨.refl,hv⟩
theorem IH{K:Frag}{M:Addr->Prop}{H:Hp}{a:Addr}{vs:List V}{ds:List D}(h:NdT M H a vs)(hs:Ats K M H ds vs):Yields K M H (Rj K a) ds:=by
 intro i M' H' p _
 have hq:SqT K H' a vs:=(h.pres p).sq
 refine⟨λd hd=>?_,λhl=>⟨vs,hq,by rw [hs.length]; exact hl⟩⟩
 obtain⟨v,e,hv⟩:=(hs.pres p).get hd
 refine⟨⟨vs,v,hq,e⟩,λx H2 y=>?_⟩
 obtain⟨e2,y⟩:=y
 subst e2
 have:some v=some x:=e.symm.trans (y vs hq)
 cases this
 exact⟨.refl,hv⟩
theorem yields_str{K:Frag}{M:Addr->Prop}{H:Hp}{z:Str}:Yields K M H (Zy z) (signs z):=by
 intro i M' H' p _
 refine⟨λd hd=>?_,λhl=>?_⟩
 ·unfold signs at hd
  rw [T0] at hd
  have hi:i<z.cps.size:=by
   cases q:z.cps.toList[i]? with
   | none=>rw [q] at hd; cases hd
   | some c=>simpa using (TW.mp q).1
  refine⟨hi,λx H2 y=>?_⟩
  obtain⟨e2,c,hc,rfl⟩:=y
  subst e2
  have:z.cps.toList[i]?=some c:=by simpa using hc
  rw [this] at hd
  have hd':D.str ⟨#[c]⟩=d:=UF hd
  subst hd'
  exact⟨.refl,rfl,by rw [bm]; show 1<=16777216; decide⟩
 ·show z.cps.size<=i
  unfold signs at hl
  simpa using hl
noncomputable def EH(lo:Int)(n:Nat):List D:=(bU n).map fun(i:Nat)=>.int (lo+(i:Int))
theorem K2{K:Frag}{M:Addr->Prop}{H:Hp}{lo:Int}{m:Nat}:Yields K M H (YT lo m) (EH lo m):=by
 intro i M' H' p _
 refine⟨λd hd=>?_,λhl=>?_⟩
 ·unfold EH at hd
  rw [T0] at hd
  have hi:i<m:=by
   cases q:(bU m)[i]? with
   | none=>rw [q] at hd; cases hd
   | some c=>simpa using (TW.mp q).1
  rw [gI hi] at hd
  have hd':D.int (lo+i)=d:=UF hd
  subst hd'
  refine⟨hi,λx H2 y=>?_⟩
  obtain⟨e2,e3⟩:=y
  subst e2
  exact⟨.refl,e3⟩
 ·show m<=i
  unfold EH at hl
  simpa using hl
section
variable {X:Cx}{tg e e2:Expr}{es:List Expr}{κ:Kd}{wa:DW}{ws:Et}{p pos:Pos}
theorem T8(h:DE X e κ wa)(hk:autoParam (κ≠.tp) zau5._auto_1):DI X tg e (Cw wa):=by
 obtain⟨t,a1,a2⟩:=h
 refine⟨_,OO a1,λC M H n ρ σ P Rr R w q=>?_⟩
 refine a2 C M H n ρ σ _ _ R w λv H1 d n1 e1 f1 r1 p=>?_
 have hv:=r1.shOf R.dom hk
 cases d with
 | lst ds =>
  obtain⟨a,vs,e,hn,hs⟩:=hv
  exact .inl ⟨a,e,⟨vs,hn.sq⟩,q _ H1 ds n1 e1 f1 (MF hn hs) p⟩
 | tup ds =>
  obtain⟨a,vs,e,hn,hs⟩:=hv
  exact .inr (.inl ⟨a,e,⟨vs,hn.sq⟩,q _ H1 ds n1 e1 f1 (IH hn hs) p⟩)
 | str z=>exact .inr (.inr ⟨z,hv.1,q _ H1 _ n1 e1 f1 yields_str p⟩)
 | _=>exact p.elim
noncomputable def J7(ws:Et):Et:=λn ρ P=>ws n ρ λds n1=>∃j:Int,ds=[.int j]/\(-(2 ^ 62)<=j/\j<2 ^ 62)/\P (EH 0 j.toNat) n1
theorem DM(hg:Gl X "range")(hm:X.mg "range"=none)(ha:Wo X [e] ws)(hs:autoParam (starEach [e] X.env=[(false,eval e X.env)]) zau3._auto_1):DI X tg (.Call (.Name "range" p) [e] [] pos) (J7 ws):=by
 obtain⟨t,a1,a2⟩:=ha
 refine⟨_,CL hg hm a1 hs,λC M H n ρ σ P Rr R w q=>?_⟩
 refine a2 C M H n ρ σ _ _ R w λvs H1 ds n1 e1 f1 r1 p=>?_
 obtain⟨j,rfl,hj,p⟩:=p
 cases r1 with
 | cons r rr =>
  cases rr
  have hv:_=V.int j:=r
  exact⟨j,by rw [hv],hj.1,hj.2,q _ H1 _ n1 e1 f1 K2 p⟩
theorem DI.c(h:DI X tg e ws):Ya X tg e ws:=by
 obtain⟨wi,a1,a2⟩:=h
 exact⟨wi,a1,λC M H n ρ σ P Rr R w q=>a2 C M H n ρ σ P Rr R w λJ H' ds n' e1 f1 y p=>q J H' ds n' e1 f1 y.e p⟩
theorem Ep(h:DE X e κ wa):Ya X tg e (Cw wa):=by
 obtain⟨t,a1,a2⟩:=h
 refine⟨_,OO a1,λC M H n ρ σ P Rr R w q=>?_⟩
 refine a2 C M H n ρ σ _ _ R w λv H1 d n1 e1 f1 r1 p=>?_
 have hv:AtT X.K C.V M H1 d v:=r1.tpOf R.dom R.vM
 cases d with
 | lst ds =>
  obtain⟨a,vs,e,nv,hr,hs⟩:=hv
  refine .inl ⟨a,e,⟨vs,.inl hr⟩,q _ H1 ds n1 e1 f1 (λi M' H' pr ex _=>?_) p⟩
  have hq:SqL X.K H' a vs:=by
   rcases hr with hr | ⟨o,hr⟩
   ·exact .inl (.inl (ex.keep hr λz=>nv (R.uV a z)))
   ·exact .inl (.inr ⟨o,ex.keep hr λz=>nv (R.uV a z)⟩)
  refine⟨λd hd=>?_,λhl=>⟨vs,hq,by rw [hs.length]; exact hl⟩⟩
  obtain⟨v,e,hv⟩:=(hs.pres pr).get hd
  refine⟨⟨vs,v,hq,e⟩,λx H2 y=>?_⟩
  obtain⟨e2,y⟩:=y
  subst e2
  have:some v=some x:=e.symm.trans (y vs hq)
  cases this
  exact⟨.refl,hv⟩
 | tup ds =>
  obtain⟨a,vs,e,hn,hs⟩:=hv
  exact .inr (.inl ⟨a,e,⟨vs,hn.sq⟩,q _ H1 ds n1 e1 f1 (IH hn hs).e p⟩)
 | str z=>exact .inr (.inr ⟨z,hv.1,q _ H1 _ n1 e1 f1 yields_str.e p⟩)
 | _=>exact p.elim
end
noncomputable abbrev BW:=D->List Slot->(List Slot->Prop)->Prop
noncomputable def DG(X:Cx)(tg:Expr)(b:BW):Prop:=∃g,PG X tg g/\∀(C:Fm) (M:Addr->Prop) (H:Hp) (n:Nat) (ρ:List Slot) (σ:L2.St) (d:D) (v:V) (P:List Slot->Prop) (Q:L2.St->Hp->Prop),Rel X.K C M H n ρ σ->At X.K M H d v->b d ρ P ->
 (∀ρ' σ',Rel X.K C M H n ρ' σ'->P ρ'->Q σ' H)->g v σ H Q
noncomputable def Ay(i:Nat):BW:=λd ρ P=>P (ρ.set i (.sh d))
theorem Au{X:Cx}{i:Nat}{x:Str}{pos:Pos}(hN:X.N.Nodup)(hi:X.N[i]?=some x)(hx:Loc X.env.scope x)(hf:autoParam (X.fn x=true\/X.env.scope.names.lookup x=some .local) zau0._auto_1):DG X (.Name x pos) (Ay i) :=
 ⟨_,BZ hN hi hx hf,λC M H n ρ σ d v P Q R h w q=>q _ _ (R.set h) w⟩
noncomputable def DD(b:BW)(body:Aa)(D2:E2):List D->Nat->List Slot->Prop
 | [],n,ρ=>D2.nx n ρ
 | d::ds,n,ρ=>b d ρ λρ1=>body { D2 with nx:=DD b body D2 ds,ct:=DD b body D2 ds,bk:=D2.nx } n ρ1
noncomputable def IK(src:Et)(b:BW)(body:Aa):Aa:=λD2 n ρ=>src n ρ λds n1=>DD b body D2 ds n1 ρ
theorem Rel.unpin{K:Frag}{C:Fm}{p:(Addr->Prop)×Hp}{M:Addr->Prop}{H:Hp}{n:Nat}{ρ:List Slot}{σ:L2.St}(R:Rel K { C with pins:=p::C.pins } M H n ρ σ):Rel K C M H n ρ σ :=
 ⟨R.len,R.sub,R.dom,R.ext,R.fU,R.uV,R.vM,R.feed,R.sl,λq hq=>R.pin q (Rs _ hq),R.br0,R.new,R.two,R.kept⟩
theorem Rel.pinned{K:Frag}{C:Fm}{M:Addr->Prop}{H:Hp}{n:Nat}{ρ:List Slot}{σ:L2.St}(R:Rel K C M H n ρ σ):Rel K { C with pins:=(M,H)::C.pins } M H n ρ σ :=
 ⟨R.len,R.sub,R.dom,R.ext,R.fU,R.uV,R.vM,R.feed,R.sl,λq hq=>(TM.mp hq).elim (λe=>e▸Pres.refl M H) (R.pin q),R.br0,R.new,R.two,R.kept⟩
section
variable {X:Cx}{κ:Kd}{tg iter:Expr}{body:List Stmt}{src:Et}{b:BW}{wb:Aa}{pos:Pos}
theorem C6(hp:PassesOwn (model X.prog X.w) X.A X.env X.xe)(hc:X.calm=true)(hi:DI X tg iter src)(hg:DG X tg b)(hb:Uc X κ body wb)
  (hs:autoParam (∀x,foldedSetIterable iter X.env x=pure x) zau2._auto_1):DS X κ (.For tg iter body [] pos) (IK src b wb):=by
 obtain⟨wi,a1,a2⟩:=hi
 obtain⟨g,g1,g2⟩:=hg
 obtain⟨tb,b1,b2⟩:=hb
 refine⟨_,EL hp hc a1 g1 b1 hs,λC M H n ρ σ D2 E R L w=>?_⟩
 refine a2 C M H n ρ σ _ _ R w λJ H1 ds n1 e1 f1 y w1=>?_
 have R1:=R.step e1 f1
 refine⟨λi m σ' H'=>m=ds.length - i/\i<=ds.length/\∃M' n' ρ',Rel X.K { C with pins:=(M,H1)::C.pins } M' H' n' ρ' σ'/\DD b wb D2 (ds.drop i) n' ρ',⟨ds.length,by simp,bH _,M,n1,ρ,R1.pinned,w1⟩,?_⟩
 rintro i m σ' H' ⟨rfl,hi,M',n',ρ',R',w'⟩
 have pr:Pres M H1 M' H':=R'.pin (M,H1) No
 by_cases hlt:i<ds.length
 ·have ed:ds.drop i=ds[i]::ds.drop (i+1):=c9 hlt
  rw [ed] at w'
  obtain⟨go,yl⟩:=(y i M' H' pr R'.dom).1 ds[i] (Db hlt)
  refine .inr ⟨go,λσ2 H2=>∃M2 n2 ρ2,Rel X.K { C with pins:=(M,H1)::C.pins } M2 H2 n2 ρ2 σ2/\DD b wb D2 (ds.drop (i+1)) n2 ρ2,λσ2 H2 ⟨M2,n2,ρ2,R2',w2⟩=>⟨ds.length - (i+1),by omega,rfl,hlt,M2,n2,ρ2,R2',w2⟩,λx H2 hy=>?_⟩
  obtain⟨gr,hx⟩:=yl x H2 hy
  have R2':=R'.step gr.ext (R'.feed.grow gr)
  refine g2 _ M' H2 n' ρ' σ' ds[i] x _ _ R2' hx w' λρ3 σ3 R3 w3=>?_
  refine b2 _ M' H2 n' ρ3 σ3 { D2 with nx:=DD b wb D2 (ds.drop (i+1)),ct:=DD b wb D2 (ds.drop (i+1)),bk:=D2.nx } _ R3 ⟨λM4 H4 n4 ρ4 σ4 R4 w4=>⟨M4,n4,ρ4,R4,w4⟩,L.rt,λM4 H4 n4 ρ4 σ4 R4 w4=>L.nx M4 H4 n4 ρ4 σ4 R4.unpin w4,λM4 H4 n4 ρ4 σ4 R4 w4=>⟨M4,n4,ρ4,R4,w4⟩⟩ w3
 ·have e:i=ds.length:=by omega
  subst e
  rw [hV] at w'
  exact .inl ⟨(y _ M' H' pr R'.dom).2 (Op _),L.nx M' H' n' ρ' σ' R'.unpin w'⟩
end
noncomputable def DF(b:BW)(tt:Hm)(te:DW)(P:List D->Nat->Prop):List D->List D->Nat->List Slot->Prop
 | [],acc,n,_=>P acc n
 | d::ds,acc,n,ρ=>b d ρ λρ1=>tt n ρ1 λc n1=>if c=true then te n1 ρ1 λy n2=>DF b tt te P ds (acc++[y]) n2 ρ1 else DF b tt te P ds acc n1 ρ1
noncomputable def Q8:Slot->Slot
 | .ow d=>.br d
 | .lt _ d=>.br d
 | s=>s
theorem Q7(s:Slot):(Q8 s).owns=false:=by cases s <;> rfl
theorem Dh{js:List (Option Nat)}{ρ:List Slot}{i:Nat}{s:Slot}(h:(js.map λo=>match o with | some i=>Q8 ((ρ[i]?).getD .no) | none=>Slot.no)[i]?=some s):s.owns=false:=by
 rw [T0] at h
 cases q:js[i]? with
 | none=>rw [q] at h; cases h
 | some o =>
  rw [q] at h
  cases o with
  | none =>
   have e:Slot.no=s:=UF h
   rw [← e]; rfl
  | some j =>
   have e:Q8 ((ρ[j]?).getD .no)=s:=UF h
   rw [← e]; exact Q7 _
noncomputable def F9(js:List (Option Nat))(ρ:List Slot):List Slot:=js.map λo=>match o with
 | some i=>Q8 ((ρ[i]?).getD .no)
 | none=>.no
noncomputable def Dt(js:List (Option Nat))(src:Et)(b:BW)(tt:Hm)(te:DW):DW:=λn ρ P=>src n ρ λds n1=>ds.length<=10000000/\DF b tt te (λacc n2=>P (.lst acc) n2) ds [] n1 (F9 js ρ)
noncomputable def Zi(X:Cx)(ifs:List Expr)(w:Hm):Prop:=∃t,Zc X ifs t/\∀(C:Fm) (M:Addr->Prop) (H:Hp) (n:Nat) (ρ:List Slot) (σ:L2.St) (P:Bool->Nat->Prop) (Q:Bool->Hp->Prop),Rel X.K C M H n ρ σ->w n ρ P ->
 (∀b H' n',Ext C.U H H'->FeedC X.K C.F M H' n'->P b n'->Q b H')->t σ H Q
noncomputable def Fp:Hm:=λn _ P=>P true n
theorem Cp{X:Cx}:Zi X [] Fp:=⟨_,PU,λC M H n ρ σ P Q R w q=>q true H n (Ext.refl _ _) R.feed w⟩
theorem Vv{X:Cx}{c:Expr}{w:Hm}(h:DT X c w):Zi X [c] w:=by
 obtain⟨t,h1,h2⟩:=h
 exact⟨t,U5 h1,h2⟩
theorem KU{js:List (Option Nat)}{ρ:List Slot}{σ:L2.St}{i:Nat}{s:Slot}(hs:(F9 js ρ)[i]?=some s):s=.no\/∃(j:Nat) (s':Slot),ρ[j]?=some s'/\s=Q8 s'/\((By js σ)[i]?).getD none=(σ[j]?).getD none:=by
 unfold F9 at hs
 unfold By
 rw [T0] at hs ⊢
 cases q:js[i]? with
 | none=>rw [q] at hs; cases hs
 | some o =>
  rw [q] at hs
  cases o with
  | none=>exact .inl (UF hs).symm
  | some j =>
   have e:Q8 ((ρ[j]?).getD .no)=s:=UF hs
   cases q2:ρ[j]? with
   | none=>rw [q2] at e; exact .inl e.symm
   | some s' =>
    rw [q2] at e
    exact .inr ⟨j,s',q2,e.symm,rfl⟩
theorem NG{K:Frag}{F:Option (Addr×Addr)}{U U' M M':Addr->Prop}{H H':Hp}{js:List (Option Nat)}{ρ:List Slot}{σ:L2.St}(hsl:∀(i:Nat) (s:Slot),ρ[i]?=some s->SlotOk K F U M H s ((σ[i]?).getD none))
  (pr:Pres M H M' H') (br:∀d v,AtT K U M H d v->AtT K U' M' H' d v):∀(i:Nat) (s:Slot),(F9 js ρ)[i]?=some s->SlotOk K F U' M' H' s (((By js σ)[i]?).getD none):=by
 intro i s hs
 rcases KU (σ:=σ) hs with rfl | ⟨j,s',q,rfl,e⟩
 ·trivial
 ·rw [e]
  have h1:=hsl j s' q
  cases s' with
  | no=>trivial
  | sh d=>obtain⟨v,e1,h2⟩:=h1; exact⟨v,e1,h2.pres pr⟩
  | br d=>obtain⟨v,e1,h2⟩:=h1; exact⟨v,e1,br d v h2⟩
  | fd=>exact h1
  | ow d=>obtain⟨a,e1,_,nv,t⟩:=h1; exact⟨.ref a,e1,br d _ (t.att nv)⟩
  | lt a d=>obtain⟨e1,_,nv,t⟩:=h1; exact⟨.ref a,e1,br d _ (t.att nv)⟩
theorem Pf{K:Frag}{F:Option (Addr×Addr)}{U M:Addr->Prop}{H:Hp}{js:List (Option Nat)}{ρ:List Slot}{σ:L2.St}(hsl:∀(i:Nat) (s:Slot),ρ[i]?=some s->SlotOk K F U M H s ((σ[i]?).getD none)){i:Nat}{d:D}{a:Addr}
  (hs:(F9 js ρ)[i]?=some (.br d)) (ha:((By js σ)[i]?).getD none=some (.ref a)):∃o,H a=some o:=by
 rcases KU (σ:=σ) hs with z | ⟨j,s',q,z,e⟩
 ·cases z
 ·rw [e] at ha
  have h1:=hsl j s' q
  rw [ha] at h1
  cases s' with
  | br d=>obtain⟨v,e1,h2⟩:=h1; cases e1; exact h2.lies
  | ow d=>obtain⟨b,e1,_,nv,t⟩:=h1; cases e1; exact(t.att nv).lies
  | lt b d=>obtain⟨e1,_,nv,t⟩:=h1; cases e1; exact(t.att nv).lies
  | no=>cases z
  | sh d=>cases z
  | fd=>cases z
section
variable {X:Cx}{κe:Kd}{tg elt iter:Expr}{ifs:List Expr}{sc:Scope}{pos:Pos}{src:Et}{b:BW}{tt:Hm}{te:DW}
theorem Cr(hc:X.calm=true)(N':List Str)(js:List (Option Nat))(hi:Ya X tg iter src)(hg:∀cl C s H fp,DG (Ax X sc N' cl C s H fp) tg b)(ht:∀cl C s H fp,Zi (Ax X sc N' cl C s H fp) ifs tt)(he:∀cl C s H fp,DE (Ax X sc N' cl C s H fp) elt κe te)
  (hB:JS sc X.env.scope X.N N' js=true) (hk:autoParam (κe≠.tp) zau5._auto_1)
  (hs:autoParam (∀x,foldedSetIterable iter X.env x=pure x) zau2._auto_1):DE X (.ListComp elt [⟨tg,iter,ifs,0⟩] sc pos) .fr (Dt js src b tt te):=by
 obtain⟨wi,a1,a2⟩:=hi
 refine⟨_,U8 hc N' js a1 hB hs,λC M H n ρ σ P Q R w q=>?_⟩
 refine a2 C M H n ρ σ _ _ R w λJ H1 ds n1 e1 f1 y w1=>?_
 obtain⟨hlen,w1⟩:=w1
 have R1:=R.step e1 f1
 intro l hl hkl cl Ca s0 H0 fp
 obtain⟨g,g1,g2⟩:=hg cl Ca s0 H0 fp
 obtain⟨tc,c1,c2⟩:=ht cl Ca s0 H0 fp
 obtain⟨tx,x1,x2⟩:=he cl Ca s0 H0 fp
 have noU:¬C.U l:=λz=>by
  obtain⟨o,z⟩:=R1.udom l z
  rw [hl] at z; cases z
 generalize hM':(λb=>M b\/b=l)=M'
 have M'l:M' l:=by rw [← hM']; exact .inr rfl
 have M'of:∀b,M b->M' b:=λb z=>by rw [← hM']; exact .inl z
 have ofM':∀b,M' b->M b\/b=l:=λb z=>by rw [← hM'] at z; exact z
 have inV:∀b,C.V b\/b=l->M' b:=λb z=>z.elim (λz=>M'of b (R1.vM b z)) λz=>by rw [z]; exact M'l
 have lenj:js.length=N'.length:=EU (CompOk.of hB).cap
 refine⟨g,tc,tx,λi m σ' H'=>m=ds.length - i/\i<=ds.length/\∃n' ρ' acc vs,Rel X.K ⟨M',C.F,C.U,λb=>C.V b\/b=l,H1,[],[]⟩ M' H' n' ρ' σ'/\H' l=some (.lst vs)/\Ats X.K M' H' acc vs/\acc.length<=i/\Pres M H1 M' H' /\
   DF b tt te (λacc n2=>P (.lst acc) n2) (ds.drop i) acc n' ρ',g1,c1,x1,⟨ds.length,by simp,bH _,n1,F9 js ρ,[],[],?_⟩,?_⟩
 ·have gr:Grow H1 (As H1 l (.lst [])):=Al hl
  have pr:Pres M H1 M' (As H1 l (.lst [])):=⟨λb o e _=>gr.all b o e,λb z=>(ofM' b z).elim .inl λz=>.inr (by rw [z]; exact hl),λb vs e=>gr.all b _ e⟩
  refine⟨⟨?_,λa z=>z,λa z=>?_,gr.ext,R1.fU,λa z=>.inl (R1.uV a z),inV,f1.pres pr λf o _ e=>gr.all f.1 o e,?_,λp hp=>absurd hp (by simp),λi d a q z=>Pf R1.sl q z,λi s a q o _=>absurd o (by rw [Dh q]; decide),λi j s t a q o _ _ _ _=>absurd o (by rw [Dh q]; decide),λp hp=>absurd hp (by simp)⟩,AT,rfl,bH _,pr,w1⟩
  ·unfold F9 By
   rw [FM,FM]
  ·rcases ofM' a z with z | z
   ·obtain⟨o,z⟩:=R1.dom a z
    exact⟨o,gr.all a o z⟩
   ·subst z
    exact⟨_,AT⟩
  ·refine NG R1.sl pr λd v h=>h.same pr (λa o _ e=>gr.all a o e) λa e n1 z=>z.elim n1 λz=>?_
   subst e
   obtain⟨o,w⟩:=h.lies
   rw [z,hl] at w
   cases w
 ·rintro i m σ' H' ⟨rfl,hi,n',ρ',acc,vs,R',hlv,hac,hal,pr,w'⟩
  by_cases hlt:i<ds.length
  ·have ed:ds.drop i=ds[i]::ds.drop (i+1):=c9 hlt
   rw [ed] at w'
   obtain⟨go,yl⟩:=(y i M' H' pr R'.ext R'.dom).1 ds[i] (Db hlt)
   refine .inr ⟨go,λx H2 hy=>?_⟩
   obtain⟨gr,hx⟩:=yl x H2 hy
   have R2':=R'.step gr.ext (R'.feed.grow gr)
   refine g2 _ M' H2 n' ρ' σ' ds[i] x _ _ R2' hx w' λρ3 σ3 R3 w3=>?_
   refine c2 _ M' H2 n' ρ3 σ3 _ _ R3 w3 λc H4 n4 e4 f4 w4=>?_
   have R4:=R3.step e4 f4
   have p4:Pres M' H' M' H4:=gr.pres.trans (R3.pres e4)
   have l4:H4 l=some (.lst vs):=e4.keep (gr.all _ _ hlv) noU
   cases c with
   | false=>exact⟨ds.length - (i+1),by omega,rfl,hlt,n4,ρ3,acc,vs,R4,l4,hac.pres p4,by omega,pr.trans p4,w4⟩
   | true =>
    refine x2 _ M' H4 n4 ρ3 σ3 _ _ R4 w4 λyv H5 d5 n5 e5 f5 r5 w5=>?_
    have R5:=R4.step e5 f5
    have p5:Pres M' H4 M' H5:=R4.pres e5
    have l5:H5 l=some (.lst vs):=e5.keep l4 noU
    have hy5:=r5.shOf R4.dom hk
    have a5:=(hac.pres p4).pres p5
    have pu:Pres M' H5 M' (As H5 l (.lst (vs++[yv]))):=Co M'l l5
    have hvl:vs.length=acc.length:=hac.length
    refine⟨vs,l5,by rw [bm]; omega,ds.length - (i+1),by omega,rfl,hlt,n5,ρ3,acc++[d5],vs++[yv],?_,AT,(a5.append (Ats.one hy5)).pres pu,by rw [bD,bW]; omega,(pr.trans p4).trans (p5.trans pu),w5⟩
    refine⟨R5.len,R5.sub,λa z=>?_,λb o e=>?_,R5.fU,R5.uV,R5.vM,?_,λj s hs=>?_,λp hp=>absurd hp (by simp),R5.br0,R5.new,R5.two,λp hp=>absurd hp (by simp)⟩
    ·by_cases ha:a=l
     ·subst ha; exact⟨_,AT⟩
     ·rw [AK ha]; exact R5.dom a z
    ·obtain⟨o',q1,q2⟩:=R5.ext b o e
     by_cases hb:b=l
     ·subst hb
      have e':H1 b=some o:=e
      rw [hl] at e'; cases e'
     ·exact⟨o',by rw [AK hb]; exact q1,q2⟩
    ·refine f5.pres pu λf o hf e=>?_
     rw [AK (λz=>noU (by rw [← z]; exact R1.fU f hf))]
     exact e
    ·have hs5:=R5.sl j s hs
     cases s with
     | no=>trivial
     | sh d=>obtain⟨v,e1,h2⟩:=hs5; exact⟨v,e1,h2.pres pu⟩
     | br d =>
      obtain⟨v,e1,h2⟩:=hs5
      refine⟨v,e1,h2.same pu (λa o z e=>?_) λ_ _ z=>z⟩
      subst z
      obtain⟨o3,w⟩:=R5.br0 j d a hs e1
      have hal:a≠l:=λz=>by
       have w':H1 a=some o3:=w
       rw [z,hl] at w'; cases w'
      rw [AK hal]; exact e
     | ow d =>
      obtain⟨a,e1,h2,_⟩:=hs5
      exact absurd h2 (R5.new j _ a hs rfl e1).1
     | lt a d =>
      obtain⟨e1,h2,_⟩:=hs5
      exact absurd h2 (R5.new j _ a hs rfl e1).1
     | fd=>exact hs5
  ·have e:i=ds.length:=by omega
   subst e
   rw [hV] at w'
   refine .inl ⟨(y _ M' H' pr R'.ext R'.dom).2 (Op _),?_⟩
   have eb:Ext C.U H1 H':=R'.ext
   have less:Pres M' H' M H':=Pres.less M'of
   refine q _ H' (.lst acc) n' (e1.trans eb) (R'.feed.pres less λ_ _ _ z=>z) (VR.back e1 ?_) w'
   exact⟨l,rfl,hl,vs,hlv,by rw [hM']; exact hac⟩
end
theorem Qa{K:Frag}{F:Option (Addr×Addr)}{U V' M:Addr->Prop}{H:Hp}{n:Nat}{ss:List Slot}{vs:List V}{N:List Str}(h:Za K F U V' M H n ss vs)(hl:vs.length<=N.length) :
  Rel K ⟨M,F,U,V',H,[],[]⟩ M H n (ss++Uf (N.length - ss.length) .no) (L2.start N vs):=by
 obtain⟨dom,fU,uV,vM,fd,pa⟩:=h
 have el:vs.length=ss.length:=Paired.length pa
 have go:∀{vs:List V} {ss:List Slot} {i:Nat} {s:Slot},Paired (K1 K F V' M H) vs ss->ss[i]?=some s->∃v,vs[i]?=some v/\K1 K F V' M H v s:=by
  intro vs ss i s pa
  induction pa generalizing i with
  | nil=>intro e; simp at e
  | cons r t ih =>
   intro e
   cases i with
   | zero=>simp at e; subst e; exact⟨_,rfl,r⟩
   | succ i =>
    obtain⟨v,e1,h1⟩:=ih (i:=i) (by simpa using e)
    exact⟨v,by simpa using e1,h1⟩
 have at_:∀(i:Nat) (s:Slot),(ss++Uf (N.length - ss.length) Slot.no)[i]?=some s->s=.no\/∃v,((L2.start N vs)[i]?).getD none=some v/\K1 K F V' M H v s:=by
  intro i s hs
  by_cases hi:i<ss.length
  ·rw [d7 hi] at hs
   obtain⟨v,e1,h1⟩:=go pa hs
   refine .inr ⟨v,?_,h1⟩
   unfold L2.start
   rw [d7 (by rw [FM,el]; exact hi),T0,e1]
   rfl
  ·rw [cS (by omega),fW] at hs
   split at hs
   ·exact .inl (UF hs).symm
   ·cases hs
 refine⟨?_,λa z=>z,dom,Ext.refl _ _,fU,uV,vM,fd,λi s hs=>?_,λp hp=>absurd hp (by simp),λi d a hs ha=>?_,λi s a hs o _=>?_,λi j s t a hs o _ _ _ _=>?_,λp hp=>absurd hp (by simp)⟩
 ·unfold L2.start
  simp only [bD,FM,iW]
  omega
 ·rcases at_ i s hs with rfl | ⟨v,e,h⟩
  ·trivial
  ·rw [e]; exact h.1
 ·rcases at_ i _ hs with z | ⟨v,e,h⟩
  ·cases z
  ·rw [e] at ha
   cases ha
   obtain⟨v,e1,h1⟩:=h.1
   cases e1
   exact h1.lies
 ·rcases at_ i s hs with rfl | ⟨v,e,h⟩
  ·cases o
  ·rw [h.2] at o; cases o
 ·rcases at_ i s hs with rfl | ⟨v,e,h⟩
  ·cases o
  ·rw [h.2] at o; cases o
theorem Eo{P:Program}{w:World}{K:Frag}{mg:Str->Option Value}{base:Heap}{x qual:Str}{st:Stmt}{f:Addr}{fd:FuncData}{N ps:List Str}{k:Nat}{κ:Kd}{W:W2}{wb:Aa}(F:Fun K x qual st f fd)(S:AU N ps (AN st))(hNp:ps.length<=N.length)
  (hb:∀(cdv:Value) (A:Around) (outer:List Env) (s:Shared) (H:Hp) (E:XK),Room k (A.deeper (envOfC qual (AN st) s.heap.objs.size f cdv))->Uc (Ly Br P w K mg base N qual (AN st) f cdv A outer s H E).nox κ (Bo st) wb)
  (hW:∀ss n Pd,ss.length=ps.length->W ss n Pd->wb { nx:=λn _=>κ=.sh/\Pd .non n,rt:=Pd } n (ss++Uf (N.length - ps.length) .no)) :
  A0 P w K mg base Br (k+1) f fd ps (Ci K κ W ps.length):=by
 refine F.ok S (λvs H Q E h=>h.1) (λcdv A outer s H vs Q E hr h=>?_)
 obtain⟨hl,F0,U,V',M,n,ss,Pd,ra,hw,q⟩:=h
 obtain⟨t,t1,t2⟩:=hb cdv A outer s H E hr
 refine⟨t,t1,?_⟩
 have el:vs.length=ss.length:=Paired.length ra.2.2.2.2.2
 have R:=Qa (N:=N) ra (by omega)
 refine t2 ⟨M,F0,U,V',H,[],[]⟩ M H n _ _ { nx:=λn _=>κ=.sh/\Pd .non n,rt:=Pd } _ R ⟨λM1 H1 n1 ρ1 σ1 R1 p=>?_,λv H1 d n1 e1 f1 r1 p=>q v H1 d n1 e1 f1 r1 p,λ_ _ _ _ _ _ z=>z.elim,λ_ _ _ _ _ _ z=>z.elim⟩ ?_
 ·obtain⟨hk,p⟩:=p
  subst hk
  exact q .non H1 .non n1 R1.ext (R1.feed.pres (Pres.less R1.sub) λ_ _ _ z=>z) rfl p
 ·have e:ss.length=ps.length:=by omega
  have h1:=hW ss n Pd e hw
  rw [← e] at h1
  exact h1
end Dp
namespace L2
open PySem PySem.Spec PyProof.Rows
section
variable {X:Cx}
theorem Inv.rdl{pins:List (Addr×Obj)}{σ:L2.St}{H:Hp}{s:Shared}{l:Addr}{xs:List V}(I:Inv X pins σ H s)(h:Rd H l (.lst xs)):xs.length<=sizeLine/\∃(its:List Value) (n:Nat),Vals xs its/\xs.length=its.length/\s.heap.get? l=some { cls:=.type "list",data:=.seq its.toArray n }:=by
 obtain⟨z,its,n,r,e⟩:=h.ok I.hok
 exact⟨z,its,n,r,r.length,e⟩
theorem VD:OpR X (binaryOp .Add) (λx y H Q=>∃l b xs zs,x=.ref l/\y=.ref b/\Rd H l (.lst xs)/\Rd H b (.lst zs)/\xs.length+zs.length<=sizeLine/\∀p,H p=none->Q (.ref p) (As H p (.lst (xs++zs)))):=by
 intro pins s σ H x y v u Q I rx ry h
 obtain⟨l,b,xs,zs,rfl,rfl,hH,hB,hz,q⟩:=h
 cases rx
 cases ry
 obtain⟨z,its,n,r,hl,e⟩:=I.rdl hH
 obtain⟨z2,its2,n2,r2,hl2,e2⟩:=I.rdl hB
 refine PySem.P.add_list e e2 ?_ (by rw [Re,Re]; omega)
 have ea:its.toArray++its2.toArray=(its++its2).toArray:=by simp
 rw [ea]
 exact⟨.ref _,_,I.lnew (t':=s.toks) (r.append r2) (by rw [bD]; omega),rfl,q _ I.fresh⟩
end
end L2
namespace Dp
open PySem PySem.Spec PyProof.Rows L2
section
variable {K:Frag}
theorem AtT.int{U M:Addr->Prop}{H:Hp}{i:Int}{v:V}(h:AtT K U M H (.int i) v):v=.int i:=h
theorem AtT.bl{U M:Addr->Prop}{H:Hp}{i:Bool}{v:V}(h:AtT K U M H (.bl i) v):v=.bl i:=h
theorem AtT.str{U M:Addr->Prop}{H:Hp}{x:Str}{v:V}(h:AtT K U M H (.str x) v):v=.str x/\x.length<=sizeLine:=h
theorem AtT.tup{U M:Addr->Prop}{H:Hp}{ds:List D}{v:V}(h:AtT K U M H (.tup ds) v):∃a vs,v=.ref a/\NdT M H a vs/\Ats K M H ds vs:=h
noncomputable def Zt(g:Int->Int->(D->Prop)->Prop)(d e:D)(P:D->Prop):Prop:=match d,e with
 | .int i,.int j=>g i j P
 | _,_=>False
theorem Lm{g:Int->Int->(D->Prop)->Prop}{d e:D}{P:D->Prop}(w:Zt g d e P):∃i j,d=.int i/\e=.int j/\g i j P:=by
 unfold Zt at w
 split at w
 ·exact⟨_,_,rfl,rfl,w⟩
 ·exact w.elim
noncomputable def f2(g:Int->Int->D):D->D->(D->Prop)->Prop:=Zt λi j P=>P (g i j)
noncomputable def X0(C:Int->Int->Prop)(g:Int->Int->D):D->D->(D->Prop)->Prop:=Zt λi j P=>C i j/\P (g i j)
theorem UT{g:Int->Int->Int}:Ez K .sh (G_ λi j=>.int (g i j)) (f2 λi j=>.int (g i j)):=by
 intro U M H d e x y P Q dom vM hx hy w q
 obtain⟨i,j,rfl,rfl,w⟩:=Lm w
 exact⟨i,j,hx,hy,q _ H (.int (g i j)) .refl rfl w⟩
theorem L7{g:Int->Int->Bool}:Ez K .sh (G_ λi j=>.bl (g i j)) (f2 λi j=>.bl (g i j)):=by
 intro U M H d e x y P Q dom vM hx hy w q
 obtain⟨i,j,rfl,rfl,w⟩:=Lm w
 exact⟨i,j,hx,hy,q _ H (.bl (g i j)) .refl rfl w⟩
theorem Fi{C:Int->Int->Prop}{g:Int->Int->Int}:Ez K .sh (rI C λi j=>.int (g i j)) (X0 C λi j=>.int (g i j)):=by
 intro U M H d e x y P Q dom vM hx hy w q
 obtain⟨i,j,rfl,rfl,w⟩:=Lm w
 exact⟨i,j,hx,hy,w.1,q _ H (.int (g i j)) .refl rfl w.2⟩
noncomputable def Zs(g:Str->Str->(D->Prop)->Prop)(d e:D)(P:D->Prop):Prop:=match d,e with
 | .str i,.str j=>g i j P
 | _,_=>False
theorem Po{g:Str->Str->(D->Prop)->Prop}{d e:D}{P:D->Prop}(w:Zs g d e P):∃i j,d=.str i/\e=.str j/\g i j P:=by
 unfold Zs at w
 split at w
 ·exact⟨_,_,rfl,rfl,w⟩
 ·exact w.elim
theorem UP{g:Str->Str->Bool}:Ez K .sh (λx y H Q=>∃i j,x=.str i/\y=.str j/\Q (.bl (g i j)) H) (Zs λi j P=>P (.bl (g i j))):=by
 intro U M H d e x y P Q dom vM hx hy w q
 obtain⟨i,j,rfl,rfl,w⟩:=Po w
 exact⟨i,j,hx.1,hy.1,q _ H (.bl (g i j)) .refl rfl w⟩
theorem RY:Ez K .sh (λx y H Q=>∃i j,x=.str i/\y=.str j/\i.length+j.length<=sizeLine/\Q (.str (i++j)) H) (Zs λi j P=>i.length+j.length<=sizeLine/\P (.str (i++j))):=by
 intro U M H d e x y P Q dom vM hx hy w q
 obtain⟨i,j,rfl,rfl,w⟩:=Po w
 exact⟨i,j,hx.1,hy.1,w.1,q _ H (.str (i++j)) .refl ⟨rfl,by rw [show (i++j).length=i.length+j.length from Str.length_append i j]; exact w.1⟩ w.2⟩
noncomputable def aK(g:List D->List D->(D->Prop)->Prop)(d e:D)(P:D->Prop):Prop:=match d,e with
 | .tup i,.tup j=>g i j P
 | _,_=>False
noncomputable def aL(g:List D->List D->(D->Prop)->Prop)(d e:D)(P:D->Prop):Prop:=match d,e with
 | .lst i,.lst j=>g i j P
 | _,_=>False
theorem VX{g:List D->List D->(D->Prop)->Prop}{d e:D}{P:D->Prop}(w:aK g d e P):∃i j,d=.tup i/\e=.tup j/\g i j P:=by
 unfold aK at w
 split at w
 ·exact⟨_,_,rfl,rfl,w⟩
 ·exact w.elim
theorem VZ{g:List D->List D->(D->Prop)->Prop}{d e:D}{P:D->Prop}(w:aL g d e P):∃i j,d=.lst i/\e=.lst j/\g i j P:=by
 unfold aL at w
 split at w
 ·exact⟨_,_,rfl,rfl,w⟩
 ·exact w.elim
theorem B9{M:Addr->Prop}{H:Hp}{p:Addr}{vs:List V}{ds:List D}(dom:∀a,M a->∃o,H a=some o)(hp:H p=none)(h:Ats K M H ds vs):At K M (As H p (.tup vs)) (.tup ds) (.ref p):=by
 exact⟨p,vs,rfl,AT,h.pres (Al hp).pres⟩
theorem CW{U M:Addr->Prop}{H:Hp}{p:Addr}{vs:List V}{ds:List D}(hp:H p=none)(h:Ats K M H ds vs):VR K U M H (As H p (.lst vs)) .fr (.ref p) (.lst ds) :=
 ⟨p,rfl,hp,vs,AT,h.pres (Fh hp)⟩
theorem RX:Ez K .sh (Sf K) (aK λi j P=>i≠[]/\i.length+j.length<=sizeLine/\P (.tup (i++j))):=by
 intro U M H d e x y P Q dom vM hx hy w q
 obtain⟨i,j,rfl,rfl,w⟩:=VX w
 obtain⟨a,vs,rfl,ha,hs⟩:=hx.tup
 obtain⟨b,us,rfl,hb,ht⟩:=hy.tup
 have l1:=hs.length
 have l2:=ht.length
 refine⟨a,b,vs,us,rfl,rfl,ha.sq,hb.sq,λz=>w.1 ?_,by rw [l1,l2]; exact w.2.1,λz=>?_,λz p hp=>?_⟩
 ·rw [z] at l1; exact eM.mp l1.symm
 ·rw [z] at l2
  have:j=[]:=eM.mp l2.symm
  subst this
  exact q _ H (.tup i) .refl ⟨a,vs,rfl,ha,hs⟩ (by have:=w.2.2; rw [bh] at this; exact this)
 ·exact q _ _ (.tup (i++j)) (Al hp) (B9 dom hp (hs.append ht)) w.2.2
theorem RZ:Ez K .fr (λx y H Q=>∃l b xs zs,x=.ref l/\y=.ref b/\Rd H l (.lst xs)/\Rd H b (.lst zs)/\xs.length+zs.length<=sizeLine/\∀p,H p=none->Q (.ref p) (As H p (.lst (xs++zs)))) (aL λi j P=>i.length+j.length<=sizeLine/\P (.lst (i++j))):=by
 intro U M H d e x y P Q dom vM hx hy w q
 obtain⟨i,j,rfl,rfl,w⟩:=VZ w
 obtain⟨a,vs,rfl,_,ha,hs⟩:=hx
 obtain⟨b,us,rfl,_,hb,ht⟩:=hy
 exact⟨a,b,vs,us,rfl,rfl,ha,hb,by rw [hs.length,ht.length]; exact w.1,λp hp=>q _ _ (.lst (i++j)) (Al hp) (CW hp (hs.append ht)) w.2⟩
noncomputable def Rg(neg:Bool)(d e:D)(P:D->Prop):Prop:=match d,e with
 | .bl i,.bl j=>P (.bl (if neg then !(i==j) else i==j))
 | .int i,.int j=>P (.bl (if neg then !(i==j) else i==j))
 | .str i,.str j=>P (.bl (if neg then !(i==j) else i==j))
 | _,_=>False
theorem Pr{neg:Bool}{d e:D}{P:D->Prop}(w:Rg neg d e P):(∃i j,d=.bl i/\e=.bl j/\P (.bl (if neg then !(i==j) else i==j)))\/(∃i j,d=.int i/\e=.int j/\P (.bl (if neg then !(i==j) else i==j)))\/∃i j,d=.str i/\e=.str j/\P (.bl (if neg then !(i==j) else i==j)):=by
 unfold Rg at w
 split at w
 ·exact .inl ⟨_,_,rfl,rfl,w⟩
 ·exact .inr (.inl ⟨_,_,rfl,rfl,w⟩)
 ·exact .inr (.inr ⟨_,_,rfl,rfl,w⟩)
 ·exact w.elim
theorem YK:Ez K .sh aX (Rg false):=by
 intro U M H d e x y P Q dom vM hx hy w q
 rcases Pr w with ⟨i,j,rfl,rfl,w⟩ | ⟨i,j,rfl,rfl,w⟩ | ⟨i,j,rfl,rfl,w⟩
 ·rw [hx.bl,hy.bl]; exact⟨rfl,q _ H _ .refl (by rw [Lu]; rfl) w⟩
 ·rw [hx.int,hy.int]; exact⟨rfl,q _ H _ .refl (by rw [IC]; rfl) w⟩
 ·rw [hx.str.1,hy.str.1]; exact⟨rfl,q _ H _ .refl (by rw [IB]; rfl) w⟩
theorem UQ:Ez K .sh aU (Rg true):=by
 intro U M H d e x y P Q dom vM hx hy w q
 rcases Pr w with ⟨i,j,rfl,rfl,w⟩ | ⟨i,j,rfl,rfl,w⟩ | ⟨i,j,rfl,rfl,w⟩
 ·rw [hx.bl,hy.bl]; exact⟨rfl,q _ H _ .refl (by rw [Lu]; rfl) w⟩
 ·rw [hx.int,hy.int]; exact⟨rfl,q _ H _ .refl (by rw [IC]; rfl) w⟩
 ·rw [hx.str.1,hy.str.1]; exact⟨rfl,q _ H _ .refl (by rw [IB]; rfl) w⟩
noncomputable def NP:D->Bool
 | .non=>true
 | _=>false
theorem NO{U M:Addr->Prop}{H:Hp}{d:D}{x:V}(h:AtT K U M H d x):decide (x=.non)=NP d:=by
 cases d with
 | non=>rw [show x=.non from h]; rfl
 | bl b=>rw [h.bl]; rfl
 | int i=>rw [h.int]; rfl
 | str z=>rw [h.str.1]; rfl
 | tup ds=>obtain⟨a,vs,rfl,_⟩:=h.tup; rfl
 | lst ds=>obtain⟨a,vs,rfl,_⟩:=h; rfl
 | dic ks ds=>obtain⟨a,vs,rfl,_⟩:=h; rfl
 | fdi ks ds=>obtain⟨a,vs,rfl,_⟩:=h; rfl
 | dit ks ds=>obtain⟨a,vs,rfl,_⟩:=h; rfl
noncomputable def BP(d e:D)(P:D->Prop):Prop:=match d,e with
 | .lst ds,.int i=>∃z,atI ds i=some z/\P z
 | .tup ds,.int i=>∃z,atI ds i=some z/\P z
 | .str x,.int i=>∃c,atI x.cps.toList i=some c/\P (.str ⟨#[c]⟩)
 | _,_=>False
theorem Va{d e:D}{P:D->Prop}(w:BP d e P):(∃ds i z,d=.lst ds/\e=.int i/\atI ds i=some z/\P z)\/(∃ds i z,d=.tup ds/\e=.int i/\atI ds i=some z/\P z)\/∃x i c,d=.str x/\e=.int i/\atI x.cps.toList i=some c/\P (.str ⟨#[c]⟩):=by
 unfold BP at w
 split at w
 ·obtain⟨z,h1,h2⟩:=w; exact .inl ⟨_,_,z,rfl,rfl,h1,h2⟩
 ·obtain⟨z,h1,h2⟩:=w; exact .inr (.inl ⟨_,_,z,rfl,rfl,h1,h2⟩)
 ·obtain⟨z,h1,h2⟩:=w; exact .inr (.inr ⟨_,_,z,rfl,rfl,h1,h2⟩)
 ·exact w.elim
theorem Ats.atI{M:Addr->Prop}{H:Hp}{ds:List D}{vs:List V}{i:Int}{z:D}(h:Ats K M H ds vs)(e:atI ds i=some z):∃v,L2.atI vs i=some v/\At K M H z v:=by
 unfold L2.atI at e ⊢
 rw [h.length]
 cases q:Rc ds.length i with
 | none=>rw [q] at e; cases e
 | some j =>
  rw [q] at e
  exact h.get e
theorem An:Ez K .sh (aV K) BP:=by
 intro U M H d e x y P Q dom vM hx hy w q
 rcases Va w with ⟨ds,i,z,rfl,rfl,hz,w⟩ | ⟨ds,i,z,rfl,rfl,hz,w⟩ | ⟨x,i,c,rfl,rfl,hc,w⟩
 ·obtain⟨a,vs,rfl,_,ha,hs⟩:=hx
  obtain⟨v,hv,hAt⟩:=hs.atI hz
  exact .inl ⟨a,vs,i,v,rfl,hy,.inl ha,hv,q v H z .refl hAt w⟩
 ·obtain⟨a,vs,rfl,ha,hs⟩:=hx.tup
  obtain⟨v,hv,hAt⟩:=hs.atI hz
  exact .inr (.inl ⟨a,vs,i,v,rfl,hy,ha.sq,hv,q v H z .refl hAt w⟩)
 ·exact .inr (.inr ⟨x,i,c,hx.str.1,hy,hx.str.2,hc,q _ H (.str ⟨#[c]⟩) .refl ⟨rfl,by rw [bm]; show 1<=16777216; decide⟩ w⟩)
noncomputable def cutD{α:Type}(xs:List α)(lo hi:Option Int):List α:=(xs.drop (HT.sIx xs.length 0 lo)).take (HT.sIx xs.length xs.length hi - HT.sIx xs.length 0 lo)
theorem HA{R:V->D->Prop}{vs:List V}{d:D}(h:Paired R vs [d]):∃v,vs=[v]/\R v d:=by
 cases h with
 | cons r t=>cases t; exact⟨_,rfl,r⟩
noncomputable def aD:D->Option Nat
 | .str x=>some x.length
 | .tup xs=>some xs.length
 | .lst xs=>some xs.length
 | _=>none
noncomputable def G3(ds:List D)(P:D->Prop):Prop:=∃d n,ds=[d]/\aD d=some n/\P (.int (n:Int))
theorem Dx:Cv K .sh (λxs H Q=>∃x n,xs=[x]/\YS K x H n/\Q (.int n) H) G3:=by
 intro U M H ds vs P Q dom vM hp w q
 obtain⟨d,n,rfl,hn,w⟩:=w
 obtain⟨v,rfl,hx⟩:=HA hp
 refine⟨v,n,rfl,?_,q _ H (.int (n:Int)) .refl rfl w⟩
 cases d with
 | str z=>cases hn; rw [hx.str.1]; exact⟨hx.str.2,rfl⟩
 | tup xs =>
  cases hn
  obtain⟨a,us,rfl,ha,hs⟩:=hx.tup
  exact .inr ⟨us,ha.sq,hs.length.symm⟩
 | lst xs =>
  cases hn
  obtain⟨a,us,rfl,_,ha,hs⟩:=hx
  exact .inl ⟨us,.inl ha,hs.length.symm⟩
 | _=>cases hn
noncomputable def allB:List D->Option (List Bool)
 | []=>some []
 | .bl b::r=>(allB r).map (b::·)
 | _::_=>none
theorem QB{M:Addr->Prop}{H:Hp}:∀{ds:List D} {vs:List V} {bs:List Bool},allB ds=some bs->Ats K M H ds vs->vs=bs.map V.bl
 | [],vs,bs,e,h=>by cases e; exact h
 | .bl b::r,vs,bs,e,h=>by
  obtain⟨v,r',e1,h1,h2⟩:=h
  unfold allB at e
  obtain⟨bs',e2,rfl⟩:=bM.mp e
  rw [e1,QB e2 h2,show v=.bl b from h1]
  rfl
 | .non::r,vs,bs,e,h=>by unfold allB at e; cases e
 | .int _::r,vs,bs,e,h=>by unfold allB at e; cases e
 | .str _::r,vs,bs,e,h=>by unfold allB at e; cases e
 | .tup _::r,vs,bs,e,h=>by unfold allB at e; cases e
 | .lst _::r,vs,bs,e,h=>by unfold allB at e; cases e
 | .dic _ _::r,vs,bs,e,h=>by unfold allB at e; cases e
 | .fdi _ _::r,vs,bs,e,h=>by unfold allB at e; cases e
 | .dit _ _::r,vs,bs,e,h=>by unfold allB at e; cases e
noncomputable def RI(ds:List D)(P:D->Prop):Prop:=∃xs bs,ds=[.lst xs]/\allB xs=some bs/\P (.bl (bs.all id))
theorem UV:Cv K .sh (λxs H Q=>∃(p:Addr) (bs:List Bool),xs=[.ref p]/\SqL K H p (bs.map V.bl)/\Q (.bl (bs.all id)) H) RI:=by
 intro U M H ds vs P Q dom vM hp w q
 obtain⟨xs,bs,rfl,e,w⟩:=w
 obtain⟨v,rfl,hx⟩:=HA hp
 obtain⟨a,us,rfl,_,ha,hs⟩:=hx
 have:=QB e hs
 subst this
 exact⟨a,bs,rfl,.inl ha,q _ H (.bl (bs.all id)) .refl rfl w⟩
noncomputable def CB:List D->Option (List Str)
 | []=>some []
 | .str b::r=>(CB r).map (b::·)
 | _::_=>none
theorem P9{M:Addr->Prop}{H:Hp}:∀{ds:List D} {vs:List V} {bs:List Str},CB ds=some bs->Ats K M H ds vs->vs=bs.map V.str
 | [],vs,bs,e,h=>by cases e; exact h
 | .str b::r,vs,bs,e,h=>by
  obtain⟨v,r',e1,h1,h2⟩:=h
  unfold CB at e
  obtain⟨bs',e2,rfl⟩:=bM.mp e
  rw [e1,P9 e2 h2,h1.1]
  rfl
 | .non::r,vs,bs,e,h=>by unfold CB at e; cases e
 | .int _::r,vs,bs,e,h=>by unfold CB at e; cases e
 | .bl _::r,vs,bs,e,h=>by unfold CB at e; cases e
 | .tup _::r,vs,bs,e,h=>by unfold CB at e; cases e
 | .lst _::r,vs,bs,e,h=>by unfold CB at e; cases e
 | .dic _ _::r,vs,bs,e,h=>by unfold CB at e; cases e
 | .fdi _ _::r,vs,bs,e,h=>by unfold CB at e; cases e
 | .dit _ _::r,vs,bs,e,h=>by unfold CB at e; cases e
end
noncomputable def Ye:D->String
 | .non => "NoneType"
 | .bl _ => "bool"
 | .int _ => "int"
 | .str _ => "str"
 | .tup _ => "tuple"
 | .lst _ => "list"
 | .dic _ _ => "dict"
 | .fdi _ _ => "dict"
 | .dit _ _ => "dict"
noncomputable def Xs(t T:String):Bool:=t==T||(t == "bool"&&T == "int")
noncomputable def N2(T:String)(wa:DW):DW:=λn ρ P=>wa n ρ λd n1=>P (.bl (Xs (Ye d) T)) n1
structure Ua (K:Frag) (T:String):Prop where
 ans:∀t∈["NoneType","bool","int","str","tuple","list","dict"],PySem.W.kitOne K (.type t) (.type T)=some (Xs t T)
theorem Ul{K:Frag}{M U:Addr->Prop}{H:Hp}{d:D}{x:V}(h:AtT K U M H d x):Fo K H x (.type (Ye d)):=by
 cases d with
 | non=>cases (show x=.non from h); exact .non
 | bl b=>cases h.bl; exact .bl b
 | int i=>cases h.int; exact .int i
 | str z=>cases h.str.1; exact .str z
 | tup ds =>
  obtain⟨a,vs,rfl,ha,hs⟩:=h.tup
  exact .tup ha
 | lst ds =>
  obtain⟨a,vs,rfl,_,ha,hs⟩:=h
  rcases ha with ha | ⟨o,ha⟩
  ·exact .lst ha
  ·exact .frz ha
 | dic ks ds =>
  obtain⟨a,vs,rfl,_,ha,_⟩:=h
  exact .dK ha
 | fdi ks ds =>
  obtain⟨a,vs,rfl,⟨o,_,ha⟩,_⟩:=h
  exact .dF ha
 | dit ks ds =>
  obtain⟨a,vs,rfl,_,ha,_⟩:=h
  exact .dT ha
theorem Um(d:D):Ye d∈["NoneType","bool","int","str","tuple","list","dict"]:=by cases d <;> simp [Ye]
theorem G7{X:Cx}{a:Expr}{κ:Kd}{wa:DW}{T:String}{Tn:Str}{p p2 pos:Pos}(kt:Ua X.K T)(ha:DE X a κ wa)(hg:Gl X "isinstance")(hm:X.mg "isinstance"=none)(hgT:Gl X Tn)(hmT:X.mg Tn=none)(hvT:bootBuiltins Tn=some (.type T))
  (hnT:autoParam (Tn ≠ "__name__") zau1._auto_1) (hdT:autoParam ((Tn==("__debug__" : Str))=false) zau1._auto_1)
  (he:autoParam (starEach [a,.Name Tn p2] X.env=(false,eval a X.env)::starEach [.Name Tn p2] X.env) zau3._auto_1) (he2:autoParam (starEach [.Name Tn p2] X.env=[(false,eval (.Name Tn p2) X.env)]) zau3._auto_1)
  (hpl:autoParam ((backTo pos (starEach [.Name Tn p2] X.env)).any (·.1)=false) zau3._auto_1):DE X (.Call (.Name "isinstance" p) [a,.Name Tn p2] [] pos) .sh (N2 T wa):=by
 obtain⟨t,h1,h2⟩:=ha
 have pT:PE X (.Name Tn p2) (tC (.ty T)):=U_ hgT hmT hvT (v:=.ty T) rfl hnT hdT
 refine⟨_,EM Ni hg hm (by decide +kernel) (Av h1 (Av pT A9 he2) he) (by decide) (by decide) he hpl,λC M H n ρ σ P Q R w q=>?_⟩
 refine h2 C M H n ρ σ _ _ R w λv H1 d n1 e1 f1 r1 p=>?_
 exact⟨v,T,_,_,rfl,Ul (r1.tpOf R.dom R.vM),kt.ans _ (Um d),q _ H1 (.bl (Xs (Ye d) T)) n1 e1 f1 rfl p⟩
section
variable {K:Frag}{X:Cx}
noncomputable def We(d e:D)(P:D->Prop):Prop:=match d,e with
 | .int i,.int j=>P (.int (i+j))
 | .str i,.str j=>i.length+j.length<=sizeLine/\P (.str (i++j))
 | .tup i,.tup j=>i≠[]/\i.length+j.length<=sizeLine/\P (.tup (i++j))
 | .lst i,.lst j=>i.length+j.length<=sizeLine/\P (.lst (i++j))
 | _,_=>False
noncomputable def WT:R2:=λx y H Q=>∃l b xs zs,x=.ref l/\y=.ref b/\Rd H l (.lst xs)/\Rd H b (.lst zs)/\xs.length+zs.length<=sizeLine/\∀p,H p=none->Q (.ref p) (As H p (.lst (xs++zs)))
noncomputable def WS:R2:=λx y H Q=>∃i j,x=.str i/\y=.str j/\i.length+j.length<=sizeLine/\Q (.str (i++j)) H
noncomputable def WJ(g:Str->Str->Bool):R2:=λx y H Q=>∃i j,x=.str i/\y=.str j/\Q (.bl (g i j)) H
noncomputable def Sg(K:Frag):R2:=λx y H Q=>(G_ λi j=>.int (i+j)) x y H Q\/WS x y H Q\/Sf K x y H Q\/WT x y H Q
theorem op_addU:OpR X (binaryOp .Add) (Sg X.K):=op_add.or ((show OpR X (binaryOp .Add) WS from OS).or (op_catT.or (show OpR X (binaryOp .Add) WT from VD)))
theorem L8:Ez X.K .sh (Sg X.K) We:=λU M H d e x y P Q dom vM hx hy w q=>by
 unfold We at w
 split at w
 ·exact .inl (UT (K:=X.K) (g:=λi j=>i+j) U M H (.int _) (.int _) x y P Q dom vM hx hy w q)
 ·exact .inr (.inl (RY (K:=X.K) U M H (.str _) (.str _) x y P Q dom vM hx hy w q))
 ·exact .inr (.inr (.inl (RX (K:=X.K) U M H (.tup _) (.tup _) x y P Q dom vM hx hy w q)))
 ·exact .inr (.inr (.inr (RZ (K:=X.K) U M H (.lst _) (.lst _) x y P Q dom vM hx hy w λv H' z g r p=>q v H' z g (r.shOf dom (by intro z; cases z)) p)))
 ·exact w.elim
noncomputable def ZM(d e:D)(P:D->Prop):Prop:=match d,e with
 | .int i,.int j=>P (.bl (decide (i<j)))
 | .str i,.str j=>P (.bl (decide (i.cps.toList<j.cps.toList)))
 | _,_=>False
noncomputable def XH:R2:=λx y H Q=>(G_ λi j=>.bl (decide (i<j))) x y H Q\/WJ (λi j=>decide (i.cps.toList<j.cps.toList)) x y H Q
theorem op_ltU:OpR X (compareOp .Lt) XH:=op_lt.or Qp
theorem Wj:Ez X.K .sh XH ZM:=λU M H d e x y P Q dom vM hx hy w q=>by
 unfold ZM at w
 split at w
 ·exact .inl (L7 (K:=X.K) (g:=λi j=>decide (i<j)) U M H (.int _) (.int _) x y P Q dom vM hx hy w q)
 ·exact .inr (UP (K:=X.K) (g:=λi j=>decide (i.cps.toList<j.cps.toList)) U M H (.str _) (.str _) x y P Q dom vM hx hy w q)
 ·exact w.elim
noncomputable def Xz(d e:D)(P:D->Prop):Prop:=match d,e with
 | .int i,.int j=>P (.bl (decide (i<=j)))
 | .str i,.str j=>P (.bl (!(decide (j.cps.toList<i.cps.toList))))
 | _,_=>False
noncomputable def Y1:R2:=λx y H Q=>(G_ λi j=>.bl (decide (i<=j))) x y H Q\/WJ (λi j=>!(decide (j.cps.toList<i.cps.toList))) x y H Q
theorem Xa:OpR X (compareOp .LtE) Y1:=op_le.or Qq
theorem ZW:Ez X.K .sh Y1 Xz:=λU M H d e x y P Q dom vM hx hy w q=>by
 unfold Xz at w
 split at w
 ·exact .inl (L7 (K:=X.K) (g:=λi j=>decide (i<=j)) U M H (.int _) (.int _) x y P Q dom vM hx hy w q)
 ·exact .inr (UP (K:=X.K) (g:=λi j=>!(decide (j.cps.toList<i.cps.toList))) U M H (.str _) (.str _) x y P Q dom vM hx hy w q)
 ·exact w.elim
noncomputable def Y4:R2:=G_ λi j=>.bl (decide (j<i))
theorem S8:OpR X (compareOp .Gt) Y4:=WX
theorem Wn:Ez X.K .sh Y4 (f2 λi j=>.bl (decide (j<i))):=L7
noncomputable def Y5:R2:=G_ λi j=>.bl (decide (j<=i))
theorem Xc:OpR X (compareOp .GtE) Y5:=WY
theorem ZX:Ez X.K .sh Y5 (f2 λi j=>.bl (decide (j<=i))):=L7
noncomputable def Yv:V->Option Int->Option Int->Hp->VK->Prop:=λx lo hi H Q=>∃z,x=.str z/\z.length<=sizeLine/\Q (.str (Txt.slice z lo hi)) H
theorem sl_U:SlR X Yv:=XC
noncomputable def Ww(w:DW):DW:=λn ρ P=>w n ρ λd n1=>∃i,d=.int i/\P (.int (-i)) n1
theorem T_{a:Expr}{κ:Kd}{wa:DW}{pos:Pos}(h:DE X a κ wa):DE X (.UnaryOp .USub a pos) .sh (Ww wa):=by
 obtain⟨t,h1,h2⟩:=h
 refine⟨_,Y8 Wx h1,λC M H n ρ σ P Q R w q=>?_⟩
 refine h2 C M H n ρ σ _ _ R w λv H1 d n1 e1 f1 r1 p=>?_
 obtain⟨i,rfl,p⟩:=p
 exact⟨i,Li r1,q _ H1 (.int (-i)) n1 e1 f1 rfl p⟩
noncomputable def Got(P:Program)(w:World)(K:Frag)(mg:Str->Option Value)(base:Heap)(x:Str)(k:Nat)(ps:List Str)(κ:Kd)(W:W2):Prop :=
 ∃f fd,A0 P w K mg base Br k f fd ps (Ci K κ W ps.length)/\mg x=some (.ref f)/\keepIn K (.ref f)=true/\Binds K fd ps []/\∀ss n P,W ss n P->ss.length=ps.length
theorem AJ{e:Expr}{es:List Expr}{k:Nat}{ps:List Str}{κ:Kd}{W:W2}{x:Str}{p pos:Pos}{was:YV}(G:Got X.prog X.w X.K X.mg X.base x k ps κ W)
  (hr:Room k X.A) (hg:Gl X x) (ha:Zj X (e::es) was)
  (hdb:autoParam ((x==("__debug__" : Str))=false) zau1._auto_1) (he:autoParam (starEach (e::es) X.env=(false,eval e X.env)::starEach es X.env) zau3._auto_1) (hpl:autoParam ((backTo pos (starEach es X.env)).any (·.1)=false) zau3._auto_1) :
  DE X (.Call (.Name x p) (e::es) [] pos) κ (AV W was):=by
 obtain⟨f,fd,G,hm,hk,hb,hW⟩:=G
 exact Vy G hW hr hg hm hk hb ha hdb he hpl
noncomputable def WW(np:Nat)(g:List D->D):W2:=λss n P=>∃ds:List D,ds.length=np/\ss=ds.map .sh/\P (g ds) n
theorem Qh{np:Nat}{g:List D->D}{ss:List Slot}{n:Nat}{P:D->Nat->Prop}(h:WW np g ss n P):ss.length=np:=by
 obtain⟨ds,e,rfl,_⟩:=h
 rw [FM]; exact e
theorem VO:Ua K "int":=⟨λt ht=>by
 simp only [TM,bJ,or_false] at ht
 rcases ht with rfl | rfl | rfl | rfl | rfl | rfl | rfl <;> kernel_rfl⟩
theorem TR:Ua K "bool":=⟨λt ht=>by
 simp only [TM,bJ,or_false] at ht
 rcases ht with rfl | rfl | rfl | rfl | rfl | rfl | rfl <;> kernel_rfl⟩
theorem VN:Ua K "str":=⟨λt ht=>by
 simp only [TM,bJ,or_false] at ht
 rcases ht with rfl | rfl | rfl | rfl | rfl | rfl | rfl <;> kernel_rfl⟩
theorem kit_tuple:Ua K "tuple":=⟨λt ht=>by
 simp only [TM,bJ,or_false] at ht
 rcases ht with rfl | rfl | rfl | rfl | rfl | rfl | rfl <;> kernel_rfl⟩
end
theorem GV{α:Type}(p:α->Bool):∀l:List α,allB (l.map λc=>.bl (p c))=some (l.map p)
 | []=>rfl
 | a::l=>by
  rw [bE,bE]
  unfold allB
  rw [GV p l]
  rfl
theorem UK{b1 b2:Bool}{P:D->Nat->Prop}{n:Nat}{k:(D->Nat->Prop)->Prop}(hk:b1=true->P (.bl b2) n->k P)(h:P (.bl (b1&&b2)) n):(match (.bl b1:D) with | .bl true=>k P | .bl false=>P (.bl false) n | _=>False):=by
 cases b1 with
 | false=>exact h
 | true=>exact hk rfl h
theorem Xw{P:Program}{w:World}{K:Frag}{mg:Str->Option Value}{base:Heap}{x:Str}{st:Stmt}{f:Addr}{fd:FuncData}{k:Nat}{ps:List Str}{κ:Kd}{W:W2}(F:Fun K x x st f fd)(m:mg x=some (.ref f))(b:Binds K fd ps [])
  (hW:∀ss n P,W ss n P->ss.length=ps.length) (ok:A0 P w K mg base Br k f fd ps (Ci K κ W ps.length)):Got P w K mg base x k ps κ W:=⟨f,fd,ok,m,F.kp,b,hW⟩
noncomputable def MZ(K:Frag):Sp:=λvs H Q _=>∃a ns,vs=[V.ref a]/\(fh (α:=Int) ns<=63/\SqL K H a (ns.map V.int))/\∀H',Q (.bl true) H'
noncomputable def K7(K:Frag):Sp:=λvs H Q _=>∃a ns,vs=[V.ref a]/\(fh (α:=Int) ns<=63/\SqL K H a (ns.map V.int)) /\
 ∀(c f:Addr) (H':Hp),c≠f->H' c=some (.lst (ns.map V.int))->H' f=some (.lst [.ref c,.int 0,.int 0])->Q (.ref f) H'
theorem ZT{ns:List Int}(h:ns.length<=63):Jz (ns.map V.int) none (some 63)=ns.map V.int:=by
 have e:HT.sIx (ns.map V.int).length (ns.map V.int).length (some 63)=ns.length:=by
  rw [show (63:Int)=((63:Nat):Int) from rfl,HT.sIx_nat,FM,Nat.min_eq_right h]
 unfold Jz
 rw [e,HT.sIx_none,List.drop_zero,Nat.sub_zero]
 exact fi (by rw [FM]; exact Op _)
theorem ZJ{P:Program}{w:World}{K:Frag}{mg:Str->Option Value}{base:Heap}{st s1:Stmt}{rest:List Stmt}{f:Addr}{fd:FuncData}{Nr:List Str}{k n0:Nat}{wb:Aa}(F:Fun K "law" "law" st f fd)
  (S:AU ("_law_script" :: "_law_feed_here"::Nr) ["_law_script"] (AN st)) (hbd:Bo st=s1::rest) (hn0:n0<=2 ^ 60)
  (h1:∀(cdv:Value) (A:Around) (outer:List Env) (s:Shared) (H:Hp) (E:XK),Room k (A.deeper (envOfC "law" (AN st) s.heap.objs.size f cdv)) ->
   PS (Ly Br P w K mg base ("_law_script" :: "_law_feed_here"::Nr) "law" (AN st) f cdv A outer s H E).nox s1 (MW (PD (K7 K) [] E0 (MV (BJ 0) QX)) (HE 1)))
  (h2:∀(cdv:Value) (A:Around) (outer:List Env) (s:Shared) (H:Hp) (E:XK),Room k (A.deeper (envOfC "law" (AN st) s.heap.objs.size f cdv)) ->
   Uc (Ly Br P w K mg base ("_law_script" :: "_law_feed_here"::Nr) "law" (AN st) f cdv A outer s H E).nox .sh rest wb)
  (hW:wb { nx:=λ_ _=>False,rt:=λd _=>d=.bl true } n0 (.no::.fd::Uf Nr.length .no)):A0 P w K mg base Br (k+1) f fd ["_law_script"] (MZ K):=by
 refine F.ok S (λvs H Q E h=>?_) (λcdv A outer s H vs Q E hr h=>?_)
 ·obtain⟨a,ns,rfl,_⟩:=h
  rfl
 ·obtain⟨a,ns,rfl,⟨hl,hS⟩,q⟩:=h
  obtain⟨t,t1,t2⟩:=h2 cdv A outer s H E hr
  refine⟨N6 (MW (PD (K7 K) [] E0 (MV (BJ 0) QX)) (HE 1)) t,by rw [hbd]; exact Ao (h1 cdv A outer s H E hr) t1,?_⟩
  refine⟨_,rfl,a,ns,rfl,⟨hl,hS⟩,λc g H' hcg hc hg=>?_⟩
  have at_:∀(i:Nat) (sl:Slot),(Slot.no::Slot.fd::Uf Nr.length Slot.no)[i]?=some sl->Slot.no=sl\/(Slot.fd=sl/\i=1):=by
   intro i sl hs
   match i,hs with
   | 0,hs=>exact .inl (UF hs)
   | 1,hs=>exact .inr ⟨UF hs,rfl⟩
   | i+2,hs =>
    rw [iF,iF,fW] at hs
    split at hs
    ·exact .inl (UF hs)
    ·cases hs
  have R:Rel K ⟨λb=>b=g,some (g,c),λb=>b=g,λb=>b=g,H',[],[]⟩ (λb=>b=g) H' n0 (.no::.fd::Uf Nr.length .no) ((start ("_law_script" :: "_law_feed_here"::Nr) [V.ref a]).set 1 (some (.ref g))):=by
   refine⟨by simp [L2.start],λ_ z=>z,λb z=>⟨_,(congrArg H' z).trans hg⟩,Ext.refl _ _,λb z=>by rw [← UF z],λ_ z=>z,λ_ z=>z,λb z=>?_,λi sl hs=>?_,λp hp=>absurd hp (by simp),λi d b hs _=>?_,λi sl b hs o _=>?_,λi j sl t b hs o _ _ _ _=>?_,λp hp=>absurd hp (by simp)⟩
   ·have e:(g,c)=b:=UF z
    subst e
    exact⟨0,0,ns,hg,hcg,⟨hcg,hc⟩,hl,by decide,by omega⟩
   ·rcases at_ i sl hs with e | ⟨e,rfl⟩
    ·rw [← e]; trivial
    ·rw [← e]
     exact⟨(g,c),by simp [L2.start],rfl⟩
   ·rcases at_ i _ hs with e | ⟨e,_⟩ <;> cases e
   ·rcases at_ i sl hs with e | ⟨e,_⟩ <;> (rw [← e] at o; cases o)
   ·rcases at_ i sl hs with e | ⟨e,_⟩ <;> (rw [← e] at o; cases o)
  refine t2 _ _ H' n0 _ _ { nx:=λ_ _=>False,rt:=λd _=>d=.bl true } _ R ⟨λ_ _ _ _ _ _ z=>z.elim,λv H2 d n' _ _ r p=>?_,λ_ _ _ _ _ _ z=>z.elim,λ_ _ _ _ _ _ z=>z.elim⟩ hW
  have e:d=.bl true:=p
  subst e
  have e2:v=.bl true:=r
  subst e2
  exact q H2
end Dp
namespace L2
open PySem PySem.Spec PyProof.Rows
section
variable {X:Cx}
theorem Fq:∀{us:List Value} {ys:List Str},StrsAre us ys->Vals (ys.map V.str) us
 | _,_,.nil=>.nil
 | _,_,.cons x t r=>.cons ⟨t,rfl⟩ (Fq r)
noncomputable def Sb(K:Frag):List V->Hp->VK->Prop:=λxs H Q=>∃(p:Addr) (ss:List Str),xs=[.ref p]/\SqL K H p (ss.map V.str)/\ss.length<64/\∀(ss':List Str) (l:Addr),ss'.Perm ss->sortedS ss'=true->H l=none->Q (.ref l) (As H l (.lst (ss'.map V.str)))
theorem Ox:B_ X (.builtin "sorted") (Sb X.K):=by
 intro pins s σ H xs us Q I r h
 obtain⟨p,ss,rfl,hq,h64,q⟩:=h
 obtain⟨u,rfl,rx⟩:=vals1 r
 cases rx
 obtain⟨its,r',pl,hz⟩:=I.list hq
 have hlen:=r'.length
 rw [FM] at hlen
 refine sorted_strs pl.isList (N9 r') (by omega) λout ss' a1 a2 a3=>?_
 obtain⟨e,he⟩:=sortedAll_at s.heap its out
 have hl':ss'.length=ss.length:=a2.length_eq
 have hn:H (s.heap.objs.size+1)=none:=I.hok.fresh (cY _)
 refine⟨.ref (s.heap.objs.size+1),_,I.laid (t':=s.toks) (λb o z=>sortedAll_old z) (cY _) (show ObjOk X.prog X.w _ _ _ (.lst (ss'.map V.str)) from⟨?_,out.toList,e,Fq a1,?_⟩),rfl,q ss' _ a2 a3 hn⟩
 ·rw [FM,bm]; omega
 ·exact he
noncomputable def WL:R2:=λx y H Q=>∃z k,x=.str z/\y=.int k/\MulOk z k/\Q (.str (Txt.mul z k)) H
theorem VC:OpR X (binaryOp .Mult) WL:=by
 intro pins s σ H x y v u Q I rx ry h
 obtain⟨z,k,rfl,rfl,hm,q⟩:=h
 obtain⟨t,rfl⟩:=rx
 obtain⟨t',rfl⟩:=ry
 exact SB.mul hm λt' k=>⟨.str _,H,I.tok _,⟨_,rfl⟩,q⟩
end
end L2
namespace Dp
open PySem PySem.Spec PyProof.Rows L2
section
variable {K:Frag}
noncomputable def CJ(ds:List D)(P:D->Prop):Prop:=match ds with
 | [.lst xs]=>P (.tup xs)
 | [.tup xs]=>P (.tup xs)
 | _=>False
theorem DP:Cv K .sh (λxs H Q=>∃p ys,xs=[.ref p]/\((SqL K H p ys/\∀l,H l=none->Q (.ref l) (As H l (.tup ys)))\/(SqT K H p ys/\Q (.ref p) H))) CJ:=by
 intro U M H ds vs P Q dom vM hp w q
 unfold CJ at w
 split at w
 ·obtain⟨v,rfl,hx⟩:=HA hp
  obtain⟨a,us,rfl,_,ha,hs⟩:=hx
  exact⟨a,us,rfl,.inl ⟨.inl ha,λl hl=>q _ _ (.tup _) (Al hl) (B9 dom hl hs) w⟩⟩
 ·obtain⟨v,rfl,hx⟩:=HA hp
  obtain⟨a,us,rfl,ha,hs⟩:=hx.tup
  exact⟨a,us,rfl,.inr ⟨ha.sq,q _ H (.tup _) .refl ⟨a,us,rfl,ha,hs⟩ w⟩⟩
 ·exact w.elim
theorem Ats.strs{M:Addr->Prop}{H:Hp}:∀{ss:List Str},(∀x∈ss,x.length<=sizeLine)->Ats K M H (ss.map D.str) (ss.map V.str)
 | [],_=>rfl
 | x::r,h=>⟨.str x,r.map V.str,rfl,⟨rfl,h x No⟩,Ats.strs λy hy=>h y (Rs _ hy)⟩
theorem Ats.strs_le{M:Addr->Prop}{H:Hp}:∀{ss:List Str} {vs:List V},Ats K M H (ss.map D.str) vs->∀x∈ss,x.length<=sizeLine
 | [],_,_=>λx hx=>by cases hx
 | y::r,vs,h=>λx hx=>by
  obtain⟨v,t,e,h1,h2⟩:=h
  rcases TM.mp hx with rfl | hx
  ·exact h1.2
  ·exact Ats.strs_le h2 x hx
noncomputable def Tl(ds:List D)(P:D->Prop):Prop:=∃(xs:List D) (ss:List Str),ds=[.lst xs]/\CB xs=some ss/\ss.length<64/\∀ss':List Str,ss'.Perm ss->sortedS ss'=true->P (.lst (ss'.map .str))
theorem P_:∀{xs:List D} {ss:List Str},CB xs=some ss->xs=ss.map .str
 | [],ss,h=>by cases h; rfl
 | .str b::r,ss,h=>by
  unfold CB at h
  obtain⟨t,e,rfl⟩:=bM.mp h
  rw [bE,← P_ e]
 | .non::r,ss,h=>by unfold CB at h; cases h
 | .int _::r,ss,h=>by unfold CB at h; cases h
 | .bl _::r,ss,h=>by unfold CB at h; cases h
 | .tup _::r,ss,h=>by unfold CB at h; cases h
 | .lst _::r,ss,h=>by unfold CB at h; cases h
 | .dic _ _::r,ss,h=>by unfold CB at h; cases h
 | .fdi _ _::r,ss,h=>by unfold CB at h; cases h
 | .dit _ _::r,ss,h=>by unfold CB at h; cases h
theorem V5:Cv K .fr (Sb K) Tl:=by
 intro U M H ds vs P Q dom vM hp w q
 obtain⟨xs,ss,rfl,e,h64,w⟩:=w
 obtain⟨v,rfl,hx⟩:=HA hp
 obtain⟨a,us,rfl,_,ha,hs⟩:=hx
 have:=P9 e hs
 subst this
 have e2:=P_ e
 subst e2
 refine⟨a,ss,rfl,.inl ha,h64,λss' l h1 h2 hl=>?_⟩
 exact q _ _ _ (Al hl) (CW hl (Ats.strs λx hx=>hs.strs_le x (h1.mem_iff.mp hx))) (w ss' h1 h2)
noncomputable def ER(d e:D)(P:D->Prop):Prop:=match d,e with
 | .int i,.int j=>CMul i j/\P (.int (i*j))
 | .str z,.int k=>MulOk z k/\(Txt.mul z k).length<=sizeLine/\P (.str (Txt.mul z k))
 | _,_=>False
noncomputable def WM:R2:=λx y H Q=>(rI CMul λi j=>.int (i*j)) x y H Q\/WL x y H Q
theorem CI{X:Cx}:OpR X (binaryOp .Mult) WM:=op_mul.or VC
theorem Dq:Ez K .sh WM ER:=λU M H d e x y P Q dom vM hx hy w q=>by
 unfold ER at w
 split at w
 ·exact .inl (Fi (K:=K) (C:=CMul) (g:=λi j=>i*j) U M H (.int _) (.int _) x y P Q dom vM hx hy w q)
 ·rename_i z k
  exact .inr ⟨z,k,hx.1,hy,w.1,q _ H (.str _) .refl ⟨rfl,w.2.1⟩ w.2.2⟩
 ·exact w.elim
end
section
variable {X:Cx}{tg e e2:Expr}{es:List Expr}{ws:Et}{p pos:Pos}
noncomputable def Zz(X:Cx)(ts:List Expr)(b:List D->List Slot->(List Slot->Prop)->Prop):Prop:=∃g,Zd X ts g/\∀(C:Fm) (M:Addr->Prop) (H:Hp) (n:Nat) (ρ:List Slot) (σ:L2.St) (ds:List D) (vs:List V) (P:List Slot->Prop) (Q:L2.St->Hp->Prop),Rel X.K C M H n ρ σ->Ats X.K M H ds vs->b ds ρ P ->
 (∀ρ' σ',Rel X.K C M H n ρ' σ'->P ρ'->Q σ' H)->g vs σ H Q
noncomputable def Dv:List D->List Slot->(List Slot->Prop)->Prop:=λds ρ P=>ds=[]/\P ρ
noncomputable def A8(b:BW)(bs:List D->List Slot->(List Slot->Prop)->Prop):List D->List Slot->(List Slot->Prop)->Prop:=λds ρ P=>match ds with
 | d::r=>b d ρ λρ1=>bs r ρ1 P
 | []=>False
theorem Er:Zz X [] Dv:=⟨_,LL,λC M H n ρ σ ds vs P Q R h w q=>by
 obtain⟨rfl,w⟩:=w
 exact⟨h,q ρ σ R w⟩⟩
theorem BQ{b:BW}{bs:List D->List Slot->(List Slot->Prop)->Prop}(h1:DG X e b)(h2:Zz X es bs)(hs:autoParam ((assignEach (e::es) X.env).map (·.2)=assign e X.env::(assignEach es X.env).map (·.2)) zau3._auto_1):Zz X (e::es) (A8 b bs):=by
 obtain⟨g,a1,a2⟩:=h1
 obtain⟨g',b1,b2⟩:=h2
 refine⟨_,CS a1 b1 hs,λC M H n ρ σ ds vs P Q R h w q=>?_⟩
 cases ds with
 | nil=>exact w.elim
 | cons d r =>
  obtain⟨v,vr,e,hv,hr⟩:=h
  exact⟨v,vr,e,a2 C M H n ρ σ d v _ _ R hv w λρ' σ' R' w'=>b2 C M H n ρ' σ' r vr _ _ R' hr w' q⟩
noncomputable def Hl(k:Nat)(bs:List D->List Slot->(List Slot->Prop)->Prop):BW:=λd ρ P=>match d with
 | .tup ds=>ds.length=k/\bs ds ρ P
 | _=>False
theorem G6{bs:List D->List Slot->(List Slot->Prop)->Prop}{k:Nat}{j:Nat}(hc:X.calm=true)(h:Zz X es bs)(hn:autoParam ((assignEach es X.env).length=k) zau3._auto_1)(hst:autoParam ((assignEach es X.env).findIdx? (·.1)=none) zau3._auto_1):DG X (.Tuple es j pos) (Hl k bs):=by
 obtain⟨g,a1,a2⟩:=h
 refine⟨_,OP hc a1 hn hst,λC M H n ρ σ d v P Q R h w q=>?_⟩
 cases d with
 | tup ds =>
  obtain⟨a,vs,rfl,hq,hs⟩:=h
  exact⟨a,vs,rfl,hq.sq,by rw [hs.length]; exact w.1,a2 C M H n ρ σ ds vs P Q R hs w.2 q⟩
 | _=>exact w.elim
end
end Dp
namespace L2
open PySem PySem.Spec PyProof.Rows
mutual
noncomputable def RV(H:Hp):PyData->V->Prop
 | .none,v=>v=.non
 | .bool b,v=>v=.bl b
 | .int i,v=>v=.int i
 | .str x,v=>v=.str x
 | .tuple xs,v=>∃a vs,v=.ref a/\H a=some (.tup vs)/\RVs H xs vs
 | .list xs,v=>∃a vs,v=.ref a/\Rd H a (.lst vs)/\RVs H xs vs
 | .dict _,_=>False
noncomputable def RVs(H:Hp):List PyData->List V->Prop
 | [],vs=>vs=[]
 | x::xs,vs=>∃v r,vs=v::r/\RV H x v/\RVs H xs r
end
section
variable {X:Cx}{pins:List (Addr×Obj)}{σ:L2.St}{H:Hp}{s:Shared}
mutual
theorem RV.reads(I:Inv X pins σ H s):∀{d:PyData} {v:V} {u:Value},RV H d v->RelV v u->∃as,Reads s.heap u d as
 | .none,v,u,h,r=>by
  cases (show v=.non from h)
  cases (show u=bX from r)
  exact⟨_,.none⟩
 | .bool b,v,u,h,r=>by
  cases (show v=.bl b from h)
  cases (show u=d6 b from r)
  exact⟨_,.bool b⟩
 | .int i,v,u,h,r=>by
  cases (show v=.int i from h)
  obtain⟨t,rfl⟩:=r
  exact⟨_,.int i t⟩
 | .str x,v,u,h,r=>by
  cases (show v=.str x from h)
  obtain⟨t,rfl⟩:=r
  exact⟨_,.str x t⟩
 | .tuple xs,v,u,h,r=>by
  obtain⟨a,vs,rfl,hq,hs⟩:=h
  cases r
  obtain⟨its,rv,⟨o,e,c,n,d⟩,_⟩:=I.tuple (X:=X) (xs:=vs) (.inl (.inl hq))
  obtain⟨as,ra⟩:=RVs.reads I hs rv
  exact⟨_,.tuple e c d ra⟩
 | .list xs,v,u,h,r=>by
  obtain⟨a,vs,rfl,hq,hs⟩:=h
  cases r
  obtain⟨its,rv,pl,_⟩:=I.list (X:=X) (xs:=vs) (.inl hq)
  obtain⟨o,e,c,n,d⟩:=pl.isList
  obtain⟨as,ra⟩:=RVs.reads I hs rv
  exact⟨_,.list e c d ra⟩
 | .dict _,v,u,h,r=>h.elim
theorem RVs.reads(I:Inv X pins σ H s):∀{ds:List PyData} {vs:List V} {us:List Value},RVs H ds vs->Vals vs us->∃as,ReadsAll s.heap us ds as
 | [],vs,us,h,r=>by
  cases (show vs=[] from h)
  cases r
  exact⟨_,.nil⟩
 | d::ds,vs,us,h,r=>by
  obtain⟨v,w,rfl,h1,h2⟩:=h
  cases r with
  | cons r1 r2 =>
   obtain⟨as,a1⟩:=RV.reads I h1 r1
   obtain⟨bs,a2⟩:=RVs.reads I h2 r2
   exact⟨_,.cons a1 a2⟩
end
end
section
variable {X:Cx}
noncomputable def Y6:R2:=λx y H Q=>∃d e,RV H d x/\RV H e y/\d.canLay0=true/\e.canLay0=true/\d.depth<=100/\Q (.bl (cE d e)) H
theorem Xd{k:Nat}(hr:Room k X.A):OpR X (compareOp .Eq) Y6:=by
 intro pins s σ H x y v u Q I rx ry h
 obtain⟨d,e,hx,hy,h1,h2,hd,q⟩:=h
 obtain⟨as,ra⟩:=RV.reads I hx rx
 obtain⟨bs,rb⟩:=RV.reads I hy ry
 have hu:=hr.un
 have hm:min d.depth e.depth<=d.depth:=Nat.min_le_left _ _
 exact PySem.SeqAt.compareEq_reads ra rb h1 h2 (by omega) ⟨.bl _,H,I,rfl,q⟩
noncomputable def XJ(neg:Bool):R2:=λx y H Q=>∃d es,RV H d x/\(RV H (.list es) y\/RV H (.tuple es) y)/\d.canLay0=true/\dG es=true/\d.depth<=100/\Q (.bl (if neg then !(es.any λy=>cE y d) else es.any λy=>cE y d)) H
theorem S7{k:Nat}(hr:Room k X.A):OpR X (compareOp .In) (XJ false):=by
 intro pins s σ H x y v u Q I rx ry h
 obtain⟨d,es,hx,hy,h1,h2,hd,q⟩:=h
 obtain⟨as,ra⟩:=RV.reads I hx rx
 have hu:=hr.un
 have hm:min (cZ es) d.depth<=d.depth:=eg _ _
 rcases hy with hy | hy
 ·obtain⟨bs,rb⟩:=RV.reads I hy ry
  exact PySem.SeqAt.in_list_reads rb ra h2 h1 (by omega) ⟨.bl _,H,I,rfl,q⟩
 ·obtain⟨bs,rb⟩:=RV.reads I hy ry
  exact PySem.SeqAt.in_tuple_reads rb ra h2 h1 (by omega) ⟨.bl _,H,I,rfl,q⟩
theorem Qn{k:Nat}(hr:Room k X.A):OpR X (compareOp .NotIn) (XJ true):=by
 intro pins s σ H x y v u Q I rx ry h
 obtain⟨d,es,hx,hy,h1,h2,hd,q⟩:=h
 obtain⟨as,ra⟩:=RV.reads I hx rx
 have hu:=hr.un
 have hm:min (cZ es) d.depth<=d.depth:=eg _ _
 rcases hy with hy | hy
 ·obtain⟨bs,rb⟩:=RV.reads I hy ry
  exact PySem.SeqAt.notIn_list_reads rb ra h2 h1 (by omega) ⟨.bl _,H,I,rfl,q⟩
 ·obtain⟨bs,rb⟩:=RV.reads I hy ry
  exact PySem.SeqAt.notIn_tuple_reads rb ra h2 h1 (by omega) ⟨.bl _,H,I,rfl,q⟩
end
end L2
namespace Dp
open PySem PySem.Spec PyProof.Rows L2
mutual
noncomputable def toPy:D->PyData
 | .non=>.none
 | .bl b=>.bool b
 | .int i=>.int i
 | .str x=>.str x
 | .tup ds=>.tuple (A2 ds)
 | .lst ds=>.list (A2 ds)
 | .dic _ _=>.dict []
 | .fdi _ _=>.dict []
 | .dit _ _=>.dict []
noncomputable def A2:List D->List PyData
 | []=>[]
 | d::ds=>toPy d::A2 ds
end
mutual
noncomputable def F5:D->Bool
 | .tup ds=>CT ds
 | .lst ds=>CT ds
 | .dic _ _=>false
 | .fdi _ _=>false
 | .dit _ _=>false
 | _=>true
noncomputable def CT:List D->Bool
 | []=>true
 | d::ds=>F5 d&&CT ds
end
theorem CK(ds:List D):A2 ds=ds.map toPy:=by
 induction ds with
 | nil=>rfl
 | cons d r ih=>rw [A2,ih,bE]
section
variable {K:Frag}{M:Addr->Prop}{H:Hp}
mutual
theorem At.rv:∀{d:D} {v:V},At K M H d v->F5 d=true->RV H (toPy d) v
 | .non,v,h,_=>h
 | .bl b,v,h,_=>h
 | .int i,v,h,_=>h
 | .str x,v,h,_=>h.1
 | .tup ds,v,h,n=>by
  obtain⟨a,vs,e,hn,hs⟩:=h
  exact⟨a,vs,e,hn,Ats.rv hs n⟩
 | .lst ds,v,h,n=>by
  obtain⟨a,vs,e,hn,hs⟩:=h
  exact⟨a,vs,e,.inl hn.2,Ats.rv hs n⟩
 | .dic ks ds,v,h,n=>by cases n
 | .fdi ks ds,v,h,n=>by cases n
 | .dit ks ds,v,h,n=>by cases n
theorem Ats.rv:∀{ds:List D} {vs:List V},Ats K M H ds vs->CT ds=true->RVs H (A2 ds) vs
 | [],vs,h,_=>h
 | d::ds,vs,h,n=>by
  obtain⟨v,r,e,h1,h2⟩:=h
  have n':(F5 d&&CT ds)=true:=n
  rw [bL] at n'
  exact⟨v,r,e,At.rv h1 n'.1,Ats.rv h2 n'.2⟩
end
theorem AtT.rv{U:Addr->Prop}{d:D}{v:V}(h:AtT K U M H d v)(n:F5 d=true):RV H (toPy d) v:=by
 cases d with
 | lst ds =>
  obtain⟨a,vs,e,_,hq,hs⟩:=h
  exact⟨a,vs,e,hq,Ats.rv hs n⟩
 | dic ks ds=>cases n
 | fdi ks ds=>cases n
 | dit ks ds=>cases n
 | non=>exact h
 | bl b=>exact h
 | int i=>exact h
 | str x=>exact h.1
 | tup ds=>exact At.rv (K:=K) (M:=M) (d:=.tup ds) h n
noncomputable def Fc(d:D):Prop:=F5 d=true/\(toPy d).canLay0=true/\(toPy d).depth<=100
noncomputable def H_(d e:D):Bool:=cE (toPy d) (toPy e)
noncomputable def ZN(d e:D)(P:D->Prop):Prop:=Fc d/\Fc e/\P (.bl (H_ d e))
theorem ZY:Ez K .sh Y6 ZN:=λU M H d e x y P Q dom vM hx hy w q =>
 ⟨toPy d,toPy e,hx.rv w.1.1,hy.rv w.2.1.1,w.1.2.1,w.2.1.2.1,w.1.2.2,q _ H (.bl (H_ d e)) .refl rfl w.2.2⟩
noncomputable def FL:D->Option (List D)
 | .lst ds=>some ds
 | .tup ds=>some ds
 | _=>none
noncomputable def Tq(neg:Bool)(d e:D)(P:D->Prop):Prop:=Fc d/\Fc e/\∃es,FL e=some es/\P (.bl (if neg then !(es.any λy=>H_ y d) else es.any λy=>H_ y d))
theorem UU{neg:Bool}:Ez K .sh (XJ neg) (Tq neg):=λU M H d e x y P Q dom vM hx hy w q=>by
 obtain⟨h1,h2,es,he,w⟩:=w
 have any_eq:∀es:List D,(es.map toPy).any (λy=>cE y (toPy d))=es.any λy=>H_ y d:=λes=>by rw [List.any_map]; rfl
 cases e with
 | lst ds =>
  cases he
  refine⟨toPy d,A2 es,hx.rv h1.1,.inl (hy.rv h2.1),h1.2.1,by simpa [toPy,PyData.canLay0] using h2.2.1,h1.2.2,?_⟩
  rw [CK,any_eq]
  exact q _ H (.bl _) .refl rfl w
 | tup ds =>
  cases he
  refine⟨toPy d,A2 es,hx.rv h1.1,.inr (hy.rv h2.1),h1.2.1,by simpa [toPy,PyData.canLay0] using h2.2.1,h1.2.2,?_⟩
  rw [CK,any_eq]
  exact q _ H (.bl _) .refl rfl w
 | _=>cases he
end
end Dp
namespace L2
open PySem PySem.Spec PyProof.Rows
end L2
namespace Dp
open PySem PySem.Spec PyProof.Rows L2
end Dp
namespace L2
open PySem PySem.Spec PyProof.Rows
noncomputable def kOf:Key->V
 | .inl i=>.int i
 | .inr x=>.str x
noncomputable def Zq:Key->Key->Bool
 | .inl i,.inl j=>decide (i<j)
 | .inr x,.inr y=>decide (x.cps.toList<y.cps.toList)
 | _,_=>false
noncomputable def KP:Key->Key->Bool
 | .inl _,.inl _=>true
 | .inr _,.inr _=>true
 | _,_=>false
noncomputable def EO:List Key->List Key->Bool
 | [],[]=>false
 | [],_::_=>true
 | _::_,[]=>false
 | x::xs,y::ys=>if x=y then EO xs ys else Zq x y
noncomputable def BV:List Key->List Key->Bool
 | x::xs,y::ys=>KP x y&&BV xs ys
 | _,_=>true
theorem Tt{A:Around}{s:Shared}{x y:Key}{u v:Value}(rx:RelV (kOf x) u)(ry:RelV (kOf y) v):∃e,SeqAt.EqAt A s u v e/\(e=true↔x=y):=by
 cases x with
 | inl i =>
  cases y with
  | inl j=>exact⟨_,Ln rx ry rfl rfl,by simp [kOf,ZO]⟩
  | inr z=>exact⟨_,Ln rx ry rfl rfl,by simp [kOf,ZO]⟩
 | inr z =>
  cases y with
  | inl j=>exact⟨_,Ln rx ry rfl rfl,by simp [kOf,ZO]⟩
  | inr z'=>exact⟨_,Ln rx ry rfl rfl,by simp [kOf,ZO]⟩
theorem SU(A:Around)(s:Shared){x y:Key}{u v:Value}(rx:RelV (kOf x) u)(ry:RelV (kOf y) v)(hs:KP x y=true)(prog:Program)(w:World)(E:Value->Shared->Prop)(Q:Value->Shared->Prop)(h:Q (.bool (Zq x y)) s) :
  wpAny (model prog w) A (richCompare .Lt u v) Q E s:=by
 cases x with
 | inl i =>
  cases y with
  | inl j =>
   obtain⟨t,rfl⟩:=rx
   obtain⟨t',rfl⟩:=ry
   exact(iO h:wpAny (model prog w) A (compareOp .Lt (.int i t) (.int j t')) Q E s)
  | inr z=>cases hs
 | inr z =>
  cases y with
  | inl j=>cases hs
  | inr z' =>
   obtain⟨t,rfl⟩:=rx
   obtain⟨t',rfl⟩:=ry
   exact(PySem.P.lt_str h:wpAny (model prog w) A (compareOp .Lt (.str z t) (.str z' t')) Q E s)
section
open PySem.SeqAt
open PySem.AutoSeq1 (wpAny_loadPart')
open PySem.MeetsSeq PySem.MeetsSeq2 PySem.MeetsSeq3
theorem E4(l b:Addr)(items items2:Array Value)(n n2:Nat)(dd dd2:Option Addr)(sl sl2:Array (Option Value))(ns ms:List Key)(hi:Vals (ns.map kOf) items.toList)(hj:Vals (ms.map kOf) items2.toList)(hsame:BV ns ms=true) :
  Meets (Builtin.«tuple.__lt__» ⟨[.ref l,.ref b],[]⟩)
   (λ_ R s=>s.heap.get? l=some { cls:=.type "tuple",dict:=dd,data:=.seq items n,slots:=sl }/\s.heap.get? b=some { cls:=.type "tuple",dict:=dd2,data:=.seq items2 n2,slots:=sl2 } /\
    R (.ok (.ret (.bool (EO ns ms)))) s) :=
 .of_wp λprog w A R s h=>by
  obtain⟨hp,g,d,tk,os⟩:=s; obtain⟨hl,hb,h⟩:=h
  have f2:=AutoSeq1.sub_tuple_tuple
  have z1:items.size=ns.length:=by have:=hi.length; rw [FM] at this; rw [this]; simp
  have z2:items2.size=ms.length:=by have:=hj.length; rw [FM] at this; rw [this]; simp
  wp_walk using cN hl,cN hb,wpAny_forIn_list _ (λrest b s'=>b.1=none/\s'=⟨hp,g,d,tk,os⟩/\∃(vs ws:List Value) (ns' ms':List Key),rest=vs.zip ws /\
   Vals (ns'.map kOf) vs/\Vals (ms'.map kOf) ws/\BV ns' ms'=true/\ns'.length+items2.size=ms'.length+items.size/\R (.ok (.ret (.bool (EO ns' ms')))) ⟨hp,g,d,tk,os⟩) _
  case turn =>
   rintro ⟨y,x⟩ rest b s' ⟨hb',rfl,vs,ws,ns',ms',hz,hvi,hwi,hsm,hlen,hR⟩
   cases ns' with
   | nil=>cases hvi; rw [List.zip_nil_left] at hz; cases hz
   | cons a ns' =>
    cases ms' with
    | nil=>cases hwi; rw [List.zip_nil_right] at hz; cases hz
    | cons c ms' =>
     rw [bE] at hvi hwi
     cases hvi with
     | cons ra hvi' =>
      cases hwi with
      | cons rc hwi' =>
       rw [gT] at hz
       injection hz with hyx hrest
       injection hyx with hy hx
       subst hy hx
       have hR':R (.ok (.ret (.bool (if a=c then EO ns' ms' else Zq a c)))) ⟨hp,g,d,tk,os⟩:=hR
       have hsm':(KP a c&&BV ns' ms')=true:=hsm
       rw [bL] at hsm'
       simp only [XV] at hlen
       obtain⟨e,he,hiff⟩:=Tt (A:=A.in1) (s:=⟨hp,g,d,tk,os⟩) ra rc
       refine Ch (he prog w _ _ ?_)
       cases e with
       | true =>
        rw [if_pos (hiff.mp rfl)] at hR'
        wp_walk
        exact⟨rfl,rfl,_,_,_,_,hrest,hvi',hwi',hsm'.2,by omega,hR'⟩
       | false =>
        rw [if_neg (λq=>absurd (hiff.mpr q) bG)] at hR'
        have hri:=SU A.in1 ⟨hp,g,d,tk,os⟩ ra rc hsm'.1 prog w
        wp_walk using hri
        exact⟨_,rfl,by simpa using hR'⟩
  case fin =>
   rintro ⟨b1,b2⟩ s' ⟨hb',rfl,vs,ws,ns',ms',hz,hvi,hwi,hsm,hlen,hR⟩
   simp only at hb'
   subst hb'
   have hv:EO ns' ms'=decide (items.size<items2.size):=by
    cases ns' with
    | nil =>
     cases ms' with
     | nil =>
      simp only [cj] at hlen
      exact(decide_eq_false (by omega)).symm
     | cons c u =>
      simp only [cj,XV] at hlen
      exact(decide_eq_true (by omega)).symm
    | cons a t =>
     cases ms' with
     | nil =>
      simp only [cj,XV] at hlen
      exact(decide_eq_false (by omega)).symm
     | cons c u =>
      rw [bE] at hvi hwi
      cases hvi
      cases hwi
      rw [gT] at hz
      cases hz
   rw [hv] at hR
   wp_walk
   exact⟨_,rfl,by simpa [Builtin.Tuple.tupleCompareSizes] using hR⟩
  case h =>
   exact⟨rfl,rfl,items.toList,items2.toList,ns,ms,rfl,hi,hj,hsame,by omega,h⟩
end
section
variable {X:Cx}
noncomputable def Yz(K:Frag):R2:=λx y H Q=>∃a b ns ms,x=.ref a/\y=.ref b/\SqT K H a (ns.map kOf)/\SqT K H b (ms.map kOf)/\BV ns ms=true/\Q (.bl (EO ns ms)) H
theorem XZ(hu:X.A.units<cLine):OpR X (compareOp .Lt) (Yz X.K):=by
 intro pins s σ H x y v u Q I rx ry h
 obtain⟨a,b,ns,ms,rfl,rfl,ha,hb,hsm,q⟩:=h
 cases rx
 cases ry
 obtain⟨its,r1,p1,_⟩:=I.tuple ha
 obtain⟨its2,r2,p2,_⟩:=I.tuple hb
 obtain⟨⟨cls,dd,data,sl⟩,ho,hc,n,hd⟩:=id p1
 obtain⟨⟨cls2,dd2,data2,sl2⟩,ho2,hc2,n2,hd2⟩:=id p2
 simp only at hc hd hc2 hd2
 subst hc hd hc2 hd2
 exact richCompare_meets_room (op:=.Lt) ⟨_,ho,rfl⟩ ⟨_,ho2,rfl⟩ PySem.F.slot_tuple_lt PySem.F.entry_tuple_lt (PySem.F.args_tuple_lt_2 _ _) (E4 a b its.toArray its2.toArray n n2 dd dd2 sl sl2 ns ms r1 r2 hsm)
  ⟨ho,ho2,show d6 (EO ns ms)≠ij/\EP X pins σ Q (.bool (EO ns ms)) s from⟨(λx=>nomatch x),⟨.bl _,H,I,rfl,q⟩⟩⟩ hu
end
noncomputable def ItAt(κ:Bool)(h:Heap)(it l:Addr)(k:Nat):Prop:=match κ with
 | true=>h.IsListIter it l k
 | false=>h.IsTupleIter it l k
noncomputable def SqAt(κ:Bool)(h:Heap)(l:Addr)(items:Array Value):Prop:=match κ with
 | true=>h.IsList l items
 | false=>h.IsTuple l items
section
variable {κ:Bool}{h h':Heap}{it l b:Addr}{k:Nat}{items:Array Value}
theorem ItAt.mv(x:ItAt κ h it l k)(e:∀o,h.get? it=some o->h'.get? it=some o):ItAt κ h' it l k:=by
 cases κ with
 | true=>obtain⟨o,ho,r⟩:=x; exact⟨o,e o ho,r⟩
 | false=>obtain⟨o,ho,r⟩:=x; exact⟨o,e o ho,r⟩
theorem SqAt.mv(x:SqAt κ h l items)(e:∀o,h.get? l=some o->h'.get? l=some o):SqAt κ h' l items:=by
 cases κ with
 | true=>obtain⟨o,ho,r⟩:=x; exact⟨o,e o ho,r⟩
 | false=>obtain⟨o,ho,r⟩:=x; exact⟨o,e o ho,r⟩
theorem ItAt.eb(x:ItAt κ h it l k)(hs:iQ b h h')(n:it≠b):ItAt κ h' it l k:=x.mv λo e=>hs it o n e
theorem SqAt.eb(x:SqAt κ h l items)(hs:iQ b h h')(n:l≠b):SqAt κ h' l items:=x.mv λo e=>hs l o n e
theorem ItAt.lies(x:ItAt κ h it l k):∃o,h.get? it=some o/\∀v,o.data≠.cell v:=by
 cases κ with
 | true=>obtain⟨o,ho,_,d⟩:=x; exact⟨o,ho,λv z=>by rw [d] at z; cases z⟩
 | false=>obtain⟨o,ho,_,d⟩:=x; exact⟨o,ho,λv z=>by rw [d] at z; cases z⟩
theorem SqAt.lies(x:SqAt κ h l items):∃o,h.get? l=some o:=by
 cases κ with
 | true=>obtain⟨o,ho,_⟩:=x; exact⟨o,ho⟩
 | false=>obtain⟨o,ho,_⟩:=x; exact⟨o,ho⟩
end
section
variable {prog:Program}{w:World}{A:Around}{E:Value->Shared->Prop}{s:Shared}
theorem CM{κ:Bool}{it l:Addr}{i:Nat}{items:Array Value}{x:Value}{Q:Value->Shared->Prop}(hit:ItAt κ s.heap it l i)(hl:SqAt κ s.heap l items)(hx:items[i]?=some x)
  (hQ:∀h',ItAt κ h' it l (i+1)->d8 it s.heap h'->Q x { s with heap:=h' }):wpAny (model prog w) A (bg (.ref it)) Q E s:=by
 cases κ with
 | true=>exact wpAny_nextOf_list_item hit hl hx hQ
 | false =>
  have hit':s.heap.IsTupleIter it l i:=hit
  have hl':s.heap.IsTuple l items:=hl
  obtain⟨o,ho,hc,hd⟩:=id hit'; obtain⟨ol,hol,_,nl,hdl⟩:=hl'
  unfold bg
  refine Ch (bo (name:=cX "__next__") hit'.typeIs dn (cP dn hit'.typeIs gU ?_ (gJ _)))
  show wpAny (model prog w) _ (field (.ref it) 0 >>= _) _ _ s; refine Ch (bn ho hd (x:=.ref l) rfl ?_)
  show wpAny (model prog w) _ (if (bT l==bX)=true then _ else _) _ _ s; rw [if_neg (show ¬((bT l==bX)=true) from bG)]
  show wpAny (model prog w) _ (field (.ref it) 1 >>= _) _ _ s; refine Ch (bn ho hd (x:=.int i 0) rfl ?_)
  show wpAny (model prog w) _ (seqItems? (.ref l) >>= _) _ _ s; refine Ch (cM hol hdl ?_); simp only [cJ,hx]
  refine Ch (gK ho hd (by simp) (Go ⟨x,rfl,Go (hQ _ (show Heap.IsTupleIter _ it l (i+1) from ?_) (fB ..))⟩))
  exact⟨_,da _ ho (Obj.isFreed_of_fields (fJ hd _)),(Obj.cls_mapFields ..).trans hc,by(rw [fJ hd]; simp [rawInt])⟩
theorem ET{κ:Bool}{it l:Addr}{i:Nat}{items:Array Value}{Q:Value->Shared->Prop}(hh:A.handled=none)(hit:ItAt κ s.heap it l i)(hl:SqAt κ s.heap l items)(hx:items[i]?=none)
  (hE:∀h' e,iQ it s.heap h'->(∃o,h'.get? e=some o/\o.cls=.type "StopIteration")->E (.ref e) { s with heap:=h' }):wpAny (model prog w) A (bg (.ref it)) Q E s:=by
 cases κ with
 | true=>exact wpAny_nextOf_list_end hh hit hl hx hE
 | false =>
  have hit':s.heap.IsTupleIter it l i:=hit
  have hl':s.heap.IsTuple l items:=hl
  obtain⟨o,ho,hc,hd⟩:=id hit'; obtain⟨ol,hol,_,nl,hdl⟩:=hl'
  unfold bg
  refine Ch (bo (name:=cX "__next__") hit'.typeIs dn (cP dn hit'.typeIs gU ?_ (gJ _)))
  show wpAny (model prog w) _ (field (.ref it) 0 >>= _) _ _ s; refine Ch (bn ho hd (x:=.ref l) rfl ?_)
  show wpAny (model prog w) _ (if (bT l==bX)=true then _ else _) _ _ s; rw [if_neg (show ¬((bT l==bX)=true) from bG)]
  show wpAny (model prog w) _ (field (.ref it) 1 >>= _) _ _ s; refine Ch (bn ho hd (x:=.int i 0) rfl ?_)
  show wpAny (model prog w) _ (seqItems? (.ref l) >>= _) _ _ s; refine Ch (cM hol hdl ?_); simp only [cJ,hx]
  refine Ch (en (Ch (gK ho hd (by simp) ?_))); show wpAny (model prog w) _ (newExc (.type "StopIteration") [] >>= _) _ _ _
  refine Ch ?_; simp only [newExc,newTuple]; refine Ch (bY ?_ (by size_fits))
  refine Ch (m:=firstArgMember _ _) (gP (a:=bX) (by first | rfl | (simp only [firstArgMember]; rfl)) ?_); refine bY ?_ (by size_fits)
  simp only [raiseNew]; refine Ch (wpAny_handled ?_); first | rw [show A.in1.handled=none from hh] | rw [hh]
  refine Ch (Go (wpAny_throw ?_)); exact hE _ _ (((fB ..).extBut.push _).push _) ⟨_,Sc _ rfl,rfl⟩
structure Ri (z TI TO i1 i2 l1 l2:Addr):Prop where
 TIz:TI≠z
 TOz:TO≠z
 i1z:i1≠z
 i2z:i2≠z
 TOi1:TO≠i1
 TOi2:TO≠i2
 i12:i1≠i2
 l1z:l1≠z
 l1TO:l1≠TO
 l1i1:l1≠i1
 l1i2:l1≠i2
 l2z:l2≠z
 l2TO:l2≠TO
 l2i1:l2≠i1
 l2i2:l2≠i2
theorem Rk{κ1 κ2:Bool}{z TI TO i1 i2 l1 l2:Addr}{k:Nat}{xs ys:Array Value}{x y a b:Value}{Q:Value->Shared->Prop}(D:Ri z TI TO i1 i2 l1 l2)
  (hz:IsZip s.heap z TI TO .none) (hTI:IsPair s.heap TI (.ref i1) (.ref i2)) (hTO:IsPair s.heap TO a b) (h1:ItAt κ1 s.heap i1 l1 k) (h2:ItAt κ2 s.heap i2 l2 k) (hl1:SqAt κ1 s.heap l1 xs) (hl2:SqAt κ2 s.heap l2 ys) (hx:xs[k]?=some x) (hy:ys[k]?=some y)
  (hQ:∀h',IsZip h' z TI TO (rawInt s.heap.objs.size)->IsPair h' TO x y->ItAt κ1 h' i1 l1 (k+1)->ItAt κ2 h' i2 l2 (k+1)->IsPair h' s.heap.objs.size x y->h'.objs.size=s.heap.objs.size+1->(∀c o,c≠z->c≠TO->c≠i1->c≠i2->s.heap.get? c=some o->h'.get? c=some o)->Q (.ref s.heap.objs.size) { s with heap:=h' }) :
  wpAny (model prog w) A (Builtin.«zip.__next__» ⟨[.ref z],[]⟩) (λfin s'=>∃v,fin=.done (.ret v)/\Q v s') E s:=by
 show wpAny (model prog w) A (field (.ref z) 2 >>= _) _ _ _; refine Ch (bn hz rfl (x:=.bool false) rfl ?_)
 show wpAny (model prog w) A (field (.ref z) 3 >>= _) _ _ _; refine Ch (bn hz rfl (x:=.ref TI) rfl ?_); refine Ch (cM hTI rfl ?_)
 show wpAny (model prog w) A (be (.ref z) >>= _) _ _ _; refine Ch ?_; unfold be
 refine Ch (bn hz rfl (x:=.none) rfl (Go ?_)); simp only [if_true]; refine Ch (en ?_); refine Ch (bn hz rfl (x:=.ref TO) rfl ?_)
 refine Ch (c6 hz (by simp) λha hza hsa=>?_)
 replace hza:IsZip ha z TI TO .ellipsis:=hza
 refine Ch ?_; simp only [List.zipIdx_cons,List.zipIdx_nil,df,gL]
 refine Ch (Ch (ge ?_)); show wpAny (model prog w) _ (bg (.ref i1) >>= _) _ _ _
 refine Ch (CM (h1.eb hsa.extBut D.i1z) (hl1.eb hsa.extBut D.l1z) hx λhb h1b hsb=>Go ?_)
 have hTOb:IsPair hb TO a b:=hsb.extBut _ _ D.TOi1 (hsa.extBut _ _ D.TOz hTO)
 refine Ch (cM hTOb rfl ?_); refine Ch (f_ hTOb λhc hTOc hsc=>?_)
 replace hTOc:IsPair hc TO x b:=hTOc
 refine Ch (eS (Go ?_)); refine Ch (Ch (ge ?_)); show wpAny (model prog w) _ (bg (.ref i2) >>= _) _ _ _
 refine Ch (CM (((h2.eb hsa.extBut D.i2z).eb hsb.extBut D.i12.symm).eb hsc.extBut D.TOi2.symm) (((hl2.eb hsa.extBut D.l2z).eb hsb.extBut D.l2i1).eb hsc.extBut D.l2TO) hy λhd h2d hsd=>Go ?_)
 have hTOd:IsPair hd TO x b:=hsd.extBut _ _ D.TOi2 hTOc
 refine Ch (cM hTOd rfl ?_); refine Ch (f_ hTOd λhe hTOe hse=>?_)
 replace hTOe:IsPair he TO x y:=hTOe
 refine Ch (eS (Go (Go ?_))); refine Ch (cM hTOe rfl ?_); refine Ch (gM ?_)
 have hsz:he.objs.size=s.heap.objs.size:=by rw [hse.1,hsd.1,hsc.1,hsb.1,hsa.1]
 have hze:IsZip he z TI TO .ellipsis:=hse.extBut _ _ D.TOz.symm (hsd.extBut _ _ D.i2z.symm (hsc.extBut _ _ D.TOz.symm (hsb.extBut _ _ D.i1z.symm hza)))
 have hke:∀c o,c≠z->c≠TO->c≠i1->c≠i2->s.heap.get? c=some o->he.get? c=some o:=λc o c1 c2 c3 c4 e=>hse.extBut _ _ c2 (hsd.extBut _ _ c4 (hsc.extBut _ _ c2 (hsb.extBut _ _ c3 (hsa.extBut _ _ c1 e))))
 have h1e:ItAt κ1 he i1 l1 (k+1):=((h1b.eb hsc.extBut D.TOi1.symm).eb hsd.extBut D.i12).eb hse.extBut D.TOi1.symm
 have h2e:ItAt κ2 he i2 l2 (k+1):=h2d.eb hse.extBut D.TOi2.symm
 have hzlt:z<he.objs.size:=Tk hze
 show wpAny (model prog w) _ (fK (.ref z) (.ref he.objs.size) >>= _) _ _ _; refine Ch ?_; unfold fK
 have hzf:IsZip (he.push { cls:=.type "tuple",data:=.seq #[x,y] }) z TI TO .ellipsis:=Ev _ hze
 refine Ch (c6 hzf (by simp) λhg hzg hsg=>?_)
 replace hzg:IsZip hg z TI TO (rawInt he.objs.size):=hzg
 refine c6 hzg (by simp) λhi hzi hsi=>?_
 replace hzi:IsZip hi z TI TO (rawInt he.objs.size):=hzi
 have up:∀c o,c≠z->he.get? c=some o->hi.get? c=some o:=λc o c1 e=>hsi.extBut _ _ c1 (hsg.extBut _ _ c1 (Ev _ e))
 have hTi:IsPair hi he.objs.size x y:=hsi.extBut _ _ (d9 hzlt) (hsg.extBut _ _ (d9 hzlt) (Sc _ rfl))
 have hzs:hi.objs.size=he.objs.size+1:=by rw [hsi.1,hsg.1,cT]
 rw [hsz] at hzi hTi hzs
 refine Go ⟨_,rfl,?_⟩
 show Q (.ref he.objs.size) _; rw [hsz]
 exact hQ hi hzi (up _ _ D.TOz hTOe) (h1e.mv λo e=>up _ o D.i1z e) (h2e.mv λo e=>up _ o D.i2z e) hTi hzs λc o c1 c2 c3 c4 e=>up c o c1 (hke c o c1 c2 c3 c4 e)
theorem Uj{κ1 κ2:Bool}{z TI TO i1 i2 l1 l2:Addr}{k:Nat}{xs ys:Array Value}{a b:Value}{Q:Fin->Shared->Prop}(hh:A.handled=none)(D:Ri z TI TO i1 i2 l1 l2)
  (hz:IsZip s.heap z TI TO .none) (hTI:IsPair s.heap TI (.ref i1) (.ref i2)) (hTO:IsPair s.heap TO a b) (h1:ItAt κ1 s.heap i1 l1 k) (h2:ItAt κ2 s.heap i2 l2 k) (hl1:SqAt κ1 s.heap l1 xs) (hl2:SqAt κ2 s.heap l2 ys) (hend:xs[k]?=none\/ys[k]?=none)
  (hE:∀h' e,(∀c o,c≠z->c≠TO->c≠i1->c≠i2->s.heap.get? c=some o->h'.get? c=some o)->(∃o,h'.get? e=some o/\o.cls=.type "StopIteration")->E (.ref e) { s with heap:=h' }) :
  wpAny (model prog w) A (Builtin.«zip.__next__» ⟨[.ref z],[]⟩) Q E s:=by
 show wpAny (model prog w) A (field (.ref z) 2 >>= _) _ _ _; refine Ch (bn hz rfl (x:=.bool false) rfl ?_)
 show wpAny (model prog w) A (field (.ref z) 3 >>= _) _ _ _; refine Ch (bn hz rfl (x:=.ref TI) rfl ?_); refine Ch (cM hTI rfl ?_)
 show wpAny (model prog w) A (be (.ref z) >>= _) _ _ _; refine Ch ?_; unfold be
 refine Ch (bn hz rfl (x:=.none) rfl (Go ?_)); simp only [if_true]; refine Ch (en ?_); refine Ch (bn hz rfl (x:=.ref TO) rfl ?_)
 refine Ch (c6 hz (by simp) λha hza hsa=>?_)
 replace hza:IsZip ha z TI TO .ellipsis:=hza
 refine Ch ?_; simp only [List.zipIdx_cons,List.zipIdx_nil,df,gL]
 refine Ch (Ch (ge ?_)); show wpAny (model prog w) _ (bg (.ref i1) >>= _) _ _ _
 cases hx:xs[k]? with
 | none =>
  refine Ch (ET hh (h1.eb hsa.extBut D.i1z) (hl1.eb hsa.extBut D.l1z) hx λhb e hsb he=>?_)
  obtain⟨oe,hoe,hce⟩:=he
  have hzb:IsZip hb z TI TO .ellipsis:=hsb _ _ D.i1z.symm hza
  have hez:e≠z:=λx=>by subst x; rw [hzb] at hoe; cases hoe; simp at hce
  exact c6 hzb (by simp) λhc _ hsc=>hE hc e (λc o c1 _ c3 _ x=>hsc.extBut _ _ c1 (hsb _ _ c3 (hsa.extBut _ _ c1 x))) ⟨oe,hsc.extBut _ _ hez hoe,hce⟩
 | some x =>
  have hy:ys[k]?=none:=by
   rcases hend with h | h
   ·rw [hx] at h; cases h
   ·exact h
  refine Ch (CM (h1.eb hsa.extBut D.i1z) (hl1.eb hsa.extBut D.l1z) hx λhb h1b hsb=>Go ?_)
  have hTOb:IsPair hb TO a b:=hsb.extBut _ _ D.TOi1 (hsa.extBut _ _ D.TOz hTO)
  refine Ch (cM hTOb rfl ?_); refine Ch (f_ hTOb λhc hTOc hsc=>?_)
  refine Ch (eS (Go ?_)); refine Ch (Ch (ge ?_)); show wpAny (model prog w) _ (bg (.ref i2) >>= _) _ _ _
  refine Ch (ET hh (((h2.eb hsa.extBut D.i2z).eb hsb.extBut D.i12.symm).eb hsc.extBut D.TOi2.symm) (((hl2.eb hsa.extBut D.l2z).eb hsb.extBut D.l2i1).eb hsc.extBut D.l2TO) hy λhd e hsd he=>?_)
  obtain⟨oe,hoe,hce⟩:=he
  have hzd:IsZip hd z TI TO .ellipsis:=hsd _ _ D.i2z.symm (hsc.extBut _ _ D.TOz.symm (hsb.extBut _ _ D.i1z.symm hza))
  have hez:e≠z:=λx=>by subst x; rw [hzd] at hoe; cases hoe; simp at hce
  exact c6 hzd (by simp) λhf _ hsf=>hE hf e (λc o c1 c2 c3 c4 x=>hsf.extBut _ _ c1 (hsd _ _ c4 (hsc.extBut _ _ c2 (hsb.extBut _ _ c3 (hsa.extBut _ _ c1 x))))) ⟨oe,hsf.extBut _ _ hez hoe,hce⟩
end
noncomputable def Xr(κ:Bool):String:=match κ with
 | true => "list_iterator"
 | false => "tuple_iterator"
noncomputable def HC(κ:Bool)(l:Addr):Obj:={ cls:=.type (Xr κ),data:=.fields #[.ref l,.int 0 0] }
noncomputable abbrev zA(κ1:Bool)(h:Heap)(l1:Addr):Heap:=h.push (HC κ1 l1)
noncomputable abbrev zB(κ1 κ2:Bool)(h:Heap)(l1 l2:Addr):Heap:=(zA κ1 h l1).push (HC κ2 l2)
noncomputable abbrev zC(κ1 κ2:Bool)(h:Heap)(l1 l2:Addr):Heap:=(zB κ1 κ2 h l1 l2).push { cls:=.type "tuple",data:=.seq #[.ref h.objs.size,.ref (zA κ1 h l1).objs.size] }
noncomputable abbrev zD(κ1 κ2:Bool)(h:Heap)(l1 l2:Addr):Heap:=(zC κ1 κ2 h l1 l2).push { cls:=.type "tuple",data:=.seq #[.none,.none] }
noncomputable abbrev zE(κ1 κ2:Bool)(h:Heap)(l1 l2:Addr):Heap:=(zD κ1 κ2 h l1 l2).push { cls:=.type "zip",data:=.fields #[.none,.bool false,.bool false,.ref (zB κ1 κ2 h l1 l2).objs.size,.ref (zC κ1 κ2 h l1 l2).objs.size] }
theorem VI(κ1 κ2:Bool)(l1 l2:Addr)(xs ys:Array Value):Meets (Builtin.«zip.__new__» ⟨[.type "zip",.ref l1,.ref l2],[]⟩)
  (λ_ R s=>SqAt κ1 s.heap l1 xs/\SqAt κ2 s.heap l2 ys/\R (.ok (.ret (.ref (zD κ1 κ2 s.heap l1 l2).objs.size))) { s with heap:=zE κ1 κ2 s.heap l1 l2 }) :=
 .of_wp λprog w A R s h=>by
  obtain⟨hp,g,d,tk,os⟩:=s; obtain⟨hl1,hl2,h⟩:=h
  have hsub:=sub_zip
  have hL2:SqAt κ2 (zA κ1 hp l1) l2 ys:=hl2.mv λo e=>Ev _ e
  cases κ1 with
  | true =>
   have g1:iR (eU ⟨hp,g,d,tk,os⟩) l1 xs:=hl1
   cases κ2 with
   | true =>
    have g2:iR (eU ⟨hp.push { cls:=.type "list_iterator",data:=.fields #[.ref l1,.int 0 0] },g,d,tk,os⟩) l2 ys:=hL2
    wp_walk using cg g1,cg g2
    exact⟨_,rfl,h⟩
   | false =>
    have g2:hX (eU ⟨hp.push { cls:=.type "list_iterator",data:=.fields #[.ref l1,.int 0 0] },g,d,tk,os⟩) l2 ys:=hL2
    wp_walk using cg g1,cV g2
    exact⟨_,rfl,h⟩
  | false =>
   have g1:hX (eU ⟨hp,g,d,tk,os⟩) l1 xs:=hl1
   cases κ2 with
   | true =>
    have g2:iR (eU ⟨hp.push { cls:=.type "tuple_iterator",data:=.fields #[.ref l1,.int 0 0] },g,d,tk,os⟩) l2 ys:=hL2
    wp_walk using cV g1,cg g2
    exact⟨_,rfl,h⟩
   | false =>
    have g2:hX (eU ⟨hp.push { cls:=.type "tuple_iterator",data:=.fields #[.ref l1,.int 0 0] },g,d,tk,os⟩) l2 ys:=hL2
    wp_walk using cV g1,cV g2
    exact⟨_,rfl,h⟩
theorem JI(κ:Bool)(h:Heap)(l:Addr):ItAt κ (h.push (HC κ l)) h.objs.size l 0:=by
 cases κ with
 | true=>exact⟨_,Sc _ rfl,rfl,rfl⟩
 | false=>exact⟨_,Sc _ rfl,rfl,rfl⟩
section
variable {prog:Program}{w:World}{A:Around}{E:Value->Shared->Prop}{s:Shared}
theorem GO{κ1 κ2:Bool}{l1 l2:Addr}{xs ys:Array Value}{Q:Value->Shared->Prop}(hl1:SqAt κ1 s.heap l1 xs)(hl2:SqAt κ2 s.heap l2 ys)
  (h:∀h',IsZip h' (s.heap.objs.size+4) (s.heap.objs.size+2) (s.heap.objs.size+3) .none->IsPair h' (s.heap.objs.size+2) (.ref s.heap.objs.size) (.ref (s.heap.objs.size+1))->IsPair h' (s.heap.objs.size+3) .none .none ->
   ItAt κ1 h' s.heap.objs.size l1 0->ItAt κ2 h' (s.heap.objs.size+1) l2 0->(∀c o,s.heap.get? c=some o->h'.get? c=some o)->Q (.ref (s.heap.objs.size+4)) { s with heap:=h' }) :
  wpAny (model prog w) A (call (.type "zip") [.ref l1,.ref l2]) Q E s:=by
 refine callType_new F.called_zip (by decide) (F.typeCall_zip_2 _ _) (F.newCall_zip_2 _ _) (λobj=>F.args_object_init_3 obj _ _) F.entry_zip_new (VI κ1 κ2 l1 l2 xs ys) ⟨hl1,hl2,?_⟩
 have z1:(zA κ1 s.heap l1).objs.size=s.heap.objs.size+1:=cT ..
 have z2:(zB κ1 κ2 s.heap l1 l2).objs.size=s.heap.objs.size+2:=by rw [cT,z1]
 have z3:(zC κ1 κ2 s.heap l1 l2).objs.size=s.heap.objs.size+3:=by rw [cT,z2]
 have z4:(zD κ1 κ2 s.heap l1 l2).objs.size=s.heap.objs.size+4:=by rw [cT,z3]
 have g5:(zE κ1 κ2 s.heap l1 l2).get? (zD κ1 κ2 s.heap l1 l2).objs.size=some _:=Sc _ rfl
 have g4:(zE κ1 κ2 s.heap l1 l2).get? (zC κ1 κ2 s.heap l1 l2).objs.size=some _:=Ev _ (Sc _ rfl)
 have g3:(zE κ1 κ2 s.heap l1 l2).get? (zB κ1 κ2 s.heap l1 l2).objs.size=some _:=Ev _ (Ev _ (Sc _ rfl))
 have i2:ItAt κ2 (zE κ1 κ2 s.heap l1 l2) (zA κ1 s.heap l1).objs.size l2 0:=(JI κ2 (zA κ1 s.heap l1) l2).mv λo e=>Ev _ (Ev _ (Ev _ e))
 have i1:ItAt κ1 (zE κ1 κ2 s.heap l1 l2) s.heap.objs.size l1 0:=(JI κ1 s.heap l1).mv λo e=>Ev _ (Ev _ (Ev _ (Ev _ e)))
 rw [z4] at g5
 rw [z3] at g4
 rw [z2] at g3
 rw [z1] at i2
 have fin:=h (zE κ1 κ2 s.heap l1 l2) (by rw [IsZip,g5,z2,z3]) (by rw [IsPair,g3,z1]) g4 i1 i2 (λc o e=>Ev _ (Ev _ (Ev _ (Ev _ (Ev _ e)))))
 refine⟨⟨_,by rw [z4]; exact g5,rfl⟩,?_⟩
 rw [z4]
 exact fin
theorem E5{κ1 κ2:Bool}{z TI TO i1 i2 l1 l2:Addr}{k:Nat}{xs ys:Array Value}{x y a b:Value}{Q:Option Value->Shared->Prop}(D:Ri z TI TO i1 i2 l1 l2)
  (hz:IsZip s.heap z TI TO .none) (hTI:IsPair s.heap TI (.ref i1) (.ref i2)) (hTO:IsPair s.heap TO a b) (h1:ItAt κ1 s.heap i1 l1 k) (h2:ItAt κ2 s.heap i2 l2 k) (hl1:SqAt κ1 s.heap l1 xs) (hl2:SqAt κ2 s.heap l2 ys) (hx:xs[k]?=some x) (hy:ys[k]?=some y)
  (hQ:∀h',IsZip h' z TI TO (rawInt s.heap.objs.size)->IsPair h' TO x y->ItAt κ1 h' i1 l1 (k+1)->ItAt κ2 h' i2 l2 (k+1)->IsPair h' s.heap.objs.size x y->h'.objs.size=s.heap.objs.size+1->(∀c o,c≠z->c≠TO->c≠i1->c≠i2->s.heap.get? c=some o->h'.get? c=some o)->Q (some (.ref s.heap.objs.size)) { s with heap:=h' }) :
  wpAny (model prog w) A (pyNext (.ref z)) Q E s:=by
 have hT:s.TypeIs (.ref z) "zip":=⟨_,hz,rfl⟩
 unfold pyNext
 exact Ch (eO (bo (name:=cX "__next__") hT dB (cP dB hT fo
  (Rk D hz hTI hTO h1 h2 hl1 hl2 hx hy λh' a1 a2 a3 a4 a5 a6 a7=>Go (hQ h' a1 a2 a3 a4 a5 a6 a7)) (fe _))))
theorem F6{κ1 κ2:Bool}{z TI TO i1 i2 l1 l2:Addr}{k:Nat}{xs ys:Array Value}{a b:Value}{Q:Option Value->Shared->Prop}(hh:A.handled=none)(D:Ri z TI TO i1 i2 l1 l2)
  (hz:IsZip s.heap z TI TO .none) (hTI:IsPair s.heap TI (.ref i1) (.ref i2)) (hTO:IsPair s.heap TO a b) (h1:ItAt κ1 s.heap i1 l1 k) (h2:ItAt κ2 s.heap i2 l2 k) (hl1:SqAt κ1 s.heap l1 xs) (hl2:SqAt κ2 s.heap l2 ys) (hend:xs[k]?=none\/ys[k]?=none)
  (hQ:∀h',(∀c o,c≠z->c≠TO->c≠i1->c≠i2->s.heap.get? c=some o->h'.get? c=some o)->Q none { s with heap:=h' }):wpAny (model prog w) A (pyNext (.ref z)) Q E s:=by
 have hT:s.TypeIs (.ref z) "zip":=⟨_,hz,rfl⟩
 unfold pyNext
 refine Ch (eO (bo (name:=cX "__next__") hT dB (cP dB hT fo (Uj hh D hz hTI hTO h1 h2 hl1 hl2 hend λh' e hk he=>?_) (fe _))))
 obtain⟨o,ho,hc⟩:=he
 exact Ch (fq (T := "StopIteration") (b:=true) ⟨o,ho,hc⟩ isSubtype_stop (Go (hQ _ hk)))
end
section
variable {X:Cx}{pins:List (Addr×Obj)}{σ:L2.St}{H:Hp}{s:Shared}{h':Heap}
theorem Inv.turnedL{t':Nat}{ch:List Addr}(I:Inv X pins σ H s)(hf:∀b∈ch,Gh X pins H b)(k:∀b o,b∉ch->s.heap.get? b=some o->h'.get? b=some o):Inv X pins σ H { s with heap:=h',toks:=t' }:=by
 have nit:∀b u,H b=some u->b∉ch:=λb u e z=>by rw [(hf b z).1] at e; cases e
 refine I.step (g':=s.gens) (d':=s.drawn) (ch:=ch) (λb hb=>?_) (λb o _ _ hc e _=>k b o hc e) (λb o _ _ hc e _=>⟨o.slots,k b o hc e⟩) (λ_ _ _ _ n=>n) (λb o hc e=>⟨o,k b o hc e⟩) (λ_ _ e=>e) (λ_ _ _ e=>e) (λb ps e=>⟨#[],by rw [e]; simp⟩) (λm hm=>?_) (λb u e=>?_) I.bare
 ·obtain⟨f0,f1,f2,f3,f4,f5⟩:=hf b hb
  exact⟨f3,f1,f4,f5⟩
 ·obtain⟨o,es,ep,ho,r⟩:=hm
  exact⟨o,es,ep,k _ o (λz=>(hf _ z).2.1 rfl) ho,r⟩
 ·exact(I.hok b u e).stay (λc v hc q=>k c v (hc.elim (λz=>by rw [z]; exact nit b u e) λz=>nit c _ z) q) (λ_ q=>q) λ_ _ q=>q
theorem Inv.turnLaid{t':Nat}{ch:List Addr}{a:Addr}{o:HO}(I:Inv X pins σ H s)(hf:∀b∈ch,Gh X pins H b)(k:∀b o,b∉ch->s.heap.get? b=some o->h'.get? b=some o)(ha:s.heap.objs.size<=a)(new:ObjOk X.prog X.w (As H a o) h' a o) :
  Inv X pins σ (As H a o) { s with heap:=h',toks:=t' }:=by
 have nit:∀b u,H b=some u->b∉ch:=λb u e z=>by rw [(hf b z).1] at e; cases e
 have hn:H a=none:=I.hok.fresh ha
 have up:∀b u,H b=some u->As H a o b=some u:=λb u e=>by rw [AK (Ac e hn)]; exact e
 refine I.step (g':=s.gens) (d':=s.drawn) (ch:=ch) (λb hb=>?_) (λb o _ _ hc e _=>k b o hc e) (λb o _ _ hc e _=>⟨o.slots,k b o hc e⟩) (λb u _ e n=>?_) (λb o hc e=>⟨o,k b o hc e⟩) (λb xs e=>up _ _ e) (λb o u e=>up _ _ e) (λb ps e=>⟨#[],by rw [up _ _ e]; simp⟩) (λm hm=>?_) (λb u e=>?_) I.bare
 ·obtain⟨f0,f1,f2,f3,f4,f5⟩:=hf b hb
  exact⟨f3,f1,f4,f5⟩
 ·rw [AK (bK (bR (Tk e) ha))]; exact n
 ·obtain⟨o,es,ep,ho,r⟩:=hm
  exact⟨o,es,ep,k _ o (λz=>(hf _ z).2.1 rfl) ho,r⟩
 ·by_cases hb:b=a
  ·subst hb; rw [AT] at e; cases e; exact new
  ·rw [AK hb] at e
   exact(I.hok b u e).stay (λc v hc q=>k c v (hc.elim (λz=>by rw [z]; exact nit b u e) λz=>nit c _ z) q) (λc q=>up _ _ q) λc xs q=>up _ _ q
end
noncomputable def SqK(κ:Bool)(K:Frag)(H:Hp)(a:Addr)(xs:List V):Prop:=match κ with
 | true=>SqL K H a xs
 | false=>SqT K H a xs
theorem SqK.at{κ:Bool}{X:Cx}{pins:List (Addr×Obj)}{σ:L2.St}{H:Hp}{s:Shared}{a:Addr}{xs:List V}(I:Inv X pins σ H s)(h:SqK κ X.K H a xs):∃its:List Value,Vals xs its/\SqAt κ s.heap a its.toArray:=by
 cases κ with
 | true=>obtain⟨its,r,pl,_⟩:=I.list h; exact⟨its,r,pl.isList⟩
 | false=>obtain⟨its,r,p,_⟩:=I.tuple h; exact⟨its,r,p⟩
noncomputable def YY (K : Frag) (κ1 κ2 : Bool) (a b : Addr) (xs ys : List V) : It :=
  ⟨λi H => SqK κ1 K H a xs ∧ SqK κ2 K H b ys ∧ i < xs.length ∧ i < ys.length, λi H x H' => ∃ T p q, x = .ref T ∧ H T = none ∧ H' = As H T (.tup [p, q]) ∧ xs[i]? = some p ∧ ys[i]? = some q,
   λi H => SqK κ1 K H a xs ∧ SqK κ2 K H b ys ∧ (xs.length ≤ i ∨ ys.length ≤ i)⟩
structure ZZ (κ1 κ2:Bool) (z TI TO i1 i2 a b:Addr) (k:Nat) (h:Heap):Prop where
 z:IsZip h z TI TO .none
 ti:IsPair h TI (.ref i1) (.ref i2)
 to:∃a b,IsPair h TO a b
 i1:ItAt κ1 h i1 a k
 i2:ItAt κ2 h i2 b k
theorem R_{P:Program}{w:World}{K:Frag}{es:List Expr}{j:Nat}{pos:Pos}(κ1 κ2:Bool)(z TI TO i1 i2 a b:Addr)(xs ys:List V)(D:Ri z TI TO i1 i2 a b)(hTI:TI∉[z,TO,i1,i2]) :
  Turn P w K (.Tuple es j pos) (YY K κ1 κ2 a b xs ys) [z,TI,TO,i1,i2] z (ZZ κ1 κ2 z TI TO i1 i2 a b) where
 mem:=by simp
 obj:=λi h st c hc=>by
  simp only [TM,bJ,or_false] at hc
  rcases hc with rfl | rfl | rfl | rfl | rfl
  ·exact⟨_,st.z,λv q=>by cases q⟩
  ·exact⟨_,st.ti,λv q=>by cases q⟩
  ·obtain⟨a,b,e⟩:=st.to
   exact⟨_,e,λv q=>by cases q⟩
  ·exact st.i1.lies
  ·exact st.i2.lies
 keep:=λi h h' st k=>by
  obtain⟨p,q,e⟩:=st.to
  exact⟨k z (by simp) _ st.z,k TI (by simp) _ st.ti,⟨p,q,k TO (by simp) _ e⟩,st.i1.mv λo e=>k i1 (by simp) o e,st.i2.mv λo e=>k i2 (by simp) o e⟩
 item:=by
  intro X hP hw hK hc i pins s σ H E I hf st hg
  subst hP hw hK
  obtain⟨ha,hb,hi,hj⟩:=hg
  obtain⟨us,r1,q1⟩:=ha.at I
  obtain⟨ws,r2,q2⟩:=hb.at I
  obtain⟨u,hu,ru⟩:=r1.get (Db hi)
  obtain⟨v,hv,rv⟩:=r2.get (Db hj)
  obtain⟨p,q,e⟩:=st.to
  refine E5 D st.z st.ti e st.i1 st.i2 q1 q2 (x:=u) (y:=v) (by simpa using hu) (by simpa using hv) λh' a1 a2 a3 a4 a5 a6 a7=>⟨_,rfl,?_⟩
  refine wpAny_letOwnedTupleGo_zip a1 λh2 b1 b2=>?_
  have hT:H s.heap.objs.size=none:=I.hok.fresh (Op _)
  have kk:∀c o,c∉[z,TO,i1,i2]->s.heap.get? c=some o->h2.get? c=some o:=λc o hc e=>by
   simp only [TM,bJ,or_false,not_or] at hc
   exact b2.extBut _ _ hc.1 (a7 c o hc.1 hc.2.1 hc.2.2.1 hc.2.2.2 e)
  have I2:Inv X pins σ (As H s.heap.objs.size (.tup [xs[i],ys[i]])) { s with heap:=h2 }:=by
   refine I.turnLaid (t':=s.toks) (ch:=[z,TO,i1,i2]) (λc hc=>hf c ?_) kk (Op _) ?_
   ·simp only [TM,bJ,or_false] at hc ⊢
    rcases hc with rfl | rfl | rfl | rfl <;> simp
   ·have nT:s.heap.objs.size≠z:=d9 (Tk st.z)
    exact⟨by show 2<=sizeLine; decide,[u,v],.cons ru (.cons rv .nil),⟨_,b2.extBut _ _ nT a5,rfl,_,rfl,rfl,rfl⟩⟩
  have ti2:IsPair h2 TI (.ref i1) (.ref i2):=kk _ _ hTI st.ti
  refine⟨.ref s.heap.objs.size,_,I2,rfl,⟨_,_,_,rfl,hT,rfl,Db hi,Db hj⟩,⟨b1,ti2,⟨_,_,b2.extBut _ _ D.TOz a2⟩,a3.eb b2.extBut D.i1z,a4.eb b2.extBut D.i2z⟩,λc hc=>?_⟩
  have hcn:H c=none:=(hf c hc).1
  have hlt:c≠s.heap.objs.size:=λz=>by
   obtain⟨o,ho,_⟩:∃o,s.heap.get? c=some o/\True:=by
    simp only [TM,bJ,or_false] at hc
    rcases hc with rfl | rfl | rfl | rfl | rfl
    ·exact⟨_,st.z,trivial⟩
    ·exact⟨_,st.ti,trivial⟩
    ·exact⟨_,e,trivial⟩
    ·obtain⟨o,q,_⟩:=st.i1.lies; exact⟨o,q,trivial⟩
    ·obtain⟨o,q,_⟩:=st.i2.lies; exact⟨o,q,trivial⟩
   rw [z] at ho
   exact cI _ (Tk ho)
  rw [AK hlt]; exact hcn
 done:=by
  intro X hP hw hK hc i pins s σ H E I hf st hg
  subst hP hw hK
  obtain⟨ha,hb,hi⟩:=hg
  obtain⟨us,r1,q1⟩:=ha.at I
  obtain⟨ws,r2,q2⟩:=hb.at I
  obtain⟨p,q,e⟩:=st.to
  have l1:=r1.length
  have l2:=r2.length
  refine F6 (I.ok.hd hc) D st.z st.ti e st.i1 st.i2 q1 q2 (hi.imp (λhi=>by simp; omega) λhi=>by simp; omega) λh' kk=>⟨rfl,?_⟩
  refine I.turnedL (t':=s.toks) (ch:=[z,TO,i1,i2]) (λc hc=>hf c ?_) λc o hc e=>?_
  ·simp only [TM,bJ,or_false] at hc ⊢
   rcases hc with rfl | rfl | rfl | rfl <;> simp
  ·simp only [TM,bJ,or_false,not_or] at hc
   exact kk c o hc.1 hc.2.1 hc.2.2.1 hc.2.2.2 e
 self:=λA i s Q E st h=>hZ st.z h
section
variable {X:Cx}
theorem Rn(n a b:Nat)(h1:a<n)(h2:b<n):Ri (n+4) (n+2) (n+3) n (n+1) a b:=by
 constructor <;> (show (_:Nat)≠(_:Nat); omega)
theorem Ws(n:Nat):(n+2)∉[n+4,n+3,n,n+1]:=by
 simp only [TM,bJ,or_false,not_or]
 omega
theorem Wu(n c:Nat)(h:c∈[n+4,n+2,n+3,n,n+1]):n<=c:=by
 simp only [TM,bJ,or_false] at h
 omega
noncomputable def aG(K:Frag)(ta:TA):TI:=λσ H R=>ta σ H λvs H1=>∃κ1 κ2 a b xs ys,vs=[.ref a,.ref b]/\SqK κ1 K H1 a xs/\SqK κ2 K H1 b ys/\R (YY K κ1 κ2 a b xs ys) H1
theorem Sq{e1 e2:Expr}{es:List Expr}{j:Nat}{tpos:Pos}{ta:TA}{p pos:Pos}(hg:Gl X "zip")(hm:X.mg "zip"=none)(ha:PA X [e1,e2] ta)(hs:autoParam (starEach [e1,e2] X.env=[(false,eval e1 X.env),(false,eval e2 X.env)]) zau3._auto_1)(hs2:autoParam (starEach [e2] X.env=[(false,eval e2 X.env)]) zau3._auto_1) :
  PI X (.Tuple es j tpos) (.Call (.Name "zip" p) [e1,e2] [] pos) (aG X.K ta):=by
 intro pins s σ H R I h
 refine Call_ (CV I hg hm boot_zip (cA (thn (ha pos pins s σ H _ I h) λus s1 ⟨vs,H1,I1,r1,q1⟩=>?_) (by rw [hs,hs2]) (by rw [hs2]; rfl)))
 obtain⟨κ1,κ2,a,b,xs,ys,e,h1,h2,q⟩:=q1
 subst e
 obtain⟨u,v,rfl,ru,rv⟩:=vals2 r1
 cases ru
 cases rv
 obtain⟨us,r1',q1⟩:=h1.at I1
 obtain⟨ws,r2',q2⟩:=h2.at I1
 have la:a<s1.heap.objs.size:=by obtain⟨o,e⟩:=q1.lies; exact Tk e
 have lb:b<s1.heap.objs.size:=by obtain⟨o,e⟩:=q2.lies; exact Tk e
 refine GO q1 q2 λh' hz hTI hTO hi1 hi2 hk=>?_
 refine hZ hz ?_
 have D:=Rn s1.heap.objs.size a b la lb
 refine⟨s1.heap.objs.size+4,[s1.heap.objs.size+4,s1.heap.objs.size+2,s1.heap.objs.size+3,s1.heap.objs.size,s1.heap.objs.size+1],_,YY X.K κ1 κ2 a b xs ys,H1,rfl,I1.kept (t':=s1.toks) hk,R_ κ1 κ2 _ _ _ _ _ a b xs ys D (Ws s1.heap.objs.size),⟨hz,hTI,⟨_,_,hTO⟩,hi1,hi2⟩,λc hc=>?_,q⟩
 have hge:s1.heap.objs.size<=c:=Wu s1.heap.objs.size c hc
 exact I1.fpOk hge (I1.hok.fresh hge)
end
end L2
namespace Dp
open PySem PySem.Spec PyProof.Rows L2
noncomputable def Cf(ds es:List D):List D:=cz (λd e=>.tup [d,e]) ds es
section
variable {K:Frag}
theorem Gr{U V' M:Addr->Prop}{H:Hp}{d:D}{v:V}{ds:List D}(h:AtT K V' M H d v)(e:FL d=some ds)(uV:∀a,U a->V' a)(vM:∀a,V' a->M a):∃κ a vs,v=.ref a/\Ats K M H ds vs/\∀M' H',Pres M H M' H'->Ext U H H'->SqK κ K H' a vs:=by
 cases d with
 | lst xs =>
  cases e
  obtain⟨a,vs,e1,n1,hq,hs⟩:=h
  refine⟨true,a,vs,e1,hs,λM' H' _ ex=>?_⟩
  rcases hq with hq | ⟨o,hq⟩
  ·exact .inl (.inl (ex.keep hq λz=>n1 (uV a z)))
  ·exact .inl (.inr ⟨o,ex.keep hq λz=>n1 (uV a z)⟩)
 | tup xs =>
  cases e
  obtain⟨a,vs,e1,hq,hs⟩:=h
  exact⟨false,a,vs,e1,hs,λM' H' pr _=>(hq.pres pr).sq⟩
 | _=>cases e
theorem OA{M:Addr->Prop}{H:Hp}{d:D}{v:V}{ds:List D}(h:At K M H d v)(e:FL d=some ds):∃κ a vs,v=.ref a/\Ats K M H ds vs/\∀M' H',Pres M H M' H'->SqK κ K H' a vs:=by
 cases d with
 | lst xs =>
  cases e
  obtain⟨a,vs,e1,hq,hs⟩:=h
  exact⟨true,a,vs,e1,hs,λM' H' pr=>(hq.pres pr).sq⟩
 | tup xs =>
  cases e
  obtain⟨a,vs,e1,hq,hs⟩:=h
  exact⟨false,a,vs,e1,hs,λM' H' pr=>(hq.pres pr).sq⟩
 | _=>cases e
theorem IG{M:Addr->Prop}{H:Hp}{κ1 κ2:Bool}{a b:Addr}{vs us:List V}{ds es:List D}(hs:Ats K M H ds vs)(ht:Ats K M H es us){i:Nat}{M':Addr->Prop}{H':Hp}(pr:Pres M H M' H')(h1:SqK κ1 K H' a vs)(h2:SqK κ2 K H' b us)(dom:∀a,M' a->∃o,H' a=some o) :
  (∀d,(Cf ds es)[i]?=some d->(YY K κ1 κ2 a b vs us).go i H'/\∀x H2,(YY K κ1 κ2 a b vs us).yld i H' x H2->Grow H' H2/\At K M' H2 d x)/\((Cf ds es).length<=i->(YY K κ1 κ2 a b vs us).stop i H'):=by
 have l1:=hs.length
 have l2:=ht.length
 refine⟨λd hd=>?_,λhl=>⟨h1,h2,?_⟩⟩
 ·unfold Cf at hd
  rw [fu] at hd
  cases q1:ds[i]? with
  | none=>rw [q1] at hd; simp at hd
  | some d1 =>
   cases q2:es[i]? with
   | none=>rw [q1,q2] at hd; simp at hd
   | some d2 =>
    rw [q1,q2] at hd
    have hd':D.tup [d1,d2]=d:=UF hd
    have i1:i<ds.length:=(TW.mp q1).1
    have i2:i<es.length:=(TW.mp q2).1
    refine⟨⟨h1,h2,by omega,by omega⟩,λx H2 y=>?_⟩
    obtain⟨T,p,q,rfl,hT,rfl,e1,e2⟩:=y
    obtain⟨v1,f1,a1⟩:=(hs.pres pr).get q1
    obtain⟨v2,f2,a2⟩:=(ht.pres pr).get q2
    rw [e1] at f1
    rw [e2] at f2
    cases f1
    cases f2
    subst hd'
    exact⟨Al hT,B9 dom hT ⟨p,[q],rfl,a1,q,[],rfl,a2,rfl⟩⟩
 ·unfold Cf at hl
  rw [dL] at hl
  omega
end
section
variable {X:Cx}{e1 e2:Expr}{es:List Expr}{j:Nat}{tpos p pos:Pos}{ws:Et}
noncomputable def Ru(ws:Et):Et:=λn ρ P=>ws n ρ λds n1=>∃d e xs ys,ds=[d,e]/\FL d=some xs/\FL e=some ys/\P (Cf xs ys) n1
theorem Py(hg:Gl X "zip")(hm:X.mg "zip"=none)(ha:Wo X [e1,e2] ws)(hs:autoParam (starEach [e1,e2] X.env=[(false,eval e1 X.env),(false,eval e2 X.env)]) zau3._auto_1)(hs2:autoParam (starEach [e2] X.env=[(false,eval e2 X.env)]) zau3._auto_1) :
  Ya X (.Tuple es j tpos) (.Call (.Name "zip" p) [e1,e2] [] pos) (Ru ws):=by
 obtain⟨t,a1,a2⟩:=ha
 refine⟨_,Sq hg hm a1 hs hs2,λC M H n ρ σ P Rr R w q=>?_⟩
 refine a2 C M H n ρ σ _ _ R w λvs H1 ds n1 ee f1 r1 p=>?_
 obtain⟨d,e,xs,ys,rfl,hd,he,p⟩:=p
 cases r1 with
 | cons r rr =>
  cases rr with
  | cons r' rr =>
   cases rr
   have R1:=R.step ee f1
   obtain⟨κ1,a,us,rfl,h1,s1⟩:=Gr (U:=C.U) r hd R.uV R1.vM
   obtain⟨κ2,b,us',rfl,h2,s2⟩:=Gr (U:=C.U) r' he R.uV R1.vM
   refine⟨κ1,κ2,a,b,us,us',rfl,s1 M H1 (Pres.refl _ _) (Ext.refl _ _),s2 M H1 (Pres.refl _ _) (Ext.refl _ _),q _ H1 _ n1 ee f1 (λi M' H' pr ex dom=>IG h1 h2 pr (s1 M' H' pr ex) (s2 M' H' pr ex) dom) p⟩
theorem X6(hg:Gl X "zip")(hm:X.mg "zip"=none)(ha:YW X [e1,e2] ws)(hs:autoParam (starEach [e1,e2] X.env=[(false,eval e1 X.env),(false,eval e2 X.env)]) zau3._auto_1)(hs2:autoParam (starEach [e2] X.env=[(false,eval e2 X.env)]) zau3._auto_1) :
  DI X (.Tuple es j tpos) (.Call (.Name "zip" p) [e1,e2] [] pos) (Ru ws):=by
 obtain⟨t,a1,a2⟩:=ha
 refine⟨_,Sq hg hm a1 hs hs2,λC M H n ρ σ P Rr R w q=>?_⟩
 refine a2 C M H n ρ σ _ _ R w λvs H1 ds n1 ee f1 r1 p=>?_
 obtain⟨d,e,xs,ys,rfl,hd,he,p⟩:=p
 obtain⟨v,r,rfl,r1,v',r',rfl,r2,rr⟩:=r1
 cases (show r'=[] from rr)
 obtain⟨κ1,a,us,rfl,h1,s1⟩:=OA r1 hd
 obtain⟨κ2,b,us',rfl,h2,s2⟩:=OA r2 he
 exact⟨κ1,κ2,a,b,us,us',rfl,s1 M H1 (Pres.refl _ _),s2 M H1 (Pres.refl _ _),q _ H1 _ n1 ee f1 (λi M' H' pr dom=>IG h1 h2 pr (s1 M' H' pr) (s2 M' H' pr) dom) p⟩
noncomputable def aF:D->Option Key
 | .int i=>some (.inl i)
 | .str x=>some (.inr x)
 | _=>none
noncomputable def GA:List D->Option (List Key)
 | []=>some []
 | d::ds=>match aF d,GA ds with
  | some k,some ks=>some (k::ks)
  | _,_=>none
theorem F_{K:Frag}{M:Addr->Prop}{H:Hp}:∀{ds:List D} {vs:List V} {ks:List Key},GA ds=some ks->Ats K M H ds vs->vs=ks.map kOf
 | [],vs,ks,e,h=>by cases e; exact h
 | d::ds,vs,ks,e,h=>by
  obtain⟨v,r,e1,h1,h2⟩:=h
  unfold GA at e
  split at e
  ·rename_i k ks' hk hks
   cases e
   rw [e1,F_ hks h2,bE]
   congr 1
   cases d with
   | int i=>cases hk; exact h1
   | str x=>cases hk; exact h1.1
   | _=>cases hk
  ·cases e
noncomputable def NS(d e:D)(P:D->Prop):Prop:=match d,e with
 | .int i,.int j=>P (.bl (decide (i<j)))
 | .str i,.str j=>P (.bl (decide (i.cps.toList<j.cps.toList)))
 | .tup xs,.tup ys=>∃ks ls,GA xs=some ks/\GA ys=some ls/\BV ks ls=true/\P (.bl (EO ks ls))
 | _,_=>False
noncomputable def Y0(K:Frag):R2:=λx y H Q=>XH x y H Q\/Yz K x y H Q
theorem S6{k:Nat}(hr:Room k X.A):OpR X (compareOp .Lt) (Y0 X.K):=op_ltU.or (XZ hr.units0)
theorem Wl:Ez X.K .sh (Y0 X.K) NS:=λU M H d e x y P Q dom vM hx hy w q=>by
 unfold NS at w
 split at w
 ·exact .inl (Wj (X:=X) U M H (.int _) (.int _) x y P Q dom vM hx hy w q)
 ·exact .inl (Wj (X:=X) U M H (.str _) (.str _) x y P Q dom vM hx hy w q)
 ·obtain⟨ks,ls,h1,h2,h3,w⟩:=w
  obtain⟨a,vs,rfl,ha,hs⟩:=hx.tup
  obtain⟨b,us,rfl,hb,ht⟩:=hy.tup
  have e1:=F_ h1 hs
  have e2:=F_ h2 ht
  subst e1 e2
  exact .inr ⟨a,b,ks,ls,rfl,rfl,ha.sq,hb.sq,h3,q _ H (.bl _) .refl rfl w⟩
 ·exact w.elim
end
end Dp
namespace L2
open PySem PySem.Spec PyProof.Rows
section
variable {prog:Program}{w:World}{A:Around}{E:Value->Shared->Prop}{s:Shared}
theorem MR{t sl:Addr}{items:Array Value}{vl vu:Value}{lo hi:Option Int}{Q:Value->Shared->Prop}(ht:IsTup s.heap t items)(hs:s.heap.IsSliceOf sl vl vu .none)(pl:IsPart vl lo)(pu:IsPart vu hi)
  (hw:HT.sIx items.size 0 lo=0/\HT.sIx items.size items.size hi=items.size) (h:Q (.ref t) s):wpAny (model prog w) A (getItem (.ref t) (.ref sl)) Q E s:=by
 obtain⟨os,hos,hcs,hds⟩:=id hs
 have hTs:s.TypeIs (.ref sl) "slice":=⟨os,hos,hcs⟩
 unfold getItem
 (try with_reducible refine bw ?_); (first | refine Ch (Go ?_) | skip)
 refine Ch (gl ht.typeIs (by decide) (Ch (bo (name:=cX "__getitem__") ht.typeIs bZ (cP bZ ht.typeIs gH ?_ (gS _ _)))))
 show wpAny (model prog w) _ (e7 (.ref t) >>= _) _ _ s
 refine Ch (tupleItemsOf_ ht (Ch (dS hTs ?_))); rw [if_pos (by decide)]
 refine Ch (HT.sliceApplied_gen hs pl pu ?_)
 have hyes:(((HT.sIx items.size 0 lo:Nat):Int)==0&&(1:Int)==1&&(HT.sIx items.size items.size hi - HT.sIx items.size 0 lo)==items.size)=true:=by rw [hw.1,hw.2]; simp
 show wpAny (model prog w) _ (if (((HT.sIx items.size 0 lo:Nat):Int)==0&&(1:Int)==1&&(HT.sIx items.size items.size hi - HT.sIx items.size 0 lo)==items.size)=true then _ else _) _ _ s
 rw [if_pos hyes]
 refine Ch (m:=gf _) ?_
 unfold gf
 refine Ch (dS ht.typeIs (Go ?_))
 show wpAny (model prog w) _ (if ((fQ "tuple"==fQ "tuple")=true) then _ else _) _ _ s
 rw [if_pos (by decide)]
 first
  | exact Ch (en (Ch (Go (Go ⟨_,rfl,Go h⟩))))
  | exact Ch (en (Go ⟨_,rfl,Go h⟩))
  | exact Ch (Ch (en (Go (Go ⟨_,rfl,Go h⟩))))
theorem JM{α β:Type}{f g:α->Option β}:∀{l:List α},(∀a∈l,f a=g a)->l.filterMap f=l.filterMap g
 | [],_=>rfl
 | a::l,h=>by
  have ih:=JM (f:=f) (g:=g) (l:=l) λx hx=>h x (Rs _ hx)
  rw [dJ,dJ,h a No,ih]
theorem SQ(l:List Value):∀(n:Nat),n<=l.length->((bU n).filterMap fun(k:Nat)=>l[n - 1 - k]?)=(l.take n).reverse:=by
 intro n
 induction n with
 | zero=>intro _; simp
 | succ n ih =>
  intro h
  have hlt:n<l.length:=h
  rw [iP,dJ]
  have e0:l[n+1 - 1 - 0]?=some l[n]:=by rw [show n+1 - 1 - 0=n by omega,Db hlt]
  simp only [e0]
  rw [gR]
  have e1:((fun(k:Nat)=>l[n+1 - 1 - k]?)∘Nat.succ)=fun(k:Nat)=>l[n - 1 - k]?:=by
   funext k
   show l[n+1 - 1 - (k+1)]?=l[n - 1 - k]?
   rw [show n+1 - 1 - (k+1)=n - 1 - k by omega]
  rw [e1,ih (by omega),gq,Db hlt,List.reverse_append]
  rfl
theorem Fw(xs:Array Value):((bU xs.size).filterMap fun(k:Nat)=>xs[(((xs.size:Int) - 1)+(k:Int)*(-1)).toNat]?).toArray=xs.toList.reverse.toArray:=by
 have h:=SQ xs.toList xs.toList.length (Op _)
 rw [dO] at h
 have e:(bU xs.size).filterMap (fun(k:Nat)=>xs[(((xs.size:Int) - 1)+(k:Int)*(-1)).toNat]?)=(bU xs.toList.length).filterMap fun(k:Nat)=>xs.toList[xs.toList.length - 1 - k]?:=by
  rw [show xs.toList.length=xs.size from bi]
  refine JM λk hk=>?_
  have hk:=cu.mp hk
  rw [show (((xs.size:Int) - 1)+(k:Int)*(-1)).toNat=xs.size - 1 - k by omega]
  simp
 rw [e,h]
theorem Nn{sl:Addr}{t:Tok}{n:Nat}{Q:Int×Int×Nat->Shared->Prop}(hs:s.heap.IsSliceOf sl .none .none (.int (-1) t))(h:Q ((n:Int) - 1,-1,n) s):wpAny (model prog w) A (dk (.ref sl) (pure (n:Int))) Q E s:=by
 obtain⟨os,hos,hcs,hds⟩:=id hs
 unfold dk gw
 refine Ch (Ch (bn hos hds (x:=.none) rfl (Ch (bn hos hds (x:=.none) rfl (Ch (bn hos hds (x:=.int (-1) t) rfl (Go ?_)))))))
 refine Ch (HT.slicePart_ (IsPart.int (-1) t) ?_)
 show wpAny (model prog w) _ (if ((-1:Int)==0)=true then _ else _) _ _ s
 rw [if_neg (by decide)]
 refine Ch (HT.slicePart_ IsPart.none (Ch (HT.slicePart_ IsPart.none (Ch (Go ?_)))))
 show wpAny (model prog w) _ (match c8 none none (-1) (n:Int) with | (lo,hi)=>pure (lo,(-1:Int),cL lo hi (-1))) _ _ s
 have e1:c8 none none (-1) (n:Int)=((n:Int) - 1,-1):=rfl
 rw [e1]
 have e2:cL ((n:Int) - 1) (-1) (-1)=n:=by
  unfold cL
  rw [if_neg (by decide)]
  by_cases hn:(n:Int) - 1 > -1
  ·rw [if_pos hn]
   simp
  ·rw [if_neg hn]
   omega
 show wpAny (model prog w) _ (pure ((n:Int) - 1,(-1:Int),cL ((n:Int) - 1) (-1) (-1))) _ _ s
 rw [e2]
 exact Go h
theorem QV{t sl:Addr}{items:Array Value}{tk:Tok}{Q:Value->Shared->Prop}(ht:IsTup s.heap t items)(hs:s.heap.IsSliceOf sl .none .none (.int (-1) tk))(hsz:items.size<=sizeLine)
  (h:Q (.ref s.heap.objs.size) { s with heap:=s.heap.push { cls:=.type "tuple",data:=.seq items.toList.reverse.toArray } }):wpAny (model prog w) A (getItem (.ref t) (.ref sl)) Q E s:=by
 obtain⟨os,hos,hcs,hds⟩:=id hs
 have hTs:s.TypeIs (.ref sl) "slice":=⟨os,hos,hcs⟩
 have htake:sizeOk (.seq items.toList.reverse.toArray):=by
  show items.toList.reverse.toArray.size<=sizeLine
  simpa using hsz
 unfold getItem
 (try with_reducible refine bw ?_); (first | refine Ch (Go ?_) | skip)
 refine Ch (gl ht.typeIs (by decide) (Ch (bo (name:=cX "__getitem__") ht.typeIs bZ (cP bZ ht.typeIs gH ?_ (gS _ _)))))
 show wpAny (model prog w) _ (e7 (.ref t) >>= _) _ _ s
 refine Ch (tupleItemsOf_ ht (Ch (dS hTs ?_))); rw [if_pos (by decide)]
 refine Ch (Nn hs ?_)
 have hno:¬(((items.size:Int) - 1==0&&(-1:Int)==1&&items.size==items.size)=true):=by simp
 show wpAny (model prog w) _ (if ((items.size:Int) - 1==0&&(-1:Int)==1&&items.size==items.size)=true then _ else _) _ _ s
 rw [if_neg hno,Fw]
 first
  | exact Ch (m:=bu _) (bY (Go ⟨_,rfl,Go h⟩) htake)
  | exact Ch (m:=bu _) (bY (Ch (Go (Go ⟨_,rfl,Go h⟩))) htake)
  | exact Ch (Ch (m:=bu _) (bY (Go (Go ⟨_,rfl,Go h⟩)) htake))
  | exact Ch (Ch (m:=bu _) (bY (Go ⟨_,rfl,Go h⟩) htake))
theorem Jw(items:Array Value):slicePick items none none (some (-1))=items.toList.reverse.toArray:=by
 unfold slicePick
 have e1:sliceBounds none none (some (-1)) items.size=((items.size:Int) - 1,-1,-1):=rfl
 rw [e1]
 simp only [sliceRange]
 rw [← Fw,gR]
 congr 1
 have e2:(if (-1:Int) > 0 then if (items.size:Int) - 1 < -1 then (-1 - ((items.size:Int) - 1)+-1 - 1) / -1 else 0 else if (items.size:Int) - 1 > -1 then ((items.size:Int) - 1 - -1 - -1 - 1) / - -1 else 0).toNat=items.size:=by
  rw [if_neg (by decide)]
  by_cases hn:(items.size:Int) - 1 > -1
  ·rw [if_pos hn]
   have:- -1=(1:Int):=rfl
   rw [this,Int.ediv_one]
   omega
  ·rw [if_neg hn]
   omega
 rw [e2]
 refine JM λk _=>?_
 show items[((items.size:Int) - 1+-1*(k:Int)).toNat]?=items[((items.size:Int) - 1+(k:Int)*(-1)).toNat]?
 rw [eZ]
end
section
variable {X:Cx}{e st:Expr}{te tst:TE}{pos p2:Pos}
noncomputable def aA(K:Frag):V->Hp->VK->Prop:=λx H Q=>(∃a xs,x=.ref a/\SqL K H a xs/\∀p,H p=none->Q (.ref p) (As H p (.lst xs.reverse)))\/∃a xs,x=.ref a/\SqT K H a xs/\∀p,H p=none->Q (.ref p) (As H p (.tup xs.reverse))
noncomputable def Z6(K:Frag)(te tst:TE):TE:=λσ H Q=>te σ H λx H1=>tst σ H1 λi H2=>i=.int (-1)/\aA K x H2 Q
theorem XS(he:PE X e te)(hst:PE X st tst):PE X (.Subscript e (.Slice none none (some st) p2) pos) (Z6 X.K te tst):=by
 intro pins s σ H Q I h
 refine Subscript_ (thn (he pins s σ H _ I h) λv s1 ⟨x,H1,I1,r1,q1⟩=>?_)
 refine wpAny_Slice ?_
 rw [evalPart_none,evalPart_some]
 refine Go (Go (thn (hst pins s1 σ H1 _ I1 q1) λvs s3 ⟨i,H3,I3,r3,q3⟩=>?_))
 obtain⟨rfl,q3⟩:=q3
 obtain⟨t,rfl⟩:=r3
 have I4:Inv X pins σ H3 { s3 with heap:=s3.heap.push { cls:=.type "slice",data:=.fields #[.none,.none,.int (-1) t] } }:=I3.kept (t':=s3.toks) λb ob q=>Ev _ q
 have hs:({ s3 with heap:=s3.heap.push { cls:=.type "slice",data:=.fields #[.none,.none,.int (-1) t] } }:Shared).heap.IsSliceOf s3.heap.objs.size .none .none (.int (-1) t):=i7 ..
 show wpAny (model X.prog X.w) X.A (subscriptTail e (.Slice none none (some st) p2) v (.ref s3.heap.objs.size)) (EP X pins σ Q) X.xe { s3 with heap:=s3.heap.push { cls:=.type "slice",data:=.fields #[.none,.none,.int (-1) t] } }
 rcases q3 with ⟨a,xs,rfl,hq,q⟩ | ⟨a,xs,rfl,hq,q⟩
 ·cases r1
  obtain⟨its,r,ht,hz⟩:=I4.list hq
  have hlen:=r.length
  refine tail_any (ops:=[.ref a,.ref s3.heap.objs.size]) ht.isList.typeIs gm.lookup ?_ (by with_unfolding_all rfl)
  refine wpAny_getItem_list_slice ht.isList hs .none .none (.int (-1) t) (by decide) ?_ (by rw [Re]; omega)
  rw [Jw]
  refine⟨.ref _,_,I4.laid (t':=s3.toks) (o:=.lst xs.reverse) (λb ob q=>Ev _ q) (Op _) ?_,rfl,q _ (I4.hok.fresh (Op _))⟩
  exact⟨by rw [dM]; exact hz,_,0,r.reverse,Sc _ rfl⟩
 ·cases r1
  obtain⟨its,r,ht,hz⟩:=I4.tuple hq
  have hlen:=r.length
  refine tail_any (ops:=[.ref a,.ref s3.heap.objs.size]) ht.typeIs bZ.lookup ?_ (by with_unfolding_all rfl)
  refine QV ht hs (by rw [Re]; omega) ?_
  refine⟨.ref _,_,I4.laid (t':=s3.toks) (o:=.tup xs.reverse) (λb ob q=>Ev _ q) (Op _) ?_,rfl,q _ (I4.hok.fresh (Op _))⟩
  exact⟨by rw [dM]; exact hz,_,r.reverse,IsTupN.new _ _⟩
noncomputable def WK(K:Frag):V->Option Int->Option Int->Hp->VK->Prop:=λx lo hi H Q=>∃a xs,x=.ref a/\SqT K H a xs/\(HT.sIx xs.length 0 lo=0/\HT.sIx xs.length xs.length hi=xs.length)/\Q (.ref a) H
theorem Uv:SlR X (WK X.K):=by
 intro pins s σ H x v vl vu lo hi sl Q I rx hs pl pu h
 obtain⟨a,xs,rfl,hx,hw,q⟩:=h
 cases rx
 obtain⟨its,r,ht,hz⟩:=I.tuple hx
 have hlen:its.toArray.size=xs.length:=by rw [Re]; exact r.length.symm
 exact⟨"tuple",_,bZ.lookup,ht.typeIs,MR ht hs pl pu (by rw [hlen]; exact hw) ⟨.ref a,H,I,rfl,q⟩⟩
end
section
variable {X:Cx}
noncomputable def Se(K:Frag):R2:=λx y H Q=>∃a b ys,x=.ref a/\y=.ref b/\SqT K H a []/\SqT K H b ys/\Q (.ref b) H
theorem S_:OpR X (binaryOp .Add) (Se X.K):=by
 intro pins s σ H x y v u Q I rx ry h
 obtain⟨a,b,ys,rfl,rfl,ha,hb,q⟩:=h
 cases rx
 cases ry
 obtain⟨its,r1,p1,_⟩:=I.tuple ha
 obtain⟨its2,r2,p2,_⟩:=I.tuple hb
 cases r1
 obtain⟨⟨cls,dd,data,sl⟩,ho,hc,n,hd⟩:=id p1
 obtain⟨⟨cls2,dd2,data2,sl2⟩,ho2,hc2,n2,hd2⟩:=id p2
 simp only at hc hd hc2 hd2
 subst hc hd hc2 hd2
 exact concat_meets ⟨_,ho,rfl⟩ ⟨_,ho2,rfl⟩ g8 seq_tuple_add PySem.F.slot_tuple_add PySem.F.entry_tuple_add (PySem.F.args_tuple_add_2 _ _) (tuple_addW0 a b _ its2.toArray n n2 dd dd2 sl sl2 (by simp)) ⟨ho,ho2,⟨.ref b,H,I,rfl,q⟩⟩
noncomputable def bI(b:Bool):Int:=if b=true then 1 else 0
noncomputable def Zo(g:Int->Int->Int):R2:=λx y H Q=>∃k j,x=.bl k/\y=.int j/\Q (.int (g (bI k) j)) H
noncomputable def aW(g:Int->Int->Int):R2:=λx y H Q=>∃i k,x=.int i/\y=.bl k/\Q (.int (g i (bI k))) H
theorem op_add_bi:OpR X (binaryOp .Add) (Zo λi j=>i+j):=by
 intro pins s σ H x y v u Q I rx ry h
 obtain⟨k,j,rfl,rfl,q⟩:=h
 cases rx
 obtain⟨t,rfl⟩:=ry
 exact PySem.IntBool.add_bool_int ⟨.int _,H,I.tok _,⟨_,rfl⟩,q⟩
theorem op_sub_bi:OpR X (binaryOp .Sub) (Zo λi j=>i - j):=by
 intro pins s σ H x y v u Q I rx ry h
 obtain⟨k,j,rfl,rfl,q⟩:=h
 cases rx
 obtain⟨t,rfl⟩:=ry
 exact PySem.IntBool.sub_bool_int ⟨.int _,H,I.tok _,⟨_,rfl⟩,q⟩
theorem Qm:OpR X (binaryOp .Sub) (aW λi j=>i - j):=by
 intro pins s σ H x y v u Q I rx ry h
 obtain⟨i,k,rfl,rfl,q⟩:=h
 obtain⟨t,rfl⟩:=rx
 cases ry
 exact PySem.IntBool.sub_int_bool ⟨.int _,H,I.tok _,⟨_,rfl⟩,q⟩
noncomputable def XI(neg:Bool):R2:=λx y H Q=>∃a b,x=.bl a/\y=.bl b/\Q (.bl (if neg then !(a==b) else a==b)) H
theorem Xb:OpR X (compareOp .Is) (XI false):=by
 intro pins s σ H x y v u Q I rx ry h
 obtain⟨a,b,rfl,rfl,q⟩:=h
 cases rx
 cases ry
 exact is_bool ⟨.bl _,H,I,rfl,q⟩
theorem Qr:OpR X (compareOp .IsNot) (XI true):=by
 intro pins s σ H x y v u Q I rx ry h
 obtain⟨a,b,rfl,rfl,q⟩:=h
 cases rx
 cases ry
 exact isnot_bool ⟨.bl _,H,I,rfl,q⟩
end
end L2
namespace Dp
open PySem PySem.Spec PyProof.Rows L2
section
variable {K:Frag}{X:Cx}
noncomputable def DK(d e:D)(P:D->Prop):Prop:=match d,e with
 | .int i,.int j=>P (.int (i+j))
 | .bl k,.int j=>P (.int (bI k+j))
 | .str i,.str j=>i.length+j.length<=sizeLine/\P (.str (i++j))
 | .tup i,.tup j=>i.length+j.length<=sizeLine/\P (.tup (i++j))
 | .lst i,.lst j=>i.length+j.length<=sizeLine/\P (.lst (i++j))
 | _,_=>False
noncomputable def WU(K:Frag):R2:=λx y H Q=>Sg K x y H Q\/(Zo λi j=>i+j) x y H Q\/Se K x y H Q
theorem B5:OpR X (binaryOp .Add) (WU X.K):=op_addU.or (op_add_bi.or S_)
theorem C8:Ez X.K .sh (WU X.K) DK:=λU M H d e x y P Q dom vM hx hy w q=>by
 unfold DK at w
 split at w
 ·exact .inl (L8 (X:=X) U M H (.int _) (.int _) x y P Q dom vM hx hy w q)
 ·rename_i k j
  exact .inr (.inl ⟨k,j,hx,hy,q _ H (.int _) .refl rfl w⟩)
 ·exact .inl (L8 (X:=X) U M H (.str _) (.str _) x y P Q dom vM hx hy w q)
 ·rename_i i j
  cases i with
  | nil =>
   obtain⟨a,vs,rfl,ha,hs⟩:=hx.tup
   obtain⟨b,us,rfl,hb,ht⟩:=hy.tup
   cases (show vs=[] from hs)
   exact .inr (.inr ⟨a,b,us,rfl,rfl,ha.sq,hb.sq,q _ H (.tup j) .refl ⟨b,us,rfl,hb,ht⟩ (by have:=w.2; rw [cD] at this; exact this)⟩)
  | cons i0 i=>exact .inl (L8 (X:=X) U M H (.tup (i0::i)) (.tup j) x y P Q dom vM hx hy ⟨(by intro z; cases z),w⟩ q)
 ·exact .inl (L8 (X:=X) U M H (.lst _) (.lst _) x y P Q dom vM hx hy w q)
 ·exact w.elim
noncomputable def Kf(d e:D)(P:D->Prop):Prop:=match d,e with
 | .int i,.int j=>P (.int (i - j))
 | .bl k,.int j=>P (.int (bI k - j))
 | .int i,.bl k=>P (.int (i - bI k))
 | _,_=>False
noncomputable def WH:R2:=λx y H Q=>(G_ λi j=>.int (i - j)) x y H Q\/(Zo λi j=>i - j) x y H Q\/(aW λi j=>i - j) x y H Q
theorem Hx:OpR X (binaryOp .Sub) WH:=op_sub.or (op_sub_bi.or Qm)
theorem L6:Ez K .sh WH Kf:=λU M H d e x y P Q dom vM hx hy w q=>by
 unfold Kf at w
 split at w
 ·exact .inl (UT (K:=K) (g:=λi j=>i - j) U M H (.int _) (.int _) x y P Q dom vM hx hy w q)
 ·rename_i k j
  exact .inr (.inl ⟨k,j,hx,hy,q _ H (.int _) .refl rfl w⟩)
 ·rename_i i k
  exact .inr (.inr ⟨i,k,hx,hy,q _ H (.int _) .refl rfl w⟩)
 ·exact w.elim
noncomputable def Vb(neg:Bool)(d e:D)(P:D->Prop):Prop:=match d,e with
 | .bl a,.bl b=>P (.bl (if neg then !(a==b) else a==b))
 | _,_=>False
theorem Wm{neg:Bool}:Ez K .sh (XI neg) (Vb neg):=λU M H d e x y P Q dom vM hx hy w q=>by
 unfold Vb at w
 split at w
 ·rename_i a b
  exact⟨a,b,hx,hy,q _ H (.bl _) .refl rfl w⟩
 ·exact w.elim
noncomputable def Oj(d:D)(lo hi:Option Int)(P:D->Prop):Prop:=match d with
 | .str z=>P (.str (Txt.slice z lo hi))
 | .lst xs=>P (.lst (cutD xs lo hi))
 | .tup xs=>P (.tup (cutD xs lo hi))
 | _=>False
noncomputable def Yy(K:Frag):V->Option Int->Option Int->Hp->VK->Prop:=λx lo hi H Q=>Yv x lo hi H Q\/Yx K x lo hi H Q\/Yw K x lo hi H Q\/WK K x lo hi H Q
theorem SI:SlR X (Yy X.K):=sl_U.or (sl_list.or (sl_tup.or Uv))
theorem P4{M:Addr->Prop}{H:Hp}{ds:List D}{vs:List V}(lo hi:Option Int)(h:Ats K M H ds vs):Ats K M H (cutD ds lo hi) (Jz vs lo hi):=by
 unfold cutD Jz
 rw [h.length]
 exact(h.drop _).take _
theorem Nq:ac K .sh (Yy K) Oj:=by
 intro U M H d x lo hi P Q dom vM hx w q
 unfold Oj at w
 split at w
 ·rename_i z
  exact .inl ⟨z,hx.str.1,hx.str.2,q _ H (.str (Txt.slice z lo hi)) .refl ⟨rfl,bS (Txt.slice_le z lo hi) hx.str.2⟩ w⟩
 ·rename_i xs
  obtain⟨a,vs,rfl,_,ha,hs⟩:=hx
  exact .inr (.inl ⟨a,vs,rfl,.inl ha,λp hp=>q _ _ (.lst _) (Al hp) ((CW (U:=U) hp (P4 lo hi hs)).shOf dom (by intro z; cases z)) w⟩)
 ·rename_i xs
  obtain⟨a,vs,rfl,ha,hs⟩:=hx.tup
  by_cases hw:HT.sIx vs.length 0 lo=0/\HT.sIx vs.length vs.length hi=vs.length
  ·refine .inr (.inr (.inr ⟨a,vs,rfl,ha.sq,hw,?_⟩))
   have e:cutD xs lo hi=xs:=by
    unfold cutD
    rw [← hs.length,hw.1,hw.2,List.drop_zero,Nat.sub_zero,hs.length,dO]
   rw [e] at w
   exact q _ H (.tup xs) .refl ⟨a,vs,rfl,ha,hs⟩ w
  ·exact .inr (.inr (.inl ⟨a,vs,rfl,ha.sq,hw,λp hp=>q _ _ (.tup _) (Al hp) (B9 dom hp (P4 lo hi hs)) w⟩))
 ·exact w.elim
noncomputable def Yb(wa wst:DW):DW:=λn ρ P=>wa n ρ λd n1=>wst n1 ρ λi n2=>i=.int (-1)/\match d with
 | .lst xs=>P (.lst xs.reverse) n2
 | .tup xs=>P (.tup xs.reverse) n2
 | _=>False
theorem X7{a st:Expr}{κa κs:Kd}{wa wst:DW}{pos p2:Pos}(ha:DE X a κa wa)(hst:DE X st κs wst):DE X (.Subscript a (.Slice none none (some st) p2) pos) .sh (Yb wa wst):=by
 obtain⟨t,h1,h2⟩:=ha
 obtain⟨u,g1,g2⟩:=hst
 refine⟨_,XS h1 g1,λC M H n ρ σ P Q R w q=>?_⟩
 refine h2 C M H n ρ σ _ _ R w λv H1 d n1 e1 f1 r1 p=>?_
 have R1:=R.step e1 f1
 have tv:=r1.tpOf R.dom R.vM
 refine g2 C M H1 n1 ρ σ _ _ R1 p λi H2 z n2 e2 f2 r2 p2=>?_
 have R2':=R1.step e2 f2
 have tv2:=tv.pres (R1.pres e2) e2 R.uV
 obtain⟨rfl,p2⟩:=p2
 refine⟨Li r2,?_⟩
 cases d with
 | lst xs =>
  obtain⟨a,vs,rfl,_,ha,hs⟩:=tv2
  refine .inl ⟨a,vs,rfl,.inl ha,λp hp=>?_⟩
  have g:Grow H2 (As H2 p (.lst vs.reverse)):=Al hp
  exact q _ _ (.lst xs.reverse) n2 ((e1.trans e2).trans g.ext) (f2.grow g) ((CW (U:=C.V) hp hs.reverse).shOf R2'.dom (by intro z; cases z)) p2
 | tup xs =>
  obtain⟨a,vs,rfl,ha,hs⟩:=tv2.tup
  refine .inr ⟨a,vs,rfl,ha.sq,λp hp=>?_⟩
  have g:Grow H2 (As H2 p (.tup vs.reverse)):=Al hp
  exact q _ _ (.tup xs.reverse) n2 ((e1.trans e2).trans g.ext) (f2.grow g) (B9 R2'.dom hp hs.reverse) p2
 | _=>exact p2.elim
end
end Dp
namespace Nt
open PySem PySem.Spec PyProof.Rows L2 Dp
noncomputable def Cu:W2:=λss n P=>∃m:Int,ss=[.fd,.sh (.int m)]/\1<=m/\m<1073741824/\1<=n/\∀r:Int,0<=r->r<m->P (.int r) (n - 1)
noncomputable def cs(x:Str):List Nat:=x.cps.toList
theorem X_{x y:Str}(h:cs x=cs y):x=y:=by
 obtain⟨a⟩:=x
 obtain⟨b⟩:=y
 unfold cs at h
 exact congrArg Str.mk (Array.ext' h)
noncomputable def VS(x:Str):Prop:=1<=x.length/\x.length<=8/\∀c∈cs x,97<=c/\c<=122
noncomputable def rising(xs:List Str):Prop:=xs.Pairwise λx y=>cs x<cs y
theorem TJ(a b:List Nat):ltCps a b=decide (a<b):=ltCps_eq a b
theorem HB:∀(l:List Str) (p:Str),risingS p l=true->(p::l).Pairwise λa b=>¬cs b<cs a
 | [],p,_=>iG _ _
 | x::r,p,h=>by
  have h':(!ltCps x.cps.toList p.cps.toList&&risingS x r)=true:=h
  rw [bL,Bool.not_eq_true',TJ,decide_eq_false_iff_not] at h'
  have ih:=HB r x h'.2
  refine b8.mpr ⟨λy hy=>?_,ih⟩
  rcases TM.mp hy with rfl | hy
  ·exact h'.1
  ·have h2:=(b8.mp ih).1 y hy
   exact List.le_trans (l₁:=cs p) (l₂:=cs x) (l₃:=cs y) h'.1 h2
theorem Ji{l:List Str}(h:sortedS l=true)(nd:l.Nodup):rising l:=by
 have hp:l.Pairwise λa b=>¬cs b<cs a:=by
  cases l with
  | nil=>exact gn
  | cons x r=>exact HB r x h
 refine(hp.and nd).imp λ{a b} ⟨h1,h2⟩=>?_
 exact fE λh3=>h2 (X_ (List.le_antisymm (as:=cs a) (bs:=cs b) h1 h3))
theorem Ic(lo:Int)(n:Nat):(EH lo n).length=n:=by unfold EH; rw [FM,dH]
theorem SN{lo:Int}{n:Nat}{d:D}(h:d∈EH lo n):∃k:Nat,k<n/\d=.int (lo+k):=by
 unfold EH at h
 obtain⟨k,hk,rfl⟩:=ZB.mp h
 exact⟨k,cu.mp hk,rfl⟩
end Nt
namespace Dp
open PySem PySem.Spec PyProof.Rows L2
section
variable {X:Cx}
theorem RO{k:Nat}{ps:List Str}{κ:Kd}{W:W2}{x:Str}{p pos:Pos}(G:Got X.prog X.w X.K X.mg X.base x k ps κ W)
  (hr:Room k X.A) (hg:Gl X x) (hdb:autoParam ((x==("__debug__" : Str))=false) zau1._auto_1):DE X (.Call (.Name x p) [] [] pos) κ (AV W AW):=by
 obtain⟨f,fd,G,hm,hk,hb,hW⟩:=G
 refine⟨_,Sy G hr hg hm hk hb .nil Sz hdb,λC M H n ρ σ P Q R w q=>?_⟩
 show Ci X.K κ W ps.length ([]++[]) H Q E0
 rw [bh]
 refine⟨hW _ _ _ w,C.F,C.U,C.V,M,n,[],P,⟨R.dom,R.fU,R.uV,R.vM,R.feed,.nil⟩,w,λv H2 d n2 e2 f2 r2 p2=>?_⟩
 exact q v H2 d n2 e2 f2 r2 p2
end
end Dp
namespace K66
open PySem PySem.Spec PyProof.Rows L2 Dp Nt
noncomputable def top(i:Nat):Stmt:=PySem.Challenge.pw_thinnet_k66_whole_thinned_twice.main.body.getD i (.Pass ⟨0,0,0,0⟩)
noncomputable abbrev FS:Stmt:=top 1
noncomputable abbrev Cz:Stmt:=top 2
noncomputable abbrev EA:Stmt:=top 3
noncomputable abbrev Gu:Stmt:=top 4
noncomputable abbrev FP:Stmt:=top 5
noncomputable abbrev FO:Stmt:=top 6
noncomputable abbrev OE:Stmt:=top 7
noncomputable abbrev D_:Stmt:=top 8
noncomputable abbrev Gw:Stmt:=top 9
noncomputable abbrev FR:Stmt:=top 10
noncomputable abbrev D8:Stmt:=top 12
noncomputable abbrev Bt:Stmt:=top 13
noncomputable abbrev D6:Stmt:=top 14
noncomputable abbrev DY:Stmt:=top 15
noncomputable abbrev DZ:Stmt:=top 16
noncomputable abbrev IZ:Stmt:=top 17
noncomputable abbrev Gv:Stmt:=top 19
noncomputable abbrev Bu:Stmt:=top 20
noncomputable abbrev Cy:Stmt:=top 21
noncomputable abbrev D4:Stmt:=top 22
noncomputable abbrev FT:Stmt:=top 23
noncomputable abbrev D9:Stmt:=top 28
noncomputable abbrev FQ:Stmt:=top 29
noncomputable abbrev Gs:Stmt:=top 30
noncomputable abbrev DX:Stmt:=top 31
noncomputable abbrev D5:Stmt:=top 33
noncomputable abbrev D7:Stmt:=top 34
noncomputable abbrev ED:Stmt:=top 36
noncomputable abbrev Ck:Stmt:=top 37
noncomputable abbrev Dc:Stmt:=top 38
noncomputable abbrev C0:Stmt:=top 39
noncomputable abbrev C1:Stmt:=top 40
noncomputable abbrev EB:Stmt:=top 41
noncomputable abbrev FU:Stmt:=top 42
noncomputable abbrev FV:Stmt:=top 43
noncomputable abbrev Bi:Stmt:=top 44
noncomputable abbrev Bj:Stmt:=top 45
noncomputable abbrev EC:Stmt:=top 46
noncomputable abbrev Ib:Stmt:=top 47
structure Txt (K:Frag) (mg:Str->Option Value):Prop where
 n_all:mg "all"=none
 n_bool:mg "bool"=none
 n_dict:mg "dict"=none
 n_enumerate:mg "enumerate"=none
 n_int:mg "int"=none
 n_isinstance:mg "isinstance"=none
 n_len:mg "len"=none
 n_list:mg "list"=none
 n_max:mg "max"=none
 n_min:mg "min"=none
 n_range:mg "range"=none
 n_reversed:mg "reversed"=none
 n_sorted:mg "sorted"=none
 n_str:mg "str"=none
 n_tuple:mg "tuple"=none
 n_zip:mg "zip"=none
section
variable {P:Program}{w:World}{K:Frag}{mg:Str->Option Value}{base:Heap}
theorem sc__law_next:AU ["_law_feed_here","_law_many","_law_digit","_law_at","_law_cell","_law_first"] ["_law_feed_here","_law_many"] (AN Ck):=⟨rfl,rfl,rfl,by decide +kernel,rfl,by decide +kernel,by decide +kernel⟩
theorem VG{f:Addr}{fd:FuncData}(F:Fun K "_law_next" "_law_next" Ck f fd)(ml:mg "len"=none):A0 P w K mg base Br 1 f fd ["_law_feed_here","_law_many"] (Ci K .sh Cu 2):=by
 refine F.ok sc__law_next (λvs H Q E h=>h.1) (λcdv A outer s H vs Q E hr h=>?_)
 obtain⟨hl,F0,U,V',M,n,ss,Pd,ra,⟨m,rfl,hm1,hm2,hn,hP⟩,q⟩:=h
 obtain⟨dom,fU,uV,vM,fd0,pa⟩:=ra
 cases pa with
 | cons r1 pa =>
 cases pa with
 | cons r2 pa =>
 cases pa
 obtain⟨⟨f0,c⟩,e0,hF⟩:=r1.1
 cases e0
 obtain⟨v2,e2,h2⟩:=r2.1
 cases e2
 cases (show _=V.int m from h2)
 obtain⟨a,r,cells,hf,hcf,hc,hcl,ha0,han⟩:=fd0 (f0,c) hF
 have fin:∀(a' r' z:Int) (H':Hp),(∀b o,H b=some o->b≠f0->H' b=some o)->H' f0=some (.lst [.ref c,.int a',.int r'])->0<=a'->a'<=a+1->0<=z->z<m->Q (.int z) H':=by
  intro a' r' z H' hk hf' h0 h1 hz0 hz1
  refine q (.int z) H' (.int z) (n - 1) (λb o e=>?_) (λg hg=>?_) rfl (hP z hz0 hz1)
  ·by_cases hb:b=f0
   ·subst hb
    exact⟨_,hf',λnu=>absurd (fU (b,c) hF) nu,λvs z=>by rw [z,hf] at e; cases e⟩
   ·exact⟨o,hk b o e hb,λ_=>rfl,λ_ _=>rfl⟩
  ·have:g=(f0,c):=UF (hg.symm.trans hF)
   subst this
   exact⟨a',r',cells,hf',hcf,⟨hc.1,hk c _ hc.2 hcf⟩,hcl,h0,by omega⟩
 have hu:(A.deeper (envOfC "_law_next" (AN Ck) s.heap.objs.size f cdv)).units<cLine:=hr.units0
 have hsq:∀{H':Hp} {xs:List V},H' f0=some (.lst xs)->SqL K H' f0 xs:=λh=>SqL.of h
 have ed:∀z:Int,0<=z % m/\z % m<m:=λz=>⟨iJ _ (by omega),gW _ (by omega)⟩
 refine⟨_,Ao (Mm (CH WX (BD ix_list (pv 0) Ap (λ_ _=>rfl)) Ap (Ar _))
   (Ao (C2 (i:=2) sc__law_next.nd rfl (bC rfl) (BO C3 (BD ix_list (pv 0) Ap (λ_ _=>rfl)) (pv 1)))
   (Ao (FW (BO Hy (BD ix_list (pv 0) Ap (λ_ _=>rfl)) (pv 1)) (FX (pv 0) Ap set_list))
   (BE (EK (pv 2))))) Fy)
  (Ao (C2 (i:=3) sc__law_next.nd rfl (bC rfl) (BD ix_list (pv 0) Ap (λ_ _=>rfl)))
  (Ao (FW (BO op_add (pv 3) Ap) (FX (pv 0) Ap set_list))
  (Ao (C2 (i:=4) sc__law_next.nd rfl (bC rfl) (Mp (CH (Qo hu) (BD ix_list (pv 0) Ap (λ_ _=>rfl)) (LP A9) (Ar _))
   (BD ix_list (BD ix_list (pv 0) Ap (λ_ _=>rfl)) (BO C3 (pv 3) (EM A7 rfl ml PySem.boot_len (Av (BD ix_list (pv 0) Ap (λ_ _=>rfl)) A9))) (λ_ _=>rfl)) Ap))
  (Ao (Mm (PW.pt (OK (CH WY (pv 4) (BO OR Ap Ap) (Ar _)) (LK (CH op_lt (pv 3) (EM A7 rfl ml PySem.boot_len (Av (BD ix_list (pv 0) Ap (λ_ _=>rfl)) A9)) (Ar _)))))
   (Ao (FW (BO Hy (pv 4) (pv 1)) (FX (pv 0) Ap set_list))
   (BE (EK (BO C3 (pv 4) (pv 1))))) Fy)
  (Ao (C2 (i:=5) sc__law_next.nd rfl (bC rfl) (BO C3 (BO op_mul (BO op_add (BO op_add (BO op_add (BO C3 (pv 4) Ap) (BO op_mul (BO op_mul Ap (pv 3)) (pv 3))) (BO op_mul Ap (pv 3))) Ap) Ap) Ap))
  (BE (EK (BO C3 (BO Hy (BO C3 (BO op_mul (BO op_add (pv 5) (BO op_mul Ap (pv 3))) Ap) Ap) Ap) (pv 1))))))))),?_⟩
 refine⟨_,rfl,f0,_,2,_,rfl,rfl,hsq hf,rfl,_,_,rfl,rfl,_,rfl,?_⟩
 refine Cg (λc1=>?_) (λc1=>?_)
 ·refine⟨_,rfl,f0,_,2,_,rfl,rfl,hsq hf,rfl,_,rfl,_,_,rfl,rfl,(by show (0:Int)<m; omega),?_⟩
  refine⟨_,rfl,f0,_,2,_,rfl,rfl,hsq hf,rfl,_,rfl,_,_,rfl,rfl,⟨(by show (0:Int)<m; omega),hm2⟩,_,rfl,f0,_,2,2,rfl,rfl,hf,rfl,?_⟩
  refine⟨_,rfl,?_⟩
  exact fin a _ _ _ (λb o e hb=>by rw [AK hb]; exact e) AT ha0 (by omega) (ed _).1 (ed _).2
 ·-- at=feed[1]; feed[1]=at+1
  refine⟨_,rfl,f0,_,1,_,rfl,rfl,hsq hf,rfl,?_⟩
  refine⟨_,rfl,_,_,rfl,rfl,_,rfl,f0,_,1,1,rfl,rfl,hf,rfl,?_⟩
  generalize hH1:As H f0 (.lst ([V.ref c,V.int a,V.int r].set 1 (V.int (a+1))))=H1
  have f1:H1 f0=some (.lst [.ref c,.int (a+1),.int r]):=by rw [← hH1]; exact AT
  have k1:∀b o,H b=some o->b≠f0->H1 b=some o:=λb o e hb=>by rw [← hH1,AK hb]; exact e
  have c1':H1 c=some (.lst (cells.map V.int)):=k1 c _ hc.2 hcf
  have rest:∀(z:Int) (H2:Hp),(∀b o,H1 b=some o->H2 b=some o) ->
    (N6 (Ym (Ys (SD (Cd (G_ λi j=>V.bl (decide (j<=i))) (BJ 4) (Cd (rI Ue λi j=>V.int (i ^ j.toNat)) (tC (V.int 10)) (tC (V.int 18))))) (SD (Cd (G_ λi j=>V.bl (decide (i<j))) (BJ 3) (Zn (λxs H Q=>∃x n,xs=[x]/\YS K x H n/\Q (V.int n) H) (MV (Cd (Qe K) (BJ 0) (tC (V.int 0))) QX))))) (N6 (MW (Cd (rI Ug λi j=>V.int (i / j)) (BJ 4) (BJ 1)) (Xx (BJ 0) (tC (V.int 2)) Sd)) (Uq (Cd (rI (λ_ j=>0<j) λi j=>V.int (i % j)) (BJ 4) (BJ 1)))) WE) (N6 (MW (Cd (rI (λ_ j=>0<j) λi j=>V.int (i % j)) (Cd (rI CMul λi j=>V.int (i*j)) (Cd (G_ λi j=>V.int (i+j)) (Cd (G_ λi j=>V.int (i+j)) (Cd (G_ λi j=>V.int (i+j)) (Cd (rI (λ_ j=>0<j) λi j=>V.int (i % j)) (BJ 4) (tC (V.int 1000003))) (Cd (rI CMul λi j=>V.int (i*j)) (Cd (rI CMul λi j=>V.int (i*j)) (tC (V.int 41)) (BJ 3)) (BJ 3))) (Cd (rI CMul λi j=>V.int (i*j)) (tC (V.int 17)) (BJ 3))) (tC (V.int 3))) (tC (V.int 51749))) (tC (V.int 999917))) (HE 5)) (Uq (Cd (rI (λ_ j=>0<j) λi j=>V.int (i % j)) (Cd (rI Ug λi j=>V.int (i / j)) (Cd (rI (λ_ j=>0<j) λi j=>V.int (i % j)) (Cd (rI CMul λi j=>V.int (i*j)) (Cd (G_ λi j=>V.int (i+j)) (BJ 5) (Cd (rI CMul λi j=>V.int (i*j)) (tC (V.int 8111)) (BJ 3))) (tC (V.int 39373))) (tC (V.int 2097143))) (tC (V.int 3))) (BJ 1)))))
     { nx:=λ_ H'=>Q .non H',rt:=Q } [some (.ref f0),some (.int m),none,some (.int a),some (.int z),none] H2:=by
   intro z H2 k2
   have f2:=k2 _ _ f1
   have c2:=k2 _ _ c1'
   have lastWay:∀H3:Hp,H3=H2->(N6 (MW (Cd (rI (λ_ j=>0<j) λi j=>V.int (i % j)) (Cd (rI CMul λi j=>V.int (i*j)) (Cd (G_ λi j=>V.int (i+j)) (Cd (G_ λi j=>V.int (i+j)) (Cd (G_ λi j=>V.int (i+j)) (Cd (rI (λ_ j=>0<j) λi j=>V.int (i % j)) (BJ 4) (tC (V.int 1000003))) (Cd (rI CMul λi j=>V.int (i*j)) (Cd (rI CMul λi j=>V.int (i*j)) (tC (V.int 41)) (BJ 3)) (BJ 3))) (Cd (rI CMul λi j=>V.int (i*j)) (tC (V.int 17)) (BJ 3))) (tC (V.int 3))) (tC (V.int 51749))) (tC (V.int 999917))) (HE 5)) (Uq (Cd (rI (λ_ j=>0<j) λi j=>V.int (i % j)) (Cd (rI Ug λi j=>V.int (i / j)) (Cd (rI (λ_ j=>0<j) λi j=>V.int (i % j)) (Cd (rI CMul λi j=>V.int (i*j)) (Cd (G_ λi j=>V.int (i+j)) (BJ 5) (Cd (rI CMul λi j=>V.int (i*j)) (tC (V.int 8111)) (BJ 3))) (tC (V.int 39373))) (tC (V.int 2097143))) (tC (V.int 3))) (BJ 1))))
     { nx:=λ_ H'=>Q .non H',rt:=Q } [some (.ref f0),some (.int m),none,some (.int a),some (.int z),none] H3:=by
    intro H3 e3
    subst e3
    have hb:CMul (41*a) a:=.inr ⟨by omega,by omega⟩
    refine⟨_,rfl,_,_,rfl,rfl,(by show (0:Int)<1000003; decide),_,rfl,_,_,rfl,rfl,.inl ⟨by decide,by decide⟩,_,rfl,_,_,rfl,rfl,hb,_,_,rfl,rfl,_,rfl,_,_,rfl,rfl,.inl ⟨by decide,by decide⟩,_,_,rfl,rfl,_,_,rfl,rfl,_,_,rfl,rfl,.inr ⟨by decide,by decide⟩,_,_,rfl,rfl,(by show (0:Int)<999917; decide),?_⟩
    refine⟨_,rfl,_,rfl,_,_,rfl,rfl,.inl ⟨by decide,by decide⟩,_,_,rfl,rfl,_,_,rfl,rfl,.inr ⟨by decide,by decide⟩,_,_,rfl,rfl,(by show (0:Int)<2097143; decide),_,_,rfl,rfl,⟨by decide,by decide⟩,_,rfl,_,_,rfl,rfl,(by show (0:Int)<m; omega),?_⟩
    exact fin (a+1) r _ _ (λb o e hb=>k2 b o (k1 b o e hb)) f2 (by omega) (by omega) (ed _).1 (ed _).2
   refine⟨_,rfl,_,_,rfl,rfl,⟨by decide,by decide,by decide⟩,_,_,rfl,rfl,_,rfl,?_⟩
   refine Cg (λc3=>?_) (λc3=>?_)
   ·refine⟨_,rfl,_,rfl,f0,_,0,_,rfl,rfl,hsq f2,rfl,_,_,rfl,.inl ⟨_,SqL.of c2,rfl⟩,_,_,rfl,rfl,_,rfl,?_⟩
    refine Cg (λc4=>?_) (λc4=>lastWay H2 rfl)
    refine⟨_,rfl,_,rfl,_,_,rfl,rfl,⟨(by show (0:Int)<m; omega),hm2⟩,_,rfl,f0,_,2,2,rfl,rfl,f2,rfl,?_⟩
    refine⟨_,rfl,_,rfl,_,_,rfl,rfl,(by show (0:Int)<m; omega),?_⟩
    exact fin (a+1) _ _ _ (λb o e hb=>by rw [AK hb]; exact k2 b o (k1 b o e hb)) AT (by omega) (by omega) (ed _).1 (ed _).2
   ·refine Cg (λc4=>absurd c4 (by simp)) (λ_=>lastWay H2 rfl)
  refine⟨_,rfl,f0,_,0,_,rfl,rfl,hsq f1,rfl,(by show 0<=sizeLine; decide),λp hp=>?_⟩
  have kp:∀b o,H1 b=some o->As H1 p (.lst []) b=some o:=λb o e=>by rw [AK (Ac e hp)]; exact e
  refine⟨c,p,_,rfl,rfl,SqL.of (kp _ _ c1'),SqL.of AT,_,rfl,?_⟩
  cases cells with
  | nil=>exact GC (rest 0 _ kp)
  | cons z0 cs =>
   refine JH ?_
   have hlen:(((z0::cs).map V.int).length:Int)=(cs.length:Int)+1:=by simp
   have hpos:(0:Int)<(((z0::cs).map V.int).length:Int):=by omega
   obtain⟨z,hz⟩:∃z,atI ((z0::cs).map V.int) (a % (((z0::cs).map V.int).length:Int))=some (.int z):=by
    have h1:=iJ a (show (((z0::cs).map V.int).length:Int)≠0 by omega)
    have h2:=gW a hpos
    generalize a % (((z0::cs).map V.int).length:Int)=j at h1 h2
    obtain⟨k,rfl⟩:∃k:Nat,j=(k:Int):=⟨j.toNat,by omega⟩
    have hk:k<(z0::cs).length:=by rw [FM] at h2; omega
    refine⟨(z0::cs)[k],AQ ?_⟩
    rw [T0,Db hk]
    rfl
   refine⟨_,rfl,f0,_,0,_,rfl,rfl,hsq (kp _ _ f1),rfl,_,rfl,_,rfl,f0,_,0,_,rfl,rfl,hsq (kp _ _ f1),rfl,_,_,rfl,.inl ⟨_,SqL.of (kp _ _ c1'),rfl⟩,_,_,rfl,rfl,hpos,c,_,_,_,rfl,rfl,SqL.of (kp _ _ c1'),hz,?_⟩
   exact rest z _ kp
end
end K66
namespace Nt
open PySem PySem.Spec PyProof.Rows L2 Dp
theorem KR{α β:Type}{f:α->β}:∀{l:List α},l.Nodup->(∀a∈l,∀b∈l,f a=f b->a=b)->(l.map f).Nodup
 | [],_,_=>bj
 | a::l,h,hf=>by
  rw [bQ] at h
  rw [bE,bQ]
  refine⟨λhm=>?_,KR h.2 λx hx y hy=>hf x (Rs _ hx) y (Rs _ hy)⟩
  obtain⟨b,hb,e⟩:=ZB.mp hm
  exact h.1 (hf a No b (Rs _ hb) e.symm▸hb)
theorem Np(ss:List Str):CB (ss.map .str)=some ss:=by
 induction ss with
 | nil=>rfl
 | cons y r ih =>
  rw [bE]
  unfold CB
  rw [ih]
  rfl
theorem Bv{b:BW}{body:Aa}{D2:E2}{all:List D}(I:List D->Nat->List Slot->Prop)(hend:∀n ρ,I all n ρ->D2.nx n ρ)
  (hstep:∀(pre:List D) (d:D) (post:List D) (n:Nat) (ρ:List Slot) (nx:Nat->List Slot->Prop),all=pre++d::post->I pre n ρ->(∀n' ρ',I (pre++[d]) n' ρ'->nx n' ρ')->b d ρ λρ1=>body { D2 with nx:=nx,ct:=nx,bk:=D2.nx } n ρ1) :
  ∀(ds pre:List D) (n:Nat) (ρ:List Slot),all=pre++ds->I pre n ρ->DD b body D2 ds n ρ
 | [],pre,n,ρ,e,h=>by
  rw [bh] at e
  subst e
  exact hend n ρ h
 | d::ds,pre,n,ρ,e,h=>hstep pre d ds n ρ (DD b body D2 ds) e h λn' ρ' h'=>Bv I hend hstep ds (pre++[d]) n' ρ' (by rw [e,cW]; rfl) h'
theorem Hv{lo:Int}{n:Nat}{pre post:List D}{d:D}(h:EH lo n=pre++d::post):d=.int (lo+(pre.length:Int))/\pre.length<n:=by
 have hl:=congrArg fh h
 rw [Ic,bD,XV] at hl
 have e:(EH lo n)[pre.length]?=some d:=by rw [h,cS (Op _),fL]; rfl
 unfold EH at e
 rw [T0,gI (by omega)] at e
 exact⟨(UF e).symm,by omega⟩
structure Ag where
 a:Str
 b:Str
 len:Int
structure Net where
 ps:List Str
 ts:List Ag
noncomputable def Aj(t:Ag):D:=.tup [.str t.a,.str t.b,.int t.len]
noncomputable def BL(N:Net):D:=.tup [.tup (N.ps.map .str),.tup (N.ts.map Aj)]
noncomputable def BG(s t:Ag):Prop:=cs s.a<cs t.a\/(s.a=t.a/\cs s.b<cs t.b)
structure Net.Ok (N:Net):Prop where
 names:∀x∈N.ps,VS x
 rise:rising N.ps
 tin:∀t∈N.ts,t.a∈N.ps/\t.b∈N.ps/\cs t.a<cs t.b/\1<=t.len/\t.len<=1000000
 trise:N.ts.Pairwise BG
structure Ix where
 i:Nat
 j:Nat
 len:Int
noncomputable abbrev EE(Pd:D->Nat->Prop):E2:={ nx:=λn _=>Kd.sh=.sh/\Pd .non n,rt:=Pd }
theorem Bw{b:BW}{te:DW}{P:List D->Nat->Prop}(g:D->D)(I:List Slot->Prop):∀(ds acc:List D) (n:Nat) (ρ:List Slot),
  (∀d∈ds,∀(ρ:List Slot) (n:Nat) (nx:D->Nat->List Slot->Prop),I ρ->(∀ρ',I ρ'->nx (g d) n ρ')->b d ρ λρ1=>te n ρ1 λy n2=>nx y n2 ρ1)->I ρ->P (acc++ds.map g) n->DF b Fp te P ds acc n ρ
 | [],acc,n,ρ,_,_,h=>by rw [eY,bh] at h; exact h
 | d::ds,acc,n,ρ,ht,hρ,h=>ht d No ρ n (λy n2 ρ1=>DF b Fp te P ds (acc++[y]) n2 ρ1) hρ λρ' hρ' =>
  Bw g I ds (acc++[g d]) n ρ' (λd hd=>ht d (Rs _ hd)) hρ' (by rw [cW]; exact h)
theorem Tr{α:Type}{l:List α}{p:α->Bool}{P:D->Prop}(h:P (.bl (l.all p))):RI [.lst (l.map λa=>.bl (p a))] P :=
 ⟨_,_,rfl,GV p l,by rw [hU]; exact h⟩
theorem UN{b1 b2:Bool}{P:D->Nat->Prop}{n:Nat}{k:(D->Nat->Prop)->Prop}(hk:b1=true->P (.bl b2) n->k P)(h:P (.bl (b1&&b2)) n):(match (.bl b1:D) with | .bl true=>k P | .bl false=>P (.bl false) n | _=>False):=UK hk h
noncomputable abbrev Wb(g:D->Bool):W2:=WW 1 λds=>.bl (g (ds.getD 0 .non))
theorem Wb.out{g:D->Bool}{ss:List Slot}{n:Nat}{P:D->Nat->Prop}(h:Wb g ss n P):∃d,ss=[.sh d]/\P (.bl (g d)) n:=by
 obtain⟨ds,hl,rfl,h⟩:=h
 match ds,hl with
 | [d],_=>exact⟨d,rfl,h⟩
noncomputable def Rq:D->Bool
 | .int _=>true
 | _=>false
noncomputable def tupleOfB(k:Int):D->Bool
 | .tup xs=>((xs.length:Int)==k)
 | _=>false
noncomputable def TH(d e:D):Option Bool:=match d,e with
 | .int i,.int j=>some (decide (i<j))
 | .str i,.str j=>some (decide (cs i<cs j))
 | .tup xs,.tup ys=>match GA xs,GA ys with
  | some ks,some ls=>if BV ks ls then some (EO ks ls) else none
  | _,_=>none
 | _,_=>none
theorem VY{d e:D}{b:Bool}{P:D->Prop}(h:TH d e=some b)(p:P (.bl b)):NS d e P:=by
 unfold TH at h
 split at h
 ·cases h; exact p
 ·cases h; exact p
 ·rename_i xs ys
  split at h
  ·rename_i ks ls h1 h2
   split at h
   ·rename_i hs
    cases h
    exact⟨ks,ls,h1,h2,hs,p⟩
   ·cases h
  ·cases h
 ·cases h
noncomputable def V2:List D->Bool
 | x::y::r=>(TH x y==some true)&&V2 (y::r)
 | _=>true
noncomputable abbrev L9:W2:=Wb Rq
noncomputable abbrev Ea:W2:=λss n P=>∃k d,ss=[.sh (.int k),.sh d]/\P (.bl (tupleOfB k d)) n
noncomputable abbrev IE:W2:=λss n P=>∃d xs,ss=[.sh d]/\FL d=some xs/\xs.length<=1000/\(∀x∈xs,∀y∈xs,∃b,TH x y=some b)/\P (.bl (V2 xs)) n
noncomputable def Oz:Aa:=(A3 (QS (N2 "int" (AC 0)) (Yc (N2 "bool" (AC 0)))))
noncomputable def J1:Aa:=(A3 (QS (N2 "tuple" (AC 1)) (Ad (Rg false) (Dy G3 (AE (AC 1) Ae)) (AC 0))))
noncomputable def Nm:Aa:=(A3 (Dy RI (AE (Dt [none,none] (Ru (AE (AC 0) (AE (YX Oj (AC 0) (J8 (wC (D.int 1))) Eh) Ae))) (Hl 2 (A8 (Ay 0) (A8 (Ay 1) Dv))) Fp (Ad NS (AC 0) (AC 1))) Ae)))
section
variable {ss:List Slot}{n:Nat}{Pd:D->Nat->Prop}
theorem Mh(h:L9 ss n Pd):Oz (EE Pd) n (ss++Uf 0 .no):=by
 obtain⟨d,rfl,q⟩:=h.out
 cases d <;> exact q
theorem Il(h:Ea ss n Pd):J1 (EE Pd) n (ss++Uf 0 .no):=by
 obtain⟨k,d,rfl,h⟩:=h
 cases d with
 | tup xs=>exact⟨_,_,rfl,rfl,h⟩
 | _=>exact h
theorem UH{α:Type}(xs:List α):Dp.cutD xs (some 1) none=xs.drop 1:=by
 unfold Dp.cutD
 rw [HT.sIx_none,show (1:Int)=((1:Nat):Int) from rfl,HT.sIx_nat]
 by_cases h:1<=xs.length
 ·rw [Nat.min_eq_left h]
  exact fi (by rw [eh]; exact Op _)
 ·have:xs=[]:=eM.mp (by omega)
  subst this
  rfl
theorem QC:∀xs:List D,((Cf xs (xs.drop 1)).all λd=>match d with | .tup [a,b]=>TH a b==some true | _=>false)=V2 xs
 | []=>rfl
 | [x]=>rfl
 | x::y::r=>by
  have ih:=QC (y::r)
  show ((Cf (x::y::r) (y::r)).all _)=_
  unfold Cf V2
  rw [iS,gc]
  congr 1
theorem Ui{xs ys:List D}{d:D}(h:d∈Cf xs ys):∃a∈xs,∃b∈ys,d=.tup [a,b]:=by
 unfold Cf at h
 obtain⟨i,hi⟩:=List.getElem?_of_mem h
 rw [fu] at hi
 cases q1:xs[i]? with
 | none=>rw [q1] at hi; simp at hi
 | some a =>
  cases q2:ys[i]? with
  | none=>rw [q1,q2] at hi; simp at hi
  | some b =>
   rw [q1,q2] at hi
   exact⟨a,bq q1,b,bq q2,(UF hi).symm⟩
theorem LJ(h:IE ss n Pd):Nm (EE Pd) n (ss++Uf 0 .no):=by
 obtain⟨d,xs,rfl,hd,hl,hlt,h⟩:=h
 have go:(Cf xs (xs.drop 1)).length<=10000000/\DF (Hl 2 (A8 (Ay 0) (A8 (Ay 1) Dv))) Fp (Ad NS (AC 0) (AC 1)) (λacc n2=>RI [.lst acc] λz=>Pd z n2) (Cf xs (xs.drop 1)) [] n [.no,.no]:=by
  refine⟨by unfold Cf; rw [dL]; omega,?_⟩
  refine Bw (λd=>.bl (match d with | .tup [a,b]=>TH a b==some true | _=>false)) (λρ=>∃s t,ρ=[s,t]) _ _ _ _ ?_ ⟨_,_,rfl⟩ ?_
  ·rintro z hz ρ m nx ⟨s,t,rfl⟩ hnx
   obtain⟨a,ha,b,hb,rfl⟩:=Ui hz
   obtain⟨r,hr⟩:=hlt a ha b (List.mem_of_mem_drop hb)
   refine⟨rfl,rfl,?_⟩
   show NS a b λy=>nx y m [.sh a,.sh b]
   refine VY hr ?_
   have this:nx (.bl (TH a b==some true)) m [.sh a,.sh b]:=hnx [.sh a,.sh b] ⟨_,_,rfl⟩
   rw [hr] at this
   cases r <;> exact this
  ·rw [cD]
   refine Tr (p:=fun(d:D)=>match d with | .tup [a,b]=>TH a b==some true | _=>false) ?_
   rw [QC]
   exact h
 cases d with
 | lst ys =>
  cases hd
  exact⟨_,_,xs,xs.drop 1,rfl,rfl,by rw [UH]; rfl,go⟩
 | tup ys =>
  cases hd
  exact⟨_,_,xs,xs.drop 1,rfl,rfl,by rw [UH]; rfl,go⟩
 | _=>cases hd
end
noncomputable def strsOf(xs:List D):List Str:=(CB xs).getD []
theorem UO{α:Type}(p:α->Bool)(l:List α):(l.map p).all id=l.all p:=by rw [hU]; rfl
theorem MY{x:Str}(h:∀c∈cs x,c<1114112):PyData.strOk x=true:=by
 unfold PyData.strOk
 rw [← Array.all_toList,eA]
 intro c hc
 exact decide_eq_true (h c hc)
theorem JD{x:Str}(h:VS x):Fc (.str x):=⟨rfl,MY λc hc=>by have:=h.2.2 c hc; omega,bH _⟩
theorem NJ{ps:List Str}(h:∀p∈ps,VS p):CT (ps.map .str)=true/\dG (A2 (ps.map .str))=true/\cZ (A2 (ps.map .str))=0:=by
 induction ps with
 | nil=>exact⟨rfl,rfl,rfl⟩
 | cons p r ih =>
  obtain⟨h1,h2,h3⟩:=ih λq hq=>h q (Rs _ hq)
  have hp:=JD (h p No)
  refine⟨by rw [bE,CT,h1]; rfl,?_,?_⟩
  ·rw [bE,A2,dG,h2,im]
   exact hp.2.1
  ·rw [bE,A2,cZ,h3]
   rfl
theorem KZ{ps:List Str}(h:∀p∈ps,VS p):Fc (.tup (ps.map .str)):=by
 obtain⟨h1,h2,h3⟩:=NJ h
 refine⟨h1,h2,?_⟩
 show cZ (A2 (ps.map .str))+1<=100
 rw [h3]; decide
theorem Pt(x y:Str):H_ (.str x) (.str y)=(x==y):=rfl
theorem IR(ps:List Str):strsOf (ps.map .str)=ps:=by unfold strsOf; rw [Np]; rfl
section
variable {ss:List Slot}{n:Nat}{Pd:D->Nat->Prop}
theorem Z3{d:D}(h:tupleOfB 2 d=true):∃a b,d=.tup [a,b]:=by
 cases d with
 | tup xs =>
  have:(xs.length:Int)=2:=eq_of_beq h
  match xs,this with
  | [a,b],_=>exact⟨a,b,rfl⟩
  | [],h=>cases h
  | [_],h=>cases h
  | _::_::_::r,h=>simp only [XV] at h; omega
 | _=>cases h
end
mutual
noncomputable def GF(B:Nat):D->Prop
 | .int i=>i.natAbs<=B
 | .str x=>∀c∈cs x,c<1114112
 | .tup ds=>E7 B ds
 | .lst ds=>E7 B ds
 | .dic _ _=>False
 | .fdi _ _=>False
 | .dit _ _=>False
 | _=>True
noncomputable def E7(B:Nat):List D->Prop
 | []=>True
 | d::ds=>GF B d/\E7 B ds
end
mutual
noncomputable def QY:D->Nat
 | .int _=>200
 | .str x=>x.length
 | .tup ds=>Jh ds
 | .lst ds=>Jh ds
 | _=>0
noncomputable def Jh:List D->Nat
 | []=>0
 | d::ds=>QY d+1+Jh ds
end
mutual
noncomputable def Rh:D->Nat
 | .tup ds=>Gi ds+1
 | .lst ds=>Gi ds+1
 | _=>0
noncomputable def Gi:List D->Nat
 | []=>0
 | d::ds=>max (Rh d) (Gi ds)
end
theorem fines_iff{B:Nat}:∀{ds:List D},E7 B ds↔∀d∈ds,GF B d
 | []=>⟨(λ_ d h=>by cases h),λ_=>trivial⟩
 | d::ds=>by
  have ih:=@fines_iff B ds
  constructor
  ·rintro ⟨h1,h2⟩ e he
   rcases TM.mp he with rfl | he
   ·exact h1
   ·exact ih.mp h2 e he
  ·exact λh=>⟨h d No,ih.mpr λe he=>h e (Rs _ he)⟩
theorem dps_le{k:Nat}:∀{ds:List D},Gi ds<=k↔∀d∈ds,Rh d<=k
 | []=>⟨(λ_ d h=>by cases h),λ_=>bH _⟩
 | d::ds=>by
  have ih:=@dps_le k ds
  show max (Rh d) (Gi ds)<=k↔_
  rw [Nat.max_le,ih]
  constructor
  ·rintro ⟨h1,h2⟩ e he
   rcases TM.mp he with rfl | he
   ·exact h1
   ·exact h2 e he
  ·exact λh=>⟨h d No,λe he=>h e (Rs _ he)⟩
theorem PF:∀(xs:List D),xs.length<=Jh xs
 | []=>bH _
 | d::xs=>by
  have:=PF xs
  show xs.length+1<=QY d+1+Jh xs
  omega
theorem RH{B C:Nat}(h:B<=C):∀(n:Nat),(∀d:D,sizeOf d<=n->GF B d->GF C d)/\∀ds:List D,sizeOf ds<=n->E7 B ds->E7 C ds:=by
 intro n
 induction n with
 | zero =>
  refine⟨λd hd _=>?_,λds hd _=>?_⟩
  ·cases d <;> simp at hd
  ·cases ds <;> simp at hd
 | succ n ih =>
  refine⟨λd hd hf=>?_,λds hd hf=>?_⟩
  ·cases d with
   | int i=>exact bS (show i.natAbs<=B from hf) h
   | str x=>exact hf
   | tup ds=>exact ih.2 ds (by simp at hd; omega) hf
   | lst ds=>exact ih.2 ds (by simp at hd; omega) hf
   | dic ks ds=>exact(show False from hf).elim
   | fdi ks ds=>exact(show False from hf).elim
   | dit ks ds=>exact(show False from hf).elim
   | non=>trivial
   | bl b=>trivial
  ·cases ds with
   | nil=>trivial
   | cons d ds=>exact⟨ih.1 d (by simp at hd; omega) hf.1,ih.2 ds (by simp at hd; omega) hf.2⟩
mutual
theorem Pn{B:Nat}(hB:B<10 ^ 45):∀{d:D},GF B d->F5 d=true/\(toPy d).showable=true/\(toPy d).canLay0=true/\(toPy d).depth=Rh d/\(toPy d).leavesShort 60=true/\(toPy d).weight<=QY d
 | .non,_=>⟨rfl,rfl,rfl,rfl,rfl,Op _⟩
 | .bl b,_=>⟨rfl,rfl,rfl,rfl,rfl,Op _⟩
 | .int i,h=>by
  have h':i.natAbs<=B:=h
  have hlt:i.natAbs<10 ^ 45:=fI h' hB
  have h2:i.natAbs<2 ^ 150:=Nat.lt_trans hlt (by decide)
  have hl:i.natAbs.log2<150:=by
   by_cases h0:i.natAbs=0
   ·rw [h0]; decide
   ·exact(Nat.log2_lt h0).mpr h2
  refine⟨rfl,?_,rfl,rfl,?_,?_⟩
  ·show decide (i.natAbs.log2<1920)=true
   exact decide_eq_true (by omega)
  ·show decide ((PyData.shown (.int i)).length<=60)=true
   refine decide_eq_true ?_
   have:=int_text_length_le10 (a:=i) (k:=45) (by decide) hlt
   show (cX (toString i)).length<=60
   rw [PySem.ofString_length]
   omega
  ·show (if i==0 then 0 else i.natAbs.log2+1)<=200
   split <;> omega
 | .str x,h=>by
  have h':∀c∈cs x,c<1114112:=h
  refine⟨rfl,rfl,MY h',rfl,?_,Op _⟩
  show (x.cps.toList.all λc=>decide (c<16 ^ 8))=true
  rw [eA]
  intro c hc
  exact decide_eq_true (Nat.lt_trans (h' c hc) (by decide))
 | .tup ds,h=>by
  obtain⟨h1,h2,h3,h4,h5,h6⟩:=JN hB (ds:=ds) h
  refine⟨h1,h2,h3,?_,h5,h6⟩
  show cZ (A2 ds)+1=Gi ds+1
  rw [h4]
 | .lst ds,h=>by
  obtain⟨h1,h2,h3,h4,h5,h6⟩:=JN hB (ds:=ds) h
  refine⟨h1,h2,h3,?_,h5,h6⟩
  show cZ (A2 ds)+1=Gi ds+1
  rw [h4]
 | .dic ks ds,h=>(show False from h).elim
 | .fdi ks ds,h=>(show False from h).elim
 | .dit ks ds,h=>(show False from h).elim
theorem JN{B:Nat}(hB:B<10 ^ 45):∀{ds:List D},E7 B ds->CT ds=true/\PyData.showableAll (A2 ds)=true/\dG (A2 ds)=true/\cZ (A2 ds)=Gi ds/\iX 60 (A2 ds)=true/\PyData.weightAll (A2 ds)<=Jh ds
 | [],_=>⟨rfl,rfl,rfl,rfl,rfl,Op _⟩
 | d::ds,h=>by
  obtain⟨h1,h2,h3,h4,h5,h6⟩:=Pn hB (d:=d) h.1
  obtain⟨g1,g2,g3,g4,g5,g6⟩:=JN hB (ds:=ds) h.2
  refine⟨?_,?_,?_,?_,?_,?_⟩
  ·show (F5 d&&CT ds)=true
   rw [h1,g1]; rfl
  ·show ((toPy d).showable&&PyData.showableAll (A2 ds))=true
   rw [h2,g2]; rfl
  ·show ((toPy d).canLay0&&dG (A2 ds))=true
   rw [h3,g3]; rfl
  ·show max (toPy d).depth (cZ (A2 ds))=max (Rh d) (Gi ds)
   rw [h4,g4]
  ·show ((toPy d).leavesShort 60&&iX 60 (A2 ds))=true
   rw [h5,g5]; rfl
  ·show (toPy d).weight+1+PyData.weightAll (A2 ds)<=QY d+1+Jh ds
   omega
end
theorem G0{B:Nat}{d:D}(hB:B<10 ^ 45)(h:GF B d)(hd:Rh d<=100):Fc d:=by
 obtain⟨h1,h2,h3,h4,h5,h6⟩:=Pn hB h
 exact⟨h1,h3,by rw [h4]; exact hd⟩
section
variable {ss:List Slot}{n:Nat}{Pd:D->Nat->Prop}
end
section
variable {ss:List Slot}{n:Nat}{Pd:D->Nat->Prop}
end
section
variable {ss:List Slot}{n:Nat}{Pd:D->Nat->Prop}
end
noncomputable def item(d:D):Prop:=GF 1000001 d/\QY d<=450/\Rh d<=1
theorem N8{k:Nat}:∀{ds:List D},(∀d∈ds,QY d+1<=k)->Jh ds<=k*ds.length
 | [],_=>bH _
 | d::ds,h=>by
  have h1:=h d No
  have h2:=N8 (ds:=ds) λe he=>h e (Rs _ he)
  show QY d+1+Jh ds<=k*(ds.length+1)
  rw [Nat.mul_succ]; omega
theorem GD{B:Nat}{xs:List D}(h:∀d∈xs,GF B d):GF B (.tup xs):=fines_iff.mpr h
theorem item_str{x:Str}(h1:x.length<=8)(h2:∀c∈cs x,c<1114112):item (.str x):=⟨h2,by show x.length<=450; omega,bH _⟩
theorem Em{x:Str}(h:VS x):item (.str x):=item_str h.2.1 λc hc=>by have:=h.2.2 c hc; omega
theorem TX{a b:Str}{l:Int}(ha:item (.str a))(hb:item (.str b))(la:a.length<=8)(lb:b.length<=8)(hl:l.natAbs<=1000001):item (.tup [.str a,.str b,.int l]):=by
 refine⟨GD λd hd=>?_,?_,?_⟩
 ·simp only [TM,bJ,or_false] at hd
  rcases hd with rfl | rfl | rfl
  ·exact ha.1
  ·exact hb.1
  ·exact hl
 ·show a.length+1+(b.length+1+(200+1+0))<=450
  omega
 ·show max 0 (max 0 (max 0 0))+1<=1
  decide
theorem JG{N:Net}(ok:N.Ok):∀d∈N.ts.map Aj,item d:=λd hd=>by
 obtain⟨t,ht,rfl⟩:=ZB.mp hd
 obtain⟨h1,h2,_,h3,h4⟩:=ok.tin t ht
 have n1:=ok.names _ h1
 have n2:=ok.names _ h2
 exact TX (Em n1) (Em n2) n1.2.1 n2.2.1 (by omega)
theorem VQ{N:Net}(ok:N.Ok):∀d∈N.ps.map D.str,item d:=λd hd=>by
 obtain⟨x,hx,rfl⟩:=ZB.mp hd
 exact Em (ok.names x hx)
theorem Wz{xs ys:List D}(hx:∀d∈xs,item d)(hy:∀d∈ys,item d)(lx:xs.length<=26)(ly:ys.length<=80):GF 1000001 (.tup [.tup xs,.tup ys])/\QY (.tup [.tup xs,.tup ys])<=48000/\Rh (.tup [.tup xs,.tup ys])<=3:=by
 have s1:=N8 (k:=451) λd hd=>g9 (hx d hd).2.1
 have s2:=N8 (k:=451) λd hd=>g9 (hy d hd).2.1
 have d1:Gi xs<=1:=dps_le.mpr λd hd=>(hx d hd).2.2
 have d2:Gi ys<=1:=dps_le.mpr λd hd=>(hy d hd).2.2
 refine⟨GD λd hd=>?_,?_,?_⟩
 ·simp only [TM,bJ,or_false] at hd
  rcases hd with rfl | rfl
  ·exact GD λd hd=>(hx d hd).1
  ·exact GD λd hd=>(hy d hd).1
 ·show Jh xs+1+(Jh ys+1+0)<=48000
  omega
 ·show max (Gi xs+1) (max (Gi ys+1) 0)+1<=3
  omega
theorem B4(x:Str):¬cs x<cs x:=bc _
theorem z1:1<=sizeLine:=by decide
theorem z2:2<=sizeLine:=by decide
theorem z3:3<=sizeLine:=by decide
theorem z0:0<=sizeLine:=bH _
theorem aZ:Ue 10 6:=⟨by decide,by decide,by decide⟩
section
variable {ss:List Slot}{n:Nat}{Pd:D->Nat->Prop}
end
end Nt
namespace L2
open PySem PySem.Spec PyProof.Rows
section
variable {X:Cx}{tg elt iter:Expr}{ifs:List Expr}{sc:Scope}{pos spos pos':Pos}{N':List Str}{js:List (Option Nat)}{wi:TI}{i:Nat}{x:Str}
theorem PP(hc:X.calm=true)(N':List Str)(js:List (Option Nat))(hi:PI X tg iter wi)
  (hB:JS sc X.env.scope X.N N' js=true) (hN:X.N.Nodup) (hix:X.N[i]?=some x) (hx:Loc X.env.scope x)
  (hsw:swapsWith (.ListComp elt [⟨tg,iter,ifs,0⟩] sc pos) (some (.Name x pos')) spos.line X.env=pure true)
  (hs:autoParam (∀x,foldedSetIterable iter X.env x=pure x) zau2._auto_1)
  (hf:autoParam (X.fn x=true\/X.env.scope.names.lookup x=some .local) zau0._auto_1) :
  PS X (.Assign [.Name x pos'] (.ListComp elt [⟨tg,iter,ifs,0⟩] sc pos) spos) (MW (SF X sc N' js tg elt ifs wi) (HE i)):=by
 intro pins s σ H D I h
 have O:CompOk X sc N' js:=CompOk.of hB
 obtain⟨cl,hclos,hcl,hcl2⟩:=JU (scope:=sc) (env:=X.env) λx hx=>I.ok.has x (O.free x hx)
 rw [exec_Assign_Name_used _ _ _ _ hsw]
 refine Ch (wpAny_standAt (Ch ?_))
 show wpAny _ _ (do let _ ← comprehension (.ListComp elt [⟨tg,iter,ifs,0⟩] sc pos) sc X.env _ (newList []) false (eval iter X.env) (some (assign (.Name x pos') X.env))) _ _ s
 refine Ch (cC (wpAny_comprehension_free (Q:=λ_ s'=>SP X pins D .next s') (use:=some (assign (.Name x pos') X.env)) rfl hs hclos O.kind O.names (thn (hi pins s σ H _ I h) λv s1 h1=>thn h1 λitv s2 h2=>?_))
  (λ_ s' hq=>Go (Go hq)) λ_ _ e=>e)
 obtain⟨it,fp,tn,J,H2,e,I2,T,st2,f2,hq⟩:=h2
 subst e
 have kfree:X.K.lookup s2.heap.objs.size=none:=by
  cases q:X.K.lookup s2.heap.objs.size with
  | none=>rfl
  | some o=>exact absurd (Tk (I2.kIn _ _ q)) (cI _)
 obtain⟨g,tt,te,W,hg,ht,he,⟨m0,w0⟩,hW⟩:=hq s2.heap.objs.size (I2.hok.fresh (Op _)) kfree cl (s2.heap.objs.size+1) s2 H2 fp
 refine bY (wpAny_newFunctionEnv O.cell (by intro y hy; simp at hy) (λh₁ hns₁ hsb₁=>?_) O.kind)
 dsimp only at hns₁ hsb₁ ⊢
 generalize hH2:s2.heap.push { cls:=.type "list",dict:=none,data:=.seq ([]:List Value).toArray }=Hh at hns₁ hsb₁ ⊢
 have hCe:Hh.objs.size=s2.heap.objs.size+1:=by rw [← hH2,cT]
 have hlt:∀b∈fp,b<s2.heap.objs.size:=λb hb=>by
  obtain⟨o,e,_⟩:=T.obj _ _ st2 b hb
  exact Tk e
 have old:∀b o,s2.heap.get? b=some o->h₁.get? b=some o:=λb o e=>hsb₁.extBut b o (by rw [hCe]; exact bK (cy (Tk e))) (Ev _ (hH2▸Ev _ e))
 have hD:∃n,h₁.get? s2.heap.objs.size=some { cls:=.type "list",data:=.seq #[] n }:=⟨_,hsb₁.extBut _ _ (by rw [hCe]; exact bK (em _)) (Ev _ (hH2▸Sc _ rfl))⟩
 have I3:∀tk,Inv (Ax X sc N' cl (s2.heap.objs.size+1) s2 H2 fp) [] (By js σ) (As H2 s2.heap.objs.size (.lst [])) { s2 with heap:=h₁,toks:=tk }:=λtk =>
  NQ I2 hc O hcl hcl2 f2 (λb hb=>let ⟨o,e,_⟩:=T.obj _ _ st2 b hb; ⟨o,e⟩) (by rw [← hCe]; exact hns₁) old hD
 have st3:tn 0 h₁:=T.keep _ _ _ st2 λb hb o e=>old b o e
 have fr3:∀b∈fp,As H2 s2.heap.objs.size (.lst []) b=none:=λb hb=>by
  rw [AK (bK (hlt b hb))]
  exact(f2 b hb).1
 have loop:∀tk,codeAny (model X.prog X.w) X.A (.compLoop (.ListComp elt [⟨tg,iter,ifs,0⟩] sc pos) 0 (.ref it) (.ref s2.heap.objs.size) (compEnvC sc cl (s2.heap.objs.size+1) X.env))
   (compPost (model X.prog X.w) X.A X.xe (some (assign (.Name x pos') X.env)) (λ_ s'=>SP X pins D .next s') (.ref s2.heap.objs.size) (s2.heap.objs.size+1)) { s2 with heap:=h₁,toks:=tk }:=λtk=>by
  refine Ki (W:=W) (m0:=m0) (Q:=λv H1=>HE i v σ H1 λσ2 H2=>D.nx σ2 H2) I2 f2 hlt (cY _) T hg ht he hW (λσ' H' s' J' q'=>?_) (I3 tk) st3 fr3 w0
  obtain⟨m,hn,_⟩:=J'.loc
  have hCn:H' (s2.heap.objs.size+1)=none:=J'.free
  have I4:Inv X pins σ H' s':=JK (h':=s'.heap) I2 f2 (cY _) J' λb _=>rfl
  obtain⟨g1,g2,g3,g4,g5,g6⟩:=I2.fpOk (b:=s2.heap.objs.size+1) (cY _) hCn
  show wpAny (model X.prog X.w) X.A (assign (.Name x pos') X.env (.ref s2.heap.objs.size)) (λ_ s''=>∃m,s''.heap.Ns (s2.heap.objs.size+1) m/\∀h',d8 (s2.heap.objs.size+1) s''.heap h'->SP X pins D .next { s'' with heap:=h' }) X.xe s'
  refine wpAny_assign_Name (KI (v:=.ref s2.heap.objs.size) I4 hN hix hx rfl (λs5 I5 ⟨a,hsame,ha⟩=>?_) hf)
  have na:s2.heap.objs.size+1≠a:=by
   rcases ha with rfl | ha
   ·exact g2
   ·exact λz=>g5 _ _ ha z.symm
  refine⟨m,hn.sameBut hsame na,λh' hs'=>?_⟩
  exact⟨_,H',I5.turned (t':=s5.toks) (it:=s2.heap.objs.size+1) (λb o hb e=>hs'.extBut b o hb e) hCn g2 g4 g5 g6,q'⟩
 rw [show (newEnv sc Hh.objs.size X.env.globals cl X.env.qual none .none (some X.env) builtinsNs).locals=s2.heap.objs.size+1 from hCe]
 show codeAny (model X.prog X.w) X.A (.compStart (.ListComp elt [⟨tg,iter,ifs,0⟩] sc pos) 0 (.ref it) (.ref s2.heap.objs.size) (compEnvC sc cl (s2.heap.objs.size+1) X.env)) _ _
 exact codeAny_compStart_list (loop _) (T.self _ 0 _ _ _ st3 (loop _))
end
end L2
namespace Dp
open PySem PySem.Spec PyProof.Rows L2
section
variable {X:Cx}{κe:Kd}{tg elt iter:Expr}{ifs:List Expr}{sc:Scope}{pos:Pos}{src:Et}{b:BW}{tt:Hm}{te:DW}
theorem UJ(hc:X.calm=true)(N':List Str)(js:List (Option Nat))(hi:Ya X tg iter src)(hg:∀cl C s H fp,DG (Ax X sc N' cl C s H fp) tg b)(ht:∀cl C s H fp,Zi (Ax X sc N' cl C s H fp) ifs tt)(he:∀cl C s H fp,DE (Ax X sc N' cl C s H fp) elt κe te)
  (hB:JS sc X.env.scope X.N N' js=true) (hk:autoParam (κe≠.tp) zau5._auto_1)
  (hs:autoParam (∀x,foldedSetIterable iter X.env x=pure x) zau2._auto_1):∃wi,PI X tg iter wi/\∀(C:Fm) (M:Addr->Prop) (H:Hp) (n:Nat) (ρ:List Slot) (σ:L2.St) (P:D->Nat->Prop) (Q:VK),Rel X.K C M H n ρ σ->Dt js src b tt te n ρ P ->
   (∀v H' d n',Ext C.U H H'->FeedC X.K C.F M H' n'->VR X.K C.V M H H' .fr v d->P d n'->Q v H')->SF X sc N' js tg elt ifs wi σ H Q:=by
 obtain⟨wi,a1,a2⟩:=hi
 refine⟨wi,a1,λC M H n ρ σ P Q R w q=>?_⟩
 refine a2 C M H n ρ σ _ _ R w λJ H1 ds n1 e1 f1 y w1=>?_
 obtain⟨hlen,w1⟩:=w1
 have R1:=R.step e1 f1
 intro l hl hkl cl Ca s0 H0 fp
 obtain⟨g,g1,g2⟩:=hg cl Ca s0 H0 fp
 obtain⟨tc,c1,c2⟩:=ht cl Ca s0 H0 fp
 obtain⟨tx,x1,x2⟩:=he cl Ca s0 H0 fp
 have noU:¬C.U l:=λz=>by
  obtain⟨o,z⟩:=R1.udom l z
  rw [hl] at z; cases z
 generalize hM':(λb=>M b\/b=l)=M'
 have M'l:M' l:=by rw [← hM']; exact .inr rfl
 have M'of:∀b,M b->M' b:=λb z=>by rw [← hM']; exact .inl z
 have ofM':∀b,M' b->M b\/b=l:=λb z=>by rw [← hM'] at z; exact z
 have inV:∀b,C.V b\/b=l->M' b:=λb z=>z.elim (λz=>M'of b (R1.vM b z)) λz=>by rw [z]; exact M'l
 have lenj:js.length=N'.length:=EU (CompOk.of hB).cap
 refine⟨g,tc,tx,λi m σ' H'=>m=ds.length - i/\i<=ds.length/\∃n' ρ' acc vs,Rel X.K ⟨M',C.F,C.U,λb=>C.V b\/b=l,H1,[],[]⟩ M' H' n' ρ' σ'/\H' l=some (.lst vs)/\Ats X.K M' H' acc vs/\acc.length<=i/\Pres M H1 M' H' /\
   DF b tt te (λacc n2=>P (.lst acc) n2) (ds.drop i) acc n' ρ',g1,c1,x1,⟨ds.length,by simp,bH _,n1,F9 js ρ,[],[],?_⟩,?_⟩
 ·have gr:Grow H1 (As H1 l (.lst [])):=Al hl
  have pr:Pres M H1 M' (As H1 l (.lst [])):=⟨λb o e _=>gr.all b o e,λb z=>(ofM' b z).elim .inl λz=>.inr (by rw [z]; exact hl),λb vs e=>gr.all b _ e⟩
  refine⟨⟨?_,λa z=>z,λa z=>?_,gr.ext,R1.fU,λa z=>.inl (R1.uV a z),inV,f1.pres pr λf o _ e=>gr.all f.1 o e,?_,λp hp=>absurd hp (by simp),λi d a q z=>Pf R1.sl q z,λi s a q o _=>absurd o (by rw [Dh q]; decide),λi j s t a q o _ _ _ _=>absurd o (by rw [Dh q]; decide),λp hp=>absurd hp (by simp)⟩,AT,rfl,bH _,pr,w1⟩
  ·unfold F9 By
   rw [FM,FM]
  ·rcases ofM' a z with z | z
   ·obtain⟨o,z⟩:=R1.dom a z
    exact⟨o,gr.all a o z⟩
   ·subst z
    exact⟨_,AT⟩
  ·refine NG R1.sl pr λd v h=>h.same pr (λa o _ e=>gr.all a o e) λa e n1 z=>z.elim n1 λz=>?_
   subst e
   obtain⟨o,w⟩:=h.lies
   rw [z,hl] at w
   cases w
 ·rintro i m σ' H' ⟨rfl,hi,n',ρ',acc,vs,R',hlv,hac,hal,pr,w'⟩
  by_cases hlt:i<ds.length
  ·have ed:ds.drop i=ds[i]::ds.drop (i+1):=c9 hlt
   rw [ed] at w'
   obtain⟨go,yl⟩:=(y i M' H' pr R'.ext R'.dom).1 ds[i] (Db hlt)
   refine .inr ⟨go,λx H2 hy=>?_⟩
   obtain⟨gr,hx⟩:=yl x H2 hy
   have R2':=R'.step gr.ext (R'.feed.grow gr)
   refine g2 _ M' H2 n' ρ' σ' ds[i] x _ _ R2' hx w' λρ3 σ3 R3 w3=>?_
   refine c2 _ M' H2 n' ρ3 σ3 _ _ R3 w3 λc H4 n4 e4 f4 w4=>?_
   have R4:=R3.step e4 f4
   have p4:Pres M' H' M' H4:=gr.pres.trans (R3.pres e4)
   have l4:H4 l=some (.lst vs):=e4.keep (gr.all _ _ hlv) noU
   cases c with
   | false=>exact⟨ds.length - (i+1),by omega,rfl,hlt,n4,ρ3,acc,vs,R4,l4,hac.pres p4,by omega,pr.trans p4,w4⟩
   | true =>
    refine x2 _ M' H4 n4 ρ3 σ3 _ _ R4 w4 λyv H5 d5 n5 e5 f5 r5 w5=>?_
    have R5:=R4.step e5 f5
    have p5:Pres M' H4 M' H5:=R4.pres e5
    have l5:H5 l=some (.lst vs):=e5.keep l4 noU
    have hy5:=r5.shOf R4.dom hk
    have a5:=(hac.pres p4).pres p5
    have pu:Pres M' H5 M' (As H5 l (.lst (vs++[yv]))):=Co M'l l5
    have hvl:vs.length=acc.length:=hac.length
    refine⟨vs,l5,by rw [bm]; omega,ds.length - (i+1),by omega,rfl,hlt,n5,ρ3,acc++[d5],vs++[yv],?_,AT,(a5.append (Ats.one hy5)).pres pu,by rw [bD,bW]; omega,(pr.trans p4).trans (p5.trans pu),w5⟩
    refine⟨R5.len,R5.sub,λa z=>?_,λb o e=>?_,R5.fU,R5.uV,R5.vM,?_,λj s hs=>?_,λp hp=>absurd hp (by simp),R5.br0,R5.new,R5.two,λp hp=>absurd hp (by simp)⟩
    ·by_cases ha:a=l
     ·subst ha; exact⟨_,AT⟩
     ·rw [AK ha]; exact R5.dom a z
    ·obtain⟨o',q1,q2⟩:=R5.ext b o e
     by_cases hb:b=l
     ·subst hb
      have e':H1 b=some o:=e
      rw [hl] at e'; cases e'
     ·exact⟨o',by rw [AK hb]; exact q1,q2⟩
    ·refine f5.pres pu λf o hf e=>?_
     rw [AK (λz=>noU (by rw [← z]; exact R1.fU f hf))]
     exact e
    ·have hs5:=R5.sl j s hs
     cases s with
     | no=>trivial
     | sh d=>obtain⟨v,e1,h2⟩:=hs5; exact⟨v,e1,h2.pres pu⟩
     | br d =>
      obtain⟨v,e1,h2⟩:=hs5
      refine⟨v,e1,h2.same pu (λa o z e=>?_) λ_ _ z=>z⟩
      subst z
      obtain⟨o3,w⟩:=R5.br0 j d a hs e1
      have hal:a≠l:=λz=>by
       have w':H1 a=some o3:=w
       rw [z,hl] at w'; cases w'
      rw [AK hal]; exact e
     | ow d =>
      obtain⟨a,e1,h2,_⟩:=hs5
      exact absurd h2 (R5.new j _ a hs rfl e1).1
     | lt a d =>
      obtain⟨e1,h2,_⟩:=hs5
      exact absurd h2 (R5.new j _ a hs rfl e1).1
     | fd=>exact hs5
  ·have e:i=ds.length:=by omega
   subst e
   rw [hV] at w'
   refine .inl ⟨(y _ M' H' pr R'.ext R'.dom).2 (Op _),?_⟩
   have eb:Ext C.U H1 H':=R'.ext
   have less:Pres M' H' M H':=Pres.less M'of
   refine q _ H' (.lst acc) n' (e1.trans eb) (R'.feed.pres less λ_ _ _ z=>z) (VR.back e1 ?_) w'
   exact⟨l,rfl,hl,vs,hlv,by rw [hM']; exact hac⟩
theorem Vp{κ:Kd}{i:Nat}{x:Str}{pos' spos:Pos}(hN:X.N.Nodup)(hix:X.N[i]?=some x)(hx:Loc X.env.scope x)(hc:X.calm=true)(N':List Str)(js:List (Option Nat))(hi:Ya X tg iter src)(hg:∀cl C s H fp,DG (Ax X sc N' cl C s H fp) tg b)(ht:∀cl C s H fp,Zi (Ax X sc N' cl C s H fp) ifs tt)(he:∀cl C s H fp,DE (Ax X sc N' cl C s H fp) elt κe te)
  (hB:JS sc X.env.scope X.N N' js=true) (hsw:autoParam (swapsWith (.ListComp elt [⟨tg,iter,ifs,0⟩] sc pos) (some (.Name x pos')) spos.line X.env=pure true) zau3._auto_1) (hk:autoParam (κe≠.tp) zau5._auto_1)
  (hs:autoParam (∀x,foldedSetIterable iter X.env x=pure x) zau2._auto_1)
  (hf:autoParam (X.fn x=true\/X.env.scope.names.lookup x=some .local) zau0._auto_1):DS X κ (.Assign [.Name x pos'] (.ListComp elt [⟨tg,iter,ifs,0⟩] sc pos) spos) (BA i (Dt js src b tt te)):=by
 obtain⟨wi,a1,a2⟩:=UJ hc N' js hi hg ht he hB hk hs
 refine⟨_,PP hc N' js a1 hB hN hix hx hsw hs hf,λC M H n ρ σ D2 E R L w=>?_⟩
 refine a2 C M H n ρ σ _ _ R w λv H' d n' e1 f1 r1 p=>?_
 exact L.nx M H' n' _ _ ((R.step e1 f1).set (r1.shOf R.dom (by intro z; cases z))) p
end
end Dp
namespace L2
open PySem PySem.Spec PyProof.Rows
noncomputable def Y7:R2:=λy x H Q=>∃a o,x=.ref a/\DGet H a y o/\Q (.bl o.isSome) H
noncomputable def WR:R2:=λy x H Q=>∃a o,x=.ref a/\DGet H a y o/\Q (.bl (!o.isSome)) H
noncomputable def PK:R2:=λx y H Q=>∃a v,x=.ref a/\DGet H a y (some v)/\Q v H
theorem Xe{X:Cx}{k:Nat}(hr:Room k X.A):OpR X (compareOp .In) Y7:=by
 intro pins s σ H y x iv u Q I ry rx ⟨a,ov,ex,g,q⟩
 subst ex
 obtain rfl:u=bT a:=rx
 exact aN (HD hr) I g ry λs3 I3=>⟨.bl ov.isSome,H,I3,rfl,q⟩
theorem Ei{X:Cx}{k:Nat}(hr:Room k X.A):OpR X (compareOp .NotIn) WR:=by
 intro pins s σ H y x iv u Q I ry rx ⟨a,ov,ex,g,q⟩
 subst ex
 obtain rfl:u=bT a:=rx
 exact Vz (HD hr) I g ry λs3 I3=>⟨.bl (!ov.isSome),H,I3,rfl,q⟩
end L2
namespace Dp
open PySem PySem.Spec PyProof.Rows L2
noncomputable def BN:List Key->List D->Key->Option D
 | k0::ks,d::ds,k=>if k0=k then some d else BN ks ds k
 | _,_,_=>none
section
variable {K:Frag}{X:Cx}
theorem K6{M:Addr->Prop}{H:Hp}{k:Key}:∀{ks:List Key} {ds:List D} {vs:List V},Ats K M H ds vs ->
  match BN ks ds k with
  | some z=>∃v,Bg (ks.zip vs) k=some v/\At K M H z v
  | none=>Bg (ks.zip vs) k=none
 | [],ds,vs,h=>by unfold BN; exact rfl
 | k0::ks,[],vs,h=>by cases h; exact rfl
 | k0::ks,d::ds,vs,h=>by
  obtain⟨v,r,rfl,h1,h2⟩:=h
  have ih:=K6 (k:=k) (ks:=ks) h2
  unfold BN
  by_cases e:k0=k
  ·rw [if_pos e]
   refine⟨v,?_,h1⟩
   show Bg ((k0,v)::ks.zip r) k=some v
   rw [DA e]
  ·rw [if_neg e]
   have:Bg ((k0,v)::ks.zip r) k=Bg (ks.zip r) k:=DB e
   rw [show (k0::ks).zip (v::r)=(k0,v)::ks.zip r from rfl,this]
   exact ih
noncomputable def keyOf:D->Option Key
 | .int i=>some (.inl i)
 | .str x=>some (.inr x)
 | _=>none
theorem GB{U M:Addr->Prop}{H:Hp}{d:D}{v:V}{k:Key}(e:keyOf d=some k)(h:AtT K U M H d v):v=kV k:=by
 cases d with
 | int i=>cases e; exact h
 | str x=>cases e; exact h.str.1
 | _=>cases e
noncomputable def T6:D->Option (List Key×List D)
 | .dic ks ds=>some (ks,ds)
 | .fdi ks ds=>some (ks,ds)
 | _=>none
theorem T5{U M:Addr->Prop}{H:Hp}{d:D}{x:V}{ks:List Key}{ds:List D}(e:T6 d=some (ks,ds))(h:AtT K U M H d x):∃a vs,x=.ref a/\Rd H a (.dK (ks.zip vs))/\Ats K M H ds vs:=by
 cases d with
 | dic k2 d2=>cases e; obtain⟨a,vs,rfl,_,ha,_,hs⟩:=h; exact⟨a,vs,rfl,.inl ha,hs⟩
 | fdi k2 d2=>cases e; obtain⟨a,vs,rfl,⟨o,_,ha⟩,_,hs⟩:=h; exact⟨a,vs,rfl,.inr ⟨o,ha⟩,hs⟩
 | _=>cases e
theorem P0{H:Hp}{a:Addr}{kvs:List (Key×V)}{k:Key}(e:Rd H a (.dK kvs)):DGet H a (kV k) (Bg kvs k):=.inl ⟨kvs,k,e,rfl,rfl⟩
noncomputable def Ol(neg:Bool)(e d:D)(P:D->Prop):Prop:=∃ks ds k,T6 d=some (ks,ds)/\keyOf e=some k/\P (.bl (if neg then !(BN ks ds k).isSome else (BN ks ds k).isSome))
noncomputable def Bn(d e:D)(P:D->Prop):Prop:=∃ks ds k z,T6 d=some (ks,ds)/\keyOf e=some k/\BN ks ds k=some z/\P z
theorem GW:Ez K .sh WR (Ol true):=λU M H e d y x P Q dom vM hy hx w q=>by
 obtain⟨ks,ds,k,hd,he,w⟩:=w
 obtain⟨a,vs,rfl,ha,hs⟩:=T5 hd hx
 refine⟨a,Bg (ks.zip vs) k,rfl,by rw [GB he hy]; exact P0 ha,q _ H (.bl _) .refl rfl ?_⟩
 have h:=K6 (k:=k) (ks:=ks) hs
 cases c:BN ks ds k with
 | none=>rw [c] at h w; rw [show Bg (ks.zip vs) k=none from h]; exact w
 | some z=>rw [c] at h w; obtain⟨v,h1,_⟩:=h; rw [h1]; exact w
theorem YL:Ez K .sh PK Bn:=λU M H d e x y P Q dom vM hx hy w q=>by
 obtain⟨ks,ds,k,z,hd,he,hz,w⟩:=w
 obtain⟨a,vs,rfl,ha,hs⟩:=T5 hd hx
 have h:=K6 (k:=k) (ks:=ks) hs
 rw [hz] at h
 obtain⟨v,h1,h2⟩:=h
 exact⟨a,v,rfl,by rw [GB he hy,← h1]; exact P0 ha,q v H z .refl h2 w⟩
variable {a b:Expr}{κa κb:Kd}{wa wb:DW}{pos:Pos}
theorem B7{k:Nat}(hr:Room k X.A)(ha:DE X a κa wa)(hb:DE X b κb wb)(hs:autoParam (V8 b) zau6._auto_1):DE X (.Subscript a b pos) .sh (Ad Bn wa wb):=by
 obtain⟨ta,ha1,ha2⟩:=ha
 obtain⟨tb,hb1,hb2⟩:=hb
 exact⟨Cd PK ta tb,Hw (HD hr) ha1 hb1 hs,λC M H n ρ σ P Q R w q=>Do YL ha2 hb2 C M H n ρ σ P Q R w q⟩
end
noncomputable def R6(i:Nat)(w:DW):Aa:=λD2 n ρ=>∃a:Int,ρ[i]?=some (.sh (.int a))/\w n ρ λd n1=>∃b:Int,d=.int b/\D2.nx n1 (ρ.set i (.sh (.int (a+b))))
theorem Vr{X:Cx}{κ κe:Kd}{e:Expr}{wa:DW}{pos:Pos}{i:Nat}{x:Str}{pos':Pos}(hN:X.N.Nodup)(hi:X.N[i]?=some x)(hx:Loc X.env.scope x)(he:DE X e κe wa)
  (hf:autoParam (X.fn x=true\/X.env.scope.names.lookup x=some .local) zau0._auto_1):DS X κ (.AugAssign (.Name x pos') .Add e pos) (R6 i wa):=by
 obtain⟨t,a1,a2⟩:=he
 refine⟨_,XO hN hi hx a1 Xu hf,λC M H n ρ σ D2 E R L w=>?_⟩
 obtain⟨a,ha,w⟩:=w
 obtain⟨v,e1,h1⟩:=R.sl i _ ha
 cases (show v=.int a from h1)
 refine⟨_,getD_some e1,a2 C M H n ρ σ _ _ R w λv H' d n' e1 f1 r1 p=>?_⟩
 obtain⟨b,rfl,p⟩:=p
 exact⟨a,b,rfl,Li r1,L.nx M H' n' _ _ ((R.step e1 f1).set (d:=.int (a+b)) rfl) p⟩
end Dp
namespace So
open PySem PySem.W PyProof.Rows
section
variable {O:KeyOrd}{key:Nat->O.α}{N:Nat}{cmp:Nat->Nat->(Bool->Shared->Prop)->Shared->Prop}{s:Shared}{p p0:Array Nat}
noncomputable def KN(O:KeyOrd)(key:Nat->O.α)(p:Array Nat)(i:Nat):O.α:=key (p.getD i 0)
noncomputable def Srt(O:KeyOrd)(key:Nat->O.α)(p:Array Nat)(k:Nat):Prop:=∀i j,i<=j->j<k->O.kle (KN O key p i) (KN O key p j)
noncomputable def Ze(O:KeyOrd)(key:Nat->O.α)(p:Array Nat)(k:Nat):Prop:=∀i j,i<=j->j<k->O.kle (KN O key p j) (KN O key p i)
noncomputable def Wq(O:KeyOrd)(key:Nat->O.α)(N:Nat)(cmp:Nat->Nat->(Bool->Shared->Prop)->Shared->Prop)(s:Shared):Prop:=∀(i j:Nat) (C:Bool->Shared->Prop),i<N->j<N->C (O.blt (key i) (key j)) s->cmp i j C s
noncomputable def Bd(N:Nat)(p:Array Nat):Prop:=0<N/\∀x∈p,x<N
theorem Lk(p:Array Nat)(i:Nat):p.getD i 0=(p[i]?).getD 0:=by
 simp
theorem Bd.get(h:Bd N p)(i:Nat):p.getD i 0<N:=by
 rw [Lk]
 cases e:p[i]? with
 | none=>exact h.1
 | some x=>exact h.2 x (Array.mem_of_getElem? e)
theorem Bd.perm{p':Array Nat}(h:Bd N p)(hp:p'.Perm p):Bd N p':=⟨h.1,λx hx=>h.2 x (hp.mem_iff.mp hx)⟩
theorem Ee{p q:Array Nat}{i j:Nat}(h:p[i]?=q[j]?):KN O key p i=KN O key q j:=by
 unfold KN
 rw [Lk,Lk,h]
theorem K0{src d:Nat}(hs:src<p.size)(hd:d<=src)(k:Nat) :
  KN O key (bubble p src d) k=if k=src - d then KN O key p src else if src - d<k/\k<=src then KN O key p (k - 1) else KN O key p k:=by
 have e:=getElem?_bubble hs d hd k
 by_cases h1:k=src - d
 ·rw [if_pos h1] at e ⊢; exact Ee e
 ·rw [if_neg h1] at e ⊢
  by_cases h2:src - d<k/\k<=src
  ·rw [if_pos h2] at e ⊢; exact Ee e
  ·rw [if_neg h2] at e ⊢; exact Ee e
theorem G8{i j:Nat}(hj:j<=p.size)(k:Nat):KN O key (kas_rev p i j) k=if i<=k/\k<j then KN O key p (i+j - 1 - k) else KN O key p k:=by
 have e:=getElem?_mirror_all (i:=i) hj k
 unfold kas_rev
 by_cases h1:i<=k/\k<j
 ·rw [if_pos h1] at e ⊢; exact Ee e
 ·rw [if_neg h1] at e ⊢; exact Ee e
theorem BR{i j:Nat}(hj:j<=p.size)(heq:∀k,i<=k->k<j->KN O key p k=KN O key p (j - 1))(k:Nat):KN O key (kas_rev p i j) k=KN O key p k:=by
 rw [G8 hj]
 split
 ·rw [heq _ (by omega) (by omega),heq k (by omega) (by omega)]
 ·rfl
theorem Bk(p:Array Nat)(i j:Nat):(kas_rev p i j).Perm p:=mirror_perm _ _ _ _
theorem yes{α:Type}{T₁ T₂:KasT α}{Q:α->Shared->Prop}(h:T₁.kasWp cmp Q s):(if true=true then T₁ else T₂).kasWp cmp Q s:=by rw [if_pos rfl]; exact h
theorem no{α:Type}{T₁ T₂:KasT α}{Q:α->Shared->Prop}(h:T₂.kasWp cmp Q s):(if false=true then T₁ else T₂).kasWp cmp Q s:=by rw [if_neg (by simp)]; exact h
theorem O1(hC:Wq O key N cmp s)(hb:Bd N p){nrem:Nat}{G:Nat->Shared->Prop}:∀(f n:Nat),1<=n->n+f=nrem->Srt O key p n ->
  (∀m,n<=m->m<=nrem->Srt O key p m->(m=nrem\/O.klt (KN O key p m) (KN O key p (m - 1)))->G m s)->(kas_asc p f n).kasWp cmp G s
 | 0,n,_,e,hs,h=>h n (Op _) (by omega) hs (.inl (by omega))
 | f+1,n,h1,e,hs,h=>by
  show cmp (p.getD n 0) (p.getD (n - 1) 0) (λc s'=>(if c=true then KasT.ret n else kas_asc p f (n+1)).kasWp cmp G s') s
  refine hC _ _ _ (hb.get n) (hb.get _) ?_
  cases hless:O.blt (key (p.getD n 0)) (key (p.getD (n - 1) 0)) with
  | true=>exact yes (h n (Op _) (by omega) hs (.inr hless))
  | false =>
   refine no (O1 hC hb f (n+1) (by omega) (by omega) (λi j hij hj=>?_) λm m1 m2 m3 m4=>h m (by omega) m2 m3 m4)
   by_cases hjx:j<n
   ·exact hs i j hij hjx
   ·have hj':j=n:=by omega
    subst hj'
    by_cases hi':i=j
    ·subst hi'; exact cn _
    ·exact ft (hs i (j - 1) (by omega) (by omega)) hless
theorem IA(hC:Wq O key N cmp s){nrem:Nat}{G:Array Nat×Nat×Nat->Shared->Prop}:∀(f:Nat) (p:Array Nat) (n q:Nat),p.Perm p0->Bd N p->nrem<=p.size->1<=n->n+f=nrem->Ze O key p n->q+1<=n ->
  (∀i,n - (q+1)<=i->i<n->KN O key p i=KN O key p (n - 1)) ->
  (∀p' m q',p'.Perm p0->Bd N p'->p'.size=p.size->n<=m->m<=nrem->Ze O key p' m->q'+1<=m->(∀i,m - (q'+1)<=i->i<m->KN O key p' i=KN O key p' (m - 1))->G (p',m,q') s)->(kas_desc f p n q).kasWp cmp G s
 | 0,p,n,q,hp,hb,hz,h1,e,hs,hq,he,h=>h p n q hp hb rfl (Op _) (by omega) hs hq he
 | f+1,p,n,q,hp,hb,hz,h1,e,hs,hq,he,h=>by
  show cmp (p.getD n 0) (p.getD (n - 1) 0) (λc s'=>(if c=true then (if q > 0 then kas_desc f (kas_rev p (n - (q+1)) n) (n+1) 0 else kas_desc f p (n+1) 0)
   else .ask (p.getD (n - 1) 0) (p.getD n 0) λd=>if d=true then .ret (p,n,q) else kas_desc f p (n+1) (q+1)).kasWp cmp G s') s
  refine hC _ _ _ (hb.get n) (hb.get _) ?_
  cases hless:O.blt (key (p.getD n 0)) (key (p.getD (n - 1) 0)) with
  | true =>
   have hl:O.klt (KN O key p n) (KN O key p (n - 1)):=hless
   have step1:∀xs:Array Nat,(∀k,KN O key xs k=KN O key p k)->Ze O key xs (n+1):=by
    intro xs hk i j hij hj
    rw [hk,hk]
    by_cases hjx:j<n
    ·exact hs i j hij hjx
    ·have hj':j=n:=by omega
     subst hj'
     by_cases hi':i=j
     ·subst hi'; exact cn _
     ·exact ft (fg hl) (hs i (j - 1) (by omega) (by omega))
   refine yes ?_
   have hsz:n<=p.size:=by omega
   by_cases hq0:q > 0
   ·rw [if_pos hq0]
    refine IA hC f _ (n+1) 0 ((Bk _ _ _).trans hp) (hb.perm (Bk _ _ _)) (by rw [kas_rev_size]; exact hz) (by omega) (by omega) (step1 _ (BR hsz he)) (by omega) (λi a b=>by congr 1; omega) λp' m q' a1 a2 a3 a4 a5 a6 a7 a8=>h p' m q' a1 a2 (a3.trans (kas_rev_size _ _)) (by omega) a5 a6 a7 a8
   ·rw [if_neg hq0]
    exact IA hC f _ (n+1) 0 hp hb hz (by omega) (by omega) (step1 _ λ_=>rfl) (by omega) (λi a b=>by congr 1; omega) λp' m q' a1 a2 a3 a4 a5 a6 a7 a8=>h p' m q' a1 a2 a3 (by omega) a5 a6 a7 a8
  | false =>
   refine no ?_
   show cmp (p.getD (n - 1) 0) (p.getD n 0) (λd s'=>(if d=true then KasT.ret (p,n,q) else kas_desc f p (n+1) (q+1)).kasWp cmp G s') s
   refine hC _ _ _ (hb.get _) (hb.get n) ?_
   cases hlarger:O.blt (key (p.getD (n - 1) 0)) (key (p.getD n 0)) with
   | true=>exact yes (h p n q hp hb rfl (Op _) (by omega) hs hq he)
   | false =>
    have heqx:KN O key p n=KN O key p (n - 1):=iw (O:=O) hlarger hless
    refine no (IA hC f p (n+1) (q+1) hp hb hz (by omega) (by omega) (λi j hij hj=>?_) (by omega) (λi a b=>?_) λp' m q' a1 a2 a3 a4 a5 a6 a7 a8=>h p' m q' a1 a2 a3 (by omega) a5 a6 a7 a8)
    ·by_cases hjx:j<n
     ·exact hs i j hij hjx
     ·have hj':j=n:=by omega
      subst hj'
      by_cases hi':i=j
      ·subst hi'; exact cn _
      ·rw [heqx]; exact hs i (j - 1) (by omega) (by omega)
    ·rw [show n+1 - 1=n by omega]
     by_cases hix:i=n
     ·subst hix; rfl
     ·rw [heqx]; exact he i (by omega) (by omega)
theorem MU(hC:Wq O key N cmp s){n nrem:Nat}{G:Nat×Array Nat->Shared->Prop}(hp:p.Perm p0)(hb:Bd N p)(hz:nrem<=p.size)(h1:1<=n)(hn:n<=nrem)(hs:Ze O key p n)
  (h:∀m p',p'.Perm p0->Bd N p'->p'.size=p.size->1<=m->m<=nrem->Srt O key p' m->G (m,p') s):(kas_tail3 n nrem p).kasWp cmp G s:=by
 unfold kas_tail3
 rw [KasT.kasWp_bind]
 have hsz:n<=p.size:=by omega
 refine O1 hC (hb.perm (Bk _ _ _)) (nrem - n) n h1 (by omega) (λi j hij hj=>?_) λm m1 m2 m3 _=>h m _ ((Bk _ _ _).trans hp) (hb.perm (Bk _ _ _)) (kas_rev_size _ _) (by omega) m2 m3
 rw [G8 hsz,G8 hsz,if_pos (by omega),if_pos (by omega)]
 exact hs _ _ (by omega) (by omega)
theorem HH(hC:Wq O key N cmp s){n nrem:Nat}{G:Nat×Array Nat->Shared->Prop}(hp:p.Perm p0)(hb:Bd N p)(hz:nrem<=p.size)(hn:n+1<=nrem)(hs:Ze O key p (n+1))
  (h:∀m p',p'.Perm p0->Bd N p'->p'.size=p.size->1<=m->m<=nrem->Srt O key p' m->G (m,p') s):(kas_descPart n nrem p).kasWp cmp G s:=by
 unfold kas_descPart
 rw [KasT.kasWp_bind]
 refine IA (p0:=p0) hC (nrem - (n+1)) p (n+1) 0 hp hb hz (by omega) (by omega) hs (by omega) (λi a b=>by congr 1; omega) λp' m q' a1 a2 a3 a4 a5 a6 a7 a8=>?_
 have hsz:m<=p'.size:=by omega
 show (if q' > 0 then kas_tail3 m nrem (kas_rev p' (m - (q'+1)) m) else kas_tail3 m nrem p').kasWp cmp G s
 by_cases hq0:q' > 0
 ·rw [if_pos hq0]
  refine MU hC ((Bk _ _ _).trans a1) (a2.perm (Bk _ _ _)) (by rw [kas_rev_size]; omega) (by omega) a5 (λi j hij hj=>?_) λm' p'' b1 b2 b3 b4 b5 b6=>h m' p'' b1 b2 (b3.trans ((kas_rev_size _ _).trans a3)) b4 b5 b6
  rw [BR hsz a8,BR hsz a8]
  exact a6 i j hij hj
 ·rw [if_neg hq0]
  exact MU hC a1 a2 (by omega) (by omega) a5 a6 λm' p'' b1 b2 b3 b4 b5 b6=>h m' p'' b1 b2 (b3.trans a3) b4 b5 b6
theorem UI(hC:Wq O key N cmp s){nrem:Nat}{G:Nat×Array Nat->Shared->Prop}(hp:p.Perm p0)(hb:Bd N p)(hz:nrem<=p.size)(h1:1<=nrem)
  (h:∀m p',p'.Perm p0->Bd N p'->p'.size=p.size->1<=m->m<=nrem->Srt O key p' m->G (m,p') s):(kas_count nrem p).kasWp cmp G s:=by
 unfold kas_count
 rw [KasT.kasWp_bind]
 refine O1 (nrem:=nrem) hC hb (nrem - 1) 1 (Op _) (by omega) (λi j hij hj=>by have:i=j:=(by omega); subst this; exact cn _) λn hn1 hn2 hsn hor=>?_
 by_cases hnn:n=nrem
 ·rw [if_pos (by simpa using hnn)]
  exact h n p hp hb rfl hn1 hn2 hsn
 ·rw [if_neg (by simpa using hnn)]
  have hlt:O.klt (KN O key p n) (KN O key p (n - 1)):=hor.resolve_left hnn
  by_cases hgt:n > 1
  ·rw [if_pos hgt]
   show cmp (p.getD 0 0) (p.getD (n - 1) 0) (λc s'=>(if c=true then KasT.ret (n,p) else kas_descPart n nrem (kas_rev p 0 n)).kasWp cmp G s') s
   refine hC _ _ _ (hb.get _) (hb.get _) ?_
   cases hrose:O.blt (key (p.getD 0 0)) (key (p.getD (n - 1) 0)) with
   | true=>exact yes (h n p hp hb rfl hn1 hn2 hsn)
   | false =>
    have hrose':O.kle (KN O key p (n - 1)) (KN O key p 0):=hrose
    have hsz:n<=p.size:=by omega
    have hall:∀k,0<=k->k<n->KN O key p k=KN O key p (n - 1):=by
     intro k _ hk
     have a1:=hsn 0 k (by omega) hk
     have a2:=hsn k (n - 1) (by omega) (by omega)
     exact iw a2 (ft hrose' a1)
    refine no (HH hC ((Bk _ _ _).trans hp) (hb.perm (Bk _ _ _)) (by rw [kas_rev_size]; exact hz) (by omega) (λi j hij hj=>?_) λm' p'' b1 b2 b3 b4 b5 b6=>h m' p'' b1 b2 (b3.trans (kas_rev_size _ _)) b4 b5 b6)
    rw [BR hsz hall,BR hsz hall]
    by_cases hjn:j<n
    ·rw [hall i (by omega) (by omega),hall j (by omega) hjn]; exact cn _
    ·have hj':j=n:=by omega
     subst hj'
     by_cases hi':i=j
     ·subst hi'; exact cn _
     ·rw [hall i (by omega) (by omega)]; exact fg hlt
  ·rw [if_neg hgt]
   have hn1':n=1:=by omega
   subst hn1'
   refine HH hC hp hb hz (by omega) (λi j hij hj=>?_) h
   by_cases hi':i=j
   ·subst hi'; exact cn _
   ·have hi0:i=0:=by omega
    have hj1:j=1:=by omega
    subst hi0; subst hj1
    exact fg hlt
theorem Io(hC:Wq O key N cmp s)(hb:Bd N p){k:Nat}(hs:Srt O key p k){G:Nat->Shared->Prop}
  (h:∀l,l<=k->(∀i,i<l->O.kle (KN O key p i) (KN O key p k))->(∀i,l<=i->i<k->O.klt (KN O key p k) (KN O key p i))->G l s):∀(f l r:Nat),l<=r->r<=k->r - l<=f ->
  (∀i,i<l->O.kle (KN O key p i) (KN O key p k))->(∀i,r<=i->i<k->O.klt (KN O key p k) (KN O key p i))->(kas_place p k f l r).kasWp cmp G s
 | 0,l,r,hlr,hrk,hm,hlo,hhi=>by
  have:l=r:=by omega
  subst this
  exact h l hrk hlo hhi
 | f+1,l,r,hlr,hrk,hm,hlo,hhi=>by
  unfold kas_place
  by_cases hge:l≥r
  ·rw [if_pos hge]
   have:l=r:=by omega
   subst this
   exact h l hrk hlo hhi
  ·rw [if_neg hge]
   show cmp (p.getD k 0) (p.getD ((l+r) / 2) 0) (λc s'=>(if c=true then kas_place p k f l ((l+r) / 2) else kas_place p k f ((l+r) / 2+1) r).kasWp cmp G s') s
   refine hC _ _ _ (hb.get _) (hb.get _) ?_
   cases hless:O.blt (key (p.getD k 0)) (key (p.getD ((l+r) / 2) 0)) with
   | true =>
    have hl:O.klt (KN O key p k) (KN O key p ((l+r) / 2)):=hless
    exact yes (Io hC hb hs h f l ((l+r) / 2) (by omega) (by omega) (by omega) hlo λi h1 h2=>KeyOrd.klt_of_klt_of_kle hl (hs _ _ h1 h2))
   | false =>
    have hl:O.kle (KN O key p ((l+r) / 2)) (KN O key p k):=hless
    exact no (Io hC hb hs h f ((l+r) / 2+1) r (by omega) (by omega) (by omega) (λi h1=>ft (hs i ((l+r) / 2) (by omega) (by omega)) hl) hhi)
theorem Do(hC:Wq O key N cmp s){n:Nat}{G:Array Nat->Shared->Prop}(h:∀p',p'.Perm p0->Srt O key p' n->G p' s):∀(f:Nat) (p:Array Nat) (k:Nat),p.Perm p0->Bd N p->n<=p.size->k+f=n->Srt O key p k->(kas_bin f p k).kasWp cmp G s
 | 0,p,k,hp,hb,hz,e,hs=>h p hp (by rw [← e]; exact hs)
 | f+1,p,k,hp,hb,hz,e,hs=>by
  rw [show kas_bin (f+1) p k=(kas_place p k k 0 k).bind λl=>kas_bin f (bubble p k (k - l)) (k+1) from rfl,KasT.kasWp_bind]
  refine Io hC hb hs (λl hlk hlo hhi=>?_) k 0 k (bH _) (Op _) (by omega) (λi hi=>by omega) λi a b=>by omega
  have hks:k<p.size:=by omega
  refine Do hC h f _ (k+1) ((bubble_perm _ _ _).trans hp) (hb.perm (bubble_perm _ _ _)) (by rw [bubble_size]; exact hz) (by omega) λi j hij hj=>?_
  rw [K0 hks (by omega),K0 hks (by omega),show k - (k - l)=l by omega]
  by_cases hi1:i=l
  ·rw [if_pos hi1]
   by_cases hj1:j=l
   ·rw [if_pos hj1]; exact cn _
   ·rw [if_neg hj1,if_pos (by omega)]
    exact fg (hhi (j - 1) (by omega) (by omega))
  ·rw [if_neg hi1]
   by_cases hi2:l<i/\i<=k
   ·rw [if_pos hi2,if_neg (by omega),if_pos (by omega)]
    exact hs (i - 1) (j - 1) (by omega) (by omega)
   ·rw [if_neg hi2]
    by_cases hj1:j=l
    ·rw [if_pos hj1]; exact hlo i (by omega)
    ·rw [if_neg hj1]
     by_cases hj2:l<j/\j<=k
     ·rw [if_pos hj2]
      exact hs i (j - 1) (by omega) (by omega)
     ·rw [if_neg hj2]
      exact hs i j hij (by omega)
theorem sort_ok{n:Nat}(h1:1<=n)(hC:Wq O key n cmp s){G:Array Nat->Shared->Prop}(h:∀p,p.Perm (bO (bU n))->Srt O key p n->G p s):(kas_sort n).kasWp cmp G s:=by
 unfold kas_sort
 rw [KasT.kasWp_bind]
 have hb:Bd n (bO (bU n)):=⟨h1,λx hx=>by simpa using hx⟩
 have hsz:(bO (bU n)).size=n:=by simp
 refine UI hC (iK _) hb (by omega) h1 λm p' a1 a2 a3 a4 a5 a6=>?_
 show (if m<n then kas_bin (n - max m 1) p' (max m 1) else KasT.ret p').kasWp cmp G s
 by_cases hlt:m<n
 ·rw [if_pos hlt,show max m 1=m by omega]
  exact Do (p0:=bO (bU n)) hC h (n - m) p' m a1 a2 (by omega) (by omega) a6
 ·rw [if_neg hlt]
  exact h p' a1 (by rw [show n=m by omega]; exact a6)
end
end So
namespace L2
open PySem PySem.Spec PyProof.Rows PySem.W
noncomputable def Xg:Key->Key->Bool
 | .inl i,.inl j=>decide (i<j)
 | .inr x,.inr y=>decide (x.cps.toList<y.cps.toList)
 | .inl _,.inr _=>true
 | .inr _,.inl _=>false
noncomputable def BB:List Key->List Key->Bool
 | [],[]=>false
 | [],_::_=>true
 | _::_,[]=>false
 | x::xs,y::ys=>if x=y then BB xs ys else Xg x y
theorem Od:∀x:Key,Xg x x=false
 | .inl i=>decide_eq_false (Int.lt_irrefl i)
 | .inr x=>decide_eq_false (bc _)
theorem Q5:∀x y z:Key,Xg x y=true->Xg y z=true->Xg x z=true
 | .inl i,.inl j,.inl k,h1,h2=>decide_eq_true (Int.lt_trans (of_decide_eq_true h1) (of_decide_eq_true h2))
 | .inr i,.inr j,.inr k,h1,h2=>decide_eq_true (e_ (of_decide_eq_true h1) (of_decide_eq_true h2))
 | .inl i,.inl j,.inr k,_,_=>rfl
 | .inl i,.inr j,.inr k,_,_=>rfl
 | .inl i,.inr j,.inl k,_,h=>by cases h
 | .inr i,.inl j,_,h,_=>by cases h
 | .inr i,.inr j,.inl k,_,h=>by cases h
theorem KS:∀x y:Key,Xg x y=false->Xg y x=false->x=y
 | .inl i,.inl j,h1,h2=>congrArg eN (by have a:=of_decide_eq_false h1; have b:=of_decide_eq_false h2; omega)
 | .inr x,.inr y,h1,h2=>by
  have a:=of_decide_eq_false h1
  have b:=of_decide_eq_false h2
  have e:x.cps.toList=y.cps.toList:=List.le_antisymm (as:=x.cps.toList) (bs:=y.cps.toList) b a
  obtain⟨u⟩:=x
  obtain⟨v⟩:=y
  exact congrArg ce (congrArg Str.mk (Array.ext' e))
 | .inl i,.inr j,h,_=>by cases h
 | .inr i,.inl j,_,h=>by cases h
theorem B8:∀x:List Key,BB x x=false
 | []=>rfl
 | x::xs=>by unfold BB; rw [if_pos rfl]; exact B8 xs
theorem Bz:∀x y z:List Key,BB x y=true->BB y z=true->BB x z=true
 | [],[],_,h,_=>by cases h
 | [],_::_,[],_,h=>by cases h
 | [],_::_,_::_,_,_=>rfl
 | _::_,[],_,h,_=>by cases h
 | _::_,_::_,[],_,h=>by cases h
 | x::xs,y::ys,z::zs,h1,h2=>by
  unfold BB at h1 h2 ⊢
  by_cases e1:x=y
  ·subst e1
   rw [if_pos rfl] at h1
   by_cases e2:x=z
   ·subst e2
    rw [if_pos rfl] at h2 ⊢
    exact Bz xs ys zs h1 h2
   ·rw [if_neg e2] at h2 ⊢
    exact h2
  ·rw [if_neg e1] at h1
   by_cases e2:y=z
   ·subst e2
    rw [if_neg e1]
    exact h1
   ·rw [if_neg e2] at h2
    have h3:=Q5 x y z h1 h2
    by_cases e3:x=z
    ·subst e3
     rw [Od] at h3
     cases h3
    ·rw [if_neg e3]
     exact h3
theorem CU:∀x y:List Key,BB x y=false->BB y x=false->x=y
 | [],[],_,_=>rfl
 | [],_::_,h,_=>by cases h
 | _::_,[],_,h=>by cases h
 | x::xs,y::ys,h1,h2=>by
  unfold BB at h1 h2
  by_cases e:x=y
  ·subst e
   rw [if_pos rfl] at h1 h2
   rw [CU xs ys h1 h2]
  ·rw [if_neg e] at h1
   rw [if_neg (λz=>e z.symm)] at h2
   exact absurd (KS x y h1 h2) e
noncomputable def Ql:KeyOrd:=⟨List Key,BB,B8,Bz,λa b c h=>by
 cases h1:BB a b with
 | true=>exact .inl rfl
 | false =>
  cases h2:BB b a with
  | true=>exact .inr (Bz b a c h2 h)
  | false=>rw [← CU a b h1 h2]; exact .inr h,CU⟩
theorem Hz:∀x y:List Key,BV x y=true->EO x y=BB x y
 | [],[],_=>rfl
 | [],_::_,_=>rfl
 | _::_,[],_=>rfl
 | x::xs,y::ys,h=>by
  have h':(KP x y&&BV xs ys)=true:=h
  rw [bL] at h'
  unfold EO BB
  by_cases e:x=y
  ·rw [if_pos e,if_pos e]; exact Hz xs ys h'.2
  ·rw [if_neg e,if_neg e]
   cases x with
   | inl i=>cases y with
    | inl j=>rfl
    | inr z=>cases h'.1
   | inr i=>cases y with
    | inl j=>cases h'.1
    | inr z=>rfl
section
variable {prog:Program}{w:World}{A:Around}{E:Value->Shared->Prop}{s:Shared}
theorem TL{b:Bool}{Q:Bool->Shared->Prop}{nx ny:Nat}:∀(ns ms:List Key) (us ws:List Value) (i:Nat),Vals (ns.map kOf) us->Vals (ms.map kOf) ws->BV ns ms=true->ns.length+ny=ms.length+nx->Q (EO ns ms) s ->
  KatLex prog w A b (decide (nx<ny)) Q (us.zip ws) i s
 | [],[],us,ws,i,h1,h2,_,hl,q=>by
  cases h1
  cases h2
  refine kat_nil ?_
  rw [show decide (nx<ny)=false from decide_eq_false (by simp only [cj] at hl; omega)]
  exact q
 | [],m::ms,us,ws,i,h1,h2,_,hl,q=>by
  cases h1
  rw [List.zip_nil_left]
  refine kat_nil ?_
  rw [show decide (nx<ny)=true from decide_eq_true (by simp only [cj,XV] at hl; omega)]
  exact q
 | n::ns,[],us,ws,i,h1,h2,_,hl,q=>by
  cases h2
  rw [List.zip_nil_right]
  refine kat_nil ?_
  rw [show decide (nx<ny)=false from decide_eq_false (by simp only [cj,XV] at hl; omega)]
  exact q
 | n::ns,m::ms,us,ws,i,h1,h2,hs,hl,q=>by
  have hs':(KP n m&&BV ns ms)=true:=hs
  rw [bL] at hs'
  have q':Q (if n=m then EO ns ms else Zq n m) s:=q
  cases h1 with
  | @cons _ u _ ur r1 t1 =>
   cases h2 with
   | @cons _ v _ vr r2 t2 =>
    rw [gT]
    have ih:n=m->KatLex prog w A b (decide (nx<ny)) Q (ur.zip vr) (i+1) s:=λe=>TL ns ms ur vr (i+1) t1 t2 hs'.2 (by simp only [XV] at hl; omega) (by rw [if_pos e] at q'; exact q')
    cases n with
    | inl x =>
     cases m with
     | inr y=>cases hs'.1
     | inl y =>
      obtain⟨tu,rfl⟩:=r1
      obtain⟨tv,rfl⟩:=r2
      refine kat_cons (wpAny_eqBool_int ?_)
      by_cases e:x=y
      ·rw [show (x==y)=true by simpa using e]
       exact kat_yes (ih (by rw [e]))
      ·rw [show (x==y)=false by simpa using e]
       refine kat_no ?_
       rw [if_neg (λz=>e (i8 z))] at q'
       cases hf:(b&&i==0) with
       | true=>exact oneLt_int q'
       | false=>exact kat_one _ _ (iO (show PySem.W.BoolBack Q (.bool (decide (x<y))) s from q'))
    | inr x =>
     cases m with
     | inl y=>cases hs'.1
     | inr y =>
      obtain⟨tu,rfl⟩:=r1
      obtain⟨tv,rfl⟩:=r2
      refine kat_cons (wpAny_eqBool_str ?_)
      by_cases e:x=y
      ·rw [show decide (x=y)=true by simpa using e]
       exact kat_yes (ih (by rw [e]))
      ·rw [show decide (x=y)=false by simpa using e]
       refine kat_no ?_
       rw [if_neg (λz=>e (cQ z))] at q'
       cases hf:(b&&i==0) with
       | true=>exact oneLt_str q'
       | false=>exact kat_one _ _ (PySem.P.lt_str (show PySem.W.BoolBack Q (.bool (decide (x.cps.toList<y.cps.toList))) s from q'))
structure QN (h:Heap) (ks:List Value) (keys:List (List Key)):Prop where
 at_:∀(i:Nat) (ns:List Key),keys[i]?=some ns->∃a o its n,ks[i]?=some (.ref a)/\h.get? a=some o/\o.cls=.type "tuple"/\o.data=.seq its n/\Vals (ns.map kOf) its.toList
 len:ks.length=keys.length
 same:∀x∈keys,∀y∈keys,BV x y=true
 ne:∀x∈keys,x≠[]
noncomputable def Zk:Key->String
 | .inl _ => "int"
 | .inr _ => "str"
theorem firsts{h:Heap}:∀(ks:List Value) (keys:List (List Key)) (T:String),ks.length=keys.length->(∀(i:Nat) (ns:List Key),keys[i]?=some ns->∃a o its n,ks[i]?=some (.ref a)/\h.get? a=some o/\o.cls=.type "tuple"/\o.data=.seq its n/\Vals (ns.map kOf) its.toList) ->
  (∀x∈keys,∃k r,x=k::r/\Zk k=T)->∃fs:List Value,KatTups h ks fs/\fs.length=keys.length/\∀v∈fs,typeOf v=pure (.type T)
 | [],[],T,_,_,_=>⟨[],trivial,rfl,λv hv=>by cases hv⟩
 | [],_::_,T,hl,_,_=>by cases hl
 | _::_,[],T,hl,_,_=>by cases hl
 | k::ks,x::keys,T,hl,h1,h2=>by
  obtain⟨fs,g1,g2,g3⟩:=firsts ks keys T (by simpa using hl) (λi ns e=>by
   obtain⟨a,o,its,n,e1,r⟩:=h1 (i+1) ns (by simpa using e)
   exact⟨a,o,its,n,by simpa using e1,r⟩) λy hy=>h2 y (Rs _ hy)
  obtain⟨a,o,its,n,e1,e2,e3,e4,e5⟩:=h1 0 x rfl
  have e1:k=.ref a:=by simpa using e1
  subst e1
  obtain⟨k,r,rfl,hk⟩:=h2 x No
  rw [bE] at e5
  cases hits:its.toList with
  | nil=>rw [hits] at e5; cases e5
  | cons f tl =>
   rw [hits] at e5
   cases e5 with
   | cons r1 r2 =>
    refine⟨f::fs,KatTups.cons e2 e3 e4 (by rw [← fw,hits]; rfl) g1,by rw [XV,XV,g2],λv hv=>?_⟩
    rcases TM.mp hv with rfl | hv
    ·cases k with
     | inl i=>obtain⟨t,rfl⟩:=r1; subst hk; rfl
     | inr i=>obtain⟨t,rfl⟩:=r1; subst hk; rfl
    ·exact g3 v hv
theorem KD{ks:List Value}{keys:List (List Key)}(K:QN s.heap ks keys)(h2:2<=ks.length){G:Array Nat->Shared->Prop}(h:∀p,p.Perm (bO (bU ks.length))->So.Srt Ql (λi=>keys.getD i []) p ks.length->G p s) :
  wpAny (model prog w) A (keyKind' ks.toArray) (λκ s'=>(kas_sort ks.length).kasWp (kas_ask prog w A κ ks) G s') (λ_ _=>False) s:=by
 obtain⟨x0,xr,hx⟩:∃x0 xr,keys=x0::xr:=by
  cases e:keys with
  | nil=>have:=K.len; rw [e] at this; simp only [cj] at this; omega
  | cons x r=>exact⟨x,r,rfl⟩
 have m0:x0∈keys:=by rw [hx]; exact No
 obtain⟨k0,r0,e0⟩:∃k r,x0=k::r:=by
  cases e:x0 with
  | nil=>exact absurd e (K.ne x0 m0)
  | cons k r=>exact⟨k,r,rfl⟩
 have hty:∀x∈keys,∃k r,x=k::r/\Zk k=Zk k0:=λx hm=>by
  cases e:x with
  | nil=>exact absurd e (K.ne x hm)
  | cons k r =>
   refine⟨k,r,rfl,?_⟩
   have hsm:=K.same x hm x0 m0
   rw [e,e0] at hsm
   have hsm:(KP k k0&&BV r r0)=true:=hsm
   rw [bL] at hsm
   cases k with
   | inl i=>cases k0 with
    | inl j=>rfl
    | inr j=>cases hsm.1
   | inr i=>cases k0 with
    | inl j=>cases hsm.1
    | inr j=>rfl
 obtain⟨fs,g1,g2,g3⟩:=firsts ks keys (Zk k0) K.len K.at_ hty
 refine kat_kind g1 (by rw [g2,← K.len]; omega) (λv hv=>by rw [g3 v hv]; exact Looks.now) (by simp) ?_
 refine So.sort_ok (O:=Ql) (key:=λi=>keys.getD i []) (by omega) (λi j C hi hj hC=>?_) h
 have hi':i<keys.length:=by rw [← K.len]; exact hi
 have hj':j<keys.length:=by rw [← K.len]; exact hj
 obtain⟨a,o,its,n,e1,e2,e3,e4,e5⟩:=K.at_ i keys[i] (Db hi')
 obtain⟨a',o',its',n',e1',e2',e3',e4',e5'⟩:=K.at_ j keys[j] (Db hj')
 unfold kas_ask
 rw [show ks.getD i bX=.ref a by rw [bF,e1]; rfl,show ks.getD j bX=.ref a' by rw [bF,e1']; rfl]
 have hsm:=K.same _ (bv hi') _ (bv hj')
 refine kat_lt e2 e4 e2' e4' (TL keys[i] keys[j] _ _ 0 e5 e5' hsm ?_ ?_)
 ·have l1:=e5.length
  have l2:=e5'.length
  have l3:(keys[i].map kOf).length=keys[i].length:=FM ..
  have l4:(keys[j].map kOf).length=keys[j].length:=FM ..
  have l5:its.toList.length=its.size:=bi
  have l6:its'.toList.length=its'.size:=bi
  omega
 ·rw [Hz _ _ hsm]
  have g1:keys.getD i []=keys[i]:=by rw [bF,Db hi']; rfl
  have g2:keys.getD j []=keys[j]:=by rw [bF,Db hj']; rfl
  have hC':C (BB (keys.getD i []) (keys.getD j [])) s:=hC
  rw [g1,g2] at hC'
  exact hC'
theorem DV{v:Value}{kw:List (Str×Value)}{Q:Value->Shared->Prop}(ha1:argsOk "sorted" ⟨[v],kw⟩)(ha2:∀x,argsOk "list.sort" ⟨[.ref x],kw⟩)
  (hc:wpAny (model prog w) A.in1 (collect v) (λvs s1=>vs.length<=sizeLine/\wpAny (model prog w) A.in1.in1 (Builtin.«list.sort» ⟨[.ref s1.heap.objs.size],kw⟩) (λfin s'=>fin=.done (.ret .none)/\Q (.ref s1.heap.objs.size) s') E { s1 with heap:=s1.heap.push (seqObj "list" vs.toArray 0) }) E s) :
  wpAny (model prog w) A (call (.builtin "sorted") [v] kw) Q E s:=by
 refine call_function_entry_kw kind_sorted plain_sorted entry_sorted ha1 ?_
 unfold Builtin.«sorted»
 refine Ch (m:=checkCount "sorted" 1 1 _) (Go ?_)
 refine Ch (cC hc (λvs s1 h=>?_) λ_ _ x=>x)
 refine Ch (gg ?_ h.1)
 have hoL:(s1.heap.push (seqObj "list" vs.toArray 0)).get? s1.heap.objs.size=some (seqObj "list" vs.toArray 0):=Sc _ rfl
 refine Ch (bw (wpAny_call_entry_kw PyProof.Rows.slot_list_sort ⟨_,hoL,rfl⟩ PyProof.Rows.entry_list_sort (cC h.2 (λfin s' hf=>?_) λ_ _ x=>x) (ha2 _)))
 exact⟨_,hf.1,Go ⟨_,rfl,hf.2⟩⟩
noncomputable def Cj(h:Heap)(D:Addr)(vs:List Value):Heap:=((h.update D (b9 λ_=>(#[]:Array Value))).push (seqObj "tuple" vs.toArray 0)).push (seqObj "list" #[] 0)
theorem Gq{h:Heap}{D:Addr}{vs:List Value}{b:Addr}{o:Obj}(hb:b≠D)(e:h.get? b=some o):(Cj h D vs).get? b=some o :=
 Ev _ (Ev _ ((bN _ _ (bp hb)).trans e))
theorem IT{h:Heap}{D:Addr}{vs:List Value}{n:Nat}(ho:h.get? D=some (seqObj "list" vs.toArray n)):∃e1,(Cj h D vs).get? D=some (seqObj "list" #[] e1)/\(h.update D (b9 λ_=>(#[]:Array Value))).get? D=some (seqObj "list" #[] e1):=by
 obtain⟨e1,ho1⟩:∃e1,(h.update D (b9 λ_=>(#[]:Array Value))).get? D=some (seqObj "list" #[] e1):=⟨_,eQ ho λ_=>#[]⟩
 exact⟨e1,Ev _ (Ev _ ho1),ho1⟩
theorem NE{D:Addr}{vs:List Value}{n:Nat}{P:PySem.Fin->Shared->Prop}{G:Array Nat->Prop}(ho:s.heap.get? D=some (seqObj "list" vs.toArray n))(h64:vs.length<64)
  (hk:2<=vs.length->wpAny (model prog w) A (keyKind' vs.toArray) (λκ s'=>(kas_sort vs.length).kasWp (kas_ask prog w A κ vs) (λp s''=>s''={ s with heap:=Cj s.heap D vs }/\G p) s') (λ_ _=>False) { s with heap:=Cj s.heap D vs })
  (h1:vs.length<2->G (bO (bU vs.length))) (hfin:∀(p:Array Nat) (h':Heap) (c:Nat),p.size=vs.length->G p->(∀b o,b≠D->s.heap.get? b=some o->h'.get? b=some o)->h'.get? D=some (seqObj "list" (bO (p.toList.map λi=>vs.getD i bX)) c)->P (.done (.ret .none)) { s with heap:=h' }) :
  wpAny (model prog w) A (Builtin.«list.sort» ⟨[.ref D],[]⟩) P E s:=by
 obtain⟨e1,ho6,ho1⟩:=IT ho
 have fin:∀(p:Array Nat),p.size=vs.length->G p->P (.done (.ret .none)) { s with heap:=(Cj s.heap D vs).update D (b9 λ_=>bO (p.toList.map λi=>vs.getD i bX)) }:=λp hp hg=>by
  obtain⟨c2,hc2⟩:∃c2,((Cj s.heap D vs).update D (b9 λ_=>bO (p.toList.map λi=>vs.getD i bX))).get? D=some (seqObj "list" (bO (p.toList.map λi=>vs.getD i bX)) c2):=⟨_,eQ ho6 λ_=>bO (p.toList.map λi=>vs.getD i bX)⟩
  exact hfin p _ c2 hp hg (λb o hb e=>(bN _ _ (bp hb)).trans (Gq hb e)) hc2
 rw [list_sort_plain]
 refine Ch (gA ho rfl ?_)
 refine Ch (dq ho rfl ?_ (by rw [Re,bm]; omega) (bH _))
 refine Ch (gQ ho1 rfl ?_)
 refine Ch (gM ?_ (by show vs.length<=_; rw [bm]; omega))
 refine Ch (gg ?_ (bH _))
 refine bw ?_
 show wpAny (model prog w) A _ P E { s with heap:=Cj s.heap D vs }
 dsimp only
 by_cases h2:vs.length<2
 ·have h2':vs.toArray.size<2:=by rw [Re]; exact h2
  rw [if_pos h2',if_pos h2']
  refine Ch (Go ?_)
  rw [StateT.run_pure]
  refine Ch (Go ?_)
  dsimp only
  refine Ch (gQ ho6 rfl ?_)
  have hsz:(bO (bU vs.length)).size=vs.length:=by simp
  have hout:(arrOf (SortSt.mk' general' (vs.toArray.zip vs.toArray) #[] 7 none)).map (·.2)=bO ((bO (bU vs.length)).toList.map λi=>vs.getD i bX):=by
   refine kat_snds rfl ?_
   have e:=kas_range (vs.toArray.zip vs.toArray)
   rw [show (vs.toArray.zip vs.toArray).size=vs.length by simp] at e
   exact e.symm
  rw [hout]
  refine Ch (dq ho6 rfl ?_ (bH _) (by rw [Re,FM,bi,hsz,bm]; omega))
  simp only [bne_self_eq_false,bz,if_false]
  exact Go (fin _ hsz (h1 h2))
 ·have h2':¬vs.toArray.size<2:=by rw [Re]; exact h2
  rw [if_neg h2',if_neg h2']
  refine Ch (cC (hk (by omega)) (λκ s0 hk=>?_) λ_ _ x=>x.elim)
  refine Ch (cC (kat_run (Q:=λst' s'=>∃p:Array Nat,p.size=vs.length/\arrOf st'=p.map (kas_item (vs.toArray.zip vs.toArray))/\failedOf st'=none/\s'={ s with heap:=Cj s.heap D vs }/\G p)
   rfl (by omega) h64 (λp' st' s' a1 a2 a3 a4=>⟨p',a1,a2,a3,a4⟩) hk) ?_ λ_ _ e=>e)
  rintro ⟨⟨⟩,st'⟩ s' ⟨p,hp,har,hf,rfl,hg⟩
  dsimp only
  have hout:=kat_snds rfl har
  have hsz:(bO (p.toList.map λi=>vs.getD i bX)).size=vs.length:=by rw [Re,FM,bi,hp]
  rw [hout]
  refine Ch (gQ ho6 rfl ?_)
  refine Ch (dq ho6 rfl ?_ (bH _) (bS (g_ hsz) (by rw [bm]; omega)))
  rw [hf]
  simp only [bne_self_eq_false,bz,if_false]
  exact Go (fin p hp hg)
theorem Q6{D:Addr}{f:Value}{vs:List Value}{n:Nat}{P:PySem.Fin->Shared->Prop}(ho:s.heap.get? D=some (seqObj "list" vs.toArray n))(h64:vs.length<64)(J:List Value->Shared->Prop)(kS:Addr)(hkS:kS=s.heap.objs.size+1)
  (h0:∀e1,(Cj s.heap D vs).get? D=some (seqObj "list" #[] e1)->J [] { s with heap:=Cj s.heap D vs })
  (hstep:∀(ks:List Value) (s':Shared) (e:Nat) (v:Value),J ks s'->s'.heap.get? kS=some (seqObj "list" ks.toArray e)->vs[ks.length]?=some v->wpAny (model prog w) A (call f [v]) (λk s''=>s''.heap.get? kS=some (seqObj "list" ks.toArray e)/\J (ks++[k]) { s'' with heap:=s''.heap.update kS (b9 (·.push k)) }) (λ_ _=>False) s')
  (hend:∀(e1:Nat),(Cj s.heap D vs).get? D=some (seqObj "list" #[] e1)->∀(ks:List Value) (s':Shared),J ks s'->ks.length=vs.length->s'.heap.get? D=some (seqObj "list" #[] e1)/\∃G:Array Nat->Prop,
   (2<=vs.length->wpAny (model prog w) A (keyKind' ks.toArray) (λκ s2=>(kas_sort vs.length).kasWp (kas_ask prog w A κ ks) (λp s''=>s''=s'/\G p) s2) (λ_ _=>False) s')/\(vs.length<2->G (bO (bU vs.length))) /\
   ∀(p:Array Nat) (h':Heap) (c:Nat),p.size=vs.length->G p->(∀b o,b≠D->b≠kS->s'.heap.get? b=some o->h'.get? b=some o)->h'.get? D=some (seqObj "list" (bO (p.toList.map λi=>vs.getD i bX)) c)->(∃o,h'.get? kS=some o)->P (.done (.ret .none)) { s' with heap:=h' }) :
  wpAny (model prog w) A (ksk_tree D f false) P E s:=by
 obtain⟨e1,ho6,ho1⟩:=IT ho
 have hsz1:((s.heap.update D (b9 λ_=>(#[]:Array Value))).push (seqObj "tuple" vs.toArray 0)).objs.size=kS:=by rw [size_push',Heap.size_update,hkS]
 have hD:D<s.heap.objs.size:=Tk ho
 have hDk:D≠kS:=by rw [hkS]; exact bK (cy hD)
 have hk0:(Cj s.heap D vs).get? kS=some (seqObj "list" #[] 0):=by rw [← hsz1]; exact Sc _ rfl
 unfold ksk_tree
 refine Ch (gA ho rfl ?_)
 refine Ch (dq ho rfl ?_ (by rw [Re,bm]; omega) (bH _))
 refine Ch (gQ ho1 rfl ?_)
 refine Ch (gM ?_ (by show vs.length<=_; rw [bm]; omega))
 refine Ch (gg ?_ (bH _))
 refine bw ?_
 show wpAny (model prog w) A (ksk_rest D f false vs.toArray e1 (.ref ((s.heap.update D (b9 λ_=>(#[]:Array Value))).push (seqObj "tuple" vs.toArray 0)).objs.size)) P E { s with heap:=Cj s.heap D vs }
 rw [hsz1]
 unfold ksk_rest
 refine Ch (en ?_)
 first
  | rw [gX]
  | (rw [← Array.forIn_toList]; simp only [fC])
  | rw [← Array.forIn_toList]
 refine Ch (ksk_fold (I:=λi s'=>∃ks e,fh ks=i/\J ks s'/\s'.heap.get? kS=some (seqObj "list" ks.toArray e)) vs 0 _ ⟨[],0,rfl,h0 e1 ho6,hk0⟩ (λj x s' hx hI=>?_) λs' hI=>?_)
 ·obtain⟨ks,e,hl,hJ,hk⟩:=hI
  have hj:j<vs.length:=(TW.mp hx).1
  have hl:ks.length=j:=by omega
  refine Ch (eO (cC (hstep ks s' e x hJ hk (by rw [hl]; exact hx)) (λk s'' hk2=>?_) λ_ _ hF=>hF.elim))
  have ea:(bO ks).push k=bO (ks++[k]):=by simp
  obtain⟨c2,hc2⟩:∃c2,(s''.heap.update kS (b9 (·.push k))).get? kS=some (seqObj "list" (bO (ks++[k])) c2):=⟨_,by rw [← ea]; exact eQ hk2.1 (·.push k)⟩
  try dsimp only
  refine Ch (dq hk2.1 rfl ?_ (by rw [Re,bm]; omega) (bS (g_ (Array.size_push ..)) (by rw [Re,bm]; omega)))
  exact Go ⟨rfl,ks++[k],c2,by rw [bD,bW]; omega,hk2.2,hc2⟩
 ·obtain⟨ks,e,hl,hJ,hk⟩:=hI
  have hl:ks.length=vs.length:=by omega
  obtain⟨hD',G,g2,g1,g3⟩:=hend e1 ho6 ks s' hJ hl
  try dsimp only
  refine Ch (gA hk rfl ?_)
  have tail:∀(st:SortSt) (p:Array Nat),p.size=vs.length->G p->(arrOf st).map (·.2)=bO (p.toList.map λi=>vs.getD i bX)->failedOf st=none->wpAny (model prog w) A (ksk_tail D false e1 (.ref kS) st) P E s':=λst p hp hg hout hf=>by
   have hsz:(bO (p.toList.map λi=>vs.getD i bX)).size=vs.length:=by rw [Re,FM,bi,hp]
   obtain⟨ck,hck⟩:∃ck,(s'.heap.update kS (b9 λ_=>(#[]:Array Value))).get? kS=some (seqObj "list" #[] ck):=⟨_,eQ hk λ_=>#[]⟩
   have hD2:(s'.heap.update kS (b9 λ_=>(#[]:Array Value))).get? D=some (seqObj "list" #[] e1):=(bN _ _ (bp hDk)).trans hD'
   obtain⟨c2,hc2⟩:∃c2,((s'.heap.update kS (b9 λ_=>(#[]:Array Value))).update D (b9 λ_=>bO (p.toList.map λi=>vs.getD i bX))).get? D=some (seqObj "list" (bO (p.toList.map λi=>vs.getD i bX)) c2):=⟨_,eQ hD2 λ_=>bO (p.toList.map λi=>vs.getD i bX)⟩
   unfold ksk_tail
   try dsimp only
   rw [hout]
   refine Ch (dq hk rfl ?_ (by rw [Re,bm]; omega) (bH _))
   refine Ch (eS ?_)
   refine Ch (gQ hD2 rfl ?_)
   refine Ch (dq hD2 rfl ?_ (bH _) (bS (g_ hsz) (by rw [bm]; omega)))
   rw [hf]
   simp only [bne_self_eq_false,bz,if_false]
   refine Go (g3 p _ c2 hp hg (λb o hb1 hb2 e=>(bN _ _ (bp hb1)).trans ((bN _ _ (bp hb2)).trans e)) hc2 ⟨_,(bN _ _ hDk).trans hck⟩)
  unfold ksk_end
  try dsimp only
  simp only [bz,if_false]
  by_cases h2:vs.length<2
  ·have h2':vs.toArray.size<2:=by rw [Re]; exact h2
   rw [if_pos h2',if_pos h2']
   refine Ch (Go ?_)
   rw [StateT.run_pure]
   refine Ch (Go ?_)
   try dsimp only
   refine tail _ (bO (bU vs.length)) (by simp) (g1 h2) (kat_snds hl ?_) rfl
   have er:=kas_range (ks.toArray.zip vs.toArray)
   rw [show (ks.toArray.zip vs.toArray).size=vs.length by simp [hl]] at er
   exact er.symm
  ·have h2':¬vs.toArray.size<2:=by rw [Re]; exact h2
   rw [if_neg h2',if_neg h2']
   refine Ch (cC (g2 (by omega)) (λκ s0 hk=>?_) λ_ _ x=>x.elim)
   refine Ch (cC (kat_run (Q:=λst' s2=>∃p:Array Nat,p.size=vs.length/\arrOf st'=p.map (kas_item (ks.toArray.zip vs.toArray))/\failedOf st'=none/\s2=s'/\G p)
    hl (by omega) h64 (λp' st' s2 a1 a2 a3 a4=>⟨p',a1,a2,a3,a4⟩) hk) ?_ λ_ _ e=>e)
   rintro ⟨⟨⟩,st'⟩ s2 ⟨p,hp,har,hf,rfl,hg⟩
   try dsimp only
   exact tail st' p hp hg (kat_snds hl har) hf
end
section
variable {X:Cx}{pins:List (Addr×Obj)}{σ:L2.St}{H:Hp}{s:Shared}{h':Heap}
structure Rb (X:Cx) (pins:List (Addr×Obj)) (D:Addr):Prop where
 new:X.s₀.heap.objs.size<=D
 loc:D≠X.env.locals
 cell:∀x c,X.env.cells.lookup x=some c->c≠D
 pin:∀p∈X.pn++pins,p.1≠D
 fs:D∉X.fs
theorem Inv.mine(I:Inv X pins σ H s){D:Addr}(h:s.heap.objs.size<=D):Rb X pins D:=by
 refine⟨bS I.sz h,λz=>?_,λx c e z=>?_,λp hp z=>?_,I.nofs h⟩
 ·have:=I.lt
  rw [← z] at this
  exact absurd this (fS.mpr h)
 ·obtain⟨v,o,ho,_⟩:=I.cell x c e
  have:=Tk ho
  rw [z] at this
  exact absurd this (fS.mpr h)
 ·obtain⟨e,_⟩:=I.pin p hp
  have:=Tk e
  rw [z] at this
  exact absurd this (fS.mpr h)
structure KeysAt (K:Frag) (H:Hp) (vs:List V) (keys:List (List Key)):Prop where
 len:vs.length=keys.length
 at_:∀(i:Nat) (ns:List Key),keys[i]?=some ns->∃a,vs[i]?=some (.ref a)/\SqT K H a (ns.map kOf)
 same:∀x∈keys,∀y∈keys,BV x y=true
 ne:∀x∈keys,x≠[]
noncomputable def HZ(keys:List (List Key))(ix:List Nat):Prop:=ix.Perm (bU keys.length)/\∀i j,i<=j->j<keys.length->BB (keys.getD (ix.getD j 0) []) (keys.getD (ix.getD i 0) [])=false
theorem KeysAt.tups{vs:List V}{us:List Value}{keys:List (List Key)}(I:Inv X pins σ H s)(r:Vals vs us)(k:KeysAt X.K H vs keys){h':Heap}(hk:∀b o,s.heap.get? b=some o->h'.get? b=some o):QN h' us keys:=by
 refine⟨λi ns e=>?_,r.length.symm.trans k.len,k.same,k.ne⟩
 obtain⟨a,e1,h1⟩:=k.at_ i ns e
 obtain⟨u,e2,r2⟩:=r.get e1
 cases r2
 obtain⟨its,r3,⟨o,ho,hc,n,hd⟩,_⟩:=I.tuple h1
 exact⟨a,o,its.toArray,n,e2,hk a o ho,hc,hd,by rw [fC]; exact r3⟩
theorem Gm:∀{vs:List V} {us:List Value},Vals vs us->∀i:Nat,RelV (vs.getD i .non) (us.getD i bX)
 | _,_,.nil,i=>by simp [RelV]
 | _,_,.cons r t,0=>by simpa using r
 | _,_,.cons r t,i+1=>by simpa using Gm t i
theorem IL{f:Nat->V}{g:Nat->Value}(h:∀i,RelV (f i) (g i)):∀ix:List Nat,Vals (ix.map f) (ix.map g)
 | []=>.nil
 | i::ix=>.cons (h i) (IL h ix)
theorem getD_list(p:Array Nat)(i:Nat):p.getD i 0=p.toList.getD i 0:=by simp
theorem S5{keys:List (List Key)}{n:Nat}{p:Array Nat}(hn:keys.length=n)(h1:p.Perm (bO (bU n)))(h2:So.Srt Ql (λi=>keys.getD i []) p n):HZ keys p.toList:=by
 subst hn
 refine⟨Array.perm_iff_toList_perm.mp h1,λi j hij hj=>?_⟩
 have h:=h2 i j hij hj
 unfold So.KN at h
 rw [getD_list,getD_list] at h
 exact h
theorem KL{A':Around}{E':Value->Shared->Prop}{vs:List V}{us:List Value}{keys:List (List Key)}{Q:VK}(I:Inv X pins σ H s)(r:Vals vs us)(h64:vs.length<64)(k:KeysAt X.K H vs keys)
  (q:∀(ix:List Nat) (l:Addr),HZ keys ix->H l=none->Q (.ref l) (As H l (.lst (ix.map λi=>vs.getD i .non)))) :
  wpAny (model X.prog X.w) A' (Builtin.«list.sort» ⟨[.ref s.heap.objs.size],[]⟩) (λfin s'=>fin=.done (.ret .none)/\EP X pins σ Q (.ref s.heap.objs.size) s') E' { s with heap:=s.heap.push (seqObj "list" us.toArray 0) }:=by
 have hl:=r.length
 have hkl:keys.length=us.length:=k.len.symm.trans hl
 refine NE (G:=λp=>p.Perm (bO (bU us.length))/\So.Srt Ql (λi=>keys.getD i []) p us.length) (n:=0) (Sc _ rfl) (by omega) (λh2=>?_) (λh1=>⟨iK _,λi j hij hj=>?_⟩) (λp h' c hp hg hold hD=>⟨rfl,?_⟩)
 ·refine KD (keys:=keys) (k.tups I r λb o e=>?_) h2 (λp a b=>⟨rfl,a,b⟩)
  exact Gq (bK (Tk e)) (Ev _ e)
 ·have:i=j:=by omega
  subst this
  exact cn _
 ·have hf:H s.heap.objs.size=none:=I.fresh
  have hix:(p.toList.map λi=>vs.getD i .non).length=us.length:=by rw [FM,bi,hp]
  refine⟨.ref s.heap.objs.size,As H s.heap.objs.size (.lst (p.toList.map λi=>vs.getD i .non)),I.laid (t':=s.toks) (λb o e=>hold b o (bK (Tk e)) (Ev _ e)) (Op _) ⟨by rw [hix,← hl,bm]; omega,_,c,IL (Gm r) p.toList,hD⟩,rfl,q _ _ (S5 hkl hg.1 hg.2) hf⟩
theorem Nc{prog:Program}{w:World}{A:Around}{E:Value->Shared->Prop}{s:Shared}{l:Addr}{vs:List Value}{Q:List Value->Shared->Prop}(hl:IsTup s.heap l vs.toArray)
  (h:Q vs { s with heap:=(s.heap.push (seqObj "list" #[] 0)).update s.heap.objs.size (b9 (·++vs.toArray)) }) (hsz:vs.length<=sizeLine) :
  wpAny (model prog w) A (collect (.ref l)) Q E s:=by
 obtain⟨o,ho,hc,n,hd⟩:=id hl
 unfold collect
 refine Ch (wpAny_runValue (cO entry_proto_collect' ?_))
 show wpAny _ _ (do again (.builtin "list.__iadd__" ⟨[← newList [],.ref l],[]⟩)) _ _ s
 refine Ch (gg (Go ⟨Code.quiet_builtin _ (by decide +kernel),cO entry_list_iadd' ?_⟩))
 show wpAny _ _ (dX (.ref s.heap.objs.size) (.ref l) (.ref s.heap.objs.size)) _ _ { s with heap:=s.heap.push (seqObj "list" #[] 0) }
 unfold dX
 have ho':(s.heap.push (seqObj "list" #[] 0)).get? l=some o:=Ev _ ho
 refine Ch (dS (T := "tuple") ⟨o,ho',hc⟩ ?_)
 have ht:(fQ "tuple"==fQ "tuple")=true:=by rfl
 rw [if_pos (by rw [ht]; simp)]
 refine Ch (gA ho' hd ?_)
 refine Ch (gA (xs:=#[]) (n:=0) (Sc _ rfl) rfl ?_)
 rw [if_neg (by simp)]
 refine Ch (dq (xs:=#[]) (n:=0) (Sc _ rfl) rfl ?_ (bH _) (by show (#[]++vs.toArray).size<=sizeLine+1; simp only [Array.size_append,Re,cj]; omega))
 refine Go ?_
 show wpAny (model prog w) A (do
   let o ← load s.heap.objs.size
   match o.data with
   | .seq xs _=>pure xs.toList
   | _=>unsupported "internal:collect") Q E { s with heap:=(s.heap.push (seqObj "list" #[] 0)).update s.heap.objs.size (b9 (·++vs.toArray)) }
 refine Ch (wpAny_load (eQ (Sc _ rfl) _) ?_)
 show wpAny _ _ (pure ((#[]:Array Value)++vs.toArray).toList) Q E _
 rw [show ((#[]:Array Value)++vs.toArray).toList=vs by simp]
 exact Go h
theorem Ng{h:Heap}{g:Array Value->Array Value}{b:Addr}{o:Obj}(e:h.get? b=some o):((h.push (seqObj "list" #[] 0)).update h.objs.size (b9 g)).get? b=some o :=
 (bN _ _ (bp (bK (Tk e)))).trans (Ev _ e)
theorem Nf{κ:Bool}{A':Around}{E':Value->Shared->Prop}{p:Addr}{vs:List V}{Q:List Value->Shared->Prop}(I:Inv X pins σ H s)(h:SqK κ X.K H p vs)(q:∀us s1,Vals vs us->vs.length<=sizeLine->Inv X pins σ H s1->Q us s1) :
  wpAny (model X.prog X.w) A' (collect (.ref p)) Q E' s:=by
 cases κ with
 | true =>
  obtain⟨its,r,pl,hz⟩:=I.list h
  exact collect_list pl.isList (q its _ r hz (I.kept (t':=s.toks) λb o e=>Ng e)) (by rw [← r.length]; exact hz)
 | false =>
  obtain⟨its,r,pl,hz⟩:=I.tuple h
  exact Nc pl (q its _ r hz (I.kept (t':=s.toks) λb o e=>Ng e)) (by rw [← r.length]; exact hz)
noncomputable def Sa(K:Frag):List V->Hp->VK->Prop:=λxs H Q=>∃(κ:Bool) (p:Addr) (vs:List V) (keys:List (List Key)),xs=[.ref p]/\SqK κ K H p vs/\vs.length<64/\KeysAt K H vs keys /\
 ∀(ix:List Nat) (l:Addr),HZ keys ix->H l=none->Q (.ref l) (As H l (.lst (ix.map λi=>vs.getD i .non)))
theorem Ow:B_ X (.builtin "sorted") (Sa X.K):=by
 intro pins s σ H xs us Q I r h
 obtain⟨κ,p,vs,keys,rfl,hq,h64,hk,q⟩:=h
 obtain⟨u,rfl,rx⟩:=vals1 r
 cases rx
 refine DV (kw:=[]) (args_sorted1 _) (λx=>args_list_sort _) (Nf I hq λus s1 r1 hz I1=>⟨by rw [← r1.length]; exact hz,?_⟩)
 exact KL I1 r1 h64 hk q
end
end L2
namespace L2
open PySem PySem.Spec PyProof.Rows
noncomputable def Fg(H:Hp)(L:List Addr)(f:Addr->Obj):Hp:=λb=>if b∈L then (H b).map (HO.frz (f b)) else H b
theorem DJ{H:Hp}{L:List Addr}{f:Addr->Obj}{b:Addr}(h:b∉L):Fg H L f b=H b:=by unfold Fg; rw [if_neg h]
theorem Pm{H:Hp}{L:List Addr}{f:Addr->Obj}{b:Addr}{o:HO}(h:b∈L)(e:H b=some o):Fg H L f b=some (.frz (f b) o):=by unfold Fg; rw [if_pos h,e]; rfl
section
variable {X:Cx}{pins:List (Addr×Obj)}{σ:L2.St}{H:Hp}{s:Shared}
theorem Inv.frz{L:List Addr}(I:Inv X pins σ H s)(hL:∀b∈L,∃kvs,H b=some (.dK kvs)):∃f,Inv X pins σ (Fg H L f) s:=by
 have keep:∀(f:Addr->Obj) b o,H b=some o->(∀kvs,o≠.dK kvs)->Fg H L f b=some o:=λf b o e n=>by
  rw [DJ (λhm=>by obtain⟨kvs,e2⟩:=hL b hm; rw [e] at e2; cases e2; exact n _ rfl)]
  exact e
 refine⟨λb=>(s.heap.get? b).getD { cls:=.none,data:=.fields #[] },?_⟩
 refine I.step (g':=s.gens) (d':=s.drawn) (t':=s.toks) (h':=s.heap) (ch:=[]) (λ_ z=>nomatch z) (λ_ _ _ _ _ e _=>e) (λb o _ _ _ e _=>⟨o.slots,e⟩) (λb o _ e n=>?_) (λb o _ e=>⟨o,e⟩) (λb xs e=>keep _ b _ e λ_ z=>by cases z) (λb o u e=>keep _ b _ e λ_ z=>by cases z) (λb ps e=>⟨#[],by rw [keep _ b _ e λ_ z=>by cases z]; simp⟩) (λ_ h=>h) (λb u e=>?_) I.bare
 ·unfold Fg
  split
  ·rw [n]; rfl
  ·exact n
 ·by_cases hb:b∈L
  ·obtain⟨kvs,e2⟩:=hL b hb
   rw [Pm hb e2] at e
   cases e
   obtain⟨z,y,vs,r,ob,es,ep,e3,c⟩:=(show ObjOk X.prog X.w H s.heap b (.dK kvs) from I.hok b _ e2)
   exact⟨by rw [e3]; rfl,z,y,vs,r,ob,es,ep,e3,c⟩
  ·rw [DJ hb] at e
   exact(I.hok b u e).stay (λ_ _ _ q=>q) (λc q=>keep _ c _ q λ_ z=>by cases z) λc xs q=>keep _ c _ q λ_ z=>by cases z
noncomputable def Z9(t:TE):TE:=λσ H Q=>t σ H λv H1=>∃L:List Addr,(∀b∈L,∃kvs,H1 b=some (.dK kvs))/\∀f:Addr->Obj,Q v (Fg H1 L f)
theorem XW{e:Expr}{t:TE}(h:PE X e t):PE X e (Z9 t):=by
 intro pins s σ H Q I hq
 refine thn (h pins s σ H _ I hq) λu s1 ⟨v,H1,I1,r,L,hL,q⟩=>?_
 obtain⟨f,I2⟩:=I1.frz hL
 exact⟨v,_,I2,r,q f⟩
end
end L2
namespace Nt
open PySem PySem.Spec PyProof.Rows L2 Dp
noncomputable def Ce(ts:List Ag)(p:Str):List (Str×Int):=ts.flatMap λt=>(if t.a=p then [(t.b,t.len)] else [])++(if t.b=p then [(t.a,t.len)] else [])
noncomputable def Qy(ts:List Ag)(p:Str):D:=.fdi ((Ce ts p).map λx=>.inr x.1) ((Ce ts p).map λx=>.int x.2)
noncomputable def DU(N:Net):D:=.dic (N.ps.map .inr) (N.ps.map (Qy N.ts))
noncomputable def Jf:W2:=λss n P=>∃N:Net,ss=[.sh (BL N)]/\N.Ok/\N.ps.length<=1000/\N.ts.length<=1000/\P (DU N) n
noncomputable def kv(x:Str×Int):Key×V:=(.inr x.1,.int x.2)
structure Stp (H:Hp) (d:Addr) (as:List (Str×Addr)) (tb:Str->List (Key×V)) (H':Hp):Prop where
 old:∀b o,H b=some o->H' b=some o
 new:H d=none
 top:H' d=some (.dK (as.map λx=>(.inr x.1,.ref x.2)))
 inn:∀x∈as,H x.2=none/\x.2≠d/\H' x.2=some (.dK (tb x.1))
 ads:(as.map (·.2)).Nodup
 nms:(as.map (·.1)).Nodup
theorem Ho{as:List (Str×Addr)}(hn:(as.map (·.1)).Nodup){p:Str}{a:Addr}(h:(p,a)∈as):Bg (as.map λx=>((.inr x.1:Key),V.ref x.2)) (.inr p)=some (.ref a):=by
 induction as with
 | nil=>cases h
 | cons x r ih =>
  rw [bE,bQ] at hn
  rcases TM.mp h with e | h
  ·rw [← e]
   exact DA rfl
  ·have hne:(ce x.1:Key)≠.inr p:=λe=>hn.1 (by rw [cQ e]; exact ZB.mpr ⟨_,h,rfl⟩)
   rw [bE]
   exact(DB hne).trans (ih hn.2 h)
theorem OL{as:List (Str×Addr)}{p:Str}{v:V}(h:p∉as.map (·.1)):putK (as.map λx=>((.inr x.1:Key),V.ref x.2)) (.inr p) v=(as.map λx=>((.inr x.1:Key),V.ref x.2))++[(.inr p,v)]:=by
 unfold putK
 rw [if_neg]
 rw [cr]
 rintro ⟨y,hy,e⟩
 obtain⟨x,hx,rfl⟩:=ZB.mp hy
 exact h (ZB.mpr ⟨x,hx,cQ (of_decide_eq_true e)⟩)
theorem PN{xs:List (Str×Int)}{p:Str}{l:Int}(h:p∉xs.map (·.1)):putK (xs.map kv) (.inr p) (.int l)=(xs++[(p,l)]).map kv:=by
 unfold putK
 rw [if_neg,cH]
 ·rfl
 ·rw [cr]
  rintro ⟨y,hy,e⟩
  obtain⟨x,hx,rfl⟩:=ZB.mp hy
  exact h (ZB.mpr ⟨x,hx,cQ (of_decide_eq_true e)⟩)
theorem Stp.more{H H':Hp}{d q:Addr}{as:List (Str×Addr)}{tb:Str->List (Key×V)}{p:Str}(s:Stp H d as tb H')(hq:H' q=none)(hp:p∉as.map (·.1))(ht:tb p=[]) :
  Stp H d (as++[(p,q)]) tb (As (As H' q (.dK [])) d (.dK (putK (as.map λx=>((.inr x.1:Key),V.ref x.2)) (.inr p) (.ref q)))):=by
 have nq:q≠d:=λe=>by rw [e,s.top] at hq; cases hq
 have hHq:H q=none:=by
  cases c:H q with
  | none=>rfl
  | some o=>rw [s.old q o c] at hq; cases hq
 refine⟨λb o e=>?_,s.new,?_,λx hx=>?_,?_,?_⟩
 ·have n1:b≠d:=λz=>by rw [z,s.new] at e; cases e
  have n2:b≠q:=λz=>by rw [z,hHq] at e; cases e
  rw [AK n1,AK n2]
  exact s.old b o e
 ·rw [AT,OL hp,cH]; rfl
 ·rcases bV.mp hx with hx | hx
  ·obtain⟨h1,h2,h3⟩:=s.inn x hx
   have n2:x.2≠q:=λz=>by rw [z,hq] at h3; cases h3
   exact⟨h1,h2,by rw [AK h2,AK n2]; exact h3⟩
  ·rw [On.mp hx]
   exact⟨hHq,nq,by rw [AK nq,AT,ht]⟩
 ·rw [cH,cR]
  refine⟨s.ads,bQ.mpr ⟨(λh=>by cases h),bj⟩,λa ha b hb e=>?_⟩
  obtain⟨x,hx,rfl⟩:=ZB.mp ha
  have hb:b=q:=On.mp hb
  obtain⟨h1,h2,h3⟩:=s.inn x hx
  rw [e,hb,hq] at h3
  cases h3
 ·rw [cH,cR]
  refine⟨s.nms,bQ.mpr ⟨(λh=>by cases h),bj⟩,λa ha b hb e=>?_⟩
  have hb:b=p:=On.mp hb
  exact hp (by rw [← hb,← e]; exact ha)
theorem Qw{as:List (Str×Addr)}(hn:(as.map (·.1)).Nodup){p:Str}{a b:Addr}(h1:(p,a)∈as)(h2:(p,b)∈as):a=b:=by
 have:=(Ho hn h1).symm.trans (Ho hn h2)
 exact V.ref.inj (UF this)
theorem Qv{as:List (Str×Addr)}(hn:(as.map (·.2)).Nodup){p q:Str}{a:Addr}(h1:(p,a)∈as)(h2:(q,a)∈as):p=q:=by
 induction as with
 | nil=>cases h1
 | cons x r ih =>
  rw [bE,bQ] at hn
  rcases TM.mp h1 with e1 | g1
  ·rcases TM.mp h2 with e2 | g2
   ·rw [← e1] at e2; exact(Prod.mk.inj e2).1.symm
   ·exact absurd (ZB.mpr ⟨_,g2,by rw [← e1]⟩) hn.1
  ·rcases TM.mp h2 with e2 | g2
   ·exact absurd (ZB.mpr ⟨_,g1,by rw [← e2]⟩) hn.1
   ·exact ih hn.2 g1 g2
theorem Stp.put{H H':Hp}{d a:Addr}{as:List (Str×Addr)}{tb tb2:Str->List (Key×V)}{p:Str}{kvs:List (Key×V)}(s:Stp H d as tb H')(ha:(p,a)∈as)(h1:tb2 p=kvs)(h2:∀q,q≠p->tb2 q=tb q) :
  Stp H d as tb2 (As H' a (.dK kvs)):=by
 obtain⟨i1,i2,i3⟩:=s.inn _ ha
 refine⟨λb o e=>?_,s.new,?_,λx hx=>?_,s.ads,s.nms⟩
 ·have n1:b≠a:=λz=>by rw [z] at e; rw [show H a=none from i1] at e; cases e
  rw [AK n1]
  exact s.old b o e
 ·rw [AK (bp i2)]
  exact s.top
 ·obtain⟨g1,g2,g3⟩:=s.inn x hx
  refine⟨g1,g2,?_⟩
  by_cases e:x.2=a
  ·have:x.1=p:=Qv s.ads (show (x.1,a)∈as by rw [← e]; exact hx) ha
   rw [e,AT,this,h1]
  ·have:x.1≠p:=λz=>e (Qw s.nms (show (p,x.2)∈as by rw [← z]; exact hx) ha)
   rw [AK e,h2 _ this]
   exact g3
theorem NB(ts:List Ag)(t:Ag)(p:Str):Ce (ts++[t]) p=Ce ts p++((if t.a=p then [(t.b,t.len)] else [])++(if t.b=p then [(t.a,t.len)] else [])):=by
 unfold Ce
 rw [List.flatMap_append,gs,List.flatMap_nil,bh]
theorem Lc{ts:List Ag}{p q:Str}(h:q∈(Ce ts p).map (·.1)):∃t∈ts,(t.a=p/\t.b=q)\/(t.b=p/\t.a=q):=by
 obtain⟨x,hx,rfl⟩:=ZB.mp h
 obtain⟨t,ht,hx⟩:=dP.mp hx
 refine⟨t,ht,?_⟩
 rcases bV.mp hx with hx | hx
 ·split at hx
  ·rename_i e; rw [On.mp hx]; exact .inl ⟨e,rfl⟩
  ·cases hx
 ·split at hx
  ·rename_i e; rw [On.mp hx]; exact .inr ⟨e,rfl⟩
  ·cases hx
theorem Pa(ts:List Ag)(p:Str):(Ce ts p).length<=2*ts.length:=by
 induction ts with
 | nil=>exact bH _
 | cons t r ih =>
  unfold Ce at ih ⊢
  rw [gs,bD,bD,XV]
  have h1:(if t.a=p then [(t.b,t.len)] else []).length<=1:=by split; exact Op 1; exact bH _
  have h2:(if t.b=p then [(t.a,t.len)] else []).length<=1:=by split; exact Op 1; exact bH _
  omega
theorem Tu{ts:List Ag}{t:Ag}(hp:(ts++[t]).Pairwise BG)(hlt:∀s∈ts++[t],cs s.a<cs s.b):t.b∉(Ce ts t.a).map (·.1)/\t.a∉(Ce ts t.b).map (·.1):=by
 rw [List.pairwise_append] at hp
 have key:∀s∈ts,¬((s.a=t.a/\s.b=t.b)\/(s.b=t.a/\s.a=t.b)):=λs hs e=>by
  have h1:=hp.2.2 s hs t (On.mpr rfl)
  have h2:=hlt s (cU _ hs)
  have h3:=hlt t (bP _ (On.mpr rfl))
  rcases e with ⟨e1,e2⟩ | ⟨e1,e2⟩
  ·unfold BG at h1
   rw [e1,e2] at h1
   rcases h1 with h | ⟨_,h⟩
   ·exact bc _ h
   ·exact bc _ h
  ·rw [e1,e2] at h2
   exact bc _ (e_ h2 h3)
 refine⟨λh=>?_,λh=>?_⟩
 ·obtain⟨s,hs,e⟩:=Lc h
  exact key s hs e
 ·obtain⟨s,hs,e⟩:=Lc h
  exact key s hs (e.elim (λz=>.inr ⟨z.2,z.1⟩) λz=>.inl ⟨z.2,z.1⟩)
theorem Dd{xs:List Str}(h:rising xs):xs.Nodup:=h.imp λ{a b} hlt e=>by rw [e] at hlt; exact bc _ hlt
theorem OY{xs:List Str}(h:xs.Nodup){i:Nat}(hi:i<xs.length):xs[i]∉xs.take i:=by
 have e:xs=xs.take i++xs[i]::xs.drop (i+1):=by
  rw [← c9 hi,iY]
 intro hm
 rw [e,cR] at h
 exact h.2.2 _ hm _ No rfl
theorem Stp.at_{K:Frag}{M:Addr->Prop}{H H':Hp}{d:Addr}{as:List (Str×Addr)}{N:Net}(dom:∀a,M a->∃o,H a=some o)(s:Stp H d as (λp=>(Ce N.ts p).map kv) H')(hp:as.map (·.1)=N.ps)(f:Addr->Obj):At K M (Fg H' (as.map (·.2)) f) (DU N) (.ref d):=by
 have nd:∀b,H b=none->¬M b:=λb e m=>by obtain⟨o,h⟩:=dom b m; rw [h] at e; cases e
 have zip1:∀as:List (Str×Addr),(as.map λx=>((.inr x.1:Key),V.ref x.2))=((as.map (·.1)).map (.inr:Str->Key)).zip (as.map λx=>V.ref x.2):=λas=>by
  induction as with
  | nil=>rfl
  | cons x r ih=>rw [bE,ih]; rfl
 refine⟨d,as.map λx=>.ref x.2,rfl,⟨nd d s.new,by rw [DJ (λhm=>by obtain⟨x,hx,e⟩:=ZB.mp hm; exact(s.inn x hx).2.1 e),s.top,zip1,hp]⟩,by rw [FM,FM],?_⟩
 rw [← hp]
 have go:∀bs:List (Str×Addr),(∀x∈bs,x∈as)->Ats K M (Fg H' (as.map (·.2)) f) ((bs.map (·.1)).map (Qy N.ts)) (bs.map λx=>V.ref x.2):=λbs=>by
  induction bs with
  | nil=>intro _; rfl
  | cons x r ih =>
   intro hx
   refine⟨.ref x.2,r.map λx=>V.ref x.2,rfl,?_,ih λy hy=>hx y (Rs _ hy)⟩
   obtain⟨g1,g2,g3⟩:=s.inn x (hx x No)
   have zip2:∀xs:List (Str×Int),xs.map kv=(xs.map λx=>(.inr x.1:Key)).zip (xs.map λx=>V.int x.2):=λxs=>by
    induction xs with
    | nil=>rfl
    | cons x r ih=>rw [bE,ih]; rfl
   refine⟨x.2,(Ce N.ts x.1).map λx=>V.int x.2,rfl,⟨f x.2,nd _ g1,by rw [Pm (ZB.mpr ⟨x,hx x No,rfl⟩) g3,zip2]⟩,by rw [FM,FM],?_⟩
   generalize Ce N.ts x.1=xs
   induction xs with
   | nil=>rfl
   | cons x r ih=>exact⟨.int x.2,_,rfl,rfl,ih⟩
 exact go as λ_ h=>h
end Nt
namespace L2
open PySem PySem.Spec PyProof.Rows PySem.W
section
variable {X:Cx}{pins:List (Addr×Obj)}{σ:L2.St}{H:Hp}{s:Shared}{h':Heap}
theorem Inv.adopt2{D e:Addr}{o:HO}(I:Inv X pins σ H s)(m:Rb X pins D)(hn:H D=none)(m2:Rb X pins e)(hn2:H e=none)(hne:D≠e)(k:∀b u,b≠D->b≠e->s.heap.get? b=some u->h'.get? b=some u)(new:ObjOk X.prog X.w (As H D o) h' D o):Inv X pins σ (As H D o) { s with heap:=h' }:=by
 have nin:∀b,b∉[D,e]->b≠D/\b≠e:=λb hc=>⟨λz=>hc (by rw [z]; exact No),λz=>hc (by rw [z]; exact Rs _ (On.mpr rfl))⟩
 refine I.step (g':=s.gens) (d':=s.drawn) (t':=s.toks) (ch:=[D,e]) (λb hb=>?_) (λb u _ _ hc q _=>k b u (nin b hc).1 (nin b hc).2 q) (λb u _ _ hc q _=>⟨u.slots,k b u (nin b hc).1 (nin b hc).2 q⟩) (λb u hc q n=>?_)
  (λb u hc q=>⟨u,k b u (nin b hc).1 (nin b hc).2 q⟩) (λb xs q=>?_) (λb u v q=>?_) (λb ps q=>⟨#[],?_⟩) (λmm hm=>?_) (λb u q=>?_) I.bare
 ·rcases TM.mp hb with rfl | hb
  ·exact⟨.inr m.new,m.loc,m.cell,m.pin⟩
  ·rw [On.mp hb]
   exact⟨.inr m2.new,m2.loc,m2.cell,m2.pin⟩
 ·rw [AK (nin b hc).1]; exact n
 ·rw [AK (Ac q hn)]; exact q
 ·rw [AK (Ac q hn)]; exact q
 ·rw [AK (Ac q hn),q]; simp
 ·obtain⟨u,es,ep,ho,r⟩:=hm
  exact⟨u,es,ep,k _ u (bp m.loc) (bp m2.loc) ho,r⟩
 ·by_cases hb:b=D
  ·subst hb; rw [AT] at q; cases q; exact new
  ·rw [AK hb] at q
   refine(I.hok b u q).stay (λc v hc q2=>k c v ?_ ?_ q2) (λc q2=>by rw [AK (Ac q2 hn)]; exact q2) λc xs q2=>by rw [AK (Ac q2 hn)]; exact q2
   ·rcases hc with z | z
    ·rw [z]; exact hb
    ·exact Ac z hn
   ·rcases hc with z | z
    ·rw [z]; exact Ac q hn2
    ·exact Ac z hn2
noncomputable def W7(K:Frag)(sp:Sp)(te:TE):TE:=λσ H Q=>te σ H λx H1=>∃(κ:Bool) (l:Addr) (vs:List V) (keys:List (List Key)) (J:List V->Hp->Prop),x=.ref l/\SqK κ K H1 l vs/\vs.length<64/\J [] H1 /\
 (∀ks H2 v,J ks H2->vs[ks.length]?=some v->sp [v] H2 (λk H3=>J (ks++[k]) H3) E0) /\
 ∀ks H2,J ks H2->ks.length=vs.length->KeysAt K H2 ks keys/\∀(ix:List Nat) (l:Addr),HZ keys ix->H2 l=none->Q (.ref l) (As H2 l (.lst (ix.map λi=>vs.getD i .non)))
theorem Su{k:Nat}{f:Addr}{fd:FuncData}{pn fn:Str}{sp:Sp}{te:TE}{e:Expr}{p fp kp pos:Pos}(F:A0 X.prog X.w X.K X.mg X.base Br k f fd [pn] sp)(hr:Room (k+2) X.A)(hg:Gl X "sorted")(hm:X.mg "sorted"=none)
  (hgf:Gl X fn) (hmf:X.mg fn=some (.ref f)) (hb:Binds X.K fd [pn] []) (he:PE X e te) (hs:autoParam (starEach [e] X.env=[(false,eval e X.env)]) zau3._auto_1) (hdf:autoParam ((fn==("__debug__" : Str))=false) zau1._auto_1) :
  PE X (.Call (.Name "sorted" p) [e] [⟨some "key",.Name fn fp,kp⟩] pos) (W7 X.K sp te):=by
 intro pins s σ H Q I h
 refine cb (CV I hg hm iT ?_)
 refine callWith_kw (thn (Av he A9 hs pos pins s σ H (λvs H1=>∃x,vs=[x]/\∃(κ:Bool) (l:Addr) (vs:List V) (keys:List (List Key)) (J:List V->Hp->Prop),x=.ref l/\SqK κ X.K H1 l vs/\vs.length<64/\J [] H1 /\
   (∀ks H2 v,J ks H2->vs[ks.length]?=some v->sp [v] H2 (λk H3=>J (ks++[k]) H3) E0) /\
   ∀ks H2,J ks H2->ks.length=vs.length->KeysAt X.K H2 ks keys/\∀(ix:List Nat) (l:Addr),HZ keys ix->H2 l=none->Q (.ref l) (As H2 l (.lst (ix.map λi=>vs.getD i .non)))) I ?first) λus s1 ⟨xs,H1,I1,r1,q1⟩=>kws_cons (Lf I1 hgf hmf (kws_nil ?_) hdf)) (by rw [hs]; rfl) (by rw [hs]; rfl)
 case first =>
  show te σ H _
  refine cast (congrArg (te σ H) ?_) h
  funext x H1
  refine propext ⟨λz=>⟨x,rfl,z⟩,fun⟨y,e,z⟩=>?_⟩
  cases e
  exact z
 obtain⟨x,rfl,κ,l,vs,keys,J,rfl,hq,h64,j0,jstep,jend⟩:=q1
 obtain⟨u,rfl,ru⟩:=vals1 r1
 cases ru
 show wpAny (model X.prog X.w) X.A (call (.builtin "sorted") [.ref l] [(cX "key",.ref f)]) _ _ s1
 refine DV (ksk_s1 _ _) (λx=>ksk_l1 _ _) (Nf I1 hq λus s2 r2 hz I2=>⟨by rw [← r2.length]; exact hz,?_⟩)
 rw [ksk_t1]
 have hl:=r2.length
 generalize hD:s2.heap.objs.size=D
 have hsz3:(s2.heap.push (seqObj "list" us.toArray 0)).objs.size=D+1:=by rw [size_push',hD]
 have hoD:(s2.heap.push (seqObj "list" us.toArray 0)).get? D=some (seqObj "list" us.toArray 0):=by rw [← hD]; exact Sc _ rfl
 have mD:Rb X pins D:=I2.mine (by rw [hD]; exact Op _)
 have mK:Rb X pins (D+2):=I2.mine (by rw [hD]; exact h_ _ _)
 have nD:H1 D=none:=I2.hok.fresh (by rw [hD]; exact Op _)
 have nK:H1 (D+2)=none:=I2.hok.fresh (by rw [hD]; exact h_ _ _)
 have hne:D≠D+2:=bK (cy (em D))
 have nstk:∀b,Rb X pins b->b∉Rf X.stack:=λb m z=>(TM.mp (I2.stkSub b z)).elim m.loc m.fs
 refine Q6 (s:={ s2 with heap:=s2.heap.push (seqObj "list" us.toArray 0) }) (n:=0) hoD (by rw [← hl]; exact h64)
  (λks s'=>∃kV H',Vals kV ks/\J kV H'/\Inv X pins σ H' s'/\H' D=none/\H' (D+2)=none/\s'.heap.get? D=(Cj (s2.heap.push (seqObj "list" us.toArray 0)) D us).get? D) (D+2) (by show D+2=(s2.heap.push _).objs.size+1; rw [hsz3]) (λe1 he1=>?_) (λks s' e v hJ hk hv=>?_) λe1 he1 ks s' hJ hkl=>?_
 ·refine⟨[],H1,.nil,j0,?_,nD,nK,rfl⟩
  exact I2.kept (t':=s2.toks) λb o q=>Gq (by rw [← hD]; exact bK (Tk q)) (Ev _ q)
 ·obtain⟨kV,H',rk,hJ,I',n1,n2,hD'⟩:=hJ
  have hi:ks.length<us.length:=(TW.mp hv).1
  have hvi:vs[kV.length]?=some (vs[kV.length]'(by rw [rk.length]; omega)):=Db _
  obtain⟨u',e2,ru⟩:=r2.get hvi
  rw [rk.length,hv] at e2
  cases e2
  have hsp:=jstep kV H' _ hJ hvi
  have E1:Env0 X.prog X.w X.K X.mg X.base X.A.in1.in1 X.stack s' H':=I'.env0.in1.in1
  refine wpAny_call (gz (F.run X.A.in1.in1 X.stack s' H' ⟨[v],[]⟩ [v] _ _ E0 (hr.in1).in1 E1 (by simpa using hb s' [v] I'.kIn rfl) (.cons ru .nil) hsp) λr s'' hq'=>?_)
  cases r with
  | error e=>exact cv hq'
  | ok fl =>
   cases fl with
   | next=>exact cv hq'
   | brk=>exact cv hq'
   | cont=>exact cv hq'
   | ret u =>
    obtain⟨w',H3,os,bare,un,hok,rw',q3⟩:=id hq'
    obtain⟨oD,eD⟩:∃o,s'.heap.get? D=some o:=by
     obtain⟨c,hc,_⟩:=IT hoD
     exact⟨_,hD'.trans hc⟩
    have kD:s''.heap.get? D=some oD:=un.keep D oD eD n1 (nstk D mD) (by simp)
    have kK:s''.heap.get? (D+2)=some (seqObj "list" ks.toArray e):=un.keep _ _ hk n2 (nstk _ mK) (by simp)
    have f1:H3 D=none:=un.free D oD eD n1 (by simp)
    have f2:H3 (D+2)=none:=un.free _ _ hk n2 (by simp)
    have I3:Inv X pins σ H3 s'':=I'.call' os un hok bare (λb z=>absurd z (by simp))
    refine⟨kK,kV++[w'],H3,rk.append (.cons rw' .nil),q3,?_,f1,f2,?_⟩
    ·exact I3.turned (t':=s''.toks) (λb o hb q=>(bN _ _ (bp hb)).trans q) f2 mK.loc (.inr mK.new) mK.cell mK.pin
    ·show (s''.heap.update (D+2) _).get? D=_
     rw [bN _ _ (bp hne),kD,← eD,hD']
 ·obtain⟨kV,H',rk,hJ,I',n1,n2,hD'⟩:=hJ
  obtain⟨hka,q⟩:=jend kV H' hJ (by rw [rk.length,hkl,hl])
  have hkk:keys.length=us.length:=by rw [← hka.len,rk.length,hkl]
  refine⟨hD'.trans he1,λp=>p.Perm (bO (bU us.length))/\So.Srt Ql (λi=>keys.getD i []) p us.length,λh2=>?_,λh1=>⟨iK _,λi j hij hj=>?_⟩,λp h' c hp hg hold hDn _=>⟨rfl,?_⟩⟩
  ·have ts:=KD (prog:=X.prog) (w:=X.w) (A:=X.A.in1.in1) (keys:=keys) (hka.tups I' rk λb o e=>e) (by omega) (G:=λp s''=>s''=s'/\p.Perm (bO (bU us.length))/\So.Srt Ql (λi=>keys.getD i []) p us.length) (λp a b=>⟨rfl,by rw [← hkl]; exact a,by rw [← hkl]; exact b⟩)
   rw [hkl] at ts
   exact ts
  ·have:i=j:=by omega
   subst this
   exact cn _
  ·have hix:(p.toList.map λi=>vs.getD i .non).length=us.length:=by rw [FM,bi,hp]
   refine⟨.ref D,As H' D (.lst (p.toList.map λi=>vs.getD i .non)),I'.adopt2 mD n1 mK n2 hne hold ⟨by rw [hix,← hl,bm]; omega,_,c,IL (Gm r2) p.toList,hDn⟩,rfl,q _ _ (S5 hkk hg.1 hg.2) n1⟩
theorem Ir{α β:Type}{F:α->β->Prop}:∀{l₁:List α} {l₂:List β} {j:Nat} {a:α} {b:β},Paired F l₁ l₂->l₁[j]?=some a->l₂[j]?=some b->F a b
 | _,_,_,_,_,.nil,h,_=>by simp at h
 | _,_,0,_,_,.cons r t,h1,h2=>by
  have h1:=UF (by simpa using h1)
  have h2:=UF (by simpa using h2)
  subst h1 h2
  exact r
 | _,_,j+1,_,_,.cons r t,h1,h2=>Ir (j:=j) t (by simpa using h1) (by simpa using h2)
theorem J9:∀as:List Addr,Vals (as.map V.ref) (as.map bT)
 | []=>.nil
 | a::as=>.cons rfl (J9 as)
end
end L2
namespace Dp
open PySem PySem.Spec PyProof.Rows L2
section
variable {X:Cx}{K:Frag}
noncomputable def Pq(ds:List D)(P:D->Prop):Prop:=match ds with
 | [.int i,.int j]=>P (.int (if j > i then j else i))
 | _=>False
noncomputable def Pp(ds:List D)(P:D->Prop):Prop:=match ds with
 | [.int i,.int j]=>P (.int (if j<i then j else i))
 | _=>False
theorem US:Cv K .sh (λxs H Q=>∃i j,xs=[.int i,.int j]/\Q (.int (if j > i then j else i)) H) Pq:=by
 intro U M H ds vs P Q dom vM hp w q
 unfold Pq at w
 split at w
 ·rename_i i j
  cases hp with
  | cons r1 r2=>cases r2 with
   | cons r3 r4 =>
    cases r4
    cases r1.int
    cases r3.int
    exact⟨i,j,rfl,q _ H (.int _) .refl rfl w⟩
 ·exact w.elim
theorem UR:Cv K .sh (λxs H Q=>∃i j,xs=[.int i,.int j]/\Q (.int (if j<i then j else i)) H) Pp:=by
 intro U M H ds vs P Q dom vM hp w q
 unfold Pp at w
 split at w
 ·rename_i i j
  cases hp with
  | cons r1 r2=>cases r2 with
   | cons r3 r4 =>
    cases r4
    cases r1.int
    cases r3.int
    exact⟨i,j,rfl,q _ H (.int _) .refl rfl w⟩
 ·exact w.elim
end
noncomputable def B0:D->Option (List Key)
 | .tup xs=>GA xs
 | _=>none
noncomputable def Hc(kf:D->Option (List Key))(xs:List D):Prop:=xs.Pairwise λa b=>∀ka kb,kf a=some ka->kf b=some kb->BB kb ka=false
noncomputable def Keyed(kf:D->Option (List Key))(xs:List D):Prop:=(∀x∈xs,∃k,kf x=some k/\k≠[])/\∀x∈xs,∀y∈xs,∀ka kb,kf x=some ka->kf y=some kb->BV ka kb=true
theorem range_getD(xs:List D):(bU xs.length).map (λi=>xs.getD i .non)=xs:=by
 apply List.ext_getElem
 ·simp
 ·intro i h1 h2
  simp [h2]
theorem PY{kf:D->Option (List Key)}{xs:List D}{keys:List (List Key)}{ix:List Nat}(hl:keys.length=xs.length)(hk:∀(i:Nat) (x:D),xs[i]?=some x->∃k,keys[i]?=some k/\kf x=some k)(h:HZ keys ix) :
  (ix.map λi=>xs.getD i .non).Perm xs/\Hc kf (ix.map λi=>xs.getD i .non):=by
 obtain⟨hp,hs⟩:=h
 constructor
 ·have:=hp.map λi=>xs.getD i D.non
  rw [hl,range_getD] at this
  exact this
 ·unfold Hc
  rw [fF]
  intro i j hi hj hij ka kb ea eb
  rw [iA] at ea eb
  rw [FM] at hi hj
  have il:ix.length=keys.length:=by rw [hp.length_eq,dH]
  have g:∀i (h:i<ix.length) k,kf (xs.getD ix[i] .non)=some k->keys.getD (ix.getD i 0) []=k:=λi h k e=>by
   have hm:ix[i]<keys.length:=cu.mp (hp.mem_iff.mp (bv h))
   have hx:ix[i]<xs.length:=by rw [← hl]; exact hm
   obtain⟨k',e1,e2⟩:=hk ix[i] xs[ix[i]] (Db hx)
   have e3:xs.getD ix[i] .non=xs[ix[i]]:=by rw [bF,Db hx]; rfl
   rw [e3,e2] at e
   have e4:ix.getD i 0=ix[i]:=by rw [bF,Db h]; rfl
   rw [e4,bF,e1]
   exact UF e
  have:=hs i j (fH hij) (by rw [← il]; exact hj)
  rw [g i hi ka ea,g j hj kb eb] at this
  exact this
theorem Ej{kf:D->Option (List Key)}:∀{xs:List D},(∀x∈xs,∃k,kf x=some k/\k≠[])->∃keys:List (List Key),keys.length=xs.length/\(∀(i:Nat) (x:D),xs[i]?=some x->∃k,keys[i]?=some k/\kf x=some k/\k≠[])
 | [],_=>⟨[],rfl,λi x e=>by simp at e⟩
 | x::xs,h=>by
  obtain⟨k,e1,e2⟩:=h x No
  obtain⟨keys,l,g⟩:=Ej (xs:=xs) λy hy=>h y (Rs _ hy)
  refine⟨k::keys,by rw [XV,XV,l],λi y e=>?_⟩
  cases i with
  | zero =>
   have e:x=y:=by simpa using e
   subst e
   exact⟨k,rfl,e1,e2⟩
  | succ i =>
   obtain⟨k',a,b⟩:=g i y (by simpa using e)
   exact⟨k',by simpa using a,b⟩
section
variable {K:Frag}{M:Addr->Prop}{H:Hp}
theorem Ats.getD:∀{ds:List D} {vs:List V},Ats K M H ds vs->∀i:Nat,At K M H (ds.getD i .non) (vs.getD i .non)
 | [],vs,h,i=>by cases (show vs=[] from h); simp [At]
 | d::ds,vs,h,0=>by
  obtain⟨v,r,e,h1,h2⟩:=h
  subst e
  simpa using h1
 | d::ds,vs,h,i+1=>by
  obtain⟨v,r,e,h1,h2⟩:=h
  subst e
  simpa using Ats.getD h2 i
theorem Ats.pick{ds:List D}{vs:List V}(h:Ats K M H ds vs):∀ix:List Nat,Ats K M H (ix.map λi=>ds.getD i .non) (ix.map λi=>vs.getD i .non)
 | []=>rfl
 | i::ix=>⟨_,_,rfl,h.getD i,Ats.pick h ix⟩
theorem G1{kf:D->Option (List Key)}{ds:List D}{vs:List V}{keys:List (List Key)}(hkf:∀d k v,d∈ds->kf d=some k->At K M H d v->∃a,v=.ref a/\SqT K H a (k.map kOf))(hs:Ats K M H ds vs)(hK:Keyed kf ds)(hl:keys.length=ds.length)(hk:∀(i:Nat) (x:D),ds[i]?=some x->∃k,keys[i]?=some k/\kf x=some k/\k≠[]):KeysAt K H vs keys:=by
 have from_:∀(i:Nat) (ns:List Key),keys[i]?=some ns->∃x,ds[i]?=some x/\kf x=some ns/\ns≠[]:=λi ns e=>by
  have hi:i<ds.length:=by rw [← hl]; exact(TW.mp e).1
  obtain⟨k,e1,e2,e3⟩:=hk i ds[i] (Db hi)
  rw [e] at e1
  cases e1
  exact⟨ds[i],Db hi,e2,e3⟩
 refine⟨hs.length.trans hl.symm,λi ns e=>?_,λx hx y hy=>?_,λx hx=>?_⟩
 ·obtain⟨d,e1,e2,_⟩:=from_ i ns e
  obtain⟨v,e3,h3⟩:=hs.get e1
  obtain⟨a,rfl,h4⟩:=hkf d ns v (bq e1) e2 h3
  exact⟨a,e3,h4⟩
 ·obtain⟨i,hi⟩:=dh.mp hx
  obtain⟨j,hj⟩:=dh.mp hy
  obtain⟨d,e1,e2,_⟩:=from_ i x hi
  obtain⟨d',e1',e2',_⟩:=from_ j y hj
  exact hK.2 d (bq e1) d' (bq e1') x y e2 e2'
 ·obtain⟨i,hi⟩:=dh.mp hx
  obtain⟨d,e1,e2,e3⟩:=from_ i x hi
  exact e3
theorem G2{d:D}{k:List Key}{v:V}(e:B0 d=some k)(h:At K M H d v):∃a,v=.ref a/\SqT K H a (k.map kOf):=by
 cases d with
 | tup xs =>
  obtain⟨a,vs,e1,hn,hs⟩:=h
  have:=F_ (show GA xs=some k from e) hs
  subst this
  exact⟨a,e1,hn.sq⟩
 | _=>cases e
noncomputable def Tj(ds:List D)(P:D->Prop):Prop:=∃d xs,ds=[d]/\FL d=some xs/\xs.length<64/\Keyed B0 xs/\∀xs':List D,xs'.Perm xs->Hc B0 xs'->P (.lst xs')
theorem V4:Cv K .fr (Sa K) Tj:=by
 intro U M H ds vs P Q dom vM hp w q
 obtain⟨d,xs,rfl,e,h64,hK,w⟩:=w
 obtain⟨v,rfl,hx⟩:=HA hp
 obtain⟨κ,a,us,rfl,hs,sq⟩:=Gr (U:=U) hx e (λ_ z=>z) vM
 obtain⟨keys,hl,hk⟩:=Ej hK.1
 refine⟨κ,a,us,keys,rfl,sq M H (Pres.refl _ _) (Ext.refl _ _),by rw [hs.length]; exact h64,G1 (λd k v _=>G2) hs hK hl hk,λix l ho hn=>?_⟩
 obtain⟨o1,o2⟩:=PY (kf:=B0) hl (λi x e=>by obtain⟨k,a,b,_⟩:=hk i x e; exact⟨k,a,b⟩) ho
 exact q _ _ (.lst (ix.map λi=>xs.getD i .non)) (Al hn) (CW hn (hs.pick ix)) (w _ o1 o2)
end
section
variable {X:Cx}{a e:Expr}{κa:Kd}{wa:DW}{pos p fp kp apos cpos:Pos}
noncomputable def Rv(W:W2)(wa:DW):DW:=λn ρ P=>wa n ρ λd n1=>∃(xs:List D) (rk:D->D),FL d=some xs/\xs.length<64/\(∀x∈xs,∀Pd:D->Nat->Prop,Pd (rk x) n1->W [.sh x] n1 Pd)/\Keyed (λx=>B0 (rk x)) xs /\
 ∀xs':List D,xs'.Perm xs->Hc (λx=>B0 (rk x)) xs'->P (.lst xs') n1
theorem T9{k:Nat}{fn pn:Str}{W:W2}(G:Got X.prog X.w X.K X.mg X.base fn k [pn] .sh W)(hr:Room (k+2) X.A)(hg:Gl X "sorted")(hm:X.mg "sorted"=none)(hgf:Gl X fn)(he:DE X e κa wa)
  (hs:autoParam (starEach [e] X.env=[(false,eval e X.env)]) zau3._auto_1) (hdf:autoParam ((fn==("__debug__" : Str))=false) zau1._auto_1):DE X (.Call (.Name "sorted" p) [e] [⟨some "key",.Name fn fp,kp⟩] pos) .fr (Rv W wa):=by
 obtain⟨f,fd,F,hmf,hkf,hb,hW⟩:=G
 obtain⟨t,h1,h2⟩:=he
 refine⟨_,Su F hr hg hm hgf hmf hb h1 hs hdf,λC M H n ρ σ P Q R w q=>?_⟩
 refine h2 C M H n ρ σ _ _ R w λv H1 d n1 e1 f1 r1 p=>?_
 obtain⟨xs,rk,hd,h64,hw,hK,w⟩:=p
 have R1:=R.step e1 f1
 obtain⟨κ,l,us,rfl,hs,sq⟩:=Gr (U:=C.U) (r1.tpOf R.dom R.vM) hd R.uV R1.vM
 obtain⟨keys,hl,hk⟩:=Ej hK.1
 have hlen:=hs.length
 refine⟨κ,l,us,keys,λks H2=>Ext C.U H1 H2/\FeedC X.K C.F M H2 n1/\ks.length<=xs.length/\∀(i:Nat) (k:V),ks[i]?=some k->∃x,xs[i]?=some x/\At X.K M H2 (rk x) k,rfl,sq M H1 (Pres.refl _ _) (Ext.refl _ _),by rw [hlen]; exact h64,⟨Ext.refl _ _,f1,bH _,λi k z=>absurd (show (none:Option V)=some k from z) (λh=>nomatch h)⟩,λks H2 v hJ hv=>?_,λks H2 hJ hkl=>?_⟩
 ·obtain⟨ex,fd2,hle,hat⟩:=hJ
  have R2':=R1.step ex fd2
  have hi:ks.length<xs.length:=by rw [← hlen]; exact(TW.mp hv).1
  have hxi:xs[ks.length]?=some xs[ks.length]:=Db hi
  obtain⟨v',e2,hA⟩:=(hs.pres (R1.pres ex)).get hxi
  rw [hv] at e2
  cases e2
  refine⟨rfl,C.F,C.U,C.V,M,n1,[.sh xs[ks.length]],λd n=>d=rk xs[ks.length]/\n=n1,⟨R2'.dom,R2'.fU,R2'.uV,R2'.vM,fd2,.cons ⟨⟨v,rfl,hA⟩,rfl⟩ .nil⟩,hw _ (bv hi) _ ⟨rfl,rfl⟩,λr H3 d n' ex3 f3 vr hd=>?_⟩
  obtain⟨rfl,rfl⟩:=hd
  refine⟨ex.trans ex3,f3,by rw [bD,bW]; omega,λi k hik=>?_⟩
  by_cases hlt:i<ks.length
  ·rw [d7 hlt] at hik
   obtain⟨x,h3,h4⟩:=hat i k hik
   exact⟨x,h3,h4.pres (R2'.pres ex3)⟩
  ·rw [cS (by omega)] at hik
   have hi0:i=ks.length:=by
    have:=(TW.mp hik).1
    rw [bW] at this
    omega
   subst hi0
   rw [fL] at hik
   cases (show some r=some k from hik)
   exact⟨_,hxi,vr⟩
 ·obtain⟨ex,fd2,hle,hat⟩:=hJ
  have R2':=R1.step ex fd2
  have hkx:ks.length=xs.length:=by rw [hkl,hlen]
  have hs2:Ats X.K M H2 (xs.map rk) ks:=by
   have go:∀(xs:List D) (ks:List V),ks.length=xs.length->(∀(i:Nat) (k:V),ks[i]?=some k->∃x,xs[i]?=some x/\At X.K M H2 (rk x) k)->Ats X.K M H2 (xs.map rk) ks:=by
    intro xs
    induction xs with
    | nil=>intro ks h _; exact eM.mp h
    | cons x xs ih =>
     intro ks h hh
     cases ks with
     | nil=>cases h
     | cons k ks =>
      obtain⟨x',e3,h3⟩:=hh 0 k rfl
      cases (show some x=some x' from e3)
      exact⟨k,ks,rfl,h3,ih ks (by simpa using h) λi k' e4=>by
       obtain⟨y,e5,h5⟩:=hh (i+1) k' (by simpa using e4)
       exact⟨y,by simpa using e5,h5⟩⟩
   exact go xs ks hkx hat
  have hK2:Keyed B0 (xs.map rk):=by
   refine⟨λy hy=>?_,λy hy z hz ka kb ea eb=>?_⟩
   ·obtain⟨x,hx,rfl⟩:=ZB.mp hy
    exact hK.1 x hx
   ·obtain⟨x,hx,rfl⟩:=ZB.mp hy
    obtain⟨x',hx',rfl⟩:=ZB.mp hz
    exact hK.2 x hx x' hx' ka kb ea eb
  refine⟨G1 (λd k v _=>G2) hs2 hK2 (by rw [hl,FM]) λi x e=>?_,λix l ho hn=>?_⟩
  ·rw [T0] at e
   obtain⟨x',hx',rfl⟩:=bM.mp e
   exact hk i x' hx'
  ·obtain⟨o1,o2⟩:=PY (kf:=λx=>B0 (rk x)) hl (λi x e=>by obtain⟨k,a,b,_⟩:=hk i x e; exact⟨k,a,b⟩) ho
   have g:Grow H2 (As H2 l (.lst (ix.map λi=>us.getD i .non))):=Al hn
   refine q _ _ (.lst (ix.map λi=>xs.getD i .non)) n1 ((e1.trans ex).trans g.ext) (fd2.grow g) (VR.back (e1.trans ex) ?_) (w _ o1 o2)
   exact CW hn ((hs.pres (R1.pres ex)).pick ix)
noncomputable def Wh:Key->D
 | .inl i=>.int i
 | .inr x=>.str x
noncomputable def Ek:Key->Prop
 | .inl _=>True
 | .inr x=>x.length<=sizeLine
theorem UG{K:Frag}{M:Addr->Prop}{H:Hp}{k:Key}(h:Ek k):At K M H (Wh k) (kOf k):=by
 cases k with
 | inl i=>exact rfl
 | inr x=>exact⟨rfl,h⟩
end
end Dp
namespace L2
open PySem PySem.Spec PyProof.Rows
section
open PySem.MeetsSeq
open PySem.AutoSeq1 (wpAny_loadPart')
theorem SR(l:Addr)(items:Array Value)(n:Nat)(x:Value)(e:Value->Bool)(j:Nat)(hj:j<items.size)(hit:e items[j]=true)(hs1:items.size<=sizeLine)(prog:Program)(w:World)(A:Around)(R:Result->Shared->Prop)(hp:Heap)(g:Array GenState)(d:Drawn)(tk:Nat)(os:_)
  (hl:hp.get? l=some { cls:=.type "list",dict:=none,data:=.seq items n,slots:=#[] }) (he:∀y,y∈items->PySem.SeqAt.EqAt A.in1 ⟨hp,g,d,tk,os⟩ y x (e y)) (h:R (.ok (.ret .none)) ⟨hp.update l (b9 λxs=>xs.eraseIdxIfInBounds j),g,d,tk,os⟩) :
  ∀k i:Nat,j - i=k->i<=j->(∀m (hm:m<items.size),i<=m->m<j->e items[m]=false) ->
   wpAny (model prog w) A.in1 (Builtin.«list.remove.loop» ⟨[.ref l,x,rawInt i],[]⟩) (λfin s'=>match fin with | .done f=>R (.ok f) s' | .again c'=>c'.quiet=true/\codeAny (model prog w) A c' R s') (λe s'=>R (.error e) s') ⟨hp,g,d,tk,os⟩:=by
 intro k
 induction k with
 | zero =>
  intro i hk hij hno
  have hij':i=j:=by omega
  subst hij'
  wp_walk using cN hl
  have hi:items[((i:Nat):Int).toNat]?=some items[i]:=by simp [hj]
  rw [hi]
  refine Ch (he _ (gt hj) prog w _ _ ?_)
  rw [hit]
  have hz':(items.eraseIdxIfInBounds i).size<=sizeLine+1:=bS (size_erased items _) (Nat.le_succ_of_le hs1)
  wp_walk using (gB hl rfl (hz:=hs1) (_hz':=hz')),cN hl
  simpa using h
 | succ k ih =>
  intro i hk hij hno
  have hlt:i<items.size:=by omega
  wp_walk using cN hl
  have hi:items[((i:Nat):Int).toNat]?=some items[i]:=by simp [hlt]
  have hc:((i:Int)+1)=((i+1:Nat):Int):=by push_cast; rfl
  rw [hi]
  refine Ch (he _ (gt hlt) prog w _ _ ?_)
  rw [hno i hlt (Op _) (by omega)]
  wp_walk
  rw [hc]
  exact⟨cf plain_remove_loop _,cO entry_remove_loop (by
   rw [b_ plain_remove_loop _]
   exact ih (i+1) (by omega) (by omega) (λm hm h1 h2=>hno m hm (by omega) h2))⟩
theorem SS{prog:Program}{w:World}{A:Around}{E:Value->Shared->Prop}{s:Shared}{Q:Value->Shared->Prop}(l:Addr)(items:Array Value)(n:Nat)(x:Value)(e:Value->Bool)(j:Nat)(hj:j<items.size)(hit:e items[j]=true)(hno:∀m (hm:m<items.size),m<j->e items[m]=false)
  (hs1:items.size<=sizeLine) (hl:s.heap.get? l=some { cls:=.type "list",dict:=none,data:=.seq items n,slots:=#[] }) (he:∀y,y∈items->PySem.SeqAt.EqAt A.in1 s y x (e y))
  (h:Q .none { s with heap:=s.heap.update l (b9 λxs=>xs.eraseIdxIfInBounds j) }):wpAny (model prog w) A (call (.builtin "list.remove") [.ref l,x]) Q E s:=by
 have key:wpAny (model prog w) A.in1 (Builtin.«list.remove» ⟨[.ref l,x],[]⟩) (λfin s'=>match fin with | .done f=>wants Q E (.ok f) s' | .again c'=>c'.quiet=true/\codeAny (model prog w) A c' (wants Q E) s') (λe s'=>wants Q E (.error e) s') s:=by
  obtain⟨hp,g,d,tk,os⟩:=s
  wp_walk using cN hl
  exact⟨cf plain_remove_loop _,cO entry_remove_loop (by
   rw [b_ plain_remove_loop _]
   exact SR l items n x e j hj hit hs1 prog w A (wants Q E) hp g d tk os hl he h _ 0 rfl (bH _) (λm hm _ h2=>hno m hm h2))⟩
 exact wpAny_call (codeAny_call_builtin PySem.F.slot_list_remove.plain PySem.F.entry_list_remove (PySem.F.slot_list_remove.check _ _ _ _ _ _ _ _ ⟨_,hl,rfl⟩ (PySem.F.args_list_remove_2 _ _) key))
end
section
variable {X:Cx}
noncomputable def PJ:V->List V->Hp->VK->Prop:=λx vs H Q=>∃(l:Addr) (xs:List V) (y:V) (ds:List PyData) (d:PyData) (j:Nat),x=.ref l/\vs=[y]/\H l=some (.lst xs)/\RVs H ds xs/\RV H d y/\dG ds=true/\d.canLay0=true/\d.depth<=100 /\
 (∃dj,ds[j]?=some dj/\cE dj d=true)/\(∀m dm,m<j->ds[m]?=some dm->cE dm d=false)/\Q .non (As H l (.lst (xs.eraseIdx j)))
theorem Q1{k:Nat}(hr:Room k X.A):Zg X "list.remove" PJ:=by
 intro pins s σ H x vs v us Q I rx rv h
 obtain⟨l,xs,y,ds,d,j,rfl,rfl,hH,hds,hd,c1,c2,dd,⟨dj,hj,hit⟩,hno,q⟩:=h
 cases rx
 obtain⟨u,rfl,ru⟩:=rv.one
 obtain⟨z,its,n,r,hl,e⟩:=I.lstM hH
 obtain⟨as,ra⟩:=RVs.reads I hds r
 obtain⟨bs,rb⟩:=RV.reads I hd ru
 have hm:=PySem.SeqAt.readsAll_map ds its as c1 ra
 have hlen:ds.length=its.length:=by rw [← hm,FM]
 have hu:=hr.un
 have hmin:min (cZ ds) d.depth<=d.depth:=eg _ _
 have at_:∀m dm,ds[m]?=some dm->∀(h:m<its.toArray.size),PySem.SeqAt.readOf s.heap its.toArray[m]=dm:=λm dm e h=>by
  rw [← hm,T0] at e
  have h':m<its.length:=by simpa using h
  rw [Db h'] at e
  have e:=UF e
  simpa using e
 have hjl:j<its.length:=by rw [← hlen]; exact(TW.mp hj).1
 refine SS l its.toArray n u (λy=>cE (PySem.SeqAt.readOf s.heap y) d) j (by rw [Re]; exact hjl) (by rw [at_ j dj hj]; exact hit) (λm hm' hlt=>?_) (by rw [Re]; omega) e (PySem.SeqAt.items_eqAt (vs:=its.toArray) (by rw [fC]; exact ra) rb c1 c2 (by omega)) ?_
 ·have hml:m<ds.length:=by rw [hlen]; simpa using hm'
  rw [at_ m ds[m] (Db hml) hm']
  exact hno m ds[m] hlt (Db hml)
 ·refine⟨.non,_,I.lset (t':=s.toks) (its':=its.eraseIdx j) hH e ?_ (r.eraseIdx j) ?_,rfl,q⟩
  ·show its.toArray.eraseIdxIfInBounds j=(its.eraseIdx j).toArray
   rw [List.eraseIdxIfInBounds_toArray]
  ·have:=KW xs j
   omega
end
end L2
namespace Dp
open PySem PySem.Spec PyProof.Rows L2
noncomputable def ZL(d:D)(ds:List D)(P:D->D->Prop):Prop:=∃(xs:List D) (y:D) (j:Nat),d=.lst xs/\ds=[y]/\Fc (.lst xs)/\Fc y/\(∃x,xs[j]?=some x/\H_ x y=true)/\(∀m x,m<j->xs[m]?=some x->H_ x y=false)/\P (.lst (xs.eraseIdx j)) .non
theorem ZV{K:Frag}:V9 K PJ ZL:=by
 intro M H a d ds vs P Q m t hv w q
 obtain⟨xs,y,j,rfl,rfl,⟨n1,l1,_⟩,⟨n2,l2,d2⟩,⟨x,hx,hit⟩,hno,w⟩:=w
 obtain⟨us,h1,h2⟩:=t
 obtain⟨u,r,rfl,hu,hr⟩:=hv
 cases (show r=[] from hr)
 have get:∀(m:Nat) (p:PyData),(A2 xs)[m]?=some p->∃x,xs[m]?=some x/\p=toPy x:=λm p e=>by
  rw [CK,T0] at e
  obtain⟨x,e1,rfl⟩:=bM.mp e
  exact⟨x,e1,rfl⟩
 refine⟨a,us,u,A2 xs,toPy y,j,rfl,rfl,h1,h2.rv n1,hu.rv n2,l1,l2,d2,⟨toPy x,by rw [CK,T0,hx]; rfl,hit⟩,λm p hm e=>?_,q _ (.lst (xs.eraseIdx j)) .non _ ⟨us.eraseIdx j,AT,?_⟩ rfl w⟩
 ·obtain⟨x',e1,rfl⟩:=get m p e
  exact hno m x' hm e1
 ·exact(h2.eraseIdx j).pres (Co m h1)
noncomputable def K3(c:Hm)(wb:Aa):Aa:=λD2 n ρ=>∃W:Nat->Nat->List Slot->Prop,(∃m,W m n ρ)/\∀m n ρ,W m n ρ ->
 c n ρ λb n1=>if b=true then ∃N:Nat->List Slot->Prop,(∀n' ρ',N n' ρ'->∃m',m'<m/\W m' n' ρ')/\wb { D2 with nx:=N,ct:=N,bk:=D2.nx } n1 ρ else D2.nx n1 ρ
section
variable {X:Cx}{κ:Kd}{c:Expr}{body:List Stmt}{wc:Hm}{wb:Aa}{pos:Pos}
theorem NW(hp:PassesOwn (model X.prog X.w) X.A X.env X.xe)(hc:DT X c wc)(hb:Uc X κ body wb):DS X κ (.While c body [] pos) (K3 wc wb):=by
 obtain⟨tc,c1,c2⟩:=hc
 obtain⟨tb,b1,b2⟩:=hb
 refine⟨_,Sl hp c1 b1,λC M H n ρ σ D2 E R L w=>?_⟩
 obtain⟨W,⟨m0,w0⟩,turn⟩:=w
 refine⟨λm σ' H'=>∃M' n' ρ',Rel X.K C M' H' n' ρ' σ'/\W m n' ρ',⟨m0,M,n,ρ,R,w0⟩,?_⟩
 rintro m σ' H' ⟨M',n',ρ',R',w'⟩
 refine c2 C M' H' n' ρ' σ' _ _ R' (turn m n' ρ' w') λb H2 n2 e f p=>?_
 have R2:=R'.step e f
 cases b with
 | true =>
  rw [if_pos rfl] at p ⊢
  obtain⟨N,hN,p⟩:=p
  refine⟨λσ3 H3=>∃M3 n3 ρ3,Rel X.K C M3 H3 n3 ρ3 σ3/\N n3 ρ3,λσ3 H3 ⟨M3,n3,ρ3,R3,w3⟩=>?_,?_⟩
  ·obtain⟨m',hm,w4⟩:=hN n3 ρ3 w3
   exact⟨m',hm,M3,n3,ρ3,R3,w4⟩
  ·exact b2 C M' H2 n2 ρ' σ' { D2 with nx:=N,ct:=N,bk:=D2.nx } _ R2 ⟨λM4 H4 n4 ρ4 σ4 R4 w4=>⟨M4,n4,ρ4,R4,w4⟩,L.rt,λM4 H4 n4 ρ4 σ4 R4 w4=>L.nx M4 H4 n4 ρ4 σ4 R4 w4,λM4 H4 n4 ρ4 σ4 R4 w4=>⟨M4,n4,ρ4,R4,w4⟩⟩ p
 | false =>
  rw [if_neg (by decide)] at p ⊢
  exact L.nx M' H2 n2 ρ' σ' R2 p
theorem J6{D2:E2}{n:Nat}{ρ:List Slot}(I:Nat->Nat->List Slot->Prop)(m0:Nat)(h0:I m0 n ρ)
  (hs:∀m n ρ (N:Nat->List Slot->Prop),I m n ρ->(∀m' n' ρ',m'<m->I m' n' ρ'->N n' ρ')->wc n ρ λb n1=>if b=true then wb { D2 with nx:=N,ct:=N,bk:=D2.nx } n1 ρ else D2.nx n1 ρ)
  (mono:∀n ρ (P Q:Bool->Nat->Prop),(∀b n1,P b n1->Q b n1)->wc n ρ P->wc n ρ Q):K3 wc wb D2 n ρ:=by
 refine⟨I,⟨m0,h0⟩,λm n ρ h=>?_⟩
 refine mono n ρ _ _ (λb n1 p=>?_) (hs m n ρ (λn' ρ'=>∃m',m'<m/\I m' n' ρ') h λm' n' ρ' hm hi=>⟨m',hm,hi⟩)
 cases b with
 | true=>rw [if_pos rfl] at p ⊢; exact⟨_,λ_ _ z=>z,p⟩
 | false=>exact p
end
section
variable {X:Cx}{κ:Kd}{tg:Expr}{body:List Stmt}{b:BW}{wb:Aa}{pos p:Pos}{x:Str}{i:Nat}
end
end Dp
namespace Nt
open PySem PySem.Spec PyProof.Rows L2 Dp
noncomputable def Yi(s t:Ag):Decidable (s=t) :=
 if h:s.a=t.a/\s.b=t.b/\s.len=t.len then .isTrue (by obtain⟨a,b,l⟩:=s; obtain⟨a',b',l'⟩:=t; obtain⟨h1,h2,h3⟩:=h; simp only at h1 h2 h3; subst h1 h2 h3; rfl) else .isFalse λe=>h (by rw [e]; exact⟨rfl,rfl,rfl⟩)
noncomputable instance:DecidableEq Ag:=Yi
noncomputable abbrev EF(Pd:D->Nat->Prop):E2:={ nx:=λn _=>Kd.fr=.sh/\Pd .non n,rt:=Pd }
noncomputable def Md(t:Ag):List Key:=[.inl t.len,.inr t.a,.inr t.b]
noncomputable def C7(ts:List Ag):Prop:=ts.Pairwise λs t=>BB (Md t) (Md s)=false
noncomputable def WG:D->D
 | .tup [x,y,z]=>.tup [z,x,y]
 | d=>d
noncomputable def Zr(x:Str×Int):D:=.tup [.str x.1,.int x.2]
noncomputable abbrev QG:W2:=λss n P=>∃x y z:D,ss=[.sh (.tup [x,y,z])]/\P (.tup [z,x,y]) n
noncomputable def Jg:W2:=λss n P=>∃(d:D) (ts:List Ag),ss=[.sh d]/\FL d=some (ts.map Aj)/\ts.length<64/\∀ts':List Ag,ts'.Perm ts->C7 ts'->P (.lst (ts'.map Aj)) n
noncomputable def Kr:Aa:=(A3 (CG (AE (Ad BP (AC 0) (wC (D.int 2))) (AE (Ad BP (AC 0) (wC (D.int 0))) (AE (Ad BP (AC 0) (wC (D.int 1))) Ae)))))
noncomputable def JY:Aa:=(A3 (Rv QG (AC 0)))
theorem SO{s t:Ag}(h:Md s=Md t):s=t:=by
 obtain⟨a,b,l⟩:=s
 obtain⟨a',b',l'⟩:=t
 unfold Md at h
 simp only [iL,io,ip,and_true] at h
 obtain⟨rfl,rfl,rfl⟩:=h
 rfl
theorem LM{α:Type}{R:α->α->Prop}(anti:∀a b,R a b->R b a->a=b):∀{l1 l2:List α},l1.Perm l2->l1.Pairwise R->l2.Pairwise R->l1=l2
 | [],l2,p,_,_=>(List.nil_perm.mp p).symm
 | a::l1,[],p,_,_=>absurd (List.perm_nil.mp p) (eC _ _)
 | a::l1,b::l2,p,h1,h2=>by
  have e:a=b:=by
   rcases TM.mp (p.mem_iff.mp No) with e | h
   ·exact e
   ·rcases TM.mp (p.mem_iff.mpr (No (a:=b) (l:=l2))) with e | h'
    ·exact e.symm
    ·exact anti a b ((b8.mp h1).1 b h') ((b8.mp h2).1 a h)
  subst e
  rw [LM anti ((List.perm_cons a).mp p) (b8.mp h1).2 (b8.mp h2).2]
theorem EJ{l1 l2:List Ag}(p:l1.Perm l2)(h1:C7 l1)(h2:C7 l2):l1=l2:=LM (λa b x y=>SO (CU _ _ y x)) p h1 h2
theorem WD{α:Type}{f:α->D}{g:D->α}(hg:∀x,g (f x)=x){xs:List D}{ts:List α}(h:xs.Perm (ts.map f)):∃ts':List α,ts'.Perm ts/\xs=ts'.map f:=by
 refine⟨xs.map g,?_,?_⟩
 ·have:=h.map g
  rw [dY,show g∘f=id from funext hg,List.map_id] at this
  exact this
 ·rw [dY]
  have:∀x∈xs,(f∘g) x=x:=λx hx=>by
   obtain⟨t,_,rfl⟩:=ZB.mp (h.mem_iff.mp hx)
   show f (g (f t))=f t
   rw [hg]
  rw [eJ this,List.map_id']
noncomputable def ZR:D->Ag
 | .tup [.str a,.str b,.int l]=>⟨a,b,l⟩
 | _=>⟨"","",0⟩
section
variable {ss:List Slot}{n:Nat}{Pd:D->Nat->Prop}
theorem OG(h:QG ss n Pd):Kr (EE Pd) n (ss++Uf 0 .no):=by
 obtain⟨x,y,z,rfl,p⟩:=h
 unfold Kr
 exact⟨_,AQ (j:=2) rfl,_,AQ (j:=0) rfl,_,AQ (j:=1) rfl,z3,p⟩
theorem S3{ts:List Ag}(h:Hc (λx=>B0 (WG x)) (ts.map Aj)):C7 ts:=by
 unfold Hc at h
 rw [List.pairwise_map] at h
 exact h.imp λ{s t} z=>z _ _ rfl rfl
theorem Me(h:Jg ss n Pd):JY (EF Pd) n (ss++Uf 0 .no):=by
 obtain⟨d,ts,rfl,hd,h64,p⟩:=h
 unfold JY
 refine⟨ts.map Aj,WG,hd,by rw [FM]; exact h64,λx hx Q hq=>?_,⟨λx hx=>?_,λx hx y hy ka kb ea eb=>?_⟩,λxs' hp ho=>?_⟩
 ·obtain⟨t,_,rfl⟩:=ZB.mp hx
  exact⟨_,_,_,rfl,hq⟩
 ·obtain⟨t,_,rfl⟩:=ZB.mp hx
  exact⟨Md t,rfl,eC _ _⟩
 ·obtain⟨t,_,rfl⟩:=ZB.mp hx
  obtain⟨u,_,rfl⟩:=ZB.mp hy
  cases (show some (Md t)=some ka from ea)
  cases (show some (Md u)=some kb from eb)
  rfl
 ·obtain⟨ts',h1,rfl⟩:=WD (g:=ZR) (λ_=>rfl) hp
  exact p ts' h1 (S3 ho)
theorem Ld{N:Net}(ok:N.Ok){x:Str}{p:Str×Int}(h:p∈Ce N.ts x):p.1∈N.ps/\1<=p.2/\p.2<=1000000/\∃t∈N.ts,t.len=p.2/\((t.a=x/\t.b=p.1)\/(t.b=x/\t.a=p.1)):=by
 unfold Ce at h
 obtain⟨t,ht,h⟩:=dP.mp h
 obtain⟨m1,m2,m3,m4,m5⟩:=ok.tin t ht
 rcases bV.mp h with h | h
 ·split at h
  ·rename_i e
   rw [On.mp h]
   exact⟨m2,m4,m5,t,ht,rfl,.inl ⟨e,rfl⟩⟩
  ·cases h
 ·split at h
  ·rename_i e
   rw [On.mp h]
   exact⟨m1,m4,m5,t,ht,rfl,.inr ⟨e,rfl⟩⟩
  ·cases h
theorem Ps(s t:Ag):H_ (Aj s) (Aj t)=true↔s=t:=by
 obtain⟨a,b,l⟩:=s
 obtain⟨a',b',l'⟩:=t
 show (a==a'&&(b==b'&&(l==l'&&true)))=true↔_
 rw [im,bL,bL,beq_iff_eq,beq_iff_eq,beq_iff_eq]
 constructor
 ·rintro ⟨rfl,rfl,rfl⟩; rfl
 ·rintro h; cases h; exact⟨rfl,rfl,rfl⟩
theorem KY{xs:List D}(h:∀d∈xs,item d):Fc (.lst xs):=by
 have d1:Gi xs<=1:=dps_le.mpr λd hd=>(h d hd).2.2
 exact G0 (B:=1000001) (by decide) (fines_iff.mpr λd hd=>(h d hd).1) (by show Gi xs+1<=100; omega)
theorem Kg{α β:Type}(f:α->β):∀(l:List α) (i:Nat),(l.map f).eraseIdx i=(l.eraseIdx i).map f
 | [],i=>rfl
 | x::l,0=>rfl
 | x::l,i+1=>by
  show f x::(l.map f).eraseIdx i=f x::(l.eraseIdx i).map f
  rw [Kg f l i]
theorem Ve{N:Net}(ok:N.Ok){x o:Str}{s t:Ag}(hs:s∈N.ts)(ht:t∈N.ts)(e:BG s t)(h1:(s.a=x/\s.b=o)\/(s.b=x/\s.a=o))(h2:(t.a=x/\t.b=o)\/(t.b=x/\t.a=o)):False:=by
 have ls:=(ok.tin s hs).2.2.1
 have lt:=(ok.tin t ht).2.2.1
 have irr:∀a:Str,¬cs a<cs a:=λa=>bc _
 rcases h1 with ⟨a1,b1⟩ | ⟨a1,b1⟩ <;> rcases h2 with ⟨a2,b2⟩ | ⟨a2,b2⟩ <;> rw [a1,b1] at ls <;> rw [a2,b2] at lt
 ·rcases e with e | ⟨_,e⟩
  ·rw [a1,a2] at e; exact irr _ e
  ·rw [b1,b2] at e; exact irr _ e
 ·exact irr _ (e_ ls lt)
 ·exact irr _ (e_ ls lt)
 ·rcases e with e | ⟨_,e⟩
  ·rw [b1,b2] at e; exact irr _ e
  ·rw [a1,a2] at e; exact irr _ e
theorem Qx{N:Net}(ok:N.Ok)(x:Str):((Ce N.ts x).map (·.1)).Nodup:=by
 have go:∀ts:List Ag,(∀t∈ts,t∈N.ts)->ts.Pairwise BG->((Ce ts x).map (·.1)).Nodup:=by
  intro ts
  induction ts with
  | nil=>intro _ _; exact bj
  | cons t ts ih =>
   intro hin hp
   have i1:=ih (λs hs=>hin s (Rs _ hs)) (b8.mp hp).2
   have lt:=(ok.tin t (hin t No)).2.2.1
   have new:∀y,((t.a=x/\t.b=y)\/(t.b=x/\t.a=y))->y∉(Ce ts x).map (·.1):=λy hy hm=>by
    obtain⟨s,hs,h⟩:=Lc hm
    exact Ve ok (hin t No) (hin s (Rs _ hs)) ((b8.mp hp).1 s hs) hy h
   have e:Ce (t::ts) x=((if t.a=x then [(t.b,t.len)] else [])++(if t.b=x then [(t.a,t.len)] else []))++Ce ts x:=by
    unfold Ce
    rw [gs]
   rw [e]
   by_cases h1:t.a=x
   ·have h2:¬t.b=x:=λz=>by rw [h1,z] at lt; exact bc _ lt
    rw [if_pos h1,if_neg h2,bh,fz,bE,bQ]
    exact⟨new _ (.inl ⟨h1,rfl⟩),i1⟩
   ·rw [if_neg h1,cD]
    by_cases h2:t.b=x
    ·rw [if_pos h2,fz,bE,bQ]
     exact⟨new _ (.inr ⟨h2,rfl⟩),i1⟩
    ·rw [if_neg h2,cD]
     exact i1
 exact go N.ts (λ_ h=>h) ok.trise
end
noncomputable def Dz(t:Ag):List Key:=[.inr t.a,.inr t.b,.inl t.len]
noncomputable def Kl(ts:List Ag):Prop:=ts.Pairwise λs t=>BB (Dz t) (Dz s)=false
noncomputable def O4(N:Net)(d:D):Prop:=∃ts:List Ag,d=.tup [.tup (N.ps.map .str),.tup (ts.map Aj)]/\(∀t∈ts,t∈N.ts)/\ts.Pairwise BG
noncomputable def thinB(N:Net)(d:D):Bool:=@decide (O4 N d) (cx _)
theorem thinB_iff{N:Net}{d:D}:thinB N d=true↔O4 N d:=by
 unfold thinB
 exact @decide_eq_true_iff _ (cx _)
theorem Ts{N:Net}{d:D}{b:Bool}(h:b=true↔O4 N d):b=thinB N d:=by
 rw [ci,thinB_iff]
 exact h
noncomputable def Yg(N:Net)(d:D):Prop:=∃s∈N.ts,d=Aj s
noncomputable def IN(N:Net)(d:D):Bool:=@decide (Yg N d) (cx _)
theorem tofB_iff{N:Net}{d:D}:IN N d=true↔Yg N d:=by
 unfold IN
 exact @decide_eq_true_iff _ (cx _)
theorem Wf{a:Str}{x:D}(h:H_ (.str a) x=true):x=.str a:=by
 cases x with
 | str b =>
  have h:(a==b)=true:=h
  rw [eq_of_beq h]
 | _=>cases h
theorem ZP{a:Str}{x:D}(h:H_ x (.str a)=true):x=.str a:=by
 cases x with
 | str b =>
  have h:(b==a)=true:=h
  rw [eq_of_beq h]
 | _=>cases h
theorem HF:∀{xs:List D} {ps:List Str},gh (A2 xs) (A2 (ps.map .str))=true->xs=ps.map .str
 | [],[],_=>rfl
 | [],_::_,h=>by cases h
 | _::_,[],h=>by cases h
 | x::xs,p::ps,h=>by
  have h:(cE (toPy x) (toPy (.str p))&&gh (A2 xs) (A2 (ps.map .str)))=true:=h
  rw [bL] at h
  rw [ZP (a:=p) (x:=x) h.1,HF h.2]
  rfl
theorem eqvAll_refl:∀ps:List Str,gh (A2 (ps.map .str)) (A2 (ps.map .str))=true
 | []=>rfl
 | p::ps=>by
  show ((p==p)&&gh (A2 (ps.map .str)) (A2 (ps.map .str)))=true
  rw [beq_self_eq_true,eqvAll_refl ps]
  rfl
theorem eqD_strs{p:D}{ps:List Str}:H_ p (.tup (ps.map .str))=true↔p=.tup (ps.map .str):=by
 constructor
 ·intro h
  cases p with
  | tup xs=>rw [HF (xs:=xs) (ps:=ps) h]
  | _=>cases h
 ·rintro rfl
  exact eqvAll_refl ps
theorem RJ{s:Ag}{d:D}(h:H_ (Aj s) d=true):∃z,d=.tup [.str s.a,.str s.b,z]/\∀i,z=.int i->i=s.len:=by
 cases d with
 | tup xs =>
  match xs,h with
  | [x,y,z],h =>
   have h:(cE (toPy (.str s.a)) (toPy x)&&(cE (toPy (.str s.b)) (toPy y)&&(cE (.int s.len) (toPy z)&&true)))=true:=h
   rw [im,bL,bL] at h
   refine⟨z,by rw [Wf (a:=s.a) (x:=x) h.1,Wf (a:=s.b) (x:=y) h.2.1],λi e=>?_⟩
   subst e
   have h3:(s.len==i)=true:=h.2.2
   exact(eq_of_beq h3).symm
  | [],h=>cases h
  | [x],h=>exact absurd h (by show ¬((cE (toPy (.str s.a)) (toPy x)&&false)=true); simp)
  | [x,y],h=>exact absurd h (by show ¬((cE (toPy (.str s.a)) (toPy x)&&(cE (toPy (.str s.b)) (toPy y)&&false))=true); simp)
  | x::y::z::u::r,h=>exact absurd h (by show ¬((cE (toPy (.str s.a)) (toPy x)&&(cE (toPy (.str s.b)) (toPy y)&&(cE (.int s.len) (toPy z)&&false)))=true); simp)
 | _=>cases h
theorem L5{f:Ag->D}{k:Ag->List Key}(hk:∀s t,TH (f s) (f t)=some (BB (k s) (k t))):∀{ts:List Ag},V2 (ts.map f)=true↔ts.Pairwise λs t=>BB (k s) (k t)=true
 | []=>⟨λ_=>.nil,λ_=>rfl⟩
 | [t]=>⟨λ_=>iG _ _,λ_=>rfl⟩
 | s::t::r=>by
  have ih:=L5 hk (ts:=t::r)
  show ((TH (f s) (f t)==some true)&&V2 ((t::r).map f))=true↔_
  rw [bL,ih,hk,b8 (a:=s) (l:=t::r)]
  constructor
  ·rintro ⟨h1,h2⟩
   have h1:BB (k s) (k t)=true:=UF (eq_of_beq h1)
   refine⟨λu hu=>?_,h2⟩
   rcases TM.mp hu with rfl | hu
   ·exact h1
   ·exact Bz _ _ _ h1 ((b8.mp h2).1 u hu)
  ·rintro ⟨h1,h2⟩
   exact⟨by rw [h1 t No]; rfl,h2⟩
theorem Oc(s t:Ag):TH (Aj s) (Aj t)=some (BB (Dz s) (Dz t)):=by
 show (if (true&&(true&&(true&&true)))=true then some (EO (Dz s) (Dz t)) else none)=_
 rw [if_pos (show (true&&(true&&(true&&true)))=true from rfl),Hz _ _ rfl]
theorem Jy(s:Ag):¬BG s s:=by
 rintro (h | ⟨_,h⟩) <;> exact B4 _ h
theorem O_{s t:Ag}(h:BG s t):BB (Dz s) (Dz t)=true:=by
 show (if (ce s.a:Key)=.inr t.a then (if (ce s.b:Key)=.inr t.b then (if (eN s.len:Key)=.inl t.len then false else decide (s.len<t.len)) else decide (cs s.b<cs t.b)) else decide (cs s.a<cs t.a))=true
 rcases h with h | ⟨h,h'⟩
 ·rw [if_neg (λe=>B4 s.a (by rw [cQ e] at h ⊢; exact h)),decide_eq_true h]
 ·rw [if_pos (by rw [h]),if_neg (λe=>B4 s.b (by rw [cQ e] at h' ⊢; exact h')),decide_eq_true h']
theorem KO:∀{ts:List Ag},ts.Pairwise BG->∀s∈ts,∀t∈ts,s.a=t.a->s.b=t.b->s=t
 | [],_,s,hs,_,_,_,_=>by cases hs
 | x::ts,h,s,hs,t,ht,e1,e2=>by
  have h:=b8.mp h
  rcases TM.mp hs with es | hs
  ·rcases TM.mp ht with et | ht
   ·rw [es,et]
   ·rcases h.1 t ht with h | ⟨_,h⟩
    ·rw [← es,e1] at h; exact absurd h (B4 _)
    ·rw [← es,e2] at h; exact absurd h (B4 _)
  ·rcases TM.mp ht with et | ht
   ·rcases h.1 s hs with h | ⟨_,h⟩
    ·rw [← et,e1] at h; exact absurd h (B4 _)
    ·rw [← et,e2] at h; exact absurd h (B4 _)
   ·exact KO h.2 s hs t ht e1 e2
theorem Vd{N:Net}(ok:N.Ok){s t:Ag}(hs:s∈N.ts)(ht:t∈N.ts)(h:BB (Dz s) (Dz t)=true):BG s t:=by
 have h:(if (ce s.a:Key)=.inr t.a then (if (ce s.b:Key)=.inr t.b then (if (eN s.len:Key)=.inl t.len then false else decide (s.len<t.len)) else decide (cs s.b<cs t.b)) else decide (cs s.a<cs t.a))=true:=h
 by_cases h1:s.a=t.a
 ·rw [if_pos (by rw [h1])] at h
  by_cases h2:s.b=t.b
  ·rw [if_pos (by rw [h2]),if_pos (by rw [KO ok.trise s hs t ht h1 h2])] at h
   cases h
  ·rw [if_neg (λe=>h2 (cQ e)),decide_eq_true_eq] at h
   exact .inr ⟨h1,h⟩
 ·rw [if_neg (λe=>h1 (cQ e)),decide_eq_true_eq] at h
  exact .inl h
theorem B3{ts:List Ag}(h:ts.Pairwise BG):ts.Nodup:=h.imp λ{s t} h e=>by rw [e] at h; exact Jy _ h
theorem sub_len{l m:List Ag}(hl:l.Nodup)(hm:m.Nodup)(h:∀t∈l,t∈m):l.length<=m.length:=by
 have:l.Perm (m.filter λt=>decide (t∈l)):=(fA hl (hm.filter _)).mpr λt=>by
  rw [cB,decide_eq_true_eq]
  exact⟨λz=>⟨h t z,z⟩,λz=>z.2⟩
 rw [this.length_eq]
 exact c7 _ _
theorem SG{N:Net}(ok:N.Ok){ts:List Ag}(h:∀t∈ts,t∈N.ts)(hp:ts.Pairwise BG):Net.Ok ⟨N.ps,ts⟩:=⟨ok.names,ok.rise,λt ht=>ok.tin t (h t ht),hp⟩
theorem KG{P:Ag->Prop}:∀{xs:List D},(∀d∈xs,∃s,P s/\d=Aj s)->∃ts:List Ag,xs=ts.map Aj/\∀t∈ts,P t
 | [],_=>⟨[],rfl,λt h=>by cases h⟩
 | d::xs,h=>by
  obtain⟨s,hs,rfl⟩:=h d No
  obtain⟨ts,rfl,ht⟩:=KG λe he=>h e (Rs _ he)
  refine⟨s::ts,rfl,λt z=>?_⟩
  rcases TM.mp z with rfl | z
  ·exact hs
  ·exact ht t z
theorem MT{N:Net}{xs:List D}(h:xs.all (IN N)=true):∃ts:List Ag,xs=ts.map Aj/\∀t∈ts,t∈N.ts :=
 KG λd hd=>by
  obtain⟨s,hs,e⟩:=tofB_iff.mp (eA.mp h d hd)
  exact⟨s,hs,e⟩
theorem QW{N:Net}(ok:N.Ok)(p:D)(xs:List D):(H_ p (.tup (N.ps.map .str))&&(xs.all (IN N)&&V2 xs))=thinB N (.tup [p,.tup xs]):=by
 refine Ts ⟨λh=>?_,λh=>?_⟩
 ·rw [bL,bL] at h
  obtain⟨ts,rfl,hts⟩:=MT h.2.1
  refine⟨ts,by rw [eqD_strs.mp h.1],hts,?_⟩
  have:=(L5 Oc).mp h.2.2
  exact this.imp_of_mem λ{s t} hs ht z=>Vd ok (hts s hs) (hts t ht) z
 ·obtain⟨ts,e,hts,hp⟩:=h
  cases e
  rw [bL,bL]
  refine⟨eqD_strs.mpr rfl,eA.mpr λd hd=>?_,(L5 Oc).mpr (hp.imp λ{s t} z=>O_ z)⟩
  obtain⟨t,ht,rfl⟩:=ZB.mp hd
  exact tofB_iff.mpr ⟨t,hts t ht,rfl⟩
theorem MS{N:Net}{d:D}(h:∀p xs,d≠.tup [p,.tup xs]):thinB N d=false:=by
 rw [eX]
 intro z
 obtain⟨ts,e,_⟩:=thinB_iff.mp z
 exact h _ _ e
end Nt
namespace L2
open PySem PySem.Spec PyProof.Rows PySem.W
section
variable {X:Cx}
end
end L2
namespace Dp
open PySem PySem.Spec PyProof.Rows L2
section
variable {X:Cx}{K:Frag}
end
end Dp
namespace Nt
open PySem PySem.Spec PyProof.Rows L2 Dp
noncomputable def look(ts:List Ag)(x y:Str):Option Int:=((Ce ts x).find? λz=>decide (z.1=y)).map (·.2)
noncomputable def Jx(ts:List Ag):Str->List Str->Int->Option Int
 | _,[],s=>some s
 | x,y::r,s=>match look ts x y with
  | some l=>Jx ts y r (s+l)
  | none=>none
noncomputable def XF:Option Int->D
 | some i=>.int i
 | none=>.non
noncomputable def Dk:D->Bool
 | .str _=>true
 | _=>false
noncomputable def Xh(N:Net):List Str->D
 | x::r=>if x∈N.ps then XF (Jx N.ts x r 0) else .non
 | []=>.non
noncomputable def Xi(N:Net):D->D
 | .tup xs=>if xs.all Dk then Xh N (strsOf xs) else .non
 | _=>.non
noncomputable def Xy(d:D):Prop:=GF (10 ^ 30) d/\QY d<=60000/\Rh d<=50
noncomputable abbrev UY:W2:=λss n P=>∃(N:Net) (d:D),ss=[.sh (BL N),.sh d]/\N.Ok/\N.ps.length<=26/\N.ts.length<=60/\Xy d/\P (Xi N d) n
noncomputable def Nl:Aa:=(Ai (Bp (IJ (D3 (Am (N2 "tuple" (AC 1)))) (Am (Ad (Rg false) (Dy G3 (AE (AC 1) Ae)) (wC (D.int 0))))) (A3 (wC D.non)) BI)
 (Ai (Bp (D3 (Am (Dy RI (AE (Dt [none] (Cw (AC 1)) (Ay 0) Fp (N2 "str" (AC 0))) Ae)))) (A3 (wC D.non)) BI)
 (Ai (BA 2 (AV Jf (AB (AH (AC 0)) AW)))
 (Ai (Bp (Am (Ad (Ol true) (Ad BP (AC 1) (wC (D.int 0))) (AC 2))) (A3 (wC D.non)) BI)
 (Ai (BA 3 (wC (D.int 0)))
 (Ai (IK (Ru (AE (AC 1) (AE (YX Oj (AC 1) (J8 (wC (D.int 1))) Eh) Ae))) (Hl 2 (A8 (Ay 4) (A8 (Ay 5) Dv))) (Ai (Bp (Am (Ad (Ol true) (AC 5) (Ad Bn (AC 2) (AC 4)))) (A3 (wC D.non)) BI)
 (R6 3 (Ad Bn (Ad Bn (AC 2) (AC 4)) (AC 5)))))
 (A3 (AC 3))))))))
theorem MX:∀{xs:List D},xs.all Dk=true->∃ys:List Str,xs=ys.map .str
 | [],_=>⟨[],rfl⟩
 | d::r,h=>by
  rw [gc,bL] at h
  obtain⟨ys,e⟩:=MX h.2
  cases d with
  | str x=>exact⟨x::ys,by rw [bE,e]⟩
  | _=>cases h.1
theorem all_strs(ys:List Str):(ys.map D.str).all Dk=true:=by rw [hU]; exact eA.mpr λ_ _=>rfl
theorem K5{g:Str->D}{x:Str}:∀{ps:List Str},BN (ps.map .inr) (ps.map g) (.inr x)=if x∈ps then some (g x) else none
 | []=>rfl
 | p::ps=>by
  show (if (ce p:Key)=.inr x then some (g p) else BN (ps.map .inr) (ps.map g) (.inr x))=_
  rw [K5 (ps:=ps)]
  by_cases e:p=x
  ·subst e; rw [if_pos rfl,if_pos No]
  ·rw [if_neg (λz=>e (cQ z))]
   by_cases h:x∈ps
   ·rw [if_pos h,if_pos (Rs _ h)]
   ·rw [if_neg h,if_neg (λz=>(TM.mp z).elim (λz=>e z.symm) h)]
theorem Hq{y:Str}:∀{xs:List (Str×Int)},BN (xs.map λx=>.inr x.1) (xs.map λx=>.int x.2) (.inr y)=((xs.find? λz=>decide (z.1=y)).map (·.2)).map .int
 | []=>rfl
 | p::ps=>by
  show (if (ce p.1:Key)=.inr y then some (D.int p.2) else BN (ps.map λx=>.inr x.1) (ps.map λx=>.int x.2) (.inr y))=_
  rw [Hq (xs:=ps)]
  by_cases e:p.1=y
  ·rw [if_pos (by rw [e]),List.find?_cons_of_pos (by exact decide_eq_true e)]; rfl
  ·rw [if_neg (λz=>e (cQ z)),List.find?_cons_of_neg (by rw [decide_eq_true_eq]; exact e)]
theorem TK{N:Net}(ok:N.Ok){x y:Str}{l:Int}(h:look N.ts x y=some l):y∈N.ps/\1<=l/\l<=1000000:=by
 unfold look at h
 cases c:(Ce N.ts x).find? λz=>decide (z.1=y) with
 | none=>rw [c] at h; cases h
 | some z =>
  rw [c] at h
  cases h
  have h1:=List.find?_some c
  have h2:=gy c
  obtain⟨t,ht,hz⟩:=dP.mp h2
  obtain⟨m1,m2,_,m3,m4⟩:=ok.tin t ht
  have ey:z.1=y:=of_decide_eq_true h1
  rcases bV.mp hz with hz | hz
  ·split at hz
   ·cases On.mp hz
    exact⟨by rw [← ey]; exact m2,m3,m4⟩
   ·cases hz
  ·split at hz
   ·cases On.mp hz
    exact⟨by rw [← ey]; exact m1,m3,m4⟩
   ·cases hz
section
variable {ss:List Slot}{n:Nat}{Pd:D->Nat->Prop}
theorem NF{N:Net}(ok:N.Ok){D2:E2}{b0 b1:Slot}:∀(r:List Str) (x:Str) (s:Int) (s4 s5:Slot),x∈N.ps->(match Jx N.ts x r s with | some l=>∀s4 s5,D2.nx n [b0,b1,.sh (DU N),.sh (.int l),s4,s5] | none=>D2.rt .non n) ->
  DD (Hl 2 (A8 (Ay 4) (A8 (Ay 5) Dv))) (Ai (Bp (Am (Ad (Ol true) (AC 5) (Ad Bn (AC 2) (AC 4)))) (A3 (wC D.non)) BI) (R6 3 (Ad Bn (Ad Bn (AC 2) (AC 4)) (AC 5)))) D2 (Cf ((x::r).map .str) (r.map .str)) n [b0,b1,.sh (DU N),.sh (.int s),s4,s5]
 | [],x,s,s4,s5,hx,h=>h s4 s5
 | y::r,x,s,s4,s5,hx,h=>by
  have v1:BN (N.ps.map .inr) (N.ps.map (Qy N.ts)) (.inr x)=some (Qy N.ts x):=by rw [K5,if_pos hx]
  refine⟨rfl,rfl,?_⟩
  refine⟨_,_,.inr x,_,rfl,rfl,v1,_,_,.inr y,rfl,rfl,?_⟩
  show if (!(BN ((Ce N.ts x).map λz=>.inr z.1) ((Ce N.ts x).map λz=>.int z.2) (.inr y)).isSome)=true then _ else _
  rw [Hq]
  unfold Jx at h
  have hl:((Ce N.ts x).find? λz=>decide (z.1=y)).map (·.2)=look N.ts x y:=rfl
  rw [hl]
  cases c:look N.ts x y with
  | none=>rw [c] at h; exact JH h
  | some l =>
   rw [c] at h
   have v2:BN ((Ce N.ts x).map λz=>.inr z.1) ((Ce N.ts x).map λz=>.int z.2) (.inr y)=some (.int l):=by rw [Hq,hl,c]; rfl
   refine GC ⟨s,rfl,_,_,.inr x,_,rfl,rfl,v1,_,_,.inr y,_,rfl,rfl,v2,l,rfl,?_⟩
   exact NF ok r y (s+l) _ _ (TK ok c).1 h
theorem LF(h0:UY ss n Pd):Nl (EE Pd) n (ss++Uf 4 .no):=by
 obtain⟨N,d,rfl,ok,lp,lt,fd,p⟩:=h0
 cases d with
 | tup xs =>
  have hl:=PF xs
  have hz:Jh xs<=60000:=fd.2.1
  have p':Pd (if xs.all Dk then Xh N (strsOf xs) else .non) n:=p
  refine⟨_,_,rfl,rfl,?_⟩
  show if ((xs.length:Int)==0)=true then _ else _
  cases xs with
  | nil=>exact JH p'
  | cons x0 r0 =>
   rw [show (((x0::r0).length:Int)==0)=false from beq_eq_false_iff_ne.mpr (by rw [XV]; omega)]
   refine GC ⟨by omega,?_⟩
   refine Bw (λd=>.bl (Dk d)) (λρ=>∃s,ρ=[s]) _ _ _ _ ?_ ⟨_,rfl⟩ ?_
   ·rintro d hd ρ m nx ⟨s,rfl⟩ hnx
    have:=hnx [.sh d] ⟨_,rfl⟩
    cases d <;> exact this
   rw [cD]
   refine⟨_,_,rfl,GV Dk (x0::r0),?_⟩
   rw [UO]
   show if (!(x0::r0).all Dk)=true then _ else _
   cases ha:(x0::r0).all Dk with
   | false=>rw [ha] at p'; exact JH p'
   | true =>
    rw [ha] at p'
    obtain⟨ys,e⟩:=MX ha
    rw [e,IR] at p'
    cases ys with
    | nil=>cases e
    | cons y r =>
     rw [bE] at e
     cases e
     refine GC ⟨N,rfl,ok,by omega,by omega,?_⟩
     refine⟨.str y,AQ (j:=0) rfl,_,_,.inr y,rfl,rfl,?_⟩
     show if (!(BN (N.ps.map .inr) (N.ps.map (Qy N.ts)) (.inr y)).isSome)=true then _ else _
     rw [K5]
     have p2:Pd (if y∈N.ps then XF (Jx N.ts y r 0) else .non) n:=p'
     by_cases hy:y∈N.ps
     ·rw [if_pos hy] at p2 ⊢
      refine GC ⟨_,_,(y::r).map .str,r.map .str,rfl,rfl,by show some (Dp.cutD (D.str y::r.map .str) (some 1) none)=_; rw [UH]; rfl,?_⟩
      refine NF ok r y 0 _ _ hy ?_
      cases c:Jx N.ts y r 0 with
      | none=>rw [c] at p2; exact p2
      | some l=>rw [c] at p2; exact λ_ _=>p2
     ·rw [if_neg hy] at p2 ⊢
      exact JH p2
 | _=>exact p
theorem I_{b:BW}{tt:Hm}{te:DW}{P:List D->Nat->Prop}(c:D->Bool)(g:D->D)(I:List Slot->Prop):∀(ds acc:List D) (n:Nat) (ρ:List Slot),
  (∀d∈ds,∀(ρ:List Slot) (n:Nat) (nx:D->Nat->List Slot->Prop) (sk:Nat->List Slot->Prop),I ρ->(∀ρ',I ρ'->c d=true->nx (g d) n ρ')->(∀ρ',I ρ'->c d=false->sk n ρ')->b d ρ λρ1=>tt n ρ1 λc n1=>if c=true then te n1 ρ1 λy n2=>nx y n2 ρ1 else sk n1 ρ1)->I ρ->P (acc++(ds.filter c).map g) n->DF b tt te P ds acc n ρ
 | [],acc,n,ρ,_,_,h=>by rw [List.filter_nil,eY,bh] at h; exact h
 | d::ds,acc,n,ρ,ht,hρ,h=>ht d No ρ n (λy n2 ρ1=>DF b tt te P ds (acc++[y]) n2 ρ1) (λn2 ρ1=>DF b tt te P ds acc n2 ρ1) hρ
  (λρ' hρ' hc=>I_ c g I ds (acc++[g d]) n ρ' (λd hd=>ht d (Rs _ hd)) hρ' (by rw [fX hc] at h; rw [cW]; exact h))
  (λρ' hρ' hc=>I_ c g I ds acc n ρ' (λd hd=>ht d (Rs _ hd)) hρ' (by rw [fY (by rw [hc]; decide)] at h; exact h))
end
noncomputable def V7:W2:=λss n P=>∃(N:Net) (d:D),ss=[.sh (BL N),.sh d]/\N.Ok/\Fc d/\P (.bl (IN N d)) n
noncomputable def QF:W2:=λss n P=>∃(N:Net) (d:D),ss=[.sh (BL N),.sh d]/\N.Ok/\N.ps.length<=24/\N.ts.length<=60/\GF (10 ^ 41) d/\QY d<=200000/\Rh d<=90/\P (.bl (thinB N d)) n
noncomputable def HY:W2:=λss n P=>∃(N:Net) (ts:List Ag),ss=[.sh (BL N),.sh (BL ⟨N.ps,ts⟩)]/\N.Ok/\N.ts.length<64/\(∀t∈ts,t∈N.ts)/\∀ts':List Ag,ts'.Perm (N.ts.filter λt=>decide (t∉ts))->C7 ts'->P (.lst (ts'.map Aj)) n
noncomputable def HL:Aa:=(A3 (QS (Ad (Tq false) (AC 1) (Ad BP (AC 0) (wC (D.int 1)))) (AV L9 (AB (AH (Ad BP (AC 1) (wC (D.int 2)))) AW))))
noncomputable def Ku:Aa:=(Ai (Bp (IJ (D3 (Am (AV Ea (AB (AH (wC (D.int 2))) (AB (AH (AC 1)) AW))))) (D3 (Am (N2 "tuple" (Ad BP (AC 1) (wC (D.int 1))))))) (A3 (wC (D.bl false))) BI)
 (A3 (QS (Ad ZN (Ad BP (AC 1) (wC (D.int 0))) (Ad BP (AC 0) (wC (D.int 0)))) (QS (Dy RI (AE (Dt [some 0,none] (Cw (Ad BP (AC 1) (wC (D.int 1)))) (Ay 1) Fp (AV V7 (AB (AH (AC 0)) (AB (AH (AC 1)) AW)))) Ae)) (AV IE (AB (AH (Ad BP (AC 1) (wC (D.int 1)))) AW))))))
noncomputable def JZ:Aa:=(A3 (AV Jg (AB (AH (Dt [some 1,none] (Cw (Ad BP (AC 0) (wC (D.int 1)))) (Ay 1) (Am (Ad (Tq true) (AC 1) (Ad BP (AC 0) (wC (D.int 1))))) (AC 1))) AW)))
theorem VB{ts:List Ag}(h:Hc B0 (ts.map Aj)):Kl ts:=by
 unfold Hc at h
 rw [List.pairwise_map] at h
 exact h.imp λ{s t} z=>z _ _ rfl rfl
theorem NI{N:Net}(ok:N.Ok){ts:List Ag}(h:∀t∈ts,t∈N.ts):Fc (.tup (ts.map Aj))/\Fc (.lst (ts.map Aj)):=by
 have it:∀d∈ts.map Aj,item d:=λd hd=>by
  obtain⟨t,ht,rfl⟩:=ZB.mp hd
  exact JG ok _ (ZB.mpr ⟨t,h t ht,rfl⟩)
 have d1:Gi (ts.map Aj)<=1:=dps_le.mpr λd hd=>(it d hd).2.2
 exact⟨G0 (B:=1000001) (by decide) (fines_iff.mpr λd hd=>(it d hd).1) (by show Gi (ts.map Aj)+1<=100; omega),KY it⟩
theorem VL{N:Net}(ok:N.Ok){t:Ag}(h:t∈N.ts):Fc (Aj t):=by
 have it:=JG ok _ (ZB.mpr ⟨t,h,rfl⟩)
 exact G0 (B:=1000001) (by decide) it.1 (by have:=it.2.2; omega)
theorem P7{ts:List Ag}{t:Ag}:((ts.map Aj).any λy=>H_ y (Aj t))=decide (t∈ts):=by
 rw [ci,cr,decide_eq_true_eq]
 constructor
 ·rintro ⟨d,hd,e⟩
  obtain⟨s,hs,rfl⟩:=ZB.mp hd
  rw [← (Ps s t).mp e]
  exact hs
 ·intro h
  exact⟨Aj t,ZB.mpr ⟨t,h,rfl⟩,(Ps t t).mpr rfl⟩
theorem Pg:∀xs:List D,xs.length<=Jh xs
 | []=>bH _
 | x::xs=>by
  have:=Pg xs
  show xs.length+1<=QY x+1+Jh xs
  omega
theorem NH:∀ts:List Ag,200*ts.length<=Jh (ts.map Aj)
 | []=>bH _
 | t::ts=>by
  have:=NH ts
  show 200*(ts.length+1)<=t.a.length+1+(t.b.length+1+(200+1+0))+1+Jh (ts.map Aj)
  omega
section
variable {ss:List Slot}{n:Nat}{Pd:D->Nat->Prop}
theorem LI(h:V7 ss n Pd):HL (EE Pd) n (ss++Uf 0 .no):=by
 obtain⟨N,d,rfl,ok,hl,p⟩:=h
 unfold HL
 refine⟨_,AQ (j:=1) rfl,hl,(NI ok λ_ h=>h).1,_,rfl,?_⟩
 cases c:(N.ts.map Aj).any λy=>H_ y d with
 | false =>
  have:IN N d=false:=by
   rw [eX]
   intro z
   obtain⟨s,hs,rfl⟩:=tofB_iff.mp z
   rw [P7,decide_eq_true hs] at c
   cases c
  rw [this] at p
  exact p
 | true =>
  obtain⟨e,he,q⟩:=cr.mp c
  obtain⟨s,hs,rfl⟩:=ZB.mp he
  obtain⟨z,rfl,hz⟩:=RJ q
  refine⟨_,AQ (j:=2) rfl,[z],rfl,rfl,?_⟩
  have:IN N (.tup [.str s.a,.str s.b,z])=Rq z:=by
   rw [ci,tofB_iff]
   constructor
   ·rintro ⟨t,_,e⟩
    have e:z=.int t.len:=by injection e with e; injection e with _ e; injection e with _ e; injection e
    rw [e]
    rfl
   ·intro hw
    cases z with
    | int i=>exact⟨s,hs,by rw [hz i rfl]; rfl⟩
    | _=>cases hw
  rw [this] at p
  exact p
theorem OJ(h:QF ss n Pd):Ku (EE Pd) n (ss++Uf 0 .no):=by
 obtain⟨N,d,rfl,ok,l1,l2,hf,hs,hd,p⟩:=h
 unfold Ku
 refine⟨2,d,rfl,?_⟩
 cases h2:tupleOfB 2 d with
 | false =>
  rw [MS (λp xs e=>by rw [e] at h2; cases h2)] at p
  exact JH p
 | true =>
  obtain⟨x,y,rfl⟩:=Z3 h2
  refine GC ⟨_,AQ (j:=1) rfl,?_⟩
  cases y with
  | tup xs =>
   rw [← QW ok] at p
   have f1:GF (10 ^ 41) x:=hf.1
   have f2:E7 (10 ^ 41) xs:=hf.2.1
   have hd':max (Rh x) (max (Gi xs+1) 0)+1<=90:=hd
   have hs':QY x+1+(Jh xs+1+0)<=200000:=hs
   refine GC ⟨_,AQ (j:=0) rfl,_,AQ (j:=0) rfl,G0 (B:=10 ^ 41) (by decide) f1 (by omega),KZ ok.names,?_⟩
   refine UN (b1:=H_ x (.tup (N.ps.map .str))) (b2:=xs.all (IN N)&&V2 xs) (P:=Pd) (n:=n) (k:=λP=>_) (λ_ hp=>?_) p
   refine⟨_,AQ (j:=1) rfl,by show xs.length<=10000000; have:=Pg xs; omega,?_⟩
   refine Bw (λd=>.bl (IN N d)) (λρ=>∃s,ρ=[.sh (BL N),s]) _ _ _ _ ?_ ⟨_,rfl⟩ ?_
   ·rintro e he ρ m nx ⟨s,rfl⟩ hnx
    have dx:Gi xs<=88:=by omega
    exact⟨N,e,rfl,ok,G0 (B:=10 ^ 41) (by decide) (fines_iff.mp f2 e he) (by have:=dps_le.mp dx e he; omega),hnx _ ⟨_,rfl⟩⟩
   rw [cD]
   refine⟨_,_,rfl,GV (IN N) xs,?_⟩
   rw [UO]
   refine UN (b1:=xs.all (IN N)) (b2:=V2 xs) (P:=Pd) (n:=n) (k:=λP=>_) (λha hp=>?_) hp
   obtain⟨ts,rfl,hts⟩:=MT ha
   have:=NH ts
   refine⟨_,AQ (j:=1) rfl,_,_,rfl,rfl,by rw [FM]; omega,λa ha b hb=>?_,hp⟩
   obtain⟨s,_,rfl⟩:=ZB.mp ha
   obtain⟨t,_,rfl⟩:=ZB.mp hb
   exact⟨_,Oc s t⟩
  | _ =>
   rw [MS (λp xs e=>by cases e)] at p
   exact JH p
theorem Mf(h:HY ss n Pd):JZ (EF Pd) n (ss++Uf 0 .no):=by
 obtain⟨N,ts,rfl,ok,h64,hts,p⟩:=h
 unfold JZ
 refine⟨_,AQ (j:=1) rfl,by show (N.ts.map Aj).length<=10000000; rw [FM]; omega,?_⟩
 refine I_ (λd=>!((ts.map Aj).any λy=>H_ y d)) id (λρ=>∃s,ρ=[.sh (BL ⟨N.ps,ts⟩),s]) _ _ _ _ ?_ ⟨_,rfl⟩ ?_
 ·rintro d hd ρ m nx sk ⟨s,rfl⟩ h1 h2
  obtain⟨t,ht,rfl⟩:=ZB.mp hd
  refine⟨_,AQ (j:=1) rfl,VL ok ht,(NI ok hts).1,_,rfl,?_⟩
  exact Cg (λc=>h1 _ ⟨_,rfl⟩ c) λc=>h2 _ ⟨_,rfl⟩ (eX.mpr c)
 ·rw [cD,List.map_id]
  have e:(N.ts.map Aj).filter (λd=>!((ts.map Aj).any λy=>H_ y d))=(N.ts.filter λt=>decide (t∉ts)).map Aj:=by
   rw [List.filter_map]
   congr 1
   refine List.filter_congr λt _=>?_
   show (!((ts.map Aj).any λy=>H_ y (Aj t)))=decide (t∉ts)
   rw [P7,decide_not]
  rw [e]
  exact⟨_,_,rfl,rfl,fI (c7 _ _) h64,p⟩
end
section
variable {ss:List Slot}{n:Nat}{Pd:D->Nat->Prop}
end
theorem SA{s t:Ag}(h:Dz s=Dz t):s=t:=by
 obtain⟨a,b,l⟩:=s
 obtain⟨a',b',l'⟩:=t
 unfold Dz at h
 simp only [iL,io,ip,and_true] at h
 obtain⟨rfl,rfl,rfl⟩:=h
 rfl
theorem N5{l1 l2:List Ag}(p:l1.Perm l2)(h1:Kl l1)(h2:Kl l2):l1=l2:=LM (λa b x y=>SA (CU _ _ y x)) p h1 h2
theorem Oy{ts:List Ag}(h:ts.Pairwise BG):Kl ts:=h.imp λ{s t} z=>by
 cases e:BB (Dz t) (Dz s) with
 | false=>rfl
 | true =>
  have:=Bz _ _ _ (O_ z) e
  rw [B8] at this
  cases this
noncomputable def Gc:W2:=λss n P=>∃l t b x:Int,ss=[.sh (.int l),.sh (.tup [.int t,.int b]),.sh (.int x)]/\1<=b/\b<=1000000/\1<=t/\t<=1000000/\P (.bl (decide (l*b<=x*t))) n
noncomputable def HK:Aa:=(A3 (Ad Xz (Ad ER (AC 0) (Ad BP (AC 1) (wC (D.int 1)))) (Ad ER (AC 2) (Ad BP (AC 1) (wC (D.int 0))))))
section
variable {ss:List Slot}{n:Nat}{Pd:D->Nat->Prop}
theorem YA{i j:Int}(h0:0<=j)(h1:j<=1000000):CMul i j:=.inr ⟨by omega,by omega⟩
theorem LH(h:Gc ss n Pd):HK (EE Pd) n (ss++Uf 0 .no):=by
 obtain⟨l,t,b,x,rfl,b0,b1,t0,t1,p⟩:=h
 unfold HK
 exact⟨_,AQ (j:=1) rfl,YA (by omega) b1,_,AQ (j:=0) rfl,YA (by omega) t1,p⟩
end
end Nt
namespace L2
open PySem PySem.Spec PyProof.Rows PySem.W
section
variable {prog:Program}{w:World}{A:Around}{E:Value->Shared->Prop}{R:Result->Shared->Prop}{I:Addr}{fp wr:List Addr}{n:Nat}{P:Nat->Value->Prop}{St:Nat->Heap->Prop}
noncomputable def Wp(prog:Program)(w:World)(A:Around)(op:CmpOp)(P:Nat->Value->Prop)(Cm:Heap->Prop)(bt:Nat->Nat->Bool):Prop :=
 ∀i j vi vj (s:Shared) (Q:Value->Shared->Prop) (E:Value->Shared->Prop),Cm s.heap->P i vi->P j vj->Q (.bool (bt i j)) s->wpAny (model prog w) A (richCompare op vi vj) Q E s
theorem Q3(W:Walks prog w A.in1 I fp wr n P St)(bt:Nat->Nat->Bool)(Cm:Heap->Prop)(hcmp:Wp prog w A.in1 .Lt P Cm bt)(S:Addr)(hSf:S∉fp)(hmono:∀h h':Heap,Cm h->(∀b o,b∉wr->b≠S->h.get? b=some o->h'.get? b=some o)->Cm h') :
  ∀(k j:Nat) (s:Shared) (vb:Value) (c:Nat),n - (j+1)=k->j+1<=n->St (j+1) s.heap->Cm s.heap->P (argBest bt j) vb ->
  s.heap.get? S=some { cls:=.type "list",dict:=none,data:=.seq #[vb,vb] c,slots:=#[] } ->
  (∀v h' tk,P (argBest bt (n - 1)) v->(∀b o,b∉wr->b≠S->s.heap.get? b=some o->h'.get? b=some o)->R (.ok (.ret v)) { s with heap:=h',toks:=tk }) ->
  codeAny (model prog w) A (.builtin "min.loop" ⟨[.ref I,.none,.ref S],[]⟩) R s:=by
 have hSw:S∉wr:=λh=>hSf (W.sub _ h)
 have hname:(toString "min"++toString ".loop" : String) = "min.loop":=by decide
 intro k
 induction k with
 | zero =>
  intro j s vb c hk hj hst hcm hPb hS hR
  have hin:j+1=n:=by omega
  refine cO PySem.F.entry_min_loop ?_
  rw [b_ PySem.F.plain_min_loop _]
  show wpAny _ A.in1 (seqItems? (.ref S) >>= _) _ _ s
  refine Ch (cM hS rfl ?_)
  show wpAny _ A.in1 (tryCatch (pyNext (.ref I)) _ >>= _) _ _ s
  refine Ch (fT (W.done s _ _ (hin▸hst) λh' tk hk'=>?_))
  have hS':=hk' S _ hSw hS
  show wpAny _ A.in1 (updateSeq S (λ_=>#[]) >>= _) _ _ _
  refine Ch ?_
  refine gB hS' rfl (Ch (eS (Go ?_)))
  refine hR vb _ tk (by rw [← hin]; exact hPb) λb o hbw hbS e=>(bN _ _ (bp hbS)).trans (hk' b o hbw e)
 | succ k ih =>
  intro j s vb c hk hj hst hcm hPb hS hR
  have hlt:j+1<n:=by omega
  refine cO PySem.F.entry_min_loop ?_
  rw [b_ PySem.F.plain_min_loop _]
  show wpAny _ A.in1 (seqItems? (.ref S) >>= _) _ _ s
  refine Ch (cM hS rfl ?_)
  show wpAny _ A.in1 (tryCatch (pyNext (.ref I)) _ >>= _) _ _ s
  refine Ch (fT (W.item (j+1) s _ _ hlt hst λv h' tk hP hst' hk'=>?_))
  have hS':=hk' S _ hSw hS
  have hcm':Cm h':=hmono _ _ hcm λb o h1 _ e=>hk' b o h1 e
  show wpAny _ A.in1 (tryCatch (holding [v,v] (richCompare .Lt v vb >>= _)) _ >>= _) _ _ _
  refine Ch (fT (bw (Ch (hcmp (j+1) (argBest bt j) v vb _ _ _ hcm' hP hPb ?_))))
  refine Ch (bw (dE ?_))
  refine Ch (eS (Go ?_))
  cases hb:bt (j+1) (argBest bt j) with
  | true =>
   simp only [if_true]
   refine Ch ?_
   refine gB hS' rfl (Ch (eS ?_))
   rw [hname]
   refine Go ⟨cf PySem.F.plain_min_loop _,ih (j+1) _ v _ (by omega) hlt (W.frame _ _ _ hst' λb hbf o e=>?_) (hmono _ _ hcm' λb o _ h2 e=>(bN _ _ (bp h2)).trans e) (by simp only [argBest,hb,if_true]; exact hP) (da _ hS' rfl)
    λv' h'' tk'' hP' hk''=>?_⟩
   ·exact(bN _ _ (λh:S=b=>hSf (by rw [h]; exact hbf))).trans e
   ·exact hR v' h'' tk'' hP' λb o hbw hbS e=>hk'' b o hbw hbS ((bN _ _ (bp hbS)).trans (hk' b o hbw e))
  | false =>
   simp only [bz,if_false]
   refine Ch (eS ?_)
   rw [hname]
   refine Go ⟨cf PySem.F.plain_min_loop _,ih (j+1) _ vb c (by omega) hlt hst' hcm' (by simp only [argBest,hb,bz,if_false]; exact hPb) hS' λv' h'' tk'' hP' hk''=>?_⟩
   exact hR v' h'' tk'' hP' λb o hbw hbS e=>hk'' b o hbw hbS (hk' b o hbw e)
theorem Oa(W:Walks prog w A.in1 I fp wr n P St)(bt:Nat->Nat->Bool)(Cm:Heap->Prop)(hcmp:Wp prog w A.in1 .Lt P Cm bt)(S:Addr)(hSf:S∉fp)(hmono:∀h h':Heap,Cm h->(∀b o,b∉wr->b≠S->h.get? b=some o->h'.get? b=some o)->Cm h')(hn:0<n){s:Shared}{c:Nat}(hst:St 0 s.heap)(hcm:Cm s.heap)
  (hS:s.heap.get? S=some { cls:=.type "list",dict:=none,data:=.seq #[] c,slots:=#[] })
  (hR:∀v h' tk,P (argBest bt (n - 1)) v->(∀b o,b∉wr->b≠S->s.heap.get? b=some o->h'.get? b=some o)->R (.ok (.ret v)) { s with heap:=h',toks:=tk }) :
  codeAny (model prog w) A (.builtin "min.loop" ⟨[.ref I,.none,.ref S],[]⟩) R s:=by
 have hSw:S∉wr:=λh=>hSf (W.sub _ h)
 have hname:(toString "min"++toString ".loop" : String) = "min.loop":=by decide
 refine cO PySem.F.entry_min_loop ?_
 rw [b_ PySem.F.plain_min_loop _]
 show wpAny _ A.in1 (seqItems? (.ref S) >>= _) _ _ s
 refine Ch (cM hS rfl ?_)
 show wpAny _ A.in1 (tryCatch (pyNext (.ref I)) _ >>= _) _ _ s
 refine Ch (fT (W.item 0 s _ _ hn hst λv h' tk hP hst' hk'=>?_))
 have hS':=hk' S _ hSw hS
 have hcm':Cm h':=hmono _ _ hcm λb o h1 _ e=>hk' b o h1 e
 show wpAny _ A.in1 (updateSeq S (λ_=>#[v,v]) >>= _) _ _ _
 refine Ch ?_
 refine gB hS' rfl ?_
 rw [hname]
 refine Go ⟨cf PySem.F.plain_min_loop _,Q3 W bt Cm hcmp S hSf hmono _ 0 _ v _ rfl hn (W.frame _ _ _ hst' λb hbf o e=>?_) (hmono _ _ hcm' λb o _ h2 e=>(bN _ _ (bp h2)).trans e) hP (da _ hS' rfl) λv' h'' tk'' hP' hk''=>?_⟩
 ·exact(bN _ _ (λh:S=b=>hSf (by rw [h]; exact hbf))).trans e
 ·exact hR v' h'' tk'' hP' λb o hbw hbS e=>hk'' b o hbw hbS ((bN _ _ (bp hbS)).trans (hk' b o hbw e))
theorem min_list{s:Shared}{l:Addr}{items:Array Value}{Q:Value->Shared->Prop}(bt:Nat->Nat->Bool)(hh:A.handled=none)(hl:s.heap.IsList l items)(hn:0<items.size)
  (hcmp:∀i j vi vj (s':Shared) (Q:Value->Shared->Prop) (E:Value->Shared->Prop),(∀b o,s.heap.get? b=some o->s'.heap.get? b=some o)->items[i]?=some vi->items[j]?=some vj->Q (.bool (bt i j)) s'->wpAny (model prog w) A.in1 (richCompare .Lt vi vj) Q E s')
  (h:∀v h' tk,items[argBest bt (items.size - 1)]?=some v->(∀b o,s.heap.get? b=some o->h'.get? b=some o)->Q v { s with heap:=h',toks:=tk }):wpAny (model prog w) A (call (.builtin "min") [.ref l]) Q E s:=by
 have hname:(toString "min"++toString ".loop" : String) = "min.loop":=by decide
 have hlt:l<s.heap.objs.size:=by obtain⟨_,e,_⟩:=hl; exact Tk e
 refine call_function_tree PySem.F.kind_min PySem.F.plain_min PySem.F.entry_min (PySem.F.args_min1 _) ?_
 show wpAny _ A.in1 (gY "min" ["key","default"] 0 ⟨[],[]⟩ >>= _) _ _ s
 refine Ch (gP (show gY "min" ["key","default"] 0 ⟨[],[]⟩=pure [none,none] from rfl) ?_)
 refine Ch (Go ?_)
 refine Ch (cg hl ?_)
 refine Ch (bY ?_)
 rw [hname]
 have W:=Walks.list (prog:=prog) (w:=w) (A:=A.in1) hh s.heap.objs.size l (bK hlt) items
 have hs1:(s.heap.push { cls:=.type "list_iterator",data:=.fields #[.ref l,.int 0 0] }).objs.size=s.heap.objs.size+1:=cT _ _
 refine Go ⟨cf PySem.F.plain_min_loop _,Oa W bt (λh'=>∀b o,s.heap.get? b=some o->h'.get? b=some o) (λi j vi vj s' Q E hc h1 h2 q=>hcmp i j vi vj s' Q E hc h1 h2 q) (s.heap.push { cls:=.type "list_iterator",data:=.fields #[.ref l,.int 0 0] }).objs.size (λhm=>?_) (λh1 h2 hc hk b o e=>hk b o (λhm=>?_) ?_ (hc b o e)) hn ⟨⟨_,Ev _ (Sc _ rfl),rfl,rfl⟩,(hl.push _).push _⟩ (λb o e=>Ev _ (Ev _ e)) (Sc _ rfl) λv h' tk hP hk=>?_⟩
 ·rw [hs1] at hm
  rcases TM.mp hm with e | hm
  ·exact absurd e (Nat.succ_ne_self _)
  ·rw [← On.mp hm] at hlt
   exact absurd hlt (fS.mpr (cY _))
 ·rw [On.mp hm] at e
  exact absurd (Tk e) (cI _)
 ·rw [hs1]
  exact bK (cy (Tk e))
 ·refine h v h' tk hP λb o e=>hk b o (λhm=>?_) ?_ (Ev _ (Ev _ e))
  ·rw [On.mp hm] at e
   exact absurd (Tk e) (cI _)
  ·rw [hs1]
   exact bK (cy (Tk e))
end
theorem Ja(keys:List (List Key)):∀m:Nat,argBest (λi j=>BB (keys.getD i []) (keys.getD j [])) m<=m/\∀i,i<=m->BB (keys.getD i []) (keys.getD (argBest (λi j=>BB (keys.getD i []) (keys.getD j [])) m) [])=false
 | 0=>⟨Op _,λi hi=>by
  have:i=0:=by omega
  subst this
  exact B8 _⟩
 | m+1=>by
  obtain⟨h1,h2⟩:=Ja keys m
  unfold argBest
  by_cases c:BB (keys.getD (m+1) []) (keys.getD (argBest (λi j=>BB (keys.getD i []) (keys.getD j [])) m) [])=true
  ·rw [if_pos c]
   refine⟨Op _,λi hi=>?_⟩
   by_cases e:i=m+1
   ·subst e; exact B8 _
   ·cases z:BB (keys.getD i []) (keys.getD (m+1) []) with
    | false=>rfl
    | true =>
     have:=Bz _ _ _ z c
     rw [h2 i (by omega)] at this
     cases this
  ·rw [if_neg c]
   refine⟨by omega,λi hi=>?_⟩
   by_cases e:i=m+1
   ·subst e
    cases z:BB (keys.getD (m+1) []) (keys.getD (argBest (λi j=>BB (keys.getD i []) (keys.getD j [])) m) []) with
    | false=>rfl
    | true=>exact absurd z c
   ·exact h2 i (by omega)
section
variable {X:Cx}
noncomputable def WO(K:Frag):List V->Hp->VK->Prop:=λxs H Q=>∃(p:Addr) (vs:List V) (keys:List (List Key)),xs=[.ref p]/\SqL K H p vs/\0<vs.length/\KeysAt K H vs keys /\
 ∀j v,vs[j]?=some v->(∀i,i<vs.length->BB (keys.getD i []) (keys.getD j [])=false)->Q v H
theorem RU{k:Nat}(hr:Room k X.A):B_ X (.builtin "min") (WO X.K):=by
 intro pins s σ H xs us Q I r h
 obtain⟨p,vs,keys,rfl,hq,hn,hk,q⟩:=h
 obtain⟨u,rfl,rx⟩:=vals1 r
 cases rx
 obtain⟨its,r',pl,hz⟩:=I.list hq
 have hl:=r'.length
 have tk:=hk.tups I r' λb o e=>e
 have hu:=hr.un
 refine min_list (λi j=>BB (keys.getD i []) (keys.getD j [])) hr.hd pl.isList (by rw [Re]; omega) (λi j vi vj s' Q' E' hold h1 h2 q'=>?_) λv h' tk' hv hold=>?_
 ·have hi:i<keys.length:=by rw [← hk.len,hl]; have:=(gi.mp h1).1; simpa using this
  have hj:j<keys.length:=by rw [← hk.len,hl]; have:=(gi.mp h2).1; simpa using this
  obtain⟨a,⟨cls,dd,data,sl⟩,xs,n,e1,e2,e3,e4,e5⟩:=tk.at_ i keys[i] (Db hi)
  obtain⟨a',⟨cls',dd',data',sl'⟩,xs',n',e1',e2',e3',e4',e5'⟩:=tk.at_ j keys[j] (Db hj)
  simp only at e3 e4 e3' e4'
  subst e3 e4 e3' e4'
  have e1:its.toArray[i]?=some (.ref a):=by rw [← e1]; simp
  have e1':its.toArray[j]?=some (.ref a'):=by rw [← e1']; simp
  rw [e1] at h1
  rw [e1'] at h2
  cases h1
  cases h2
  have hsm:=hk.same _ (bv hi) _ (bv hj)
  have g1:keys.getD i []=keys[i]:=by rw [bF,Db hi]; rfl
  have g2:keys.getD j []=keys[j]:=by rw [bF,Db hj]; rfl
  simp only [g1,g2] at q'
  rw [← Hz _ _ hsm] at q'
  exact richCompare_meets_room (op:=.Lt) ⟨_,hold _ _ e2,rfl⟩ ⟨_,hold _ _ e2',rfl⟩ PySem.F.slot_tuple_lt PySem.F.entry_tuple_lt (PySem.F.args_tuple_lt_2 _ _) (E4 a a' xs xs' n n' dd dd' sl sl' keys[i] keys[j] e5 e5' hsm)
   ⟨hold _ _ e2,hold _ _ e2',show d6 (EO keys[i] keys[j])≠ij/\Q' (.bool (EO keys[i] keys[j])) s' from⟨(λx=>nomatch x),q'⟩⟩ (by show X.A.units+1<cLine; omega)
 ·obtain⟨b1,b2⟩:=Ja keys (its.toArray.size - 1)
  rw [Re] at hv b1 b2
  have hj:argBest (λi j=>BB (keys.getD i []) (keys.getD j [])) (its.length - 1)<vs.length:=by omega
  obtain⟨u,e1,ru⟩:=r'.get (Db hj)
  have e2:its.toArray[argBest (λi j=>BB (keys.getD i []) (keys.getD j [])) (its.length - 1)]?=some u:=by rw [← e1]; simp
  rw [e2] at hv
  cases hv
  exact⟨_,H,I.kept (t':=tk') hold,ru,q _ _ (Db hj) λi hi=>b2 i (by omega)⟩
end
end L2
namespace Dp
open PySem PySem.Spec PyProof.Rows L2
noncomputable def Wc(ds:List D)(P:D->Prop):Prop:=∃xs,ds=[.lst xs]/\0<xs.length/\Keyed B0 xs/\∀x∈xs,(∀y∈xs,∀kx ky,B0 x=some kx->B0 y=some ky->BB ky kx=false)->P x
theorem YH{K:Frag}:Cv K .sh (WO K) Wc:=by
 intro U M H ds vs P Q dom vM hp w q
 obtain⟨xs,rfl,hn,hK,w⟩:=w
 obtain⟨v,rfl,hx⟩:=HA hp
 obtain⟨a,us,rfl,_,hq,hs⟩:=hx
 obtain⟨keys,hl,hk⟩:=Ej hK.1
 have hlen:=hs.length
 refine⟨a,us,keys,rfl,.inl hq,by omega,G1 (λd k v _=>G2) hs hK hl hk,λj v hv hle=>?_⟩
 have hj:j<xs.length:=by rw [← hlen]; exact(TW.mp hv).1
 obtain⟨v',e1,h1⟩:=hs.get (Db hj)
 rw [hv] at e1
 cases e1
 refine q v H xs[j] .refl h1 (w _ (bv hj) λy hy kx ky ex ey=>?_)
 obtain⟨i,hi⟩:=dh.mp hy
 have hil:i<xs.length:=(TW.mp hi).1
 obtain⟨k1,a1,b1,_⟩:=hk i y hi
 obtain⟨k2,a2,b2,_⟩:=hk j xs[j] (Db hj)
 have:=hle i (by omega)
 rw [bF,bF,a1,a2] at this
 rw [ey] at b1
 rw [ex] at b2
 cases b1
 cases b2
 exact this
end Dp
namespace L2
open PySem PySem.Spec PyProof.Rows
noncomputable def aT(d:Addr)(o:Obj)(kvs:List (Key×V)):It :=
 ⟨λi H=>H d=some (.frz o (.dK kvs))/\i<kvs.length,λi H x H'=>∃T p,x=.ref T/\H T=none/\kvs[i]?=some p/\H'=As H T (.tup [kV p.1,p.2]),λi H=>H d=some (.frz o (.dK kvs))/\kvs.length<=i⟩
theorem Xn{P:Program}{w:World}{k:Key}{u:Value}(h:(Af P w).is k u=true):RelV (kV k) u:=by
 rcases A5 h with ⟨i,t,rfl,rfl⟩ | ⟨x,t,rfl,rfl⟩
 ·exact⟨t,rfl⟩
 ·exact⟨t,rfl⟩
theorem Lr{X:Cx}{pins:List (Addr×Obj)}{σ:L2.St}{H:Hp}{s:Shared}{d:Addr}{o:Obj}{kvs:List (Key×V)}{es:Array DictEntry}{ep:Nat}(I:Inv X pins σ H s)(h:H d=some (.frz o (.dK kvs)))(hd:o.data=.dict es ep) :
  ∃ws,KV kvs ws/\s.heap.DictAt (Af X.prog X.w) d ws ep:=by
 obtain⟨e0,_,_,ws,kv,o',es',ep',e1,e2,e3,e4⟩:=(show ObjOk X.prog X.w H s.heap d (.frz o (.dK kvs)) from I.hok d _ h)
 rw [e0] at e1
 cases e1
 rw [hd] at e3
 cases e3
 exact⟨ws,kv,o,es,e0,e2,hd,e4⟩
theorem N4{P:Program}{w:World}{K:Frag}{els:List Expr}{j:Nat}{pos:Pos}(d it:Addr)(o:Obj)(kvs:List (Key×V))(es:Array DictEntry)(ep:Nat)(hdat:o.data=.dict es ep) :
  Turn P w K (.Tuple els j pos) (aT d o kvs) [it] it (λi h=>∃ok ov,IsItemIter h it d i kvs.length ep ok ov) where
 mem:=by simp
 obj:=λi h ⟨ok,ov,st⟩ c hc=>by
  rw [On.mp hc]
  exact⟨_,st,λv q=>by cases q⟩
 keep:=λi h h' ⟨ok,ov,st⟩ k=>⟨ok,ov,k it (by simp) _ st⟩
 item:=by
  intro X hP hw hK hc i pins s σ H E I hf st hg
  subst hP hw hK
  obtain⟨hH,hi⟩:=hg
  obtain⟨ok,ov,st⟩:=st
  obtain⟨ws,kv,D⟩:=Lr I hH hdat
  have hl:=kv.length
  have hiw:i<ws.length:=by omega
  rw [hl] at st
  obtain⟨k,v,hkv⟩:∃k v,ws[i]=(k,v):=⟨_,_,rfl⟩
  have hx:ws[i]?=some (k,v):=by rw [Db hiw,hkv]
  have hp:kvs[i]?=some kvs[i]:=Db hi
  obtain⟨ek,rv⟩:=Ir kv hp hx
  have ek:kvs[i].1=k:=ek
  refine wpAny_pyNext_items_item st D hx λkey h' hkey hout htup hsz hold=>⟨_,rfl,?_⟩
  refine wpAny_letOwnedTupleGo_items hout λh2 hit2 hsame=>?_
  have hT:H s.heap.objs.size=none:=I.hok.fresh (Op _)
  have nit:s.heap.objs.size≠it:=d9 (Tk st)
  have kk:∀c o,c∉[it]->s.heap.get? c=some o->h2.get? c=some o:=λc o hc e=>by
   have hc:c≠it:=λz=>hc (by rw [z]; exact On.mpr rfl)
   exact(hsame.2 c hc).trans (hold c o hc e)
  have I2:Inv X pins σ (As H s.heap.objs.size (.tup [kV kvs[i].1,kvs[i].2])) { s with heap:=h2 }:=by
   refine I.turnLaid (t':=s.toks) (ch:=[it]) (λc hc=>hf c hc) kk (Op _) ?_
   exact⟨by show 2<=sizeLine; decide,[key,v],.cons (Xn (by rw [ek]; exact hkey)) (.cons rv .nil),⟨_,(hsame.2 _ nit).trans htup,rfl,_,rfl,rfl,rfl⟩⟩
  refine⟨.ref s.heap.objs.size,_,I2,rfl,⟨_,_,rfl,hT,hp,rfl⟩,⟨key,v,by rw [hl]; exact hit2⟩,λc hc=>?_⟩
  rw [On.mp hc,AK (bp nit)]
  exact(hf it (by simp)).1
 done:=by
  intro X hP hw hK hc i pins s σ H E I hf st hg
  subst hP hw hK
  obtain⟨hH,hi⟩:=hg
  obtain⟨ok,ov,st⟩:=st
  obtain⟨ws,kv,D⟩:=Lr I hH hdat
  have hl:=kv.length
  rw [hl] at st
  refine wpAny_pyNext_items_end (I.ok.hd hc) st D (di (by omega)) λh' ext=>⟨rfl,?_⟩
  exact I.turnedL (t':=s.toks) (ch:=[it]) (λc hc=>hf c hc) λc o hc e=>ext c o (λz=>hc (by rw [z]; exact On.mpr rfl)) e
 self:=λA i s Q E ⟨ok,ov,st⟩ h=>PySem.W.kcp_self st h
noncomputable def Xv(to:TE):TI:=λσ H R=>to σ H λx H1=>∃d o kvs,x=.ref d/\H1 d=some (.frz o (.dK kvs))/\∀r,H1 r=none->R (aT d o kvs) (As H1 r (.ext λh=>h.IsItemsView r d))
theorem Ss{X:Cx}{e:Expr}{els:List Expr}{j:Nat}{tpos apos cpos:Pos}{to:TE}(ho:PE X e to)(hbase:autoParam (attributeBase e "items" X.env (eval e X.env)=eval e X.env) zau3._auto_1)(hline:autoParam ((apos.endLine==cpos.line)=true) zau3._auto_1) :
  PI X (.Tuple els j tpos) (.Call (.Attribute e "items" apos) [] [] cpos) (Xv to):=by
 intro pins s σ H R I h
 refine wpAny_Call_method0_late hbase hline (thn (ho pins s σ H _ I h) λv s1 ⟨x,H1,I1,r1,d,o,kvs,ex,hd,q⟩=>?_)
 subst ex
 cases r1
 obtain⟨h1,h2,lo⟩:=Tc I1 (.inl ⟨kvs,.inr ⟨o,hd⟩⟩)
 obtain⟨_,_,ws,kv,D⟩:=HG I1.hok (.inr ⟨o,hd⟩)
 refine⟨"dict","dict.items",PySem.F.plainAttrs_dict,PySem.F.slot_dict_items,PySem.F.type_dict_items,h1,h2,eR rfl (PySem.evalArgs_none ?_)⟩
 refine call_meetsIn PySem.F.slot_dict_items D.typeIs PySem.F.entry_dict_items (PySem.F.args_dict_items_1 _) (meets_dict_items (Af X.prog X.w) d lo) ⟨⟨ws,D⟩,?_⟩
 have hf:H1 s1.heap.objs.size=none:=I1.fresh
 have hv:(s1.heap.push { cls:=.type "dict_items",data:=.fields #[.ref d] }).IsItemsView s1.heap.objs.size d:=⟨_,Sc _ rfl,rfl,rfl⟩
 have I2:Inv X pins σ (As H1 s1.heap.objs.size (.ext λh=>h.IsItemsView s1.heap.objs.size d)) { s1 with heap:=s1.heap.push { cls:=.type "dict_items",data:=.fields #[.ref d] } } :=
  I1.laid (t':=s1.toks) (λb o e=>Ev _ e) (Op _) ⟨hv,⟨_,Sc _ rfl⟩,λh1 h2 ⟨o,e,c⟩ k=>⟨o,k o e,c⟩⟩
 have hd2:(As H1 s1.heap.objs.size (.ext λh=>h.IsItemsView s1.heap.objs.size d)) d=some (.frz o (.dK kvs)):=by rw [AK (Ac hd hf)]; exact hd
 obtain⟨es,ep,hdat⟩:∃es ep,o.data=.dict es ep:=by
  obtain⟨e0,_,_,ws,kv,o',es',ep',e1,e2,e3,e4⟩:=(show ObjOk X.prog X.w H1 s1.heap d (.frz o (.dK kvs)) from I1.hok d _ hd)
  rw [e0] at e1
  cases e1
  exact⟨es',ep',e3⟩
 obtain⟨ws2,kv2,D2⟩:=Lr I2 hd2 hdat
 have hl:=kv2.length
 refine wpAny_pyIter_items (s:={ s1 with heap:=s1.heap.push { cls:=.type "dict_items",data:=.fields #[.ref d] } }) hv D2 ?_
 refine⟨_,[(s1.heap.push { cls:=.type "dict_items",data:=.fields #[.ref d] }).objs.size],_,aT d o kvs,_,rfl,I2.kept (t':=s1.toks) (λb o e=>Ev _ e),N4 d _ o kvs es ep hdat,⟨.none,.none,by rw [hl]; exact Sc _ rfl⟩,λc hc=>?_,q _ hf⟩
 rw [On.mp hc]
 exact I2.fpOk (Op _) I2.fresh
end L2
namespace Dp
open PySem PySem.Spec PyProof.Rows L2
noncomputable def wItems(wa:DW):Et:=λn ρ P=>wa n ρ λd n1=>∃ks ds,d=.fdi ks ds/\(∀k∈ks,Ek k)/\P (Cf (ks.map Wh) ds) n1
theorem Xo(k:Key):kV k=kOf k:=by cases k <;> rfl
section
variable {X:Cx}{a:Expr}{κa:Kd}{wa:DW}{els:List Expr}{j:Nat}{tpos apos cpos:Pos}
theorem T7(ha:DE X a κa wa)(hbase:autoParam (attributeBase a "items" X.env (eval a X.env)=eval a X.env) zau3._auto_1)(hline:autoParam ((apos.endLine==cpos.line)=true) zau3._auto_1):DI X (.Tuple els j tpos) (.Call (.Attribute a "items" apos) [] [] cpos) (wItems wa):=by
 obtain⟨t,a1,a2⟩:=ha
 refine⟨_,Ss a1 hbase hline,λC M H n ρ σ P Rr R w q=>?_⟩
 refine a2 C M H n ρ σ _ _ R w λv H1 d n1 ee f1 r1 p=>?_
 obtain⟨ks,ds,rfl,hfit,p⟩:=p
 have R1:=R.step ee f1
 obtain⟨ad,vs,rfl,⟨o,nM,hd⟩,hlen,hs⟩:∃a vs,v=.ref a/\NdF M H1 a ks vs/\ks.length=ds.length/\Ats X.K M H1 ds vs:=r1.tpOf R.dom R.vM
 have hl:=hs.length
 refine⟨ad,o,_,rfl,hd,λr hr=>?_⟩
 have g:Grow H1 (As H1 r (.ext λh=>h.IsItemsView r ad)):=Al hr
 refine q _ _ _ n1 (ee.trans g.ext) (f1.grow g) (λi M' H' pr dom=>?_) p
 have pr2:Pres M H1 M' H':=g.pres.trans pr
 have hd':H' ad=some (.frz o (.dK (ks.zip vs))):=(pr2.nd nM hd).2
 have zl:(ks.zip vs).length=ks.length:=by rw [cq]; omega
 have zd:(Cf (ks.map Wh) ds).length=ks.length:=by unfold Cf; rw [dL,FM]; omega
 refine⟨λe he=>?_,λhle=>⟨hd',by omega⟩⟩
 have hi:i<ks.length:=by rw [← zd]; exact(TW.mp he).1
 have hid:i<ds.length:=by omega
 refine⟨⟨hd',by omega⟩,λx H2 y=>?_⟩
 obtain⟨T,pp,rfl,hT,hp,rfl⟩:=y
 obtain⟨v',e1,h1⟩:=(hs.pres pr2).get (Db hid)
 have e2:(ks.zip vs)[i]?=some (ks[i],v'):=by
  rw [fG]
  exact⟨Db hi,e1⟩
 rw [e2] at hp
 cases hp
 have e3:e=.tup [Wh ks[i],ds[i]]:=by
  unfold Cf at he
  rw [fu,T0,Db hi,Db hid] at he
  exact(UF he).symm
 subst e3
 refine⟨Al hT,B9 dom hT ⟨_,_,rfl,?_,_,_,rfl,h1,rfl⟩⟩
 show At X.K M' H' (Wh ks[i]) (kV ks[i])
 rw [Xo]
 exact UG (hfit _ (bv hi))
end
section
variable {K:Frag}{C:Fm}{M:Addr->Prop}{H H':Hp}{n n':Nat}{ρ:List Slot}{σ:L2.St}
theorem Rel.hold(R:Rel K C M H n ρ σ){p:Addr}{o:HO}(hp:H p=none):Rel K C (λb=>M b\/b=p) (As H p o) n ρ σ:=by
 have g:Grow H (As H p o):=Al hp
 have pr:Pres M H (λb=>M b\/b=p) (As H p o):=Fh hp
 refine⟨R.len,λa z=>.inl (R.sub a z),λa z=>?_,R.ext.trans g.ext,R.fU,R.uV,λa z=>.inl (R.vM a z),(R.feed.grow g).more p λf hf q=>?_,λi s q=>(R.sl i s q).pres pr (λ_ z=>.inl z) g.ext R.uV,λq hq=>(R.pin q hq).trans pr,R.br0,R.new,R.two,λq hq=>?_⟩
 ·rcases z with z | z
  ·obtain⟨u,h1⟩:=R.dom a z
   exact⟨u,g.all a u h1⟩
  ·rw [z]; exact⟨o,AT⟩
 ·obtain⟨_,_,_,_,_,h3,_⟩:=R.feed f hf
  have:=h3.2
  rw [q,hp] at this; cases this
 ·obtain⟨h1,h2,h3,h4⟩:=R.kept q hq
  exact⟨g.all _ _ h1,.inl h2,h3,h4⟩
end
noncomputable def JL(ks:List Key)(k:Key):Bool:=ks.any λk0=>decide (k0=k)
theorem hasK_iff{ks:List Key}{k:Key}:JL ks k=true↔k∈ks:=by
 unfold JL
 rw [cr]
 exact⟨fun⟨x,hx,e⟩=>by rw [← of_decide_eq_true e]; exact hx,λh=>⟨k,h,decide_eq_true rfl⟩⟩
noncomputable def CQ(ks:List Key)(k:Key):List Key:=if JL ks k=true then ks else ks++[k]
noncomputable def CP{α:Type}(ks:List Key)(ds:List α)(k:Key)(d:α):List α:=if JL ks k=true then cz (λk0 d0=>if k0=k then d else d0) ks ds else ds++[d]
theorem V1{ks:List Key}{vs:List V}(hl:ks.length=vs.length)(k:Key):((ks.zip vs).any λkv=>decide (kv.1=k))=JL ks k:=by
 rw [ci,cr,hasK_iff]
 constructor
 ·rintro ⟨⟨a,b⟩,hm,e⟩
  have e:a=k:=of_decide_eq_true e
  rw [← e]
  exact(fD hm).1
 ·intro h
  obtain⟨i,hi,e⟩:=dC.mp h
  refine⟨(ks[i],vs[i]'(by omega)),?_,by rw [e]; exact decide_eq_true rfl⟩
  exact dC.mpr ⟨i,by rw [cq]; omega,by rw [iB]⟩
theorem Si{ks:List Key}{vs:List V}(hl:ks.length=vs.length)(k:Key)(v:V):putK (ks.zip vs) k v=(CQ ks k).zip (CP ks vs k v):=by
 unfold putK CQ CP
 rw [V1 hl]
 by_cases h:JL ks k=true
 ·rw [if_pos h,if_pos h,if_pos h]
  have go:∀(ks:List Key) (vs:List V),((ks.zip vs).map λkv=>if kv.1=k then (kv.1,v) else kv)=ks.zip (cz (λk0 d0=>if k0=k then v else d0) ks vs):=by
   intro ks
   induction ks with
   | nil=>intro vs; rfl
   | cons a ks ih =>
    intro vs
    cases vs with
    | nil=>rfl
    | cons b vs =>
     show (if a=k then (a,v) else (a,b))::_=(a,if a=k then v else b)::_
     exact List.cons_eq_cons.mpr ⟨by split <;> rfl,ih vs⟩
  exact go ks vs
 ·rw [if_neg h,if_neg h,if_neg h,List.zip_append hl]
  rfl
theorem Ats.put{K:Frag}{M:Addr->Prop}{H:Hp}{k:Key}{d:D}{v:V}(hd:At K M H d v):∀{ks:List Key} {ds:List D} {vs:List V},Ats K M H ds vs->Ats K M H (cz (λk0 d0=>if k0=k then d else d0) ks ds) (cz (λk0 d0=>if k0=k then v else d0) ks vs)
 | [],ds,vs,h=>rfl
 | a::ks,[],vs,h=>by cases (show vs=[] from h); rfl
 | a::ks,e::ds,vs,h=>by
  obtain⟨u,r,rfl,h1,h2⟩:=h
  refine⟨_,_,rfl,?_,Ats.put hd h2⟩
  show At K M H (if a=k then d else e) (if a=k then v else u)
  by_cases e1:a=k
  ·rw [if_pos e1,if_pos e1]; exact hd
  ·rw [if_neg e1,if_neg e1]; exact h1
theorem Ats.putX{K:Frag}{M:Addr->Prop}{H:Hp}{k:Key}{d:D}{v:V}{ks:List Key}{ds:List D}{vs:List V}(hd:At K M H d v)(h:Ats K M H ds vs):Ats K M H (CP ks ds k d) (CP ks vs k v):=by
 unfold CP
 split
 ·exact Ats.put hd h
 ·exact h.append (Ats.one hd)
theorem PM{α:Type}{ks:List Key}{ds:List α}{k:Key}{d:α}(hl:ks.length=ds.length):(CQ ks k).length=(CP ks ds k d).length:=by
 unfold CQ CP
 split
 ·rw [dL]; omega
 ·rw [bD,bD]; show ks.length+1=ds.length+1; omega
theorem KC:∀{ks:List Key} {ds:List D} {k:Key},k∉ks->BN ks ds k=none
 | [],ds,k,_=>by unfold BN; rfl
 | a::ks,[],k,_=>rfl
 | a::ks,d::ds,k,h=>by
  unfold BN
  rw [if_neg (λe=>h (by rw [e]; exact No))]
  exact KC λz=>h (Rs _ z)
theorem KA:∀{ks:List Key} {ds:List D} {k:Key},ks.length=ds.length->k∈ks->∃z,BN ks ds k=some z
 | [],ds,k,_,h=>by cases h
 | a::ks,[],k,h,_=>by cases h
 | a::ks,d::ds,k,hl,h=>by
  unfold BN
  by_cases e:a=k
  ·exact⟨d,if_pos e⟩
  ·rw [if_neg e]
   exact KA (by simpa using hl) ((TM.mp h).resolve_left λz=>e z.symm)
theorem R7{ks:List Key}{ds:List D}{k:Key}{d:D}(hl:ks.length=ds.length)(j:Key):BN (CQ ks k) (CP ks ds k d) j=if j=k then some d else BN ks ds j:=by
 unfold CQ CP
 by_cases h':JL ks k=true
 ·have h:=hasK_iff.mp h'
  rw [if_pos h',if_pos h']
  have go:∀(ks:List Key) (ds:List D),ks.length=ds.length->(j=k->k∈ks)->BN ks (cz (λk0 d0=>if k0=k then d else d0) ks ds) j=if j=k then some d else BN ks ds j:=by
   intro ks
   induction ks with
   | nil =>
    intro ds _ hm
    by_cases e:j=k
    ·exact absurd (hm e) bJ
    ·rw [if_neg e]; cases ds <;> rfl
   | cons a ks ih =>
    intro ds hl hm
    cases ds with
    | nil=>cases hl
    | cons e ds =>
     show (if a=j then some (if a=k then d else e) else BN ks _ j)=if j=k then some d else if a=j then some e else BN ks ds j
     by_cases e1:a=j
     ·rw [if_pos e1,if_pos e1]
      by_cases e2:j=k
      ·rw [if_pos e2,if_pos (e1.trans e2)]
      ·rw [if_neg e2,if_neg (λz=>e2 (e1.symm.trans z))]
     ·rw [if_neg e1,if_neg e1]
      refine ih ds (by simpa using hl) λz=>(TM.mp (hm z)).resolve_left λw=>e1 (w.symm.trans z.symm)
  exact go ks ds hl λ_=>h
 ·have h:k∉ks:=λz=>h' (hasK_iff.mpr z)
  rw [if_neg h',if_neg h']
  have go:∀(ks:List Key) (ds:List D),ks.length=ds.length->k∉ks->BN (ks++[k]) (ds++[d]) j=if j=k then some d else BN ks ds j:=by
   intro ks
   induction ks with
   | nil =>
    intro ds hl _
    cases ds with
    | nil =>
     show (if k=j then some d else none)=if j=k then some d else none
     by_cases e:j=k
     ·rw [if_pos e,if_pos e.symm]
     ·rw [if_neg e,if_neg (λz=>e z.symm)]
    | cons e ds=>cases hl
   | cons a ks ih =>
    intro ds hl hm
    cases ds with
    | nil=>cases hl
    | cons e ds =>
     show (if a=j then some e else BN (ks++[k]) (ds++[d]) j)=if j=k then some d else if a=j then some e else BN ks ds j
     rw [ih ds (by simpa using hl) λz=>hm (Rs _ z)]
     by_cases e1:a=j
     ·rw [if_pos e1,if_pos e1,if_neg (λz=>hm (by rw [← z,← e1]; exact No))]
     ·rw [if_neg e1,if_neg e1]
  exact go ks ds hl h
section
variable {X:Cx}{a b e:Expr}{κ κa κb:Kd}{wa wb:DW}{pos pos':Pos}
noncomputable def R0(wk wv:DW):DW:=λn ρ P=>wk n ρ λk n1=>wv n1 ρ λd n2=>∃key,keyOf k=some key/\P (.dic [key] [d]) n2
theorem UE(ha:DE X a κa wa)(hb:DE X b κb wb)(hk:autoParam (κb≠.tp) zau5._auto_1):DE X (.Dict [some a] [b] pos) .fr (R0 wa wb):=by
 obtain⟨t,h1,h2⟩:=ha
 obtain⟨u,g1,g2⟩:=hb
 refine⟨_,U7 (Sm h1 g1 U4) rfl rfl (eC _ _) (by show 1<=15; decide),λC M H n ρ σ P Q R w q=>λp hp=>?_⟩
 have R1:=R.hold (o:=.dK []) hp
 have np:¬C.U p:=λz=>by
  obtain⟨o,w⟩:=R.dom p (R.vM p (R.uV p z))
  rw [hp] at w; cases w
 refine h2 C _ _ n ρ σ _ _ R1 w λx H2 k n1 e1 f1 r1 p1=>?_
 have R2:=R1.step e1 f1
 refine g2 C _ _ n1 ρ σ _ _ R2 p1 λy H3 d n2 e2 f2 r2 p2=>?_
 obtain⟨key,hkey,p2⟩:=p2
 have R3:=R2.step e2 f2
 have hat:At X.K (λb=>M b\/b=p) H3 d y:=r2.shOf R2.dom hk
 have hp3:H3 p=some (.dK []):=e2.keep (e1.keep AT np) np
 have hx:x=kV key:=GB hkey (r1.tpOf R1.dom R1.vM)
 refine⟨hp3,[(key,y)],by rw [hx]; rfl,by show 1<=15; decide,?_⟩
 show Q (.ref p) (As H3 p (.dK [(key,y)]))
 refine q _ _ (.dic [key] [d]) n2 (λb o eb=>?_) ?_ ⟨p,rfl,hp,[y],AT,rfl,?_⟩ p2
 ·have nb:b≠p:=Ac eb hp
  obtain⟨o1,z1,k1,t1⟩:=e1 b o (by rw [AK nb]; exact eb)
  obtain⟨o2,z2,k2,t2⟩:=e2 b o1 z1
  exact⟨o2,by rw [AK nb]; exact z2,λnu=>(k2 nu).trans (k1 nu),λvs z=>(t2 vs ((t1 vs z).trans z)).trans (t1 vs z)⟩
 ·refine f2.pres ⟨λb o eb nb=>by rw [AK (λz=>nb (.inr z))]; exact eb,λb z=>.inl (.inl z),λb vs eb=>by rw [AK (λz=>by rw [z,hp3] at eb; cases eb)]; exact eb⟩ λf o hf eb=>?_
  rw [AK (λz=>np (by rw [← z]; exact R.fU f hf))]
  exact eb
 ·exact⟨y,[],rfl,hat.pres (Co (.inr rfl) hp3),rfl⟩
noncomputable def MK(i:Nat)(wk wv:DW):Aa:=λD2 n ρ=>∃ks ds,ρ[i]?=some (.ow (.dic ks ds))/\wv n ρ λd n1=>wk n1 ρ λk n2=>∃key,keyOf k=some key/\ks.length<sizeLine/\D2.nx n2 (ρ.set i (.ow (.dic (CQ ks key) (CP ks ds key d))))
theorem Px{i k:Nat}{x:Expr}(hr:Room k X.A)(hx:PE X x (BJ i))(ha:DE X a κa wa)(hb:DE X b κb wb)(hk:autoParam (κb≠.tp) zau5._auto_1)
  (hs:autoParam (swapsWith b (some (.Subscript x a pos')) pos.line X.env=pure false) zau3._auto_1):DS X κ (.Assign [.Subscript x a pos'] b pos) (MK i wa wb):=by
 obtain⟨t,h1,h2⟩:=ha
 obtain⟨u,g1,g2⟩:=hb
 refine⟨_,Fz (HD hr) hx h1 g1 hs,λC M H n ρ σ D2 E R L w=>?_⟩
 obtain⟨ks,ds,hd,w⟩:=w
 refine g2 C M H n ρ σ _ _ R w λv H1 d n1 e1 f1 r1 p=>?_
 have R1:=R.step e1 f1
 obtain⟨ad,ea,m,nv,tt⟩:=R1.sl i _ hd
 refine⟨.ref ad,getD_some ea,?_⟩
 refine h2 C M H1 n1 ρ σ _ _ R1 p λy H2 kk n2 e2 f2 r2 p=>?_
 obtain⟨key,hkey,hlt,p⟩:=p
 have R2:=R1.step e2 f2
 obtain⟨ad',ea',m',nv',tt'⟩:=R2.sl i _ hd
 rw [ea] at ea'
 cases ea'
 obtain⟨vs,hH,hl,hs'⟩:=tt'
 have hat:At X.K M H2 d v:=(r1.shOf R.dom hk).pres (R1.pres e2)
 have hvl:ks.length=vs.length:=by rw [hl,hs'.length]
 refine⟨ad,_,rfl,by rw [GB hkey (r2.tpOf R1.dom R1.vM)]; exact DPut.k hH (by rw [cq]; omega),L.nx M _ n2 _ σ (R2.mut (e:=.dic (CQ ks key) (CP ks ds key d)) hd ea ⟨CP ks vs key v,by rw [AT,Si hvl],PM hl,(hs'.putX hat).pres (Co m' hH)⟩) p⟩
noncomputable def Yf:D->Option Bool
 | .lst xs=>some (!xs.isEmpty)
 | .tup xs=>some (!xs.isEmpty)
 | .bl b=>some b
 | .non=>some false
 | _=>none
noncomputable def Wv(wa:DW):Hm:=λn ρ P=>wa n ρ λd n1=>∃c,Yf d=some c/\P c n1
theorem Kv{K:Frag}{M:Addr->Prop}{H:Hp}{ds:List D}{vs:List V}(h:Ats K M H ds vs):vs.isEmpty=ds.isEmpty:=by
 have:=h.length
 cases vs <;> cases ds <;> first | rfl | cases this
theorem W1{U M:Addr->Prop}{H:Hp}{K:Frag}{d:D}{x:V}{c:Bool}(h:AtT K U M H d x)(e:Yf d=some c):YN K x H c:=by
 cases d with
 | lst ds=>cases e; obtain⟨a,vs,rfl,_,hq,hs⟩:=h; exact .inl ⟨vs,.inl hq,by rw [Kv hs]⟩
 | tup ds=>cases e; obtain⟨a,vs,rfl,hq,hs⟩:=h; exact .inr (.inl ⟨vs,.inl (.inl hq),by rw [Kv hs]⟩)
 | bl b=>cases e; rw [h.bl]; exact rfl
 | non=>cases e; rw [show x=.non from h]; exact rfl
 | _=>cases e
theorem X4(h:DE X e κ wa)(he:autoParam (∀whole,isTrue e X.env whole=(do let v ← whole; standAt e.pos; holding [v] (truthy v))) zau2._auto_1):DT X e (Wv wa):=by
 obtain⟨t,h1,h2⟩:=h
 refine⟨_,Sk h1 he,λC M H n ρ σ P Q R w q=>?_⟩
 refine h2 C M H n ρ σ _ _ R w λv H' d n' e1 f1 r1 p=>?_
 obtain⟨c,hc,p⟩:=p
 exact⟨c,W1 (r1.tpOf R.dom R.vM) hc,q c H' n' e1 f1 p⟩
noncomputable def Ey(neg:Bool)(d e:D)(P:D->Prop):Prop:=e=.non/\P (.bl (if neg then !NP d else NP d))
theorem HN{K:Frag}:Ez K .sh (λx y H Q=>y=.non/\Q (.bl (decide (x=.non))) H) (Ey false):=λU M H d e x y P Q dom vM hx hy w q=>by
 obtain⟨rfl,w⟩:=w
 exact⟨hy,q _ H (.bl (NP d)) .refl (by rw [NO hx]; rfl) w⟩
theorem O3{K:Frag}:Ez K .sh (λx y H Q=>y=.non/\Q (.bl (!decide (x=.non))) H) (Ey true):=λU M H d e x y P Q dom vM hx hy w q=>by
 obtain⟨rfl,w⟩:=w
 exact⟨hy,q _ H (.bl (!NP d)) .refl (by rw [NO hx]; rfl) w⟩
variable {apos cpos:Pos}{f:Expr}{κf:Kd}{wf:DW}
end
end Dp
namespace L2
open PySem PySem.Spec PyProof.Rows
open AutoSeq1 (wpAny_loadPart')
theorem Qu:typeLookup (.type "list_reverseiterator") "__len__"=pure none:=by rw [gC,ef]; kernel_rfl
theorem Td:typeLookup (.type "list_reverseiterator") "__length_hint__"=pure (some (.builtin "list_reverseiterator.__length_hint__")):=by rw [gC,ef]; kernel_rfl
theorem boot_reversed:bootBuiltins "reversed"=some (.type "reversed"):=by decide +kernel
section
variable {prog:Program}{w:World}{A:Around}{E:Value->Shared->Prop}{s:Shared}{I:Addr}{fp wr:List Addr}{G:Array GenState->Array GenState->Prop}{n:Nat}{P:Nat->Value->Prop}{St:Nat->Shared->Prop}
theorem Nd{Q:List Value->Shared->Prop}
  (W:WalksS prog w A.in1 I fp wr G n P St) (hT:∀i s,St i s->s.TypeIs (.ref I) "list_reverseiterator") (hst:St 0 s) (hfp:∀b∈fp,b<s.heap.objs.size) (hI:I∈fp)
  (hQ:∀s' acc,Moved wr G s s'->ItemsOf P acc n->Q acc.toList s') (hn:n<=sizeLine):wpAny (model prog w) A (collect (.ref I)) Q E s:=by
 have hSf:s.heap.objs.size∉fp:=λhm=>cI _ (hfp _ hm)
 have hSI:s.heap.objs.size≠I:=λe=>hSf (e▸hI)
 unfold collect
 refine Ch (wpAny_runValue (cO F.entry_proto_collect ?_))
 rw [b_ F.plain_proto_collect _]
 show wpAny _ A.in1 (newList [] >>= λl=>again (.builtin "list.__iadd__" ⟨[l,.ref I],[]⟩)) _ _ s
 refine Ch (bY ?_)
 refine Go ⟨cf F.plain_list_iadd _,cO F.entry_list_iadd ?_⟩
 rw [b_ F.plain_list_iadd _]
 have hst₁:=W.frame 0 s (s.heap.push { cls:=.type "list",data:=.seq ([]:List Value).toArray }) s.toks hst (Op _) λb _ o e=>Ev _ e
 have hS₁:(s.heap.push { cls:=.type "list",data:=.seq ([]:List Value).toArray }).get? s.heap.objs.size=some { cls:=.type "list",data:=.seq ([]:List Value).toArray }:=Sc _ rfl
 have h1:iC (.ref s.heap.objs.size) (.ref I)=false:=by simp [iC,hSI]
 show wpAny _ A.in1 (dX (.ref s.heap.objs.size) (.ref I) (.ref s.heap.objs.size)) _ _ _
 unfold dX
 refine Ch (dS (hT 0 _ hst₁) ?_)
 rw [if_neg (by rw [h1]; decide)]
 refine Ch (W.self 0 _ _ _ hst₁ ?_)
 refine Ch (bw ?_)
 unfold Builtin.List.listLengthHint
 refine Ch (iI (hT 0 _ hst₁) Qu ?_)
 show wpAny _ A.in1 (specialOf (bT I) (cX "__length_hint__") >>= _) _ _ _
 refine Ch (iI (hT 0 _ hst₁) Td ?_)
 (generalize hid:("list_reverseiterator.__length_hint__" : String)=id0; wp_delta; rw [show splitId id0=some ("list_reverseiterator","__length_hint__") from by subst hid; decide +kernel]; subst hid)
 refine Ch (fq (b:=true) (hT 0 _ hst₁) (by rw [isSubtype_type]; kernel_rfl) ?_)
 refine Go ?_
 rw [if_neg (by decide)]
 refine Go ⟨cf F.plain_extend_loop _,codeAny_extend_loopS W hn _ hSf _ n 0 _ _ _ rfl (bH _) hst₁ hS₁ (ItemsOf.nil P) λs' acc' c' hm hS' hacc=>?_⟩
 show wpAny _ A (load s.heap.objs.size >>= _) _ _ s'
 refine Ch (wpAny_load hS' ?_)
 exact Go (hQ s' acc' (Moved.drop_new (o:={ cls:=.type "list",data:=.seq ([]:List Value).toArray }) (tk:=s.toks) hm (Op _)) hacc)
theorem JT{Q₁:Value->Shared->Prop}(W:WalksS prog w A.in1.in1 I fp wr G n P St)(hT:∀i s,St i s->s.TypeIs (.ref I) "list_reverseiterator")(hst:St 0 s)(hfp:∀b∈fp,b<s.heap.objs.size)(hI:I∈fp)
  (h:∀s' acc,Moved wr G s s'->ItemsOf P acc n->Q₁ (.ref s'.heap.objs.size) { s' with heap:=s'.heap.push { cls:=.type "tuple",data:=.seq acc } }) (hsz:n<=sizeLine) :
  codeAny (model prog w) A (.call (.builtin "tuple.__new__") ⟨[.type "tuple",.ref I],[]⟩) (wants Q₁ E) s:=by
 refine codeAny_of_tree ?_
 show wpAny _ A.in1 (do checkBuiltinCall "tuple.__new__" ⟨[.type "tuple",.ref I],[]⟩; again (.builtin "tuple.__new__" ⟨[.type "tuple",.ref I],[]⟩)) _ _ s
 refine Ch (gP (F.newCall_tuple_1 _) (Go ⟨cf F.plain_tuple_new _,cO F.entry_tuple_new ?_⟩))
 rw [b_ F.plain_tuple_new _]
 have hsub:=sub_tuple_self
 have hinit:=init_tuple_lookup
 have hmh:=madeHere_tuple
 have hTI:=hT 0 s hst
 wp_walk using dS hTI,Nd (hn:=hsz) W hT hst hfp hI
 intro s' acc hm hacc
 show wpAny _ _ (bu acc.toList.toArray >>= λv=>ret v) _ _ _
 unfold bu
 refine Ch (bY ?_ (by show acc.toList.toArray.size<=sizeLine; simp only [Array.toArray_toList]; rw [hacc.1]; exact hsz))
 refine Go ?_
 have e:acc.toList.toArray=acc:=by simp
 rw [e]
 exact h s' acc hm hacc
theorem JW{Q:Value->Shared->Prop}(W:WalksS prog w A.in1.in1.in1 I fp wr G n P St)(hT:∀i s,St i s->s.TypeIs (.ref I) "list_reverseiterator")(hst:St 0 s)(hfp:∀b∈fp,b<s.heap.objs.size)(hI:I∈fp)
  (hQ:∀s' acc,Moved wr G s s'->ItemsOf P acc n->Q (.ref s'.heap.objs.size) { s' with heap:=s'.heap.push { cls:=.type "tuple",data:=.seq acc } }) (hsz:n<=sizeLine) :
  wpAny (model prog w) A (call (.type "tuple") [.ref I]) Q E s:=by
 refine callType_codes (Q₁:=λobj s₁=>s₁.TypeIs obj "tuple"/\Q obj s₁) iZ (F.typeCall_tuple_1 _) F.entry_object_init
  (JT (hsz:=hsz) W hT hst hfp hI λs' acc hm hacc=>⟨⟨_,Sc _ rfl,rfl⟩,hQ s' acc hm hacc⟩) λobj s₁ h₁=>?_
 exact⟨h₁.1,F.args_object_init_2 obj _,object_init_meets iZ.init.lookup iZ.made (by decide) prog w A.in1 _ s₁ ⟨h₁.1,rfl,h₁.2⟩⟩
end
section
variable {X:Cx}{e:Expr}{te:TE}{p1 p2 q1 q2:Pos}
noncomputable def Up(K:Frag)(te:TE):TE:=λσ H Q=>te σ H λx H1=>∃l xs,x=.ref l/\SqL K H1 l xs/\∀r,H1 r=none->Q (.ref r) (As H1 r (.tup xs.reverse))
theorem Qj(hc:X.calm=true)(he:PE X e te)(hg1:Gl X "tuple")(hm1:X.mg "tuple"=none)(hg2:Gl X "reversed")(hm2:X.mg "reversed"=none)(h1:autoParam (starEach [fM (.Name "reversed" p2) [e] [] q2] X.env=[(false,eval (fM (.Name "reversed" p2) [e] [] q2) X.env)]) zau3._auto_1)
  (h2:autoParam (starEach [e] X.env=[(false,eval e X.env)]) zau3._auto_1):PE X (.Call (.Name "tuple" p1) [.Call (.Name "reversed" p2) [e] [] q2] [] q1) (Up X.K te):=by
 intro pins s σ H Q I h
 refine cb (CV I hg1 hm1 fV ?_)
 refine cA ?_ h1 rfl
 rw [h1]
 refine c5 ?_
 refine cb (CV I hg2 hm2 boot_reversed ?_)
 refine cA ?_ h2 rfl
 rw [h2]
 refine c5 (thn (he pins s σ H _ I h) λu s1 ⟨x,H1,I1,r1,l,xs,ex,hq,q⟩=>dr ?_)
 subst ex
 cases r1
 obtain⟨its,r',pl,hz⟩:=I1.list hq
 have hlen:=r'.length
 have hl:s1.heap.IsList l its.toArray:=pl.isList
 have hlt:l<s1.heap.objs.size:=by obtain⟨_,e,_⟩:=id hl; exact Tk e
 refine call_reversed_list hl (dr ?_)
 have hn1:H1 s1.heap.objs.size=none:=I1.fresh
 have I2:Inv X pins σ H1 { s1 with heap:=s1.heap.push (revObj l ((its.toArray.size:Int) - 1)) }:=I1.kept (t':=s1.toks) λb o e=>Ev _ e
 have fpk:Gh X pins H1 s1.heap.objs.size:=I1.fpOk (Op _) hn1
 refine JW (s:={ s1 with heap:=s1.heap.push (revObj l ((its.toArray.size:Int) - 1)) }) (Walks.listRev (A:=X.A.in1.in1.in1) (I1.ok.hd hc) s1.heap.objs.size l (bK hlt) its.toArray).toS (λi s' hs=>hs.2.1.typeIs) ⟨bH _,⟨_,Sc _ rfl,rfl,by show Data.fields _=_; simp [revObj]⟩,hl.push _⟩ (λb hb=>?_) No (λs' acc hm hacc=>?_) (by rw [Re,← hlen]; exact hz)
 ·rcases TM.mp hb with rfl | hb
  ·exact Tk (Sc _ rfl)
  ·obtain rfl:=On.mp hb
   exact bR hlt (by show s1.heap.objs.size<=(s1.heap.push _).objs.size; rw [size_push']; exact cY _)
 ·obtain⟨h',g',d',tk',os'⟩:=s'
  have e1:g'=s1.gens:=hm.gens
  have e2:d'=s1.drawn:=hm.drawn
  have e3:os'=s1.os:=hm.os
  subst e1 e2 e3
  have I3':=I2.turnedL (h':=h') (t':=tk') (ch:=[s1.heap.objs.size]) (λc hc=>by rw [On.mp hc]; exact fpk) λb o hb e=>hm.heap b o hb e
  have I3:Inv X pins σ H1 { s1 with heap:=h',toks:=tk' }:=I3'
  have hv:acc.toList=its.reverse:=by
   refine gu λi=>?_
   obtain⟨a1,a2⟩:=hacc
   have e0:acc.toList[i]?=acc[i]?:=by simp
   rw [e0]
   by_cases hi:i<its.length
   ·have hi2:i<acc.size:=by rw [a1,Re]; exact hi
    have a3:=a2 i acc[i] (c_ hi2)
    rw [List.getElem?_reverse hi,c_ hi2,← a3,Re]
    simp
   ·rw [di (by rw [dM]; omega)]
    exact fj (by rw [a1,Re]; omega)
  have hv2:acc=its.reverse.toArray:=by rw [← hv]
  have rr:Vals xs.reverse its.reverse:=r'.reverse
  refine⟨.ref h'.objs.size,As H1 h'.objs.size (.tup xs.reverse),I3.laid (t':=tk') (λb o e=>Ev _ e) (Op _) (show ObjOk X.prog X.w _ _ _ (.tup xs.reverse) from⟨by rw [dM]; exact hz,its.reverse,rr,by rw [hv2]; exact IsTupN.new _ _⟩),rfl,q _ (I3.hok.fresh (Op _))⟩
end
end L2
namespace Dp
open PySem PySem.Spec PyProof.Rows L2
noncomputable def O8(wa:DW):DW:=λn ρ P=>wa n ρ λd n1=>∃xs,d=.lst xs/\P (.tup xs.reverse) n1
section
variable {X:Cx}{a:Expr}{κa:Kd}{wa:DW}{p1 p2 q1 q2:Pos}
theorem RN(hc:X.calm=true)(ha:DE X a κa wa)(hg1:Gl X "tuple")(hm1:X.mg "tuple"=none)(hg2:Gl X "reversed")(hm2:X.mg "reversed"=none)(h1:autoParam (starEach [fM (.Name "reversed" p2) [a] [] q2] X.env=[(false,eval (fM (.Name "reversed" p2) [a] [] q2) X.env)]) zau3._auto_1)
  (h2:autoParam (starEach [a] X.env=[(false,eval a X.env)]) zau3._auto_1):DE X (.Call (.Name "tuple" p1) [.Call (.Name "reversed" p2) [a] [] q2] [] q1) .sh (O8 wa):=by
 obtain⟨t,a1,a2⟩:=ha
 refine⟨_,Qj hc a1 hg1 hm1 hg2 hm2 h1 h2,λC M H n ρ σ P Q R w q=>?_⟩
 refine a2 C M H n ρ σ _ _ R w λv H1 d n1 e1 f1 r1 p=>?_
 obtain⟨xs,rfl,p⟩:=p
 have R1:=R.step e1 f1
 obtain⟨ad,vs,rfl,nV,hq,hs⟩:=r1.tpOf R.dom R.vM
 refine⟨ad,vs,rfl,.inl hq,λr hr=>?_⟩
 have g:Grow H1 (As H1 r (.tup vs.reverse)):=Al hr
 exact q _ _ (.tup xs.reverse) n1 (e1.trans g.ext) (f1.grow g) (B9 R1.dom hr (hs.reverse)) p
end
end Dp
namespace Nt
open PySem PySem.Spec PyProof.Rows L2 Dp
noncomputable def Ed(N:Net)(x y:Str)(l:Int):Prop:=(y,l)∈Ce N.ts x
inductive Wk (N:Net) (s:Str):Str->Int->Prop
 | nil:Wk N s s 0
 | snoc {x y:Str} {d l:Int}:Wk N s x d->Ed N x y l->Wk N s y (d+l)
noncomputable def Least(N:Net)(s x:Str)(d:Int):Prop:=Wk N s x d/\∀d',Wk N s x d'->d<=d'
theorem Ed.pos{N:Net}(ok:N.Ok){x y:Str}{l:Int}(h:Ed N x y l):1<=l/\l<=1000000:=by
 obtain⟨_,h1,h2,_⟩:=Ld ok h
 exact⟨h1,h2⟩
theorem Ed.ins{N:Net}(ok:N.Ok){x y:Str}{l:Int}(h:Ed N x y l):y∈N.ps:=(Ld ok h).1
theorem Wk.pos{N:Net}(ok:N.Ok){s x:Str}{d:Int}(h:Wk N s x d):0<=d:=by
 induction h with
 | nil=>exact ca _
 | snoc _ he ih=>have:=he.pos ok; omega
theorem Wk.ins{N:Net}(ok:N.Ok){s x:Str}{d:Int}(hs:s∈N.ps)(h:Wk N s x d):x∈N.ps:=by
 cases h with
 | nil=>exact hs
 | snoc _ he=>exact he.ins ok
theorem Least.unique{N:Net}{s x:Str}{d d':Int}(h:Least N s x d)(h':Least N s x d'):d=d':=by
 have:=h.2 d' h'.1
 have:=h'.2 d h.1
 omega
theorem L0{N:Net}{s:Str}{F:Str->Option Int}(h0:∃d,F s=some d/\d<=0)(hw:∀x d,F x=some d->Wk N s x d)(hc:∀x d y l,F x=some d->Ed N x y l->∃d',F y=some d'/\d'<=d+l) :
  (∀x d,F x=some d->Least N s x d)/\∀x d,Wk N s x d->F x≠none:=by
 have main:∀x d,Wk N s x d->∃d',F x=some d'/\d'<=d:=by
  intro x d h
  induction h with
  | nil=>exact h0
  | snoc _ he ih =>
   obtain⟨d1,e1,h1⟩:=ih
   obtain⟨d2,e2,h2⟩:=hc _ _ _ _ e1 he
   exact⟨d2,e2,by omega⟩
 refine⟨λx d e=>⟨hw x d e,λd' h=>?_⟩,λx d h e=>?_⟩
 ·obtain⟨d1,e1,h1⟩:=main x d' h
  rw [e] at e1
  cases e1
  exact h1
 ·obtain⟨d1,e1,_⟩:=main x d h
  rw [e] at e1
  cases e1
theorem GG{N:Net}{t:Ag}(ht:t∈N.ts):Ed N t.a t.b t.len/\Ed N t.b t.a t.len:=by
 constructor
 ·exact dP.mpr ⟨t,ht,cU _ (by rw [if_pos rfl]; exact On.mpr rfl)⟩
 ·exact dP.mpr ⟨t,ht,bP _ (by rw [if_pos rfl]; exact On.mpr rfl)⟩
theorem Ed.tie{N:Net}(ok:N.Ok){x y:Str}{l:Int}(h:Ed N x y l):∃t∈N.ts,t.len=l/\((t.a=x/\t.b=y)\/(t.b=x/\t.a=y)):=by
 obtain⟨_,_,_,t,ht,e,h⟩:=Ld ok h
 exact⟨t,ht,e,h⟩
structure Dmap (ks:List Key) (ds:List D) (BL:α->D) (F:Str->Option α):Prop where
 len:ks.length=ds.length
 at_:∀x:Str,BN ks ds (.inr x)=(F x).map BL
 dom:∀k∈ks,∃x:Str,k=.inr x
 nd:ks.Nodup
theorem Dmap.mem{α:Type}{ks:List Key}{ds:List D}{BL:α->D}{F:Str->Option α}(h:Dmap ks ds BL F)(x:Str):(.inr x∈ks)↔F x≠none:=by
 constructor
 ·intro hm e
  obtain⟨z,hz⟩:=KA h.len hm
  rw [h.at_,e] at hz
  cases hz
 ·intro hn
  by_cases hm:(ce x:Key)∈ks
  ·exact hm
  ·have:=KC (ds:=ds) hm
   rw [h.at_] at this
   cases e:F x with
   | none=>exact absurd e hn
   | some a=>rw [e] at this; cases this
theorem Dmap.one{α:Type}{BL:α->D}{s:Str}{a:α}:Dmap [.inr s] [BL a] BL (λx=>if x=s then some a else none):=by
 refine⟨rfl,λx=>?_,λk hk=>⟨s,On.mp hk⟩,bQ.mpr ⟨bJ,bj⟩⟩
 show (if (ce s:Key)=.inr x then some (BL a) else none)=(if x=s then some a else none).map BL
 by_cases e:x=s
 ·rw [if_pos e,if_pos (by rw [e])]; rfl
 ·rw [if_neg e,if_neg (λz=>e (cQ z).symm)]; rfl
noncomputable def IV{α:Type}(F:Str->Option α)(x:Str)(a:α):Str->Option α:=λy=>if y=x then some a else F y
theorem Bs{α:Type}{F:Str->Option α}{x:Str}{a:α}:IV F x a x=some a:=if_pos rfl
theorem Bh{α:Type}{F:Str->Option α}{x y:Str}{a:α}(h:y≠x):IV F x a y=F y:=if_neg h
theorem Dmap.put{α:Type}{ks:List Key}{ds:List D}{BL:α->D}{F:Str->Option α}(h:Dmap ks ds BL F)(x:Str)(a:α):Dmap (CQ ks (.inr x)) (CP ks ds (.inr x) (BL a)) BL (IV F x a):=by
 refine⟨PM h.len,λy=>?_,λk hk=>?_,?_⟩
 ·rw [R7 h.len]
  unfold IV
  by_cases e:y=x
  ·rw [if_pos e,if_pos (by rw [e])]; rfl
  ·rw [if_neg e,if_neg (λz=>e (cQ z)),h.at_]
 ·unfold CQ at hk
  split at hk
  ·exact h.dom k hk
  ·rcases bV.mp hk with hk | hk
   ·exact h.dom k hk
   ·exact⟨x,On.mp hk⟩
 ·unfold CQ
  split
  ·exact h.nd
  ·rename_i hn
   rw [cR]
   refine⟨h.nd,bQ.mpr ⟨bJ,bj⟩,λa ha b hb e=>hn (hasK_iff.mpr ?_)⟩
   rw [← On.mp hb,← e]
   exact ha
theorem Dmap.le{α:Type}{ks:List Key}{ds:List D}{BL:α->D}{F:Str->Option α}(h:Dmap ks ds BL F){ps:List Str}(hp:∀x,F x≠none->x∈ps):ks.length<=ps.length:=by
 have:∀(ks:List Key) (ps:List Str),ks.Nodup->(∀k∈ks,∃x:Str,k=.inr x/\x∈ps)->ks.length<=ps.length:=by
  intro ks
  induction ks with
  | nil=>intro ps _ _; exact bH _
  | cons k ks ih =>
   intro ps hn hm
   obtain⟨x,rfl,hx⟩:=hm k No
   have hn:=bQ.mp hn
   have h1:=ih (ps.erase x) hn.2 λj hj=>by
    obtain⟨y,rfl,hy⟩:=hm j (Rs _ hj)
    refine⟨y,rfl,(List.mem_erase_of_ne λe=>?_).mpr hy⟩
    rw [e] at hj
    exact hn.1 hj
   rw [fN hx] at h1
   have:=fk hx
   rw [XV]
   omega
 refine this ks ps h.nd λk hk=>?_
 obtain⟨x,rfl⟩:=h.dom k hk
 exact⟨x,rfl,hp x ((h.mem x).mp hk)⟩
noncomputable abbrev Nw:=Str->Option (Int×Option Str)
structure Dj (N:Net) (s:Str) (F:Nw) (Wt:List Str):Prop where
 start:F s=some (0,none)
 ins:∀x,F x≠none->x∈N.ps
 wk:∀x d p,F x=some (d,p)->Wk N s x d
 prev:∀x d p,F x=some (d,p)->(p=none/\x=s)\/∃y dy q l,p=some y/\F y=some (dy,q)/\y∉Wt/\Ed N y x l/\d=dy+l
 wfound:∀x∈Wt,F x≠none
 nd:Wt.Nodup
 done:∀x d p y l,F x=some (d,p)->x∉Wt->Ed N x y l->∃dy q,F y=some (dy,q)/\dy<=d+l
 near:∀x d p y dy q,F x=some (d,p)->x∉Wt->F y=some (dy,q)->y∈Wt->d<=dy
theorem Dj.init{N:Net}{s:Str}(hs:s∈N.ps):Dj N s (λx=>if x=s then some (0,none) else none) [s]:=by
 have iff:∀x d p,(if x=s then some ((0:Int),(none:Option Str)) else none)=some (d,p)->x=s/\d=0/\p=none:=λx d p e=>by
  by_cases h:x=s
  ·rw [if_pos h] at e; cases e; exact⟨h,rfl,rfl⟩
  ·rw [if_neg h] at e; cases e
 refine⟨if_pos rfl,λx e=>?_,λx d p e=>?_,λx d p e=>?_,λx hx=>?_,bQ.mpr ⟨bJ,bj⟩,λx d p y l e hx=>?_,λx d p y dy q e hx=>?_⟩
 ·by_cases h:x=s
  ·rw [h]; exact hs
  ·exact absurd (if_neg h) e
 ·obtain⟨rfl,rfl,rfl⟩:=iff x d p e
  exact .nil
 ·obtain⟨rfl,rfl,rfl⟩:=iff x d p e
  exact .inl ⟨rfl,rfl⟩
 ·rw [On.mp hx,if_pos rfl]
  intro z; cases z
 ·exact absurd (On.mpr (iff x d p e).1) hx
 ·exact absurd (On.mpr (iff x d p e).1) hx
structure Dm (N:Net) (s:Str) (F:Nw) (Wt:List Str) (v:Str) (dv:Int) (seen:List (Str×Int)):Prop where
 start:F s=some (0,none)
 ins:∀x,F x≠none->x∈N.ps
 wk:∀x d p,F x=some (d,p)->Wk N s x d
 prev:∀x d p,F x=some (d,p)->(p=none/\x=s)\/∃y dy q l,p=some y/\F y=some (dy,q)/\y∉Wt/\Ed N y x l/\d=dy+l
 wfound:∀x∈Wt,F x≠none
 nd:Wt.Nodup
 done:∀x d p y l,F x=some (d,p)->x∉Wt->x≠v->Ed N x y l->∃dy q,F y=some (dy,q)/\dy<=d+l
 near:∀x d p y dy q,F x=some (d,p)->x∉Wt->F y=some (dy,q)->y∈Wt->d<=dy
 here:∃p,F v=some (dv,p)
 out:v∉Wt
 least:∀x d p,F x=some (d,p)->x∉Wt->d<=dv
 gone:∀y l,(y,l)∈seen->∃dy q,F y=some (dy,q)/\dy<=dv+l
theorem Dj.take{N:Net}{s:Str}{F:Nw}{Wt:List Str}(h:Dj N s F Wt){v:Str}{dv:Int}{p:Option Str}(hv:v∈Wt)(e:F v=some (dv,p))(hmin:∀y∈Wt,∀dy q,F y=some (dy,q)->dv<=dy):Dm N s F (Wt.erase v) v dv []:=by
 have sub:∀x,x∈Wt.erase v->x∈Wt:=λx hx=>List.mem_of_mem_erase hx
 have out:v∉Wt.erase v:=λz=>(h.nd.mem_erase_iff.mp z).1 rfl
 have back:∀x,x∉Wt.erase v->x=v\/x∉Wt:=λx hx=>by
  by_cases e:x=v
  ·exact .inl e
  ·exact .inr λz=>hx (h.nd.mem_erase_iff.mpr ⟨e,z⟩)
 refine⟨h.start,h.ins,h.wk,λx d q ex=>?_,λx hx=>h.wfound x (sub x hx),h.nd.erase v,λx d q y l ex hx nx he=>?_,λx d q y dy q2 ex hx ey hy=>?_,⟨p,e⟩,out,λx d q ex hx=>?_,λy l hy=>by cases hy⟩
 ·rcases h.prev x d q ex with z | ⟨y,dy,q2,l,e1,e2,e3,e4,e5⟩
  ·exact .inl z
  ·exact .inr ⟨y,dy,q2,l,e1,e2,λz=>e3 (sub y z),e4,e5⟩
 ·rcases back x hx with z | z
  ·exact absurd z nx
  ·exact h.done x d q y l ex z he
 ·rcases back x hx with z | z
  ·subst z
   rw [e] at ex
   cases ex
   exact hmin y (sub y hy) dy q2 ey
  ·exact h.near x d q y dy q2 ex z ey (sub y hy)
 ·rcases back x hx with z | z
  ·subst z
   rw [e] at ex
   cases ex
   exact ca _
  ·exact h.near x d q v dv p ex z e hv
theorem Dm.finish{N:Net}{s:Str}{F:Nw}{Wt:List Str}{v:Str}{dv:Int}{seen:List (Str×Int)}(h:Dm N s F Wt v dv seen)(hs:∀y l,Ed N v y l->(y,l)∈seen):Dj N s F Wt:=by
 refine⟨h.start,h.ins,h.wk,h.prev,h.wfound,h.nd,λx d p y l e hx he=>?_,h.near⟩
 by_cases z:x=v
 ·subst z
  obtain⟨p',e'⟩:=h.here
  rw [e'] at e
  cases e
  exact h.gone y l (hs y l he)
 ·exact h.done x d p y l e hx z he
theorem Dm.find{N:Net}(ok:N.Ok){s:Str}{F:Nw}{Wt:List Str}{v:Str}{dv:Int}{seen:List (Str×Int)}(h:Dm N s F Wt v dv seen){y:Str}{l:Int}(he:Ed N v y l)(hy:F y=none):Dm N s (IV F y (dv+l,some v)) (Wt++[y]) v dv (seen++[(y,l)]):=by
 have hpos:=(he.pos ok).1
 obtain⟨pv,ev⟩:=h.here
 have ne:∀x d p,F x=some (d,p)->x≠y:=λx d p e z=>by rw [z,hy] at e; cases e
 have keep:∀x d p,F x=some (d,p)->IV F y (dv+l,some v) x=some (d,p):=λx d p e=>by rw [Bh (ne x d p e)]; exact e
 have yW:y∉Wt:=λz=>h.wfound y z hy
 have cases_:∀x d p,IV F y (dv+l,some v) x=some (d,p)->(x=y/\d=dv+l/\p=some v)\/(x≠y/\F x=some (d,p)):=λx d p e=>by
  by_cases z:x=y
  ·rw [z,Bs] at e; cases e; exact .inl ⟨z,rfl,rfl⟩
  ·rw [Bh z] at e; exact .inr ⟨z,e⟩
 have inW:∀x,x∉Wt++[y]->x∉Wt/\x≠y:=λx hx=>⟨λz=>hx (cU _ z),λz=>hx (bP _ (by rw [z]; exact On.mpr rfl))⟩
 have vW:v∉Wt++[y]:=λz=>by
  rcases bV.mp z with z | z
  ·exact h.out z
  ·exact ne v dv pv ev (On.mp z)
 refine⟨keep _ _ _ h.start,λx hx=>?_,λx d p e=>?_,λx d p e=>?_,λx hx=>?_,?_,λx d p z l2 e hx nx he2=>?_,λx d p z dz q e hx ez hz=>?_,⟨pv,keep _ _ _ ev⟩,vW,λx d p e hx=>?_,λz l2 hz=>?_⟩
 ·by_cases z:x=y
  ·rw [z]; exact he.ins ok
  ·rw [Bh z] at hx; exact h.ins x hx
 ·rcases cases_ x d p e with ⟨rfl,rfl,_⟩ | ⟨_,e⟩
  ·exact .snoc (h.wk v dv pv ev) he
  ·exact h.wk x d p e
 ·rcases cases_ x d p e with ⟨rfl,rfl,rfl⟩ | ⟨_,e⟩
  ·exact .inr ⟨v,dv,pv,l,rfl,keep _ _ _ ev,vW,he,rfl⟩
  ·rcases h.prev x d p e with z | ⟨u,du,q,l2,e1,e2,e3,e4,e5⟩
   ·exact .inl z
   ·refine .inr ⟨u,du,q,l2,e1,keep _ _ _ e2,λz=>?_,e4,e5⟩
    rcases bV.mp z with z | z
    ·exact e3 z
    ·exact ne u du q e2 (On.mp z)
 ·rcases bV.mp hx with hx | hx
  ·have:=h.wfound x hx
   cases e:F x with
   | none=>exact absurd e this
   | some a=>rw [keep x a.1 a.2 e]; intro z; cases z
  ·rw [On.mp hx,Bs]; intro z; cases z
 ·rw [cR]
  exact⟨h.nd,bQ.mpr ⟨bJ,bj⟩,λa ha b hb e=>yW (by rw [← On.mp hb,← e]; exact ha)⟩
 ·obtain⟨w1,w2⟩:=inW x hx
  rcases cases_ x d p e with ⟨z,_⟩ | ⟨_,e⟩
  ·exact absurd z w2
  ·obtain⟨d3,q3,e3,h3⟩:=h.done x d p z l2 e w1 nx he2
   exact⟨d3,q3,keep _ _ _ e3,h3⟩
 ·obtain⟨w1,w2⟩:=inW x hx
  rcases cases_ x d p e with ⟨z,_⟩ | ⟨_,ex⟩
  ·exact absurd z w2
  ·rcases cases_ z dz q ez with ⟨_,e2,_⟩ | ⟨nz,ez⟩
   ·have:=h.least x d p ex w1
    omega
   ·rcases bV.mp hz with hz | hz
    ·exact h.near x d p z dz q ex w1 ez hz
    ·exact absurd (On.mp hz) nz
 ·obtain⟨w1,w2⟩:=inW x hx
  rcases cases_ x d p e with ⟨z,_⟩ | ⟨_,e⟩
  ·exact absurd z w2
  ·exact h.least x d p e w1
 ·rcases bV.mp hz with hz | hz
  ·obtain⟨d3,q3,e3,h3⟩:=h.gone z l2 hz
   exact⟨d3,q3,keep _ _ _ e3,h3⟩
  ·cases On.mp hz
   exact⟨_,_,Bs,ca _⟩
theorem Dm.nearer{N:Net}(ok:N.Ok){s:Str}{F:Nw}{Wt:List Str}{v:Str}{dv:Int}{seen:List (Str×Int)}(h:Dm N s F Wt v dv seen){y:Str}{l dy:Int}{qy:Option Str}(he:Ed N v y l)(hy:F y=some (dy,qy))(hlt:dv+l<dy):Dm N s (IV F y (dv+l,some v)) Wt v dv (seen++[(y,l)]):=by
 have hpos:=(he.pos ok).1
 obtain⟨pv,ev⟩:=h.here
 have yW:y∈Wt:=by
  by_cases z:y∈Wt
  ·exact z
  ·have:=h.least y dy qy hy z
   omega
 have vy:v≠y:=λz=>h.out (by rw [z]; exact yW)
 have keep:∀x,x∉Wt->IV F y (dv+l,some v) x=F x:=λx hx=>Bh λz=>hx (by rw [z]; exact yW)
 have cases_:∀x d p,IV F y (dv+l,some v) x=some (d,p)->(x=y/\d=dv+l/\p=some v)\/(x≠y/\F x=some (d,p)):=λx d p e=>by
  by_cases z:x=y
  ·rw [z,Bs] at e; cases e; exact .inl ⟨z,rfl,rfl⟩
  ·rw [Bh z] at e; exact .inr ⟨z,e⟩
 have less:∀x d p,F x=some (d,p)->∃d' q,IV F y (dv+l,some v) x=some (d',q)/\d'<=d:=λx d p e=>by
  by_cases z:x=y
  ·subst z
   rw [hy] at e
   cases e
   exact⟨_,_,Bs,by omega⟩
  ·exact⟨d,p,by rw [Bh z]; exact e,ca _⟩
 have sy:s≠y:=λz=>by
  have:=h.start
  rw [z,hy] at this
  cases this
  have:=(h.wk v dv pv ev).pos ok
  omega
 refine⟨by rw [Bh sy]; exact h.start,λx hx=>?_,λx d p e=>?_,λx d p e=>?_,λx hx=>?_,h.nd,λx d p z l2 e hx nx he2=>?_,λx d p z dz q e hx ez hz=>?_,⟨pv,by rw [Bh vy]; exact ev⟩,h.out,λx d p e hx=>?_,λz l2 hz=>?_⟩
 ·by_cases z:x=y
  ·rw [z]; exact he.ins ok
  ·rw [Bh z] at hx; exact h.ins x hx
 ·rcases cases_ x d p e with ⟨rfl,rfl,_⟩ | ⟨_,e⟩
  ·exact .snoc (h.wk v dv pv ev) he
  ·exact h.wk x d p e
 ·rcases cases_ x d p e with ⟨rfl,rfl,rfl⟩ | ⟨_,e⟩
  ·exact .inr ⟨v,dv,pv,l,rfl,by rw [Bh vy]; exact ev,h.out,he,rfl⟩
  ·rcases h.prev x d p e with z | ⟨u,du,q,l2,e1,e2,e3,e4,e5⟩
   ·exact .inl z
   ·exact .inr ⟨u,du,q,l2,e1,by rw [keep u e3]; exact e2,e3,e4,e5⟩
 ·by_cases z:x=y
  ·rw [z,Bs]; intro w; cases w
  ·rw [Bh z]; exact h.wfound x hx
 ·rw [keep x hx] at e
  obtain⟨d3,q3,e3,h3⟩:=h.done x d p z l2 e hx nx he2
  obtain⟨d4,q4,e4,h4⟩:=less z d3 q3 e3
  exact⟨d4,q4,e4,by omega⟩
 ·rw [keep x hx] at e
  rcases cases_ z dz q ez with ⟨rfl,rfl,_⟩ | ⟨nz,ez⟩
  ·have:=h.least x d p e hx
   omega
  ·exact h.near x d p z dz q e hx ez hz
 ·rw [keep x hx] at e
  exact h.least x d p e hx
 ·rcases bV.mp hz with hz | hz
  ·obtain⟨d3,q3,e3,h3⟩:=h.gone z l2 hz
   obtain⟨d4,q4,e4,h4⟩:=less z d3 q3 e3
   exact⟨d4,q4,e4,by omega⟩
  ·cases On.mp hz
   exact⟨_,_,Bs,ca _⟩
theorem Dm.skip{N:Net}{s:Str}{F:Nw}{Wt:List Str}{v:Str}{dv:Int}{seen:List (Str×Int)}(h:Dm N s F Wt v dv seen){y:Str}{l dy:Int}{qy:Option Str}(hy:F y=some (dy,qy))(hle:dy<=dv+l):Dm N s F Wt v dv (seen++[(y,l)]):=by
 refine⟨h.start,h.ins,h.wk,h.prev,h.wfound,h.nd,h.done,h.near,h.here,h.out,h.least,λz l2 hz=>?_⟩
 rcases bV.mp hz with hz | hz
 ·exact h.gone z l2 hz
 ·cases On.mp hz
  exact⟨_,_,hy,hle⟩
structure Told (N:Net) (s:Str) (F:Nw):Prop where
 start:F s=some (0,none)
 ins:∀x,F x≠none->x∈N.ps
 least:∀x d p,F x=some (d,p)->Least N s x d
 all:∀x d,Wk N s x d->F x≠none
 prev:∀x d p,F x=some (d,p)->(p=none/\x=s)\/∃y dy q l,p=some y/\F y=some (dy,q)/\Ed N y x l/\d=dy+l
theorem Dj.told{N:Net}{s:Str}{F:Nw}(h:Dj N s F []):Told N s F:=by
 have cl:=L0 (N:=N) (s:=s) (F:=λx=>(F x).map (·.1)) ⟨0,by rw [h.start]; rfl,ca _⟩ (λx d e=>by
  obtain⟨⟨d',p⟩,e1,e2⟩:=bM.mp e
  cases e2
  exact h.wk x _ p e1) (λx d y l e he=>by
  obtain⟨⟨d',p⟩,e1,e2⟩:=bM.mp e
  cases e2
  obtain⟨dy,q,e3,h3⟩:=h.done x _ p y l e1 bJ he
  exact⟨dy,by rw [e3]; rfl,h3⟩)
 refine⟨h.start,h.ins,λx d p e=>cl.1 x d (by rw [e]; rfl),λx d hw e=>cl.2 x d hw (by rw [e]; rfl),λx d p e=>?_⟩
 rcases h.prev x d p e with z | ⟨y,dy,q,l,e1,e2,_,e4,e5⟩
 ·exact .inl z
 ·exact .inr ⟨y,dy,q,l,e1,e2,e4,e5⟩
noncomputable abbrev Kn:=Str->Option Int
structure Bf (N:Net) (s:Str) (c:Nat) (K:Kn):Prop where
 start:∃d,K s=some d/\d<=0
 ins:∀x,K x≠none->x∈N.ps
 wk:∀x d,K x=some d->Wk N s x d
 top:∀x d,K x=some d->d<=1000000*(c:Int)
structure aj (N:Net) (s:Str) (K:Kn):Prop where
 ins:∀x,K x≠none->x∈N.ps
 least:∀x d,K x=some d->Least N s x d
 all:∀x d,Wk N s x d->K x≠none
 top:∀x d,K x=some d->d<=30000000
noncomputable def walk(N:Net):List Str->Int->Prop
 | [],_=>False
 | [_],d=>d=0
 | x::y::r,d=>∃l e,Ed N x y l/\walk N (y::r) e/\d=l+e
theorem QR{N:Net}{x y:Str}{r:List Str}{d l:Int}(he:Ed N x y l)(h:walk N (y::r) d):walk N (x::y::r) (l+d):=⟨l,d,he,h,rfl⟩
noncomputable def a_(N:Net)(a b:Str):Option Int->Prop
 | some d=>Least N a b d
 | none=>∀d,¬Wk N a b d
theorem Told.far{N:Net}{s:Str}{F:Nw}(h:Told N s F)(x:Str):a_ N s x ((F x).map (·.1)):=by
 cases e:F x with
 | none=>exact λd hw=>h.all x d hw e
 | some a=>exact h.least x a.1 a.2 e
noncomputable def Way(N:Net)(a b:Str)(o:Option (List Str)):Prop:=match o with
 | some w=>∃d r,w=a::r/\w.getLast?=some b/\walk N w d/\Least N a b d/\w.length<=30/\∀x∈w,x∈N.ps
 | none=>∀d,¬Wk N a b d
noncomputable def ZA:Option Str->D
 | some y=>.str y
 | none=>.non
noncomputable def FY:Option (List Str)->D
 | some w=>.tup (w.map .str)
 | none=>.non
noncomputable def JO(p:Int×Option Str):D:=.tup [.int p.1,ZA p.2]
noncomputable def okN(N:Net):Prop:=N.Ok/\N.ps.length<=25/\N.ts.length<=60
noncomputable def QI:W2:=λss n P=>∃(Wt:List Str) (ks:List Key) (ds:List D) (F:Nw),ss=[.br (.lst (Wt.map .str)),.br (.dic ks ds)]/\Dmap ks ds JO F/\(∀x∈Wt,F x≠none)/\Wt≠[]/\Wt.length<=100 /\
 ∀v∈Wt,(∀y∈Wt,∀dv pv dy py,F v=some (dv,pv)->F y=some (dy,py)->dv<=dy)->P (.str v) n
noncomputable def MC:W2:=λss n P=>∃(N:Net) (s:Str),ss=[.sh (BL N),.sh (.str s)]/\okN N/\s∈N.ps/\∀(ks:List Key) (ds:List D) (F:Nw),Dmap ks ds JO F->Told N s F->P (.dic ks ds) n
noncomputable def V6:W2:=λss n P=>∃(N:Net) (a b:Str),ss=[.sh (BL N),.sh (.str a),.sh (.str b)]/\okN N/\a∈N.ps/\b∈N.ps/\∀o,Way N a b o->P (FY o) n
noncomputable def GP:Aa:=(A3 (Ad BP (Dy Wc (AE (Dt [some 1,none] (Cw (BM 0)) (Ay 1) Fp (CG (AE (Ad BP (Ad Bn (BM 0) (AC 1)) (wC (D.int 0))) (AE (AC 1) Ae)))) Ae)) (wC (D.int 1))))
noncomputable def GR:Aa:=(Ai (BA 2 (AV Jf (AB (AH (AC 0)) AW)))
 (Ai (G9 3 (R0 (AC 1) (CG (AE (wC (D.int 0)) (AE (wC D.non) Ae)))))
 (Ai (G9 4 (He (AE (AC 1) Ae)))
 (Ai (K3 (Wv (BM 4)) (Ai (BA 5 (AV QI (AB (FI (BM 4)) (AB (FI (BM 3)) AW))))
 (Ai (Uk 4 "list" ZL (AE (AC 5) Ae))
 (IK (wItems (Ad Bn (AC 2) (AC 5))) (Hl 2 (A8 (Ay 6) (A8 (Ay 7) Dv))) (Ai (BA 8 (Ad DK (Ad BP (Ad Bn (BM 3) (AC 5)) (wC (D.int 0))) (AC 7)))
 (Bp (Am (Ad (Ol true) (AC 6) (BM 3))) (Ai (Uk 4 "list" Om (AE (AC 6) Ae))
 (MK 3 (AC 6) (CG (AE (AC 8) (AE (AC 5) Ae))))) (Bp (Am (Ad NS (AC 8) (Ad BP (Ad Bn (BM 3) (AC 6)) (wC (D.int 0))))) (MK 3 (AC 6) (CG (AE (AC 8) (AE (AC 5) Ae)))) BI)))))))
 (Rw 3)))))
noncomputable def Nj:Aa:=(Ai (BA 3 (AV MC (AB (AH (AC 0)) (AB (AH (AC 1)) AW))))
 (Ai (Bp (Am (Ad (Ol true) (AC 2) (AC 3))) (A3 (wC D.non)) BI)
 (Ai (G9 4 (He Ae))
 (Ai (BA 5 (AC 2))
 (Ai (K3 (Am (Ad (Ey true) (AC 5) (wC D.non))) (Ai (Uk 4 "list" Om (AE (AC 5) Ae))
 (BA 5 (Ad BP (Ad Bn (AC 3) (AC 5)) (wC (D.int 1))))))
 (A3 (O8 (BM 4))))))))
theorem aO{i j:Int}{x y:Str}(h:BB [.inl j,.inr y] [.inl i,.inr x]=false):i<=j:=by
 have h:(if (eN j:Key)=.inl i then (if (ce y:Key)=.inr x then false else decide (y.cps.toList<x.cps.toList)) else decide (j<i))=false:=h
 by_cases e:j=i
 ·omega
 ·rw [if_neg (λz=>e (i8 z)),decide_eq_false_iff_not] at h
  omega
section
variable {ss:List Slot}{n:Nat}{Pd:D->Nat->Prop}
theorem Jl(h:QI ss n Pd):GP (EE Pd) n (ss++Uf 0 .no):=by
 obtain⟨Wt,ks,ds,F,rfl,M,hF,hne,hl,p⟩:=h
 unfold GP
 refine⟨by show (Wt.map D.str).length<=10000000; rw [FM]; omega,?_⟩
 have dist:∀x∈Wt,∃d q,F x=some (d,q):=λx hx=>by
  cases e:F x with
  | none=>exact absurd e (hF x hx)
  | some a=>exact⟨a.1,a.2,rfl⟩
 refine Bw (λd=>match d with | .str x=>.tup [.int ((F x).getD (0,none)).1,.str x] | d=>d) (λρ=>∃s,ρ=[.br (.dic ks ds),s]) _ _ _ _ ?_ ⟨_,rfl⟩ ?_
 ·rintro d hd ρ m nx ⟨s,rfl⟩ hnx
  obtain⟨x,hx,rfl⟩:=ZB.mp hd
  obtain⟨dx,q,ex⟩:=dist x hx
  refine⟨ks,ds,_,JO (dx,q),rfl,rfl,by rw [M.at_,ex]; rfl,_,AQ (j:=0) rfl,(by decide:2<=sizeLine),?_⟩
  have this:nx (.tup [.int ((F x).getD (0,none)).1,.str x]) m [.br (.dic ks ds),.sh (.str x)]:=hnx [.br (.dic ks ds),.sh (.str x)] ⟨_,rfl⟩
  rw [show ((F x).getD (0,none)).1=dx by rw [ex]; rfl] at this
  exact this
 rw [cD,dY]
 refine⟨_,rfl,?_,⟨λx hx=>?_,λx hx y hy ka kb ea eb=>?_⟩,λx hx hmin=>?_⟩
 ·rw [FM]
  cases Wt with
  | nil=>exact absurd rfl hne
  | cons a r=>exact Nat.succ_pos _
 ·obtain⟨z,_,rfl⟩:=ZB.mp hx
  exact⟨_,rfl,eC _ _⟩
 ·obtain⟨z,_,rfl⟩:=ZB.mp hx
  obtain⟨u,_,rfl⟩:=ZB.mp hy
  cases (show some [eN _,ce _]=some ka from ea)
  cases (show some [eN _,ce _]=some kb from eb)
  rfl
 ·obtain⟨v,hv,rfl⟩:=ZB.mp hx
  refine⟨_,AQ (j:=1) rfl,p v hv λy hy dv pv dy py ev ey=>?_⟩
  have:=aO (hmin _ (ZB.mpr ⟨y,hy,rfl⟩) _ _ rfl rfl)
  rw [ev,ey] at this
  exact this
theorem BX(x:Str):keyOf (.str x)=some (.inr x):=rfl
theorem Qz{N:Net}(ok:N.Ok){xs:List Str}(h:∀x∈xs,x∈N.ps):Fc (.lst (xs.map .str)):=by
 have it:∀d∈xs.map D.str,item d:=λd hd=>by
  obtain⟨x,hx,rfl⟩:=ZB.mp hd
  exact Em (ok.names x (h x hx))
 exact KY it
theorem Nz{N:Net}{Wt:List Str}(hn:Wt.Nodup)(h:∀x∈Wt,x∈N.ps):Wt.length<=N.ps.length:=by
 have:∀(xs ps:List Str),xs.Nodup->(∀x∈xs,x∈ps)->xs.length<=ps.length:=by
  intro xs
  induction xs with
  | nil=>intro ps _ _; exact bH _
  | cons x xs ih =>
   intro ps hn hm
   have hx:=hm x No
   have hn:=bQ.mp hn
   have h1:=ih (ps.erase x) hn.2 λj hj=>(List.mem_erase_of_ne λe=>hn.1 (by rw [← e]; exact hj)).mpr (hm j (Rs _ hj))
   rw [fN hx] at h1
   have:=fk hx
   rw [XV]
   omega
 exact this Wt N.ps hn h
theorem Mj(ks:List Key)(k:Key):(CQ ks k).length=if JL ks k=true then ks.length else ks.length+1:=by
 unfold CQ
 split
 ·rfl
 ·rw [bD]; rfl
theorem Dmap.has{α:Type}{ks:List Key}{ds:List D}{BL:α->D}{F:Str->Option α}(h:Dmap ks ds BL F){x:Str}:(F x=none->JL ks (.inr x)=false)/\(F x≠none->JL ks (.inr x)=true):=by
 constructor
 ·intro e
  cases c:JL ks (.inr x) with
  | false=>rfl
  | true=>exact absurd e ((h.mem x).mp (hasK_iff.mp c))
 ·intro e
  exact hasK_iff.mpr ((h.mem x).mpr e)
theorem KJ{N:Net}{x:Str}(hx:x∈N.ps):BN (N.ps.map .inr) (N.ps.map (Qy N.ts)) (.inr x)=some (Qy N.ts x):=by
 have go:∀ps:List Str,x∈ps->BN (ps.map .inr) (ps.map (Qy N.ts)) (.inr x)=some (Qy N.ts x):=by
  intro ps
  induction ps with
  | nil=>intro h; cases h
  | cons q ps ih =>
   intro h
   show (if (ce q:Key)=.inr x then some (Qy N.ts q) else BN (ps.map .inr) (ps.map (Qy N.ts)) (.inr x))=_
   by_cases e:q=x
   ·rw [if_pos (by rw [e]),e]
   ·rw [if_neg (λz=>e (cQ z))]
    exact ih ((TM.mp h).resolve_left λz=>e z.symm)
 exact go N.ps hx
theorem Uh(l:List (Str×Int)):Cf ((l.map λx=>(.inr x.1:Key)).map Wh) (l.map λx=>.int x.2)=l.map Zr:=by
 induction l with
 | nil=>rfl
 | cons p l ih =>
  show D.tup [.str p.1,.int p.2]::Cf _ _=Zr p::l.map Zr
  rw [← ih]
  rfl
theorem Jn(h:MC ss n Pd):GR (EF Pd) n (ss++Uf 7 .no):=by
 obtain⟨N,s,rfl,⟨ok,lp,lt⟩,hs,p⟩:=h
 have szl:=PySem.sizeLine_eq
 unfold GR
 refine⟨N,rfl,ok,by omega,by omega,?_⟩
 refine⟨(by decide:2<=sizeLine),_,BX s,(by decide:1<=sizeLine),?_⟩
 refine J6 (λm n' ρ=>n'=n/\∃(Wt:List Str) (ks:List Key) (ds:List D) (F:Nw) (s5 s6 s7 s8:Slot),ρ=[.sh (BL N),.sh (.str s),.sh (DU N),.ow (.dic ks ds),.ow (.lst (Wt.map .str)),s5,s6,s7,s8]/\Dmap ks ds JO F/\Dj N s F Wt/\m+ks.length=N.ps.length+Wt.length) (N.ps.length) ⟨rfl,[s],[.inr s],[JO (0,none)],_,_,_,_,_,rfl,Dmap.one,Dj.init hs,rfl⟩ ?_ ?_
 ·rintro m n' ρ N' ⟨rfl,Wt,ks,ds,F,s5,s6,s7,s8,rfl,M,J,hm⟩ hN
  cases Wt with
  | nil =>
   exact⟨false,rfl,_,rfl,p ks ds F M J.told⟩
  | cons w0 Wr =>
   refine⟨true,rfl,?_⟩
   have insW:∀x∈w0::Wr,x∈N.ps:=λx hx=>J.ins x (J.wfound x hx)
   have wl:=Nz J.nd insW
   refine⟨w0::Wr,ks,ds,F,rfl,M,J.wfound,eC _ _,by omega,λv hv hmin=>?_⟩
   obtain⟨dv,pv,ev⟩:∃d q,F v=some (d,q):=by
    cases e:F v with
    | none=>exact absurd e (J.wfound v hv)
    | some a=>exact⟨a.1,a.2,rfl⟩
   have D0:=J.take hv ev λy hy dy q ey=>hmin y hy dv pv dy q ev ey
   have hvp:=insW v hv
   have hidx:(w0::Wr).idxOf v<(w0::Wr).length:=List.idxOf_lt_length_of_mem hv
   have hget:(w0::Wr)[(w0::Wr).idxOf v]?=some v:=by rw [Db hidx,fO]
   have ee:((w0::Wr).map D.str).eraseIdx ((w0::Wr).idxOf v)=((w0::Wr).erase v).map D.str:=by
    rw [List.erase_eq_eraseIdx_of_idxOf (rfl:(w0::Wr).idxOf v=_),Kg]
   refine⟨_,rfl,rfl,_,_,(w0::Wr).idxOf v,rfl,rfl,Qz ok insW,JD (ok.names v hvp),⟨.str v,by rw [T0,hget]; rfl,by show (v==v)=true; exact beq_self_eq_true v⟩,λk x hk hx=>?_,?_⟩
   ·rw [T0] at hx
    obtain⟨t,ht,rfl⟩:=bM.mp hx
    have hkl:k<(w0::Wr).length:=(TW.mp ht).1
    have hh:=List.not_of_lt_findIdx (p:=λy=>y==v) (xs:=w0::Wr) hk
    have e2:(w0::Wr)[k]=t:=(TW.mp ht).2
    have h3:((w0::Wr)[k]==v)=false:=hh
    rw [e2] at h3
    exact h3
   rw [ee]
   refine⟨_,_,_,Qy N.ts v,rfl,BX v,KJ hvp,_,_,rfl,λk hk=>?_,?_⟩
   ·obtain⟨q,hq,rfl⟩:=ZB.mp hk
    have:=(ok.names _ (Ld ok hq).1).2.1
    show q.1.length<=sizeLine
    omega
   rw [Uh]
   have el:=fN hv
   have inner:∀(rest seen:List (Str×Int)) (Wt:List Str) (ks:List Key) (ds:List D) (F:Nw) (s6 s7 s8:Slot),seen++rest=Ce N.ts v->Dmap ks ds JO F->Dm N s F Wt v dv seen->m+ks.length=N.ps.length+Wt.length+1 ->
     DD (Hl 2 (A8 (Ay 6) (A8 (Ay 7) Dv))) (Ai (BA 8 (Ad DK (Ad BP (Ad Bn (BM 3) (AC 5)) (wC (D.int 0))) (AC 7)))
 (Bp (Am (Ad (Ol true) (AC 6) (BM 3))) (Ai (Uk 4 "list" Om (AE (AC 6) Ae))
 (MK 3 (AC 6) (CG (AE (AC 8) (AE (AC 5) Ae))))) (Bp (Am (Ad NS (AC 8) (Ad BP (Ad Bn (BM 3) (AC 6)) (wC (D.int 0))))) (MK 3 (AC 6) (CG (AE (AC 8) (AE (AC 5) Ae)))) BI))) { EF Pd with nx:=N',ct:=N',bk:=Rw 3 (EF Pd) } (rest.map Zr) n' [.sh (BL N),.sh (.str s),.sh (DU N),.ow (.dic ks ds),.ow (.lst (Wt.map .str)),.sh (.str v),s6,s7,s8]:=by
    intro rest
    induction rest with
    | nil =>
     intro seen Wt ks ds F s6 s7 s8 e M D0 hm
     rw [bh] at e
     exact hN (m - 1) n' _ (by have:=M.le D0.ins; omega) ⟨rfl,Wt,ks,ds,F,_,_,_,_,rfl,M,D0.finish λy l hy=>by rw [e]; exact hy,by have:=M.le D0.ins; omega⟩
    | cons q rest ih =>
     intro seen Wt ks ds F s6 s7 s8 e M D0 hm
     obtain⟨y,l⟩:=q
     have he:Ed N v y l:=by show (y,l)∈Ce N.ts v; rw [← e]; exact bP _ No
     have e':(seen++[(y,l)])++rest=Ce N.ts v:=by rw [cW]; exact e
     obtain⟨pv,ev⟩:=D0.here
     have kl:=M.le D0.ins
     have hyp:=he.ins ok
     have insW:∀x∈Wt,x∈N.ps:=λx hx=>D0.ins x (D0.wfound x hx)
     have wl:=Nz D0.nd insW
     refine⟨rfl,rfl,?_⟩
     refine⟨ks,ds,_,JO (dv,pv),rfl,BX v,by rw [M.at_,ev]; rfl,_,AQ (j:=0) rfl,?_⟩
     refine⟨ks,ds,_,rfl,BX y,?_⟩
     show if (!(BN ks ds (.inr y)).isSome)=true then _ else _
     cases ey:F y with
     | none =>
      have hno:=(M.has (x:=y)).1 ey
      rw [M.at_,ey]
      refine JH ⟨_,rfl,rfl,_,_,rfl,rfl,by rw [FM]; omega,?_⟩
      refine⟨ks,ds,rfl,(by decide:2<=sizeLine),_,BX y,by omega,?_⟩
      have:=ih (seen++[(y,l)]) (Wt++[y]) (CQ ks (.inr y)) (CP ks ds (.inr y) (JO (dv+l,some v))) _ (.sh (.str y)) (.sh (.int l)) (.sh (.int (dv+l))) e' (M.put y (dv+l,some v)) (D0.find ok he ey) (by rw [Mj,if_neg (by rw [hno]; decide),bD,bW]; omega)
      rw [cH] at this
      exact this
     | some a =>
      obtain⟨dy,qy⟩:=a
      have hyes:=(M.has (x:=y)).2 (by rw [ey]; intro z; cases z)
      rw [M.at_,ey]
      refine GC ⟨ks,ds,_,JO (dy,qy),rfl,BX y,by rw [M.at_,ey]; rfl,_,AQ (j:=0) rfl,?_⟩
      show if decide (dv+l<dy)=true then _ else _
      by_cases c:dv+l<dy
      ·rw [decide_eq_true c]
       refine JH ⟨ks,ds,rfl,(by decide:2<=sizeLine),_,BX y,by omega,?_⟩
       exact ih (seen++[(y,l)]) Wt (CQ ks (.inr y)) (CP ks ds (.inr y) (JO (dv+l,some v))) _ (.sh (.str y)) (.sh (.int l)) (.sh (.int (dv+l))) e' (M.put y (dv+l,some v)) (D0.nearer ok he ey c) (by rw [Mj,if_pos hyes]; omega)
      ·rw [decide_eq_false c]
       exact GC (ih (seen++[(y,l)]) Wt ks ds F (.sh (.str y)) (.sh (.int l)) (.sh (.int (dv+l))) e' M (D0.skip ey (by omega)) hm)
   exact inner (Ce N.ts v) [] ((w0::Wr).erase v) ks ds F _ _ _ rfl M D0 (by have:=fk hv; omega)
 ·rintro n' ρ P Q hPQ h
  unfold Wv BM at h ⊢
  split at h
  all_goals first
   | exact h.elim
   | (obtain⟨c,hc,h⟩:=h; exact⟨c,hc,hPQ _ _ h⟩)
end
structure WInv (N:Net) (F:Nw) (b:Str) (db:Int) (acc:List Str) (pl:Option Str):Prop where
 st:(acc=[]/\pl=some b)\/∃z r dz,acc.reverse=z::r/\F z=some (dz,pl)/\walk N acc.reverse (db - dz)/\acc.reverse.getLast?=some b
 nd:acc.Nodup
 ins:∀x∈acc,x∈N.ps
 less:∀y dy q,pl=some y->F y=some (dy,q)->∀x∈acc,∃dx qx,F x=some (dx,qx)/\dy<dx
 fnd:∀y,pl=some y->F y≠none
noncomputable def wm(F:Nw):Option Str->Nat
 | none=>0
 | some y=>((F y).getD (0,none)).1.toNat+1
theorem WInv.step{N:Net}(ok:N.Ok){a:Str}{F:Nw}(T:Told N a F){b:Str}{db:Int}{qb:Option Str}(eb:F b=some (db,qb)){acc:List Str}{y:Str}{dy:Int}{qy:Option Str}(h:WInv N F b db acc (some y))(ey:F y=some (dy,qy)):WInv N F b db (acc++[y]) qy/\wm F qy<wm F (some y):=by
 have hy0:=(T.least y dy qy ey).1.pos ok
 have nx:∀w dw q,qy=some w->F w=some (dw,q)->dw<dy:=λw dw q e ew=>by
  rcases T.prev y dy qy ey with ⟨z,_⟩ | ⟨w',dw',q',l,e1,e2,e3,e4⟩
  ·rw [e] at z; cases z
  ·rw [e] at e1
   cases e1
   rw [ew] at e2
   cases e2
   have:=(e3.pos ok).1
   omega
 have hf:∀w,qy=some w->F w≠none:=λw e=>by
  rcases T.prev y dy qy ey with ⟨z,_⟩ | ⟨w',dw',q',l,e1,e2,_⟩
  ·rw [e] at z; cases z
  ·rw [e] at e1
   cases e1
   rw [e2]
   intro z; cases z
 refine⟨⟨.inr ?_,?_,λx hx=>?_,λw dw q e ew x hx=>?_,hf⟩,?_⟩
 ·rw [List.reverse_append,List.reverse_singleton,fz]
  rcases h.st with ⟨rfl,e⟩ | ⟨z,r,dz,e1,e2,e3,e4⟩
  ·cases e
   rw [eb] at ey
   cases ey
   exact⟨_,_,_,rfl,eb,(by show db - db=0; omega),rfl⟩
  ·refine⟨y,acc.reverse,dy,rfl,ey,?_,?_⟩
   ·rw [e1] at e3 ⊢
    rcases T.prev z dz (some y) e2 with ⟨w,_⟩ | ⟨w',dw',q',l,k1,k2,k3,k4⟩
    ·cases w
    ·cases k1
     rw [ey] at k2
     cases k2
     have:=QR k3 e3
     rw [show l+(db - dz)=db - dy by omega] at this
     exact this
   ·rw [e1] at e4 ⊢
    exact e4
 ·rw [cR]
  refine⟨h.nd,bQ.mpr ⟨bJ,bj⟩,λx hx z hz e=>?_⟩
  rw [On.mp hz] at e
  obtain⟨dx,qx,ex,hlt⟩:=h.less y dy qy rfl ey x hx
  rw [e,ey] at ex
  cases ex
  omega
 ·rcases bV.mp hx with hx | hx
  ·exact h.ins x hx
  ·rw [On.mp hx]
   exact T.ins y (by rw [ey]; intro z; cases z)
 ·have h1:=nx w dw q e ew
  rcases bV.mp hx with hx | hx
  ·obtain⟨dx,qx,ex,hlt⟩:=h.less y dy qy rfl ey x hx
   exact⟨dx,qx,ex,by omega⟩
  ·rw [On.mp hx]
   exact⟨dy,qy,ey,h1⟩
 ·cases qy with
  | none=>exact Nat.succ_pos _
  | some w =>
   cases ew:F w with
   | none=>exact absurd ew (hf w rfl)
   | some p =>
    have h1:=nx w p.1 p.2 rfl ew
    have h2:=(T.least w p.1 p.2 ew).1.pos ok
    show ((F w).getD (0,none)).1.toNat+1<((F y).getD (0,none)).1.toNat+1
    rw [ew,ey]
    show p.1.toNat+1<dy.toNat+1
    omega
section
variable {ss:List Slot}{n:Nat}{Pd:D->Nat->Prop}
theorem Qb(h:V6 ss n Pd):Nj (EE Pd) n (ss++Uf 3 .no):=by
 obtain⟨N,a,b,rfl,okn,ha,hb,p⟩:=h
 have szl:=PySem.sizeLine_eq
 have ok:=okn.1
 unfold Nj
 refine⟨N,a,rfl,okn,ha,λks ds F M T=>?_⟩
 refine⟨ks,ds,_,rfl,BX b,?_⟩
 show if (!(BN ks ds (.inr b)).isSome)=true then _ else _
 have hfar:=T.far b
 cases eb:F b with
 | none =>
  rw [M.at_,eb]
  rw [eb] at hfar
  exact JH (p none hfar)
 | some x =>
  obtain⟨db,qb⟩:=x
  rw [M.at_,eb]
  refine GC ⟨z0,?_⟩
  refine J6 (λm n' ρ=>n'=n/\∃(acc:List Str) (pl:Option Str),ρ=[.sh (BL N),.sh (.str a),.sh (.str b),.sh (.dic ks ds),.ow (.lst (acc.map .str)),.sh (ZA pl)]/\WInv N F b db acc pl/\m=wm F pl) (wm F (some b)) ⟨rfl,[],some b,rfl,⟨.inl ⟨rfl,rfl⟩,bj,(λx hx=>by cases hx),(λ_ _ _ _ _ x hx=>by cases hx),λy e=>by cases e; rw [eb]; intro z; cases z⟩,rfl⟩ ?_ ?_
  ·rintro m n' ρ N' ⟨rfl,acc,pl,rfl,J,rfl⟩ hN
   have wl:=Nz J.nd J.ins
   have l25:=okn.2.1
   cases pl with
   | none =>
    refine⟨rfl,_,rfl,?_⟩
    rcases J.st with ⟨_,e⟩ | ⟨z,r,dz,e1,e2,e3,e4⟩
    ·cases e
    ·have hz:z=a:=by
      rcases T.prev z dz none e2 with ⟨_,w⟩ | ⟨w',dw',q',l,k1,_⟩
      ·exact w
      ·cases k1
     subst hz
     rw [T.start] at e2
     cases e2
     rw [← iD]
     refine p (some acc.reverse) ⟨db - 0,r,e1,e4,e3,?_,by rw [dM]; omega,λx hx=>J.ins x (List.mem_reverse.mp hx)⟩
     rw [show db - 0=db by omega]
     exact T.least b db qb eb
   | some y =>
    cases ey:F y with
    | none=>exact absurd ey (J.fnd y rfl)
    | some q =>
     obtain⟨dy,qy⟩:=q
     obtain⟨J2,lt2⟩:=J.step ok T eb ey
     refine⟨rfl,?_⟩
     refine⟨_,rfl,rfl,_,_,rfl,rfl,by rw [FM]; omega,?_⟩
     refine⟨ks,ds,_,JO (dy,qy),rfl,BX y,by rw [M.at_,ey]; rfl,_,AQ (j:=1) rfl,?_⟩
     refine hN (wm F qy) _ _ lt2 ⟨rfl,acc++[y],qy,?_,J2,rfl⟩
     rw [cH]
     rfl
  ·rintro n' ρ P Q hPQ h
   unfold Am Ad AC wC Ey at h ⊢
   split at h
   ·exact⟨h.1,hPQ _ _ h.2⟩
   ·exact h.elim
end
theorem VM{w:List Str}{b:Str}(h:w.getLast?=some b):atI (w.map D.str) (-1)=some (.str b):=by
 obtain⟨ys,rfl⟩:=List.getLast?_eq_some_iff.mp h
 rw [cH]
 exact UL _ _
section
variable {ss:List Slot}{n:Nat}{Pd:D->Nat->Prop}
end
section
variable {ss:List Slot}{n:Nat}{Pd:D->Nat->Prop}
end
theorem MI{N:Net}(ok:N.Ok):∀{w:List Str} {d:Int},walk N w d->0<=d
 | [],d,h=>h.elim
 | [x],d,h=>by rw [show d=0 from h]; exact ca _
 | x::y::r,d,h=>by
  obtain⟨l,e,h1,h2,h3⟩:=h
  have:=MI ok h2
  have:=(h1.pos ok).1
  omega
theorem XB{N:Net}(okn:okN N):GF 1000001 (BL N)/\QY (BL N)<=48000/\Rh (BL N)<=3:=Wz (VQ okn.1) (JG okn.1) (by rw [FM]; have:=okn.2.1; omega) (by rw [FM]; have:=okn.2.2; omega)
end Nt
namespace Dp
open PySem PySem.Spec PyProof.Rows L2
section
variable {X:Cx}{κ:Kd}{tg:Expr}{body:List Stmt}{b:BW}{wb:Aa}{pos p:Pos}{x:Str}{i:Nat}
end
end Dp
namespace Nt
open PySem PySem.Spec PyProof.Rows L2 Dp
noncomputable def sub(N:Net)(kept:List Ag):Net:=⟨N.ps,N.ts.filter λu=>decide (u∈kept)⟩
noncomputable def EN(N:Net)(t b:Int)(u:Ag):Prop:=∃d,Least N u.a u.b d/\d*b<=u.len*t
noncomputable def F7(N:Net)(t b:Int)(u:Ag):Bool:=@decide (EN N t b u) (cx _)
theorem nearB_iff{N:Net}{t b:Int}{u:Ag}:F7 N t b u=true↔EN N t b u:=by
 unfold F7
 exact @decide_eq_true_iff _ (cx _)
noncomputable def Aw(N:Net)(t b:Int):List Ag->List Ag->List Ag
 | kept,[]=>kept
 | kept,u::r=>if F7 (sub N kept) t b u=true then Aw N t b kept r else Aw N t b (kept++[u]) r
noncomputable def Fl:W2:=λss n P=>∃(N:Net) (z:D) (ts:List Ag),ss=[.sh (BL N),.br z]/\FL z=some (ts.map Aj)/\ts.length<64/\∀ts':List Ag,ts'.Perm ts->Kl ts'->P (BL ⟨N.ps,ts'⟩) n
noncomputable def Fn:W2:=λss n P=>∃(N:Net) (u:Ag) (t b:Int),ss=[.sh (BL N),.sh (.tup [.int t,.int b]),.sh (Aj u)]/\okN N/\u.a∈N.ps/\u.b∈N.ps/\1<=b/\b<=1000000/\1<=t/\t<=1000000/\∀o:Option (List Str),(∀w,o=some w->Way N u.a u.b (some w)/\F7 N t b u=true)->(o=none->F7 N t b u=false)->P (FY o) n
noncomputable def Ec:W2:=λss n P=>∃(N:Net) (t b:Int),ss=[.sh (BL N),.sh (.tup [.int t,.int b])]/\okN N/\1<=b/\b<=1000000/\1<=t/\t<=1000000/\∀ord:List Ag,ord.Perm N.ts->C7 ord->P (BL (sub N (Aw N t b [] ord))) n
noncomputable def Nk:Aa:=(A3 (CG (AE (Ad BP (AC 0) (wC (D.int 0))) (AE (Dy CJ (AE (Dy Tj (AE (BM 1) Ae)) Ae)) Ae))))
noncomputable def GQ:Aa:=(Ai (BA 3 (AV V6 (AB (AH (AC 0)) (AB (AH (Ad BP (AC 2) (wC (D.int 0)))) (AB (AH (Ad BP (AC 2) (wC (D.int 1)))) AW)))))
 (Ai (Bp (IJ (Am (Ad (Ey false) (AC 3) (wC D.non))) (D3 (Am (AV Gc (AB (AH (AV UY (AB (AH (AC 0)) (AB (AH (AC 3)) AW)))) (AB (AH (AC 1)) (AB (AH (Ad BP (AC 2) (wC (D.int 2)))) AW))))))) (A3 (wC D.non)) BI)
 (A3 (AC 3))))
noncomputable def HJ:Aa:=(Ai (G9 2 (He Ae))
 (Ai (IK (Cw (AV Jg (AB (AH (Ad BP (AC 0) (wC (D.int 1)))) AW))) (Ay 3) (Bp (Am (Ad (Ey false) (AV Fn (AB (AH (AV Fl (AB (AH (AC 0)) (AB (FI (BM 2)) AW)))) (AB (AH (AC 1)) (AB (AH (AC 3)) AW)))) (wC D.non))) (Uk 2 "list" Om (AE (AC 3) Ae)) BI))
 (A3 (AV Fl (AB (AH (AC 0)) (AB (FI (BM 2)) AW))))))
theorem sub_mem{N:Net}{kept:List Ag}{u:Ag}:u∈(sub N kept).ts↔u∈N.ts/\u∈kept:=by
 show u∈N.ts.filter _↔_
 rw [cB,decide_eq_true_eq]
theorem Hu{N:Net}(okn:okN N)(kept:List Ag):okN (sub N kept):=⟨SG okn.1 (λt h=>(sub_mem.mp h).1) (okn.1.trise.filter _),okn.2.1,bS (c7 _ _) okn.2.2⟩
theorem SH{N:Net}(ok:N.Ok){kept ts:List Ag}(hk:∀t∈kept,t∈N.ts)(nd:kept.Nodup)(hp:ts.Perm kept)(hb:Kl ts):(⟨N.ps,ts⟩:Net)=sub N kept:=by
 unfold sub
 congr 1
 refine N5 ((fA (hp.nodup_iff.mpr nd) ((B3 ok.trise).filter _)).mpr λt=>?_) hb (Oy (ok.trise.filter _))
 rw [cB,decide_eq_true_eq,hp.mem_iff]
 exact⟨λh=>⟨hk t h,h⟩,λh=>h.2⟩
theorem Oh{N:Net}{t b:Int}{kept r:List Ag}{u:Ag}:Aw N t b kept (u::r)=if F7 (sub N kept) t b u=true then Aw N t b kept r else Aw N t b (kept++[u]) r:=rfl
theorem El{N:Net}{t b:Int}:∀{rest kept:List Ag},(∀u∈kept,u∈Aw N t b kept rest)/\∀u∈Aw N t b kept rest,u∈kept\/u∈rest
 | [],kept=>⟨λu h=>h,λu h=>.inl h⟩
 | v::r,kept=>by
  unfold Aw
  split
  ·obtain⟨h1,h2⟩:=El (N:=N) (t:=t) (b:=b) (rest:=r) (kept:=kept)
   exact⟨h1,λu hu=>(h2 u hu).imp id λz=>Rs _ z⟩
  ·obtain⟨h1,h2⟩:=El (N:=N) (t:=t) (b:=b) (rest:=r) (kept:=kept++[v])
   refine⟨λu hu=>h1 u (cU _ hu),λu hu=>?_⟩
   rcases h2 u hu with z | z
   ·rcases bV.mp z with z | z
    ·exact .inl z
    ·exact .inr (by rw [On.mp z]; exact No)
   ·exact .inr (Rs _ z)
theorem Fe{N:Net}{t b:Int}:∀{rest kept:List Ag} {u:Ag},u∈rest->u∈Aw N t b kept rest\/∃k',(∀v∈k',v∈Aw N t b kept rest)/\EN (sub N k') t b u
 | [],kept,u,h=>by cases h
 | v::r,kept,u,h=>by
  unfold Aw
  split
  ·rename_i hn
   rcases TM.mp h with rfl | h
   ·exact .inr ⟨kept,(El (rest:=r)).1,nearB_iff.mp hn⟩
   ·exact Fe h
  ·rcases TM.mp h with rfl | h
   ·exact .inl ((El (rest:=r)).1 u (bP _ (On.mpr rfl)))
   ·exact Fe h
theorem Wk.mono{N N':Net}(h:∀t∈N.ts,t∈N'.ts){s x:Str}{d:Int}(hw:Wk N s x d):Wk N' s x d:=by
 induction hw with
 | nil=>exact .nil
 | snoc _ he ih =>
  refine .snoc ih ?_
  obtain⟨t,ht,z⟩:=dP.mp he
  exact dP.mpr ⟨t,h t ht,z⟩
theorem Iz{α β:Type}:∀{l:List (α×β)},(l.map (·.1)).Nodup->∀{p q:α×β},p∈l->q∈l->p.1=q.1->p=q
 | a::l,nd,p,q,hp,hq,e=>by
  rw [bE,bQ] at nd
  rcases TM.mp hp with hp2 | hp2 <;> rcases TM.mp hq with hq2 | hq2
  ·rw [hp2,hq2]
  ·exact absurd (ZB.mpr ⟨q,hq2,by rw [← e,hp2]⟩:a.1∈l.map (·.1)) nd.1
  ·exact absurd (ZB.mpr ⟨p,hp2,by rw [e,hq2]⟩:a.1∈l.map (·.1)) nd.1
  ·exact Iz nd.2 hp2 hq2 e
theorem Pc{N:Net}(ok:N.Ok){x y:Str}{l:Int}(h:Ed N x y l):look N.ts x y=some l:=by
 unfold look
 cases e:(Ce N.ts x).find? λz=>decide (z.1=y) with
 | none=>exact absurd (List.find?_eq_none.mp e (y,l) h) (by simp)
 | some q =>
  have h1:decide (q.1=y)=true:=List.find?_some (p:=λz:Str×Int=>decide (z.1=y)) e
  have e1:q.1=y:=of_decide_eq_true h1
  rw [Iz (Qx ok x) (gy e) h e1]
  rfl
theorem MJ{N:Net}(ok:N.Ok):∀{r:List Str} {x:Str} {s d:Int},walk N (x::r) d->Jx N.ts x r s=some (s+d)
 | [],x,s,d,h=>by
  have:d=0:=h
  subst this
  show some s=some (s+0)
  rw [Int.add_zero]
 | y::r,x,s,d,h=>by
  obtain⟨l,e,he,hw,rfl⟩:=h
  show (match look N.ts x y with | some l=>Jx N.ts y r (s+l) | none=>none)=_
  rw [Pc ok he]
  show Jx N.ts y r (s+l)=_
  rw [MJ ok hw,iq]
theorem Pe{N:Net}(ok:N.Ok){x:Str}{r:List Str}{d:Int}(hx:x∈N.ps)(hw:walk N (x::r) d):Xi N (.tup ((x::r).map .str))=.int d:=by
 show (if ((x::r).map D.str).all Dk then Xh N (strsOf ((x::r).map .str)) else .non)=_
 rw [if_pos (all_strs _),IR]
 show (if x∈N.ps then XF (Jx N.ts x r 0) else .non)=_
 rw [if_pos hx,MJ ok hw,cK]
 rfl
theorem Ef{N:Net}{B:Nat}(ok:N.Ok):∀{w:List Str},(∀x∈w,x∈N.ps)->E7 B (w.map .str)/\Jh (w.map .str)<=9*w.length/\Gi (w.map .str)<=0
 | [],_=>⟨trivial,Op _,Op _⟩
 | x::r,h=>by
  obtain⟨a,b,c⟩:=Ef ok (w:=r) λy hy=>h y (Rs _ hy)
  have hx:=ok.names x (h x No)
  refine⟨⟨λch hc=>by have:=hx.2.2 ch hc; omega,a⟩,?_,?_⟩
  ·show x.length+1+Jh (r.map .str)<=9*(r.length+1)
   have:=hx.2.1
   omega
  ·show max 0 (Gi (r.map .str))<=0
   omega
theorem Rt{N:Net}(ok:N.Ok){w:List Str}(hl:w.length<=30)(h:∀x∈w,x∈N.ps):Xy (.tup (w.map .str)):=by
 obtain⟨a,b,c⟩:=Ef ok h
 exact⟨a,by show Jh (w.map .str)<=60000; omega,by show Gi (w.map .str)+1<=50; omega⟩
section
variable {ss:List Slot}{n:Nat}{Pd:D->Nat->Prop}
theorem Qc(h:Fl ss n Pd):Nk (EE Pd) n (ss++Uf 0 .no):=by
 obtain⟨N,z,ts,rfl,hz,h64,p⟩:=h
 unfold Nk
 refine⟨_,AQ (j:=0) rfl,z,_,rfl,hz,by rw [FM]; exact h64,⟨λx hx=>?_,λx hx y hy ka kb ea eb=>?_⟩,λxs' hp ho=>?_⟩
 ·obtain⟨t,_,rfl⟩:=ZB.mp hx
  exact⟨Dz t,rfl,eC _ _⟩
 ·obtain⟨t,_,rfl⟩:=ZB.mp hx
  obtain⟨u,_,rfl⟩:=ZB.mp hy
  cases (show some (Dz t)=some ka from ea)
  cases (show some (Dz u)=some kb from eb)
  rfl
 ·obtain⟨ts',h1,rfl⟩:=WD (g:=ZR) (λ_=>rfl) hp
  exact⟨z2,p ts' h1 (VB ho)⟩
theorem Jm(h:Fn ss n Pd):GQ (EE Pd) n (ss++Uf 1 .no):=by
 obtain⟨N,u,t,b,rfl,okn,ha,hb,b1,b2,t1,t2,p⟩:=h
 unfold GQ
 refine⟨_,AQ (j:=0) rfl,_,AQ (j:=1) rfl,N,u.a,u.b,rfl,okn,ha,hb,λo ho=>⟨rfl,?_⟩⟩
 cases o with
 | none =>
  refine p none (λw e=>by cases e) λ_=>?_
  rw [eX]
  intro z
  obtain⟨d,hd,_⟩:=nearB_iff.mp z
  exact ho d hd.1
 | some w =>
  have ho':=ho
  obtain⟨d,r,rfl,hl,hw,hd,h30,hin⟩:=ho'
  have near:F7 N t b u=decide (d*b<=u.len*t):=by
   rw [ci,nearB_iff,decide_eq_true_eq]
   exact⟨fun⟨d',hd',h2⟩=>by rw [Least.unique hd hd']; exact h2,λh2=>⟨d,hd,h2⟩⟩
  refine⟨N,.tup ((u.a::r).map .str),rfl,okn.1,by have:=okn.2.1; omega,okn.2.2,Rt okn.1 h30 hin,?_⟩
  rw [Pe okn.1 (hin _ No) hw]
  refine⟨_,AQ (j:=2) rfl,d,t,b,u.len,rfl,b1,b2,t1,t2,?_⟩
  by_cases c:d*b<=u.len*t
  ·rw [decide_eq_true c]
   exact p (some _) (λw e=>by cases e; exact⟨ho,by rw [near]; exact decide_eq_true c⟩) λe=>by cases e
  ·rw [decide_eq_false c]
   exact p none (λw e=>by cases e) λ_=>by rw [near]; exact decide_eq_false c
theorem LD(h:Ec ss n Pd):HJ (EE Pd) n (ss++Uf 2 .no):=by
 obtain⟨N,t,b,rfl,okn,b1,b2,t1,t2,p⟩:=h
 have ok:=okn.1
 have l60:=okn.2.2
 have szl:=PySem.sizeLine_eq
 unfold HJ
 refine⟨z0,_,AQ (j:=1) rfl,_,N.ts,rfl,rfl,by omega,λord o1 o2=>?_⟩
 have hol:=o1.length_eq
 have ndo:ord.Nodup:=o1.nodup_iff.mpr (B3 ok.trise)
 have go:∀(rest done kept:List Ag) (s3:Slot),done++rest=ord->(∀u∈kept,u∈done)->kept.Nodup->Aw N t b kept rest=Aw N t b [] ord ->
   DD (Ay 3) (Bp (Am (Ad (Ey false) (AV Fn (AB (AH (AV Fl (AB (AH (AC 0)) (AB (FI (BM 2)) AW)))) (AB (AH (AC 1)) (AB (AH (AC 3)) AW)))) (wC D.non))) (Uk 2 "list" Om (AE (AC 3) Ae)) BI) { EE Pd with nx:=A3 (AV Fl (AB (AH (AC 0)) (AB (FI (BM 2)) AW))) (EE Pd) } (rest.map Aj) n [.sh (BL N),.sh (.tup [.int t,.int b]),.ow (.lst (kept.map Aj)),s3]:=by
  intro rest
  induction rest with
  | nil =>
   intro done kept s3 e h1 h2 h3
   rw [bh] at e
   subst e
   have hin:∀u∈kept,u∈N.ts:=λu hu=>o1.mem_iff.mp (h1 u hu)
   have hkl:=sub_len h2 (B3 ok.trise) hin
   refine⟨N,_,kept,rfl,rfl,by omega,λts' p1 p2=>?_⟩
   rw [SH ok hin h2 p1 p2,show kept=Aw N t b [] done from h3]
   exact p done o1 o2
  | cons u rest ih =>
   intro done kept s3 e h1 h2 h3
   have hin:∀v∈kept,v∈N.ts:=λv hv=>o1.mem_iff.mp (by rw [← e]; exact cU _ (h1 v hv))
   have hkl:=sub_len h2 (B3 ok.trise) hin
   have hu:u∈N.ts:=o1.mem_iff.mp (by rw [← e]; exact bP _ No)
   have hud:u∉done:=by
    rw [← e,cR] at ndo
    exact λz=>ndo.2.2 u z u No rfl
   have e':(done++[u])++rest=ord:=by rw [cW]; exact e
   obtain⟨m1,m2,_⟩:=ok.tin u hu
   refine⟨N,_,kept,rfl,rfl,by omega,λts' p1 p2=>?_⟩
   rw [SH ok hin h2 p1 p2]
   refine⟨sub N kept,u,t,b,rfl,Hu okn kept,m1,m2,b1,b2,t1,t2,λo hs hn=>⟨rfl,?_⟩⟩
   rw [Oh] at h3
   cases o with
   | some w =>
    rw [(hs w rfl).2,if_pos rfl] at h3
    exact ih (done++[u]) kept _ e' (λv hv=>cU _ (h1 v hv)) h2 h3
   | none =>
    rw [hn rfl,if_neg (by decide)] at h3
    refine⟨_,rfl,rfl,_,_,rfl,rfl,by rw [FM]; omega,?_⟩
    have:=ih (done++[u]) (kept++[u]) (.sh (Aj u)) e' (λv hv=>by
     rcases bV.mp hv with hv | hv
     ·exact cU _ (h1 v hv)
     ·exact bP _ hv) (by
     rw [cR]
     exact⟨h2,bQ.mpr ⟨bJ,bj⟩,λx hx y hy z=>hud (by rw [← On.mp hy,← z]; exact h1 x hx)⟩) h3
    rw [cH] at this
    exact this
 exact go ord [] [] _ rfl (λu h=>by cases h) bj rfl
end
section
variable {ss:List Slot}{n:Nat}{Pd:D->Nat->Prop}
end
section
variable {ss:List Slot}{n:Nat}{Pd:D->Nat->Prop}
end
end Nt
namespace L2
open PySem PySem.Spec PyProof.Rows
open AutoSeq1 (wpAny_loadPart')
theorem boot_enumerate:bootBuiltins "enumerate"=some (.type "enumerate"):=by decide +kernel
section
variable {prog:Program}{w:World}{A:Around}{E:Value->Shared->Prop}{s:Shared}
theorem RK{κ:Bool}(hh:A.handled=none)(it l:Addr)(hne:l≠it)(items:Array Value):Draws prog w A it [it,l] items.size (λi v=>items[i]?=some v) (λi h=>ItAt κ h it l i/\SqAt κ h l items) where
 live:=λ_ _ st=>let ⟨o,ho,_⟩:=st.1.lies; ⟨o,ho⟩
 frame:=λ_ _ _ st k=>⟨st.1.mv λo e=>k it (by simp) o e,st.2.mv λo e=>k l (by simp) o e⟩
 item:=λi s Q E hi st hQ=>CM st.1 st.2 (x:=items[i]) (by simp [hi]) λh' a b=>hQ _ h' s.toks (by simp [hi]) ⟨a,st.2.eb b.extBut hne⟩ b
 done:=λs Q E st hE=>ET hh st.1 st.2 (by simp) hE
theorem Oq{κ:Bool}(hh:A.handled=none)(it l:Addr)(items:Array Value)(k:Nat)(hk:items[k]?=none):Draws prog w A it [it,l] k (λ_ _=>True) (λi h=>ItAt κ h it l i/\SqAt κ h l items/\i=k) where
 live:=λ_ _ st=>let ⟨o,ho,_⟩:=st.1.lies; ⟨o,ho⟩
 frame:=λ_ _ _ st k=>⟨st.1.mv λo e=>k it (by simp) o e,st.2.1.mv λo e=>k l (by simp) o e,st.2.2⟩
 item:=λi s Q E hi st hQ=>absurd st.2.2 (bK hi)
 done:=λs Q E st hE=>ET hh st.1 st.2.1 hk hE
theorem TC(κ:Bool)(l:Addr)(items:Array Value):Meets (Builtin.«enumerate.__new__» ⟨[.type "enumerate",.ref l],[]⟩) (λ_ R s=>SqAt κ s.heap l items /\
   R (.ok (.ret (.ref (s.heap.push (HC κ l)).objs.size))) { s with heap:=(s.heap.push (HC κ l)).push { cls:=.type "enumerate",data:=.fields #[.none,.bool false,.ref s.heap.objs.size,rawInt 0,.none,.none] } }) :=
 .of_wp λprog w A R s h=>by
  obtain⟨hp,g,d,tk,os⟩:=s; obtain⟨hl,h⟩:=h
  have hsub:=sub_enumerate
  cases κ with
  | true =>
   have hL:iR (eU ⟨hp,g,d,tk,os⟩) l items:=hl
   obtain⟨⟨c,dct,dt,sl⟩,ho,hc,n,hd⟩:=id hL
   replace hc:c=.type "list":=hc
   replace hd:dt=.seq items n:=hd
   subst hc hd
   wp_walk using cN ho
   refine wpAny_stack_any λst=>Go ?_
   split
   ·rename_i c _ _ _ _ _
    cases (c==fQ "enumerate") <;> (wp_walk using cN ho,cg hL; exact⟨_,rfl,h⟩)
   ·(wp_walk using cN ho,cg hL; exact⟨_,rfl,h⟩)
  | false =>
   have hL:hX (eU ⟨hp,g,d,tk,os⟩) l items:=hl
   obtain⟨⟨c,dct,dt,sl⟩,ho,hc,n,hd⟩:=id hL
   replace hc:c=.type "tuple":=hc
   replace hd:dt=.seq items n:=hd
   subst hc hd
   wp_walk using cN ho
   refine wpAny_stack_any λst=>Go ?_
   split
   ·rename_i c _ _ _ _ _
    cases (c==fQ "enumerate") <;> (wp_walk using cN ho,cV hL; exact⟨_,rfl,h⟩)
   ·(wp_walk using cN ho,cV hL; exact⟨_,rfl,h⟩)
theorem J0{κ:Bool}{l:Addr}{items:Array Value}{Q:Value->Shared->Prop}(hl:SqAt κ s.heap l items)
  (h:∀h',IsEnum h' (s.heap.objs.size+1) s.heap.objs.size 0 .none->ItAt κ h' s.heap.objs.size l 0->(∀b o,s.heap.get? b=some o->h'.get? b=some o)->Q (.ref (s.heap.objs.size+1)) { s with heap:=h' }) :
  wpAny (model prog w) A (call (.type "enumerate") [.ref l]) Q E s:=by
 refine callType_new F.called_enumerate (by decide) (F.typeCall_enumerate_1 _) (F.newCall_enumerate_1 _) (λobj=>F.args_object_init_2 obj _) F.entry_enumerate_new (TC κ l items) ⟨hl,?_⟩
 have hz:(s.heap.push (HC κ l)).objs.size=s.heap.objs.size+1:=cT ..
 have g1:((s.heap.push (HC κ l)).push { cls:=.type "enumerate",data:=.fields #[.none,.bool false,.ref s.heap.objs.size,rawInt 0,.none,.none] }).get? (s.heap.push (HC κ l)).objs.size=some _:=Sc _ rfl
 rw [hz] at g1
 refine⟨⟨_,by rw [hz]; exact g1,rfl⟩,?_⟩
 rw [hz]
 exact h _ g1 ((JI κ s.heap l).mv λo e=>Ev _ e) λb o e=>Ev _ (Ev _ e)
end
noncomputable def YZ(K:Frag)(κ:Bool)(a:Addr)(xs:List V):It :=
 ⟨λi H=>SqK κ K H a xs/\i<xs.length,λi H x H'=>∃T p,x=.ref T/\H T=none/\H'=As H T (.tup [.int i,p])/\xs[i]?=some p,λi H=>SqK κ K H a xs/\xs.length<=i⟩
structure YU (κ:Bool) (e it a:Addr) (k:Nat) (h:Heap):Prop where
 e:∃old,IsEnum h e it (k:Int) old
 i:ItAt κ h it a k
theorem QU{P:Program}{w:World}{K:Frag}{es:List Expr}{j:Nat}{pos:Pos}(κ:Bool)(e it a:Addr)(xs:List V)(ei:e≠it)(ae:a≠e)(ai:a≠it) :
  Turn P w K (.Tuple es j pos) (YZ K κ a xs) [e,it] e (YU κ e it a) where
 mem:=by simp
 obj:=λi h st c hc=>by
  simp only [TM,bJ,or_false] at hc
  rcases hc with rfl | rfl
  ·obtain⟨o,q⟩:=st.e
   exact⟨_,q,λv q=>by cases q⟩
  ·exact st.i.lies
 keep:=λi h h' st k=>by
  obtain⟨o,q⟩:=st.e
  exact⟨⟨o,k e (by simp) _ q⟩,st.i.mv λo e=>k it (by simp) o e⟩
 item:=by
  intro X hP hw hK hc i pins s σ H E I hf st hg
  subst hP hw hK
  obtain⟨ha,hi⟩:=hg
  obtain⟨us,r1,q1⟩:=ha.at I
  obtain⟨u,hu,ru⟩:=r1.get (Db hi)
  obtain⟨old,ee⟩:=st.e
  have l1:=r1.length
  refine wpAny_pyNext_enum_itemD (RK (κ:=κ) (A:=X.A.in1) (I.ok.hd hc) it a ai us.toArray) ee ⟨st.i,q1⟩ (by simp; omega) ei (by simp [ei,ae.symm]) λx h' tk hp a1 a2 a3 a4 a5=>⟨_,rfl,?_⟩
  have hxu:x=u:=by
   have e2:us[i]?=some x:=by simpa using hp
   rw [hu] at e2
   exact(UF e2).symm
  subst hxu
  refine wpAny_letOwnedTupleGo_enum a1 λh2 b1 b2=>?_
  have hT:H s.heap.objs.size=none:=I.hok.fresh (Op _)
  have kk:∀c o,c∉[e,it]->s.heap.get? c=some o->h2.get? c=some o:=λc o hc z=>by
   simp only [TM,bJ,or_false,not_or] at hc
   exact b2.extBut _ _ hc.1 (a5 c o hc.1 hc.2 z)
  have I2:Inv X pins σ (As H s.heap.objs.size (.tup [.int i,xs[i]])) { s with heap:=h2,toks:=tk+1 }:=by
   refine I.turnLaid (t':=tk+1) (ch:=[e,it]) hf kk (Op _) ?_
   have nT:s.heap.objs.size≠e:=d9 (Tk ee)
   exact⟨by show 2<=sizeLine; decide,[.int i tk,x],.cons ⟨_,rfl⟩ (.cons ru .nil),⟨_,b2.extBut _ _ nT a3,rfl,_,rfl,rfl,rfl⟩⟩
  refine⟨.ref s.heap.objs.size,_,I2,rfl,⟨_,_,rfl,hT,rfl,Db hi⟩,⟨⟨_,b1⟩,a2.1.eb b2.extBut ei.symm⟩,λc hc=>?_⟩
  have hcn:H c=none:=(hf c hc).1
  have hlt:c≠s.heap.objs.size:=λz=>by
   obtain⟨o,ho⟩:∃o,s.heap.get? c=some o:=by
    simp only [TM,bJ,or_false] at hc
    rcases hc with rfl | rfl
    ·exact⟨_,ee⟩
    ·obtain⟨o,q,_⟩:=st.i.lies; exact⟨o,q⟩
   rw [z] at ho
   exact cI _ (Tk ho)
  rw [AK hlt]; exact hcn
 done:=by
  intro X hP hw hK hc i pins s σ H E I hf st hg
  subst hP hw hK
  obtain⟨ha,hi⟩:=hg
  obtain⟨us,r1,q1⟩:=ha.at I
  obtain⟨old,ee⟩:=st.e
  have l1:=r1.length
  refine wpAny_pyNext_enum_endD (Oq (κ:=κ) (A:=X.A.in1) (I.ok.hd hc) it a us.toArray i (by simp; omega)) ee ⟨st.i,q1,rfl⟩ λh' kk=>⟨rfl,?_⟩
  refine I.turnedL (t':=s.toks) (ch:=[e,it]) hf λc o hc e=>?_
  simp only [TM,bJ,or_false,not_or] at hc
  exact kk c o hc.2 e
 self:=λA i s Q E st h=>by
  obtain⟨old,ee⟩:=st.e
  exact wpAny_pyIter_enum ee h
section
variable {X:Cx}{e1:Expr}{es:List Expr}{j:Nat}{tpos p pos:Pos}{te:TE}
noncomputable def ZF(K:Frag)(te:TE):TI:=λσ H R=>te σ H λv H1=>∃κ a xs,v=.ref a/\SqK κ K H1 a xs/\R (YZ K κ a xs) H1
theorem U6(hg:Gl X "enumerate")(hm:X.mg "enumerate"=none)(he:PE X e1 te)(hs:autoParam (starEach [e1] X.env=[(false,eval e1 X.env)]) zau3._auto_1) :
  PI X (.Tuple es j tpos) (.Call (.Name "enumerate" p) [e1] [] pos) (ZF X.K te):=by
 intro pins s σ H R I h
 refine cb (CV I hg hm boot_enumerate ?_)
 refine cA ?_ hs rfl
 rw [hs]
 refine c5 (thn (he pins s σ H _ I h) λu s1 ⟨x,H1,I1,r1,κ,a,xs,ex,hq,q⟩=>dr ?_)
 subst ex
 cases r1
 obtain⟨us,r1',q1⟩:=hq.at I1
 have la:a<s1.heap.objs.size:=by obtain⟨o,e⟩:=q1.lies; exact Tk e
 refine J0 q1 λh' hz hi hk=>?_
 refine wpAny_pyIter_enum hz ?_
 refine⟨s1.heap.objs.size+1,[s1.heap.objs.size+1,s1.heap.objs.size],_,YZ X.K κ a xs,H1,rfl,I1.kept (t':=s1.toks) hk,QU κ _ _ a xs (by show (_:Nat)≠(_:Nat); omega) (bK (cy la)) (bK la),⟨⟨_,hz⟩,hi⟩,λc hc=>?_,q⟩
 have hge:s1.heap.objs.size<=c:=by
  simp only [TM,bJ,or_false] at hc
  rcases hc with rfl | rfl
  ·exact cY _
  ·exact Op _
 exact I1.fpOk hge (I1.hok.fresh hge)
end
end L2
namespace Dp
open PySem PySem.Spec PyProof.Rows L2
noncomputable def DL:Nat->List D->List D
 | _,[]=>[]
 | k,x::r=>.tup [.int (k:Int),x]::DL (k+1) r
theorem G4:∀(k:Nat) (ds:List D),(DL k ds).length=ds.length
 | _,[]=>rfl
 | k,x::r=>by show (DL (k+1) r).length+1=r.length+1; rw [G4 (k+1) r]
theorem G5:∀(k:Nat) (ds:List D) (i:Nat),(DL k ds)[i]?=(ds[i]?).map λx=>.tup [.int ((k+i:Nat):Int),x]
 | _,[],i=>by simp [DL]
 | k,x::r,0=>rfl
 | k,x::r,i+1=>by
  show (DL (k+1) r)[i]?=(r[i]?).map _
  rw [G5 (k+1) r i,show k+1+i=k+(i+1) by omega]
section
variable {K:Frag}
theorem NT{M:Addr->Prop}{H:Hp}{κ:Bool}{a:Addr}{vs:List V}{ds:List D}(hs:Ats K M H ds vs){i:Nat}{M':Addr->Prop}{H':Hp}(pr:Pres M H M' H')(h1:SqK κ K H' a vs)(dom:∀a,M' a->∃o,H' a=some o) :
  (∀d,(DL 0 ds)[i]?=some d->(YZ K κ a vs).go i H'/\∀x H2,(YZ K κ a vs).yld i H' x H2->Grow H' H2/\At K M' H2 d x)/\((DL 0 ds).length<=i->(YZ K κ a vs).stop i H'):=by
 have l1:=hs.length
 refine⟨λd hd=>?_,λhl=>⟨h1,by rw [G4] at hl; omega⟩⟩
 rw [G5,Nat.zero_add] at hd
 cases q1:ds[i]? with
 | none=>rw [q1] at hd; cases hd
 | some d1 =>
  rw [q1] at hd
  have hd':D.tup [.int (i:Int),d1]=d:=UF hd
  have i1:i<ds.length:=(TW.mp q1).1
  refine⟨⟨h1,by omega⟩,λx H2 y=>?_⟩
  obtain⟨T,p,rfl,hT,rfl,e1⟩:=y
  obtain⟨v1,f1,a1⟩:=(hs.pres pr).get q1
  rw [e1] at f1
  cases f1
  subst hd'
  exact⟨Al hT,B9 dom hT ⟨.int (i:Int),[p],rfl,rfl,p,[],rfl,a1,rfl⟩⟩
end
section
variable {X:Cx}{e1:Expr}{es:List Expr}{j:Nat}{tpos p pos:Pos}{κ:Kd}{wa:DW}
noncomputable def Rx(wa:DW):Et:=λn ρ P=>wa n ρ λd n1=>∃xs,FL d=some xs/\P (DL 0 xs) n1
theorem Pz(hg:Gl X "enumerate")(hm:X.mg "enumerate"=none)(h:DE X e1 κ wa)(hk:autoParam (κ≠.tp) zau5._auto_1)(hs:autoParam (starEach [e1] X.env=[(false,eval e1 X.env)]) zau3._auto_1) :
  DI X (.Tuple es j tpos) (.Call (.Name "enumerate" p) [e1] [] pos) (Rx wa):=by
 obtain⟨t,a1,a2⟩:=h
 refine⟨_,U6 hg hm a1 hs,λC M H n ρ σ P Rr R w q=>?_⟩
 refine a2 C M H n ρ σ _ _ R w λv H1 d n1 ee f1 r1 p=>?_
 obtain⟨xs,hd,p⟩:=p
 obtain⟨κ1,a,us,rfl,h1,s1⟩:=OA (r1.shOf R.dom hk) hd
 exact⟨κ1,a,us,rfl,s1 M H1 (Pres.refl _ _),q _ H1 _ n1 ee f1 (λi M' H' pr dom=>NT h1 pr (s1 M' H' pr) dom) p⟩
end
section
variable {X:Cx}{κ κe:Kd}{tg e:Expr}{b:BW}{we:DW}{pos p apos cpos:Pos}{x:Str}{i:Nat}
end
noncomputable def K4:Aa:=λ_ _ _=>False
section
variable {X:Cx}{κ κe:Kd}{e:Expr}{st:Stmt}{we:DW}{pos p apos cpos:Pos}{x:Str}{i:Nat}
theorem NX:DS X κ st K4:=⟨λ_ _ _=>False,λ_ _ _ _ _ _ h=>h.elim,λ_ _ _ _ _ _ _ _ _ _ w=>w⟩
end
section
variable {X:Cx}{κe:Kd}{tg elt iter:Expr}{ifs:List Expr}{sc:Scope}{pos:Pos}{src:Et}{b:BW}{tt:Hm}{te:DW}
end
end Dp
namespace Nt
open PySem PySem.Spec PyProof.Rows L2 Dp
noncomputable def thn(N:Net)(ts:List Ag):Prop:=(∀t∈ts,t∈N.ts)/\ts.Pairwise BG
noncomputable def TN(N:Net)(ts:List Ag):List Ag:=N.ts.filter λt=>decide (t∉ts)
noncomputable abbrev Hd(w:List Str):D:=.tup (w.map .str)
noncomputable def W3(t b:Int):Prop:=1<=b/\b<=1000000/\1<=t/\t<=1000000
noncomputable def Eg(k:Nat)(M:Net)(a b:Str)(w:List Str)(d:Int):Prop:=(∃r,w=a::r)/\w.getLast?=some b/\walk M w d/\w.length<=k/\∀x∈w,x∈M.ps
noncomputable abbrev walked:=Eg 1000
noncomputable def PapOkK(k:Nat)(M:Net)(t b:Int):List Ag->List (List Str)->Prop
 | [],[]=>True
 | u::us,w::ws=>(∃d,Eg k M u.a u.b w d/\d*b<=u.len*t)/\PapOkK k M t b us ws
 | _,_=>False
noncomputable abbrev Nv:=PapOkK 1000
noncomputable def QK:W2:=λss n P=>∃(M:Net) (a b:Str) (w:List Str) (d:Int),ss=[.sh (BL M),.sh (.str a),.sh (.str b),.sh (Hd w)]/\okN M/\walked M a b w d/\P (.int d) n
noncomputable def Gd:W2:=λss n P=>∃(M:Net) (t b:Int) (u:Ag) (w:List Str) (d:Int),ss=[.sh (BL M),.sh (.tup [.int t,.int b]),.sh (Aj u),.sh (Hd w)]/\okN M/\W3 t b/\walked M u.a u.b w d/\d*b<=u.len*t/\P .non n
noncomputable def Ms(k:Nat)(N:Net)(ts:List Ag)(t b:Int)(ws:List (List Str)):Prop:=∀lo:List Ag,lo.Perm (TN N ts)->C7 lo->PapOkK k ⟨N.ps,ts⟩ t b lo ws
noncomputable abbrev PX:=Ms 1000
noncomputable def Ds:W2:=λss n P=>∃(N:Net) (ts:List Ag) (t b:Int) (ws:List (List Str)),ss=[.sh (BL N),.sh (.tup [.int t,.int b]),.sh (BL ⟨N.ps,ts⟩),.sh (.tup (ws.map Hd))]/\okN N/\N.ps.length<=24/\thn N ts/\W3 t b/\PX N ts t b ws/\P (.bl true) n
noncomputable def Gb:W2:=λss n P=>∃(N:Net) (ts:List Ag) (t b:Int),ss=[.sh (BL N),.sh (.tup [.int t,.int b]),.sh (BL ⟨N.ps,ts⟩)]/\okN N/\thn N ts/\W3 t b /\
 (∀ws,Ms 30 N ts t b ws->(∀u∈TN N ts,EN ⟨N.ps,ts⟩ t b u)->P (.tup (ws.map Hd)) n)/\((∃u∈TN N ts,¬EN ⟨N.ps,ts⟩ t b u)->P .non n)
noncomputable def QA(N:Net)(ts:List Ag)(t b:Int):Prop:=∀u∈N.ts,EN ⟨N.ps,ts⟩ t b u
noncomputable def Cb:Aa:=(Ai (BA 4 (AV UY (AB (AH (AC 0)) (AB (AH (AC 3)) AW))))
 (Ai (Bp (IJ (Am (Ad (Ey false) (AC 4) (wC D.non))) (IJ (Am (Ad (Rg true) (Ad BP (AC 3) (wC (D.int 0))) (AC 1))) (Am (Ad (Rg true) (Ad BP (AC 3) (Ww (wC (D.int 1)))) (AC 2))))) (A3 (wC D.non)) BI)
 (A3 (AC 4))))
noncomputable def FA:Aa:=(Ai (BA 4 (AV QK (AB (AH (AC 0)) (AB (AH (Ad BP (AC 2) (wC (D.int 0)))) (AB (AH (Ad BP (AC 2) (wC (D.int 1)))) (AB (AH (AC 3)) AW))))))
 (Ai (Bp (Am (Ad (Ey false) (AC 4) (wC D.non))) (A3 (wC (D.str "way"))) BI)
 (A3 (Yd (Am (AV Gc (AB (AH (AC 4)) (AB (AH (AC 1)) (AB (AH (Ad BP (AC 2) (wC (D.int 2)))) AW))))) (wC D.non) (wC (D.str "far"))))))
noncomputable def FD:Aa:=(Ai (Bp (IJ (D3 (Am (AV QF (AB (AH (AC 0)) (AB (AH (AC 2)) AW))))) (D3 (Am (AV Ea (AB (AH (Dy G3 (AE (AV HY (AB (AH (AC 0)) (AB (AH (AC 2)) AW))) Ae))) (AB (AH (AC 3)) AW)))))) K4 BI)
 (Ai (IK (Rx (AV HY (AB (AH (AC 0)) (AB (AH (AC 2)) AW)))) (Hl 2 (A8 (Ay 4) (A8 (Ay 5) Dv))) (Ai (BA 6 (AV Gd (AB (AH (AC 2)) (AB (AH (AC 1)) (AB (AH (AC 5)) (AB (AH (Ad BP (AC 3) (AC 4))) AW))))))
 (Bp (Am (Ad (Ey true) (AC 6) (wC D.non))) K4 BI)))
 (A3 (wC (D.bl true)))))
noncomputable def EV:Aa:=(Ai (BA 3 (Dt [some 2,some 1,none] (Cw (AV HY (AB (AH (AC 0)) (AB (AH (AC 2)) AW)))) (Ay 2) Fp (AV Fn (AB (AH (AC 0)) (AB (AH (AC 1)) (AB (AH (AC 2)) AW))))))
 (A3 (Yd (Am (Ad (Tq false) (wC D.non) (AC 3))) (wC D.non) (Dy CJ (AE (AC 3) Ae)))))
theorem QQ{N:Net}(ok:N.Ok){w:List Str}(hl:w.length<=1000)(h:∀x∈w,x∈N.ps):Xy (.tup (w.map .str)):=by
 obtain⟨a,b,c⟩:=Ef ok h
 exact⟨a,by show Jh (w.map .str)<=60000; omega,by show Gi (w.map .str)+1<=50; omega⟩
theorem thn.okN{N:Net}(okn:okN N){ts:List Ag}(h:thn N ts):okN ⟨N.ps,ts⟩:=⟨SG okn.1 h.1 h.2,okn.2.1,by
 have:=sub_len (B3 h.2) (B3 okn.1.trise) h.1
 have:=okn.2.2
 show ts.length<=60
 omega⟩
theorem thn.thinB{N:Net}{ts:List Ag}(h:thn N ts):thinB N (BL ⟨N.ps,ts⟩)=true:=thinB_iff.mpr ⟨ts,rfl,h.1,h.2⟩
theorem PapOkK.len{k:Nat}{M:Net}{t b:Int}:∀{us:List Ag} {ws:List (List Str)},PapOkK k M t b us ws->ws.length=us.length
 | [],[],_=>rfl
 | u::us,w::ws,h=>by rw [XV,XV,PapOkK.len h.2]
theorem JC{N:Net}(ok:N.Ok){s x:Str}:∀(k:Nat) (d:Int),d.toNat<=k->Wk N s x d->∃e,Least N s x e/\e<=d
 | k,d,hk,h=>by
  by_cases c:∃d',Wk N s x d'/\d'<d
  ·obtain⟨d',h',lt⟩:=c
   have p':=h'.pos ok
   match k with
   | 0=>omega
   | k+1 =>
    obtain⟨e,he,hle⟩:=JC ok k d' (by omega) h'
    exact⟨e,he,by omega⟩
  ·exact⟨d,⟨h,λd' h'=>fE λz=>c ⟨d',h',by omega⟩⟩,ca _⟩
theorem TD{N:Net}(okn:okN N){ts:List Ag}(h:thn N ts){t b:Int}(bt:b<=t)(b0:1<=b){u:Ag}(hu:u∈ts):EN ⟨N.ps,ts⟩ t b u:=by
 have okm:=h.okN okn
 have ed:=(GG (N:=⟨N.ps,ts⟩) hu).1
 have hw:Wk ⟨N.ps,ts⟩ u.a u.b (0+u.len):=.snoc .nil ed
 rw [cK] at hw
 obtain⟨e,he,hle⟩:=JC okm.1 _ _ (Op _) hw
 have lp:=(ed.pos okm.1).1
 refine⟨e,he,?_⟩
 have h1:e*b<=u.len*b:=gD hle (by omega)
 have h2:u.len*b<=u.len*t:=eV bt (by omega)
 omega
theorem Oe{M:Net}(okm:okN M){a b:Str}{w:List Str}{d:Int}(h:walked M a b w d):Xi M (Hd w)=.int d:=by
 obtain⟨⟨r,rfl⟩,_,hw,_,hin⟩:=h
 exact Pe okm.1 (hin _ No) hw
section
variable {ss:List Slot}{n:Nat}{Pd:D->Nat->Prop}
theorem Eu(h:QK ss n Pd):Cb (EE Pd) n (ss++Uf 1 .no):=by
 obtain⟨M,a,b,w,d,rfl,okm,hw,p⟩:=h
 have e:=Oe okm hw
 obtain⟨⟨r,rfl⟩,hl,hwk,h30,hin⟩:=hw
 unfold Cb
 refine⟨M,Hd (a::r),rfl,okm.1,by have:=okm.2.1; omega,okm.2.2,QQ okm.1 h30 hin,?_⟩
 rw [e]
 refine⟨rfl,.str a,AQ (j:=0) rfl,?_⟩
 refine Cg (λc=>absurd c (by simp)) λ_=>?_
 refine⟨1,rfl,.str b,VM hl,?_⟩
 refine Cg (λc=>absurd c (by simp)) λ_=>?_
 exact p
theorem Ig(h:Gd ss n Pd):FA (EE Pd) n (ss++Uf 1 .no):=by
 obtain⟨M,t,b,u,w,d,rfl,okm,⟨b1,b2,t1,t2⟩,hw,hle,p⟩:=h
 unfold FA
 refine⟨_,AQ (j:=0) rfl,_,AQ (j:=1) rfl,M,u.a,u.b,w,d,rfl,okm,hw,⟨rfl,?_⟩⟩
 refine⟨_,AQ (j:=2) rfl,d,t,b,u.len,rfl,b1,b2,t1,t2,?_⟩
 rw [decide_eq_true hle]
 exact p
theorem Ii(h:Ds ss n Pd):FD (EE Pd) n (ss++Uf 3 .no):=by
 obtain⟨N,ts,t,b,ws,rfl,okn,l24,ht,tm,hp,p⟩:=h
 have okm:=ht.okN okn
 have l60:=okn.2.2
 have sz:=XB okm
 have szl:=PySem.sizeLine_eq
 unfold FD
 refine⟨N,BL ⟨N.ps,ts⟩,rfl,okn.1,l24,l60,(RH (by decide) _).1 _ (Op _) sz.1,by have:=sz.2.1; omega,by have:=sz.2.2; omega,?_⟩
 show if (!thinB N (BL ⟨N.ps,ts⟩))=true then _ else _
 rw [ht.thinB]
 refine GC ⟨N,ts,rfl,okn.1,by omega,ht.1,λlo p1 p2=>⟨_,_,rfl,rfl,?_⟩⟩
 have hlen:=(hp lo p1 p2).len
 refine⟨_,_,rfl,?_⟩
 show if (!(((ws.map Hd).length:Int)==((lo.map Aj).length:Int)))=true then _ else _
 rw [FM,FM,hlen,beq_self_eq_true]
 refine GC ⟨N,ts,rfl,okn.1,by omega,ht.1,λlo p1 p2=>⟨_,rfl,?_⟩⟩
 have pap:=hp lo p1 p2
 have go:∀(us:List Ag) (ws1 ws2:List (List Str)) (s4 s5 s6:Slot),ws1++ws2=ws->Nv ⟨N.ps,ts⟩ t b us ws2 ->
   DD (Hl 2 (A8 (Ay 4) (A8 (Ay 5) Dv))) (Ai (BA 6 (AV Gd (AB (AH (AC 2)) (AB (AH (AC 1)) (AB (AH (AC 5)) (AB (AH (Ad BP (AC 3) (AC 4))) AW))))))
 (Bp (Am (Ad (Ey true) (AC 6) (wC D.non))) K4 BI)) { EE Pd with nx:=A3 (wC (D.bl true)) (EE Pd) } (DL ws1.length (us.map Aj)) n [.sh (BL N),.sh (.tup [.int t,.int b]),.sh (BL ⟨N.ps,ts⟩),.sh (.tup (ws.map Hd)),s4,s5,s6]:=by
  intro us
  induction us with
  | nil=>intro ws1 ws2 s4 s5 s6 _ _; exact p
  | cons u us ih =>
   intro ws1 ws2 s4 s5 s6 e hk
   match ws2,hk with
   | w::ws2,⟨⟨d,hw,hle⟩,hk⟩ =>
    have hat:(ws.map Hd)[ws1.length]?=some (Hd w):=by rw [← e,T0,cS (Op _),fL]; rfl
    refine⟨rfl,rfl,_,AQ hat,⟨N.ps,ts⟩,t,b,u,w,d,rfl,okm,tm,hw,hle,⟨rfl,?_⟩⟩
    have:=ih (ws1++[w]) ws2 (.sh (.int (ws1.length:Int))) (.sh (Aj u)) (.sh .non) (by rw [cW]; exact e) hk
    rw [bD,bW] at this
    exact this
 exact go lo [] ws _ _ _ rfl pap
noncomputable def Ra(M:Net)(t b:Int):List Ag->List (Option (List Str))->Prop
 | [],[]=>True
 | u::us,o::os=>((∀w,o=some w->Way M u.a u.b (some w)/\F7 M t b u=true)/\(o=none->F7 M t b u=false))/\Ra M t b us os
 | _,_=>False
theorem Mu{M:Net}{t b:Int}:∀{us:List Ag} {os:List (Option (List Str))},Ra M t b us os->(∃ws,os=ws.map some/\PapOkK 30 M t b us ws/\∀u∈us,EN M t b u)\/(os.any ir=true/\∃u∈us,¬EN M t b u)
 | [],[],_=>.inl ⟨[],rfl,trivial,λu hu=>by cases hu⟩
 | u::us,none::os,h=>.inr ⟨rfl,u,No,λz=>by
  have:=h.1.2 rfl
  rw [nearB_iff.mpr z] at this
  cases this⟩
 | u::us,some w::os,h=>by
  obtain⟨hw,hn⟩:=h.1.1 w rfl
  have hn:=nearB_iff.mp hn
  rcases Mu h.2 with ⟨ws,rfl,h1,h2⟩ | ⟨h1,v,h2,h3⟩
  ·refine .inl ⟨w::ws,rfl,⟨?_,h1⟩,λv hv=>?_⟩
   ·obtain⟨d,r,e1,e2,e3,e4,e5,e6⟩:=hw
    obtain⟨d',f1,f2⟩:=hn
    exact⟨d,⟨⟨r,e1⟩,e2,e3,e5,e6⟩,by rw [Least.unique e4 f1]; exact f2⟩
   ·rcases TM.mp hv with e | hv
    ·rw [e]; exact hn
    ·exact h2 v hv
  ·exact .inr ⟨by rw [e8,h1,Bool.or_true],v,Rs _ h2,h3⟩
theorem P8:∀os:List (Option (List Str)),((os.map FY).any λy=>H_ y .non)=os.any ir
 | []=>rfl
 | none::os=>rfl
 | some w::os=>by
  rw [bE,e8,e8,P8 os]
  rfl
theorem Of{M:Net}(ok:M.Ok){t b:Int}:∀{us:List Ag} {os:List (Option (List Str))},Ra M t b us os->E7 0 (os.map FY)/\Gi (os.map FY)<=1
 | [],[],_=>⟨trivial,bH _⟩
 | u::us,none::os,h=>by
  obtain⟨h1,h2⟩:=Of ok h.2
  exact⟨⟨trivial,h1⟩,by show max 0 (Gi (os.map FY))<=1; omega⟩
 | u::us,some w::os,h=>by
  obtain⟨h1,h2⟩:=Of ok h.2
  obtain⟨d,r,e1,e2,e3,e4,e5,e6⟩:=(h.1.1 w rfl).1
  obtain⟨f1,_,f3⟩:=Ef (B:=0) ok e6
  exact⟨⟨f1,h1⟩,by show max (Gi (w.map .str)+1) (Gi (os.map FY))<=1; omega⟩
theorem Hf(h:Gb ss n Pd):EV (EE Pd) n (ss++Uf 1 .no):=by
 obtain⟨N,ts,t,b,rfl,okn,ht,⟨b1,b2,t1,t2⟩,p,q⟩:=h
 have okm:=ht.okN okn
 have l60:=okn.2.2
 unfold EV
 refine⟨N,ts,rfl,okn.1,by omega,ht.1,λlo p1 p2=>?_⟩
 have hlo:lo.length<=60:=by rw [p1.length_eq]; exact bS (c7 _ _) l60
 refine⟨by show (lo.map Aj).length<=10000000; rw [FM]; omega,?_⟩
 have go:∀(P:List D->Nat->Prop),(∀os,Ra ⟨N.ps,ts⟩ t b lo os->P (os.map FY) n)->∀(rest:List Ag) (acc:List D) (s:Slot),(∀u∈rest,u∈N.ts)->(∀os,Ra ⟨N.ps,ts⟩ t b rest os->P (acc++os.map FY) n) ->
   DF (Ay 2) Fp (AV Fn (AB (AH (AC 0)) (AB (AH (AC 1)) (AB (AH (AC 2)) AW)))) P (rest.map Aj) acc n [.sh (BL ⟨N.ps,ts⟩),.sh (.tup [.int t,.int b]),s]:=by
  intro P hP rest
  induction rest with
  | nil =>
   intro acc s _ h
   have:=h [] trivial
   rw [eY,bh] at this
   exact this
  | cons u rest ih =>
   intro acc s hu h
   obtain⟨m1,m2,_⟩:=okn.1.tin u (hu u No)
   refine⟨⟨N.ps,ts⟩,u,t,b,rfl,okm,m1,m2,b1,b2,t1,t2,λo h1 h2=>?_⟩
   refine ih (acc++[FY o]) _ (λv hv=>hu v (Rs _ hv)) λos hos=>?_
   have:=h (o::os) ⟨⟨h1,h2⟩,hos⟩
   rw [cW]
   exact this
 have fin:∀os,Ra ⟨N.ps,ts⟩ t b lo os->(A3 (Yd (Am (Ad (Tq false) (wC D.non) (AC 3))) (wC D.non) (Dy CJ (AE (AC 3) Ae)))) (EE Pd) n [.sh (BL N),.sh (.tup [.int t,.int b]),.sh (BL ⟨N.ps,ts⟩),.sh (.lst (os.map FY))]:=λos hos=>by
  obtain⟨f1,f2⟩:=Of okm.1 hos
  refine⟨⟨rfl,rfl,bH _⟩,G0 (B:=0) (by decide) f1 (by show Gi (os.map FY)+1<=100; omega),_,rfl,?_⟩
  show if ((os.map FY).any λy=>H_ y .non)=true then _ else _
  rw [P8]
  rcases Mu hos with ⟨ws,rfl,h1,h2⟩ | ⟨h1,u,hu,hn⟩
  ·have e1:(ws.map some).any ir=false:=by
    rw [eX]
    intro z
    obtain⟨o,ho,z⟩:=cr.mp z
    obtain⟨w,_,rfl⟩:=ZB.mp ho
    cases z
   rw [e1]
   have e2:(ws.map some).map FY=ws.map Hd:=by rw [dY]; rfl
   refine GC ?_
   show Pd (.tup ((ws.map some).map FY)) n
   rw [e2]
   refine p ws (λlo' p3 p4=>?_) λu hu=>h2 u (p1.mem_iff.mpr hu)
   rw [EJ (p3.trans p1.symm) p4 p2]
   exact h1
  ·rw [h1]
   exact JH (q ⟨u,p1.mem_iff.mp hu,hn⟩)
 exact go _ fin lo [] _ (λu hu=>(cB.mp (p1.mem_iff.mp hu)).1) λos hos=>by rw [cD]; exact fin os hos
theorem Hs{N:Net}(okn:okN N){ts:List Ag}(h:ts.Sublist N.ts):thn N ts:=⟨λt ht=>h.subset ht,okn.1.trise.sublist h⟩
end
end Nt
namespace L2
open PySem PySem.Spec PyProof.Rows
open PySem.AutoSeq1 (wpAny_loadPart')
theorem Uo{prog:Program}{w:World}{A:Around}{R:Result->Shared->Prop}{s:Shared}(t:Addr)(items:Array Value)(n:Nat)(x:Value)(e:Value->Bool)(j:Nat)(hj:j<items.size)(hit:e items[j]=true)(hno:∀m (hm:m<items.size),m<j->e items[m]=false)
  (hl:s.heap.get? t=some { cls:=.type "tuple",dict:=none,data:=.seq items n,slots:=#[] }) (he:∀y,y∈items->PySem.SeqAt.EqAt A.in1 s y x (e y))
  (h:R (.ok (.ret (.int (j:Int) s.toks))) { s with toks:=s.toks+1 }) :
  wpAny (model prog w) A.in1 (Builtin.«tuple.index» ⟨[.ref t,x],[]⟩) (λfin s'=>match fin with | .done f=>R (.ok f) s' | .again c'=>c'.quiet=true/\codeAny (model prog w) A c' R s') (λe s'=>R (.error e) s') s:=by
 obtain⟨hp,g,d,tk,os⟩:=s
 wp_walk using cN hl
 have go:∀(Q:Option _×Unit->Shared->Prop) (E:Value->Shared->Prop),(∀r,Q (some r,()) ⟨hp,g,d,tk+1,os⟩\/True)->∀(k i:Nat),i<=j->i+k=items.size ->
   (∀r:Fin,r=.done (.ret (.int (j:Int) tk))->Q (some r,()) ⟨hp,g,d,tk+1,os⟩) ->
   wpAny (model prog w) A.in1 (forIn (List.range' i k 1) ((none:Option Fin),()) (fun(i:Nat) __s=>match items[i]? with
      | some y=>do
       let __do_lift ← eqBool y x
       if __do_lift=true then do
         let __do_lift ← retInt (i:Int)
         pure (ForInStep.done (some __do_lift,()))
        else pure (dA (none,()))
      | x=>pure (dA (none,())))) Q E ⟨hp,g,d,tk,os⟩:=by
  intro Q E _ k
  induction k with
  | zero=>intro i h1 h2; omega
  | succ k ih =>
   intro i h1 h2 hQ
   have hlt:i<items.size:=by omega
   rw [List.range'_succ,df]
   have hi:items[i]?=some items[i]:=c_ hlt
   simp only [hi]
   refine Ch (Ch (he _ (gt hlt) prog w _ _ ?_))
   by_cases c:i=j
   ·subst c
    rw [hit]
    wp_walk
    exact hQ _ rfl
   ·rw [hno i hlt (by omega)]
    wp_walk
    exact ih (i+1) (by omega) (by omega) hQ
 show wpAny (model prog w) A.in1 (forIn [:min items.size items.size] ((none:Option Fin),()) _) _ _ _
 rw [Std.Legacy.Range.forIn_eq_forIn_range']
 have er:List.range' (Std.Legacy.Range.start [:min items.size items.size]) (ic [:min items.size items.size]) (Std.Legacy.Range.step [:min items.size items.size])=List.range' 0 items.size 1:=by
  simp [ic]
 rw [er]
 refine go _ _ (λ_=>.inr trivial) items.size 0 (bH _) (Nat.zero_add _) λr er=>?_
 subst er
 exact Go h
section
variable {X:Cx}
noncomputable def XG:V->List V->Hp->VK->Prop:=λx vs H Q=>∃(a:Addr) (xs:List V) (y:V) (ds:List PyData) (d:PyData) (j:Nat),x=.ref a/\vs=[y]/\H a=some (.tup xs)/\RVs H ds xs/\RV H d y/\dG ds=true/\d.canLay0=true/\d.depth<=100 /\
 (∃dj,ds[j]?=some dj/\cE dj d=true)/\(∀m dm,m<j->ds[m]?=some dm->cE dm d=false)/\Q (.int (j:Int)) H
theorem Le{k:Nat}(hr:Room k X.A):Zg X "tuple.index" XG:=by
 intro pins s σ H x vs v us Q I rx rv h
 obtain⟨l,xs,y,ds,d,j,rfl,rfl,hH,hds,hd,c1,c2,dd,⟨dj,hj,hit⟩,hno,q⟩:=h
 cases rx
 obtain⟨u,rfl,ru⟩:=rv.one
 obtain⟨z,its,r,⟨⟨cls,dt,data,sl⟩,e,e2,n,e3,e4,e5⟩⟩:=(show ObjOk X.prog X.w H s.heap l (.tup xs) from I.hok l _ hH)
 simp only at e2 e3 e4 e5
 subst e2 e3 e4 e5
 obtain⟨as,ra⟩:=RVs.reads I hds r
 obtain⟨bs,rb⟩:=RV.reads I hd ru
 have hm:=PySem.SeqAt.readsAll_map ds its as c1 ra
 have hlen:ds.length=its.length:=by rw [← hm,FM]
 have hu:=hr.un
 have hmin:min (cZ ds) d.depth<=d.depth:=eg _ _
 have at_:∀m dm,ds[m]?=some dm->∀(h:m<its.toArray.size),PySem.SeqAt.readOf s.heap its.toArray[m]=dm:=λm dm e h=>by
  rw [← hm,T0] at e
  have h':m<its.length:=by simpa using h
  rw [Db h'] at e
  have e:=UF e
  simpa using e
 have hjl:j<its.length:=by rw [← hlen]; exact(TW.mp hj).1
 have key:=Uo (prog:=X.prog) (w:=X.w) (A:=X.A) (R:=wants (EP X pins σ Q) X.xe) l its.toArray n u (λy=>cE (PySem.SeqAt.readOf s.heap y) d) j (by rw [Re]; exact hjl) (by rw [at_ j dj hj]; exact hit) (λm hm' hlt=>by
  have hml:m<ds.length:=by rw [hlen]; simpa using hm'
  rw [at_ m ds[m] (Db hml) hm']
  exact hno m ds[m] hlt (Db hml)) e (PySem.SeqAt.items_eqAt (vs:=its.toArray) (by rw [fC]; exact ra) rb c1 c2 (by omega)) ⟨.int j,H,I.tok _,⟨_,rfl⟩,q⟩
 exact wpAny_call (codeAny_call_builtin PySem.F.slot_tuple_index.plain PySem.F.entry_tuple_index (PySem.F.slot_tuple_index.check _ _ _ _ _ _ _ _ ⟨_,e,rfl⟩ (PySem.F.args_tuple_index_2 _ _) key))
noncomputable def Yj(r:V->List V->Hp->VK->Prop)(to:TE)(t:TA):TE:=λσ H Q=>to σ H λx H1=>(∃a xs,x=.ref a/\H1 a=some (.tup xs))/\t σ H1 λxs H2=>r x xs H2 Q
theorem LO{o e:Expr}{es:List Expr}{to:TE}{t:TA}{name:Str}{apos cpos:Pos}{id:String}{r:V->List V->Hp->VK->Prop}(slot:Slot "tuple" name id)(hty:typeOf (.builtin id)=pure (.type "method_descriptor"))(hm:Zg X id r)(ho:PE X o to)(ha:PA X (e::es) t)
  (hbase:autoParam (attributeBase o name X.env (eval o X.env)=eval o X.env) zau3._auto_1)
  (hfew:autoParam (((backTo cpos (starEach (e::es) X.env)).all (λx=>!x.1)&&(backToKw cpos (keywordEach [] X.env)).all (λx=>x.1.isSome)
   && decide ((e::es).length+([]:List Keyword).length+(if ([]:List Keyword).isEmpty then 0 else 1)<30))=true) zau3._auto_1)
  (hline:autoParam ((apos.endLine==cpos.line)=true) zau3._auto_1) (hs:autoParam (starEach (e::es) X.env=(false,eval e X.env)::starEach es X.env) zau3._auto_1) (hplain:autoParam ((backTo cpos (starEach es X.env)).any (·.1)=false) zau3._auto_1) :
  PE X (.Call (.Attribute o name apos) (e::es) [] cpos) (Yj r to t):=by
 intro pins s σ H Q I h
 refine wpAny_Call_method_late hbase hfew hline rfl (thn (ho pins s σ H _ I h) λv s1 ⟨x,H1,I1,r1,⟨a,xs,ex,hx⟩,q1⟩=>?_)
 subst ex
 have ev:v=bT a:=r1
 subst ev
 obtain⟨z,its,_,o,e1,e2,n,e3,e4,e5⟩:=(show ObjOk X.prog X.w H1 s1.heap a (.tup xs) from I1.hok a _ hx)
 refine⟨"tuple",id,PySem.F.plainAttrs_tuple,slot,hty,⟨o,e1,e2⟩,λb eb=>by cases eb; exact⟨o,e1,e4⟩,?_⟩
 have hA:=ha cpos pins s1 σ H1 _ I1 q1
 rw [hs] at hA ⊢
 refine eR (by show (false||(backTo cpos (starEach es X.env)).any (·.1))=false; rw [hplain] <;> rfl) (f8 ?_)
 exact thn hA λus s2 ⟨vs,H2,I2,r2,q2⟩=>hm pins s2 σ H2 (.ref a) vs (.ref a) us Q I2 r1 r2 q2
end
end L2
namespace Dp
open PySem PySem.Spec PyProof.Rows L2
section
variable {X:Cx}{κa:Kd}{a e:Expr}{es:List Expr}{wa:DW}{ws:Et}
end
section
variable {X:Cx}{pos:Pos}
end
end Dp
namespace L2
open PySem PySem.Spec PyProof.Rows
section
variable {X:Cx}
end
end L2
namespace Dp
open PySem PySem.Spec PyProof.Rows L2
section
variable {X:Cx}{a tg:Expr}{κa:Kd}{wa:DW}
mutual
theorem At.frz{K:Frag}{M:Addr->Prop}{H:Hp}{a:Addr}{f:Addr->Obj}{kvs:List (Key×V)}(ha:H a=some (.dK kvs)):∀{d:D} {v:V},F5 d=true->At K M H d v->At K M (Fg H [a] f) d v
 | .non,v,_,h=>h
 | .bl b,v,_,h=>h
 | .int i,v,_,h=>h
 | .str x,v,_,h=>h
 | .tup ds,v,hn,h=>by
  obtain⟨b,vs,e,n2,hs⟩:=h
  refine⟨b,vs,e,?_,Ats.frz ha hn hs⟩
  unfold NdT at n2 ⊢
  rw [DJ λz=>by rw [On.mp z,ha] at n2; cases n2]
  exact n2
 | .lst ds,v,hn,h=>by
  obtain⟨b,vs,e,⟨n1,n2⟩,hs⟩:=h
  refine⟨b,vs,e,⟨n1,?_⟩,Ats.frz ha hn hs⟩
  rw [DJ λz=>by rw [On.mp z,ha] at n2; cases n2]
  exact n2
 | .dic _ _,v,hn,h=>by cases hn
 | .fdi _ _,v,hn,h=>by cases hn
 | .dit _ _,v,hn,h=>by cases hn
theorem Ats.frz{K:Frag}{M:Addr->Prop}{H:Hp}{a:Addr}{f:Addr->Obj}{kvs:List (Key×V)}(ha:H a=some (.dK kvs)):∀{ds:List D} {vs:List V},CT ds=true->Ats K M H ds vs->Ats K M (Fg H [a] f) ds vs
 | [],vs,_,h=>h
 | d::ds,vs,hn,h=>by
  obtain⟨v,r,e,h1,h2⟩:=h
  have hn:(F5 d&&CT ds)=true:=hn
  rw [bL] at hn
  exact⟨v,r,e,At.frz ha hn.1 h1,Ats.frz ha hn.2 h2⟩
end
end
noncomputable def Ba:List (List Key)->List D->List Key->Option D
 | k0::ks,d::ds,k=>if k0=k then some d else Ba ks ds k
 | _,_,_=>none
noncomputable def NM:List D->Option (List Key)
 | []=>some []
 | d::ds=>match keyOf d,NM ds with
  | some k,some ks=>some (k::ks)
  | _,_=>none
noncomputable def keysOf:D->Option (List Key)
 | .tup ds=>NM ds
 | _=>none
section
variable {K:Frag}{X:Cx}
theorem Fs{M:Addr->Prop}{H:Hp}{k:List Key}:∀{ks:List (List Key)} {ds:List D} {vs:List V},Ats K M H ds vs ->
  match Ba ks ds k with
  | some z=>∃v,Bg (ks.zip vs) k=some v/\At K M H z v
  | none=>Bg (ks.zip vs) k=none
 | [],ds,vs,h=>by unfold Ba; exact rfl
 | k0::ks,[],vs,h=>by cases h; exact rfl
 | k0::ks,d::ds,vs,h=>by
  obtain⟨v,r,rfl,h1,h2⟩:=h
  have ih:=Fs (k:=k) (ks:=ks) h2
  unfold Ba
  by_cases e:k0=k
  ·rw [if_pos e]
   refine⟨v,?_,h1⟩
   show Bg ((k0,v)::ks.zip r) k=some v
   rw [DA e]
  ·rw [if_neg e]
   have:Bg ((k0,v)::ks.zip r) k=Bg (ks.zip r) k:=DB e
   rw [show (k0::ks).zip (v::r)=(k0,v)::ks.zip r from rfl,this]
   exact ih
theorem TU{M:Addr->Prop}{H:Hp}{d:D}{v:V}{k:Key}(e:keyOf d=some k)(h:At K M H d v):v=kV k:=by
 cases d with
 | int i=>cases e; exact h
 | str x=>cases e; exact h.1
 | _=>cases e
theorem NL{M:Addr->Prop}{H:Hp}:∀{ds:List D} {vs:List V} {ks:List Key},NM ds=some ks->Ats K M H ds vs->vs=ks.map kV
 | [],vs,ks,e,h=>by cases e; exact h
 | d::ds,vs,ks,e,h=>by
  obtain⟨v,r,rfl,h1,h2⟩:=h
  unfold NM at e
  cases c1:keyOf d with
  | none=>rw [c1] at e; cases e
  | some k =>
   cases c2:NM ds with
   | none=>rw [c1,c2] at e; cases e
   | some k2 =>
    rw [c1,c2] at e
    cases e
    rw [NL c2 h2,TU c1 h1]
    rfl
theorem DH{U M:Addr->Prop}{H:Hp}{d:D}{v:V}{k:List Key}(e:keysOf d=some k)(h:AtT K U M H d v):∃b,v=.ref b/\H b=some (.tup (k.map kV)):=by
 cases d with
 | tup ds =>
  obtain⟨a,vs,rfl,ha,hs⟩:=h.tup
  refine⟨a,rfl,?_⟩
  rw [← NL e hs]
  exact ha
 | _=>cases e
theorem JP{U M:Addr->Prop}{H:Hp}{x:V}{ks:List (List Key)}{ds:List D}(h:AtT K U M H (.dit ks ds) x):∃a vs,x=.ref a/\Rd H a (.dT (ks.zip vs))/\Ats K M H ds vs:=by
 obtain⟨a,vs,rfl,_,ha,_,hs⟩:=h
 exact⟨a,vs,rfl,.inl ha,hs⟩
theorem Ls{H:Hp}{a b:Addr}{kvs:List (List Key×V)}{k:List Key}(e:Rd H a (.dT kvs))(eb:H b=some (.tup (k.map kV))):DGet H a (.ref b) (Bg kvs k):=.inr ⟨kvs,k,b,e,rfl,eb,rfl⟩
noncomputable def ZK(neg:Bool)(e d:D)(P:D->Prop):Prop:=∃ks ds k,d=.dit ks ds/\keysOf e=some k/\P (.bl (if neg then !(Ba ks ds k).isSome else (Ba ks ds k).isSome))
noncomputable def NR(d e:D)(P:D->Prop):Prop:=∃ks ds k z,d=.dit ks ds/\keysOf e=some k/\Ba ks ds k=some z/\P z
theorem ZU:Ez K .sh Y7 (ZK false):=λU M H e d y x P Q dom vM hy hx w q=>by
 obtain⟨ks,ds,k,rfl,he,w⟩:=w
 obtain⟨a,vs,rfl,ha,hs⟩:=JP hx
 obtain⟨b,rfl,eb⟩:=DH he hy
 refine⟨a,Bg (ks.zip vs) k,rfl,Ls ha eb,q _ H (.bl _) .refl rfl ?_⟩
 have h:=Fs (k:=k) (ks:=ks) hs
 cases c:Ba ks ds k with
 | none=>rw [c] at h w; rw [show Bg (ks.zip vs) k=none from h]; exact w
 | some z=>rw [c] at h w; obtain⟨v,h1,_⟩:=h; rw [h1]; exact w
theorem YF:Ez K .sh PK NR:=λU M H d e x y P Q dom vM hx hy w q=>by
 obtain⟨ks,ds,k,z,rfl,he,hz,w⟩:=w
 obtain⟨a,vs,rfl,ha,hs⟩:=JP hx
 obtain⟨b,rfl,eb⟩:=DH he hy
 have h:=Fs (k:=k) (ks:=ks) hs
 rw [hz] at h
 obtain⟨v,h1,h2⟩:=h
 exact⟨a,v,rfl,by rw [← h1]; exact Ls ha eb,q v H z .refl h2 w⟩
variable {a b:Expr}{κa κb:Kd}{wa wb:DW}{pos:Pos}
theorem Lv{k:Nat}(hr:Room k X.A)(ha:DE X a κa wa)(hb:DE X b κb wb)(hs:autoParam (V8 b) zau6._auto_1):DE X (.Subscript a b pos) .sh (Ad NR wa wb):=by
 obtain⟨ta,ha1,ha2⟩:=ha
 obtain⟨tb,hb1,hb2⟩:=hb
 exact⟨Cd PK ta tb,Hw (HD hr) ha1 hb1 hs,λC M H n ρ σ P Q R w q=>Do YF ha2 hb2 C M H n ρ σ P Q R w q⟩
end
noncomputable def Ke(ks:List (List Key))(k:List Key):Bool:=ks.any λk0=>decide (k0=k)
theorem hasK_iffU{ks:List (List Key)}{k:List Key}:Ke ks k=true↔k∈ks:=by
 unfold Ke
 rw [cr]
 exact⟨fun⟨x,hx,e⟩=>by rw [← of_decide_eq_true e]; exact hx,λh=>⟨k,h,decide_eq_true rfl⟩⟩
noncomputable def Bm(ks:List (List Key))(k:List Key):List (List Key):=if Ke ks k=true then ks else ks++[k]
noncomputable def Bl{α:Type}(ks:List (List Key))(ds:List α)(k:List Key)(d:α):List α:=if Ke ks k=true then cz (λk0 d0=>if k0=k then d else d0) ks ds else ds++[d]
theorem UM{ks:List (List Key)}{vs:List V}(hl:ks.length=vs.length)(k:List Key):((ks.zip vs).any λkv=>decide (kv.1=k))=Ke ks k:=by
 rw [ci,cr,hasK_iffU]
 constructor
 ·rintro ⟨⟨a,b⟩,hm,e⟩
  have e:a=k:=of_decide_eq_true e
  rw [← e]
  exact(fD hm).1
 ·intro h
  obtain⟨i,hi,e⟩:=dC.mp h
  refine⟨(ks[i],vs[i]'(by omega)),?_,by rw [e]; exact decide_eq_true rfl⟩
  exact dC.mpr ⟨i,by rw [cq]; omega,by rw [iB]⟩
theorem Qg{ks:List (List Key)}{vs:List V}(hl:ks.length=vs.length)(k:List Key)(v:V):putK (ks.zip vs) k v=(Bm ks k).zip (Bl ks vs k v):=by
 unfold putK Bm Bl
 rw [UM hl]
 by_cases h:Ke ks k=true
 ·rw [if_pos h,if_pos h,if_pos h]
  have go:∀(ks:List (List Key)) (vs:List V),((ks.zip vs).map λkv=>if kv.1=k then (kv.1,v) else kv)=ks.zip (cz (λk0 d0=>if k0=k then v else d0) ks vs):=by
   intro ks
   induction ks with
   | nil=>intro vs; rfl
   | cons a ks ih =>
    intro vs
    cases vs with
    | nil=>rfl
    | cons b vs =>
     show (if a=k then (a,v) else (a,b))::_=(a,if a=k then v else b)::_
     exact List.cons_eq_cons.mpr ⟨by split <;> rfl,ih vs⟩
  exact go ks vs
 ·rw [if_neg h,if_neg h,if_neg h,List.zip_append hl]
  rfl
theorem Ats.putU{K:Frag}{M:Addr->Prop}{H:Hp}{k:List Key}{d:D}{v:V}(hd:At K M H d v):∀{ks:List (List Key)} {ds:List D} {vs:List V},Ats K M H ds vs->Ats K M H (cz (λk0 d0=>if k0=k then d else d0) ks ds) (cz (λk0 d0=>if k0=k then v else d0) ks vs)
 | [],ds,vs,h=>rfl
 | a::ks,[],vs,h=>by cases (show vs=[] from h); rfl
 | a::ks,e::ds,vs,h=>by
  obtain⟨u,r,rfl,h1,h2⟩:=h
  refine⟨_,_,rfl,?_,Ats.putU hd h2⟩
  show At K M H (if a=k then d else e) (if a=k then v else u)
  by_cases e1:a=k
  ·rw [if_pos e1,if_pos e1]; exact hd
  ·rw [if_neg e1,if_neg e1]; exact h1
theorem Ats.putXU{K:Frag}{M:Addr->Prop}{H:Hp}{k:List Key}{d:D}{v:V}{ks:List (List Key)}{ds:List D}{vs:List V}(hd:At K M H d v)(h:Ats K M H ds vs):Ats K M H (Bl ks ds k d) (Bl ks vs k v):=by
 unfold Bl
 split
 ·exact Ats.putU hd h
 ·exact h.append (Ats.one hd)
theorem Mi{α:Type}{ks:List (List Key)}{ds:List α}{k:List Key}{d:α}(hl:ks.length=ds.length):(Bm ks k).length=(Bl ks ds k d).length:=by
 unfold Bm Bl
 split
 ·rw [dL]; omega
 ·rw [bD,bD]; show ks.length+1=ds.length+1; omega
theorem FJ:∀{ks:List (List Key)} {ds:List D} {k:List Key},ks.length=ds.length->k∈ks->∃z,Ba ks ds k=some z
 | [],ds,k,_,h=>by cases h
 | a::ks,[],k,h,_=>by cases h
 | a::ks,d::ds,k,hl,h=>by
  unfold Ba
  by_cases e:a=k
  ·exact⟨d,if_pos e⟩
  ·rw [if_neg e]
   exact FJ (by simpa using hl) ((TM.mp h).resolve_left λz=>e z.symm)
section
variable {X:Cx}{a b e:Expr}{κ κa κb:Kd}{wa wb:DW}{pos pos':Pos}
noncomputable def Rz:DW:=λn _ P=>P (.dit [] []) n
theorem UD:DE X (.Dict [] [] pos) .fr Rz:=by
 refine⟨_,Sv,λC M H n ρ σ P Q R w q=>λp hp=>?_⟩
 have g:Grow H (As H p (.dT [])):=Al hp
 exact q _ _ (.dit [] []) n g.ext (R.feed.grow g) ⟨p,rfl,hp,[],AT,rfl,rfl⟩ w
noncomputable def WA(i:Nat)(wk wv:DW):Aa:=λD2 n ρ=>∃ks ds,ρ[i]?=some (.ow (.dit ks ds))/\wv n ρ λd n1=>wk n1 ρ λk n2=>∃key,keysOf k=some key/\ks.length<sizeLine/\D2.nx n2 (ρ.set i (.ow (.dit (Bm ks key) (Bl ks ds key d))))
theorem Vn{i k:Nat}{x:Expr}(hr:Room k X.A)(hx:PE X x (BJ i))(ha:DE X a κa wa)(hb:DE X b κb wb)(hk:autoParam (κb≠.tp) zau5._auto_1)
  (hs:autoParam (swapsWith b (some (.Subscript x a pos')) pos.line X.env=pure false) zau3._auto_1):DS X κ (.Assign [.Subscript x a pos'] b pos) (WA i wa wb):=by
 obtain⟨t,h1,h2⟩:=ha
 obtain⟨u,g1,g2⟩:=hb
 refine⟨_,Fz (HD hr) hx h1 g1 hs,λC M H n ρ σ D2 E R L w=>?_⟩
 obtain⟨ks,ds,hd,w⟩:=w
 refine g2 C M H n ρ σ _ _ R w λv H1 d n1 e1 f1 r1 p=>?_
 have R1:=R.step e1 f1
 obtain⟨ad,ea,m,nv,tt⟩:=R1.sl i _ hd
 refine⟨.ref ad,getD_some ea,?_⟩
 refine h2 C M H1 n1 ρ σ _ _ R1 p λy H2 kk n2 e2 f2 r2 p=>?_
 obtain⟨key,hkey,hlt,p⟩:=p
 have R2:=R1.step e2 f2
 obtain⟨ad',ea',m',nv',tt'⟩:=R2.sl i _ hd
 rw [ea] at ea'
 cases ea'
 obtain⟨vs,hH,hl,hs'⟩:=tt'
 have hat:At X.K M H2 d v:=(r1.shOf R.dom hk).pres (R1.pres e2)
 have hvl:ks.length=vs.length:=by rw [hl,hs'.length]
 obtain⟨b,rfl,eb⟩:=DH hkey (r2.tpOf R1.dom R1.vM)
 refine⟨ad,_,rfl,DPut.t hH eb (by rw [cq]; omega),L.nx M _ n2 _ σ (R2.mut (e:=.dit (Bm ks key) (Bl ks ds key d)) hd ea ⟨Bl ks vs key v,by rw [AT,Qg hvl],Mi hl,(hs'.putXU hat).pres (Co m' hH)⟩) p⟩
variable {apos cpos:Pos}{f:Expr}{κf:Kd}{wf:DW}
noncomputable def WB(wa wk wx:DW):DW:=λn ρ P=>wa n ρ λd n1=>∃ks ds,d=.dit ks ds/\wk n1 ρ λk n2=>wx n2 ρ λz n3=>∃key,keysOf k=some key/\P ((Ba ks ds key).getD z) n3
theorem Vx{k:Nat}(hr:Room k X.A)(ha:DE X a κa wa)(hb:DE X b κb wb)(hf:DE X f κf wf)(hk:autoParam (κf≠.tp) zau5._auto_1)(m:autoParam (M2 X a "get" apos b f cpos) zau8._auto_1):DE X (.Call (.Attribute a "get" apos) [b,f] [] cpos) .sh (WB wa wb wf):=by
 obtain⟨t,h1,h2⟩:=ha
 obtain⟨u,g1,g2⟩:=hb
 obtain⟨u2,k1,k2⟩:=hf
 refine⟨_,Sx (HD hr) h1 g1 k1 m,λC M H n ρ σ P Q R w q=>?_⟩
 refine h2 C M H n ρ σ _ _ R w λv H1 d n1 e1 f1 r1 p=>?_
 obtain⟨ks,ds,rfl,p⟩:=p
 have R1:=R.step e1 f1
 obtain⟨ad,vs,rfl,ha,hs⟩:=JP (r1.tpOf R.dom R.vM)
 refine⟨ad,rfl,.inr ⟨_,ha⟩,?_⟩
 refine g2 C M H1 n1 ρ σ _ _ R1 p λy H2 kk n2 e2 f2 r2 p=>?_
 have R2:=R1.step e2 f2
 refine k2 C M H2 n2 ρ σ _ _ R2 p λz H3 dz n3 e3 f3 r3 p=>?_
 obtain⟨key,hkey,p⟩:=p
 have R3:=R2.step e3 f3
 have hat:=((r1.tpOf R.dom R.vM).pres (R1.pres e2) e2 R.uV).pres (R2.pres e3) e3 R.uV
 have hy:=(r2.tpOf R1.dom R1.vM).pres (R2.pres e3) e3 R.uV
 obtain⟨ad',vs',ex,ha',hs'⟩:=JP hat
 cases ex
 obtain⟨b,rfl,eb⟩:=DH hkey hy
 have hz:=r3.shOf R2.dom hk
 refine⟨Bg (ks.zip vs') key,Ls ha' eb,q _ H3 ((Ba ks ds key).getD dz) n3 ((e1.trans e2).trans e3) f3 ?_ p⟩
 have h:=Fs (k:=key) (ks:=ks) hs'
 cases c:Ba ks ds key with
 | none=>rw [c] at h; rw [show Bg (ks.zip vs') key=none from h]; exact hz
 | some y=>rw [c] at h; obtain⟨u,h1,h2⟩:=h; rw [h1]; exact h2
end
end Dp
namespace L2
open PySem PySem.Spec PyProof.Rows
noncomputable def DRaw(h:Heap)(a:Addr)(es:Array DictEntry)(ep:Nat):Prop:=∃o,h.get? a=some o/\o.ExactDict/\o.data=.dict es ep
section
variable {P:Program}{w:World}{A:Around}{E:Value->Shared->Prop}{s:Shared}{d t:Addr}{es:Array DictEntry}{ep i:Nat}
theorem DRaw.ty(x:DRaw s.heap d es ep):s.TypeIs (.ref d) "dict":=let ⟨o,h1,h2,_⟩:=x; ⟨o,h1,h2.1⟩
theorem DRaw.lt{h:Heap}(x:DRaw h d es ep):d<h.objs.size:=let ⟨_,h1,_⟩:=x; Tk h1
theorem DRaw.to{h h':Heap}(x:DRaw h d es ep)(k:∀o,h.get? d=some o->h'.get? d=some o):DRaw h' d es ep:=let ⟨o,h1,h2⟩:=x; ⟨o,k o h1,h2⟩
theorem SV{Q:Value->Shared->Prop}(lo:(d==sysModules)=false)(x:DRaw s.heap d es ep)
  (q:Q (.ref s.heap.objs.size) { s with heap:=s.heap.push { cls:=.type "dict_keyiterator",data:=.fields #[.ref d,.int 0 0,.int es.size 0,.int ep 0] } }):wpAny (model P w) A (pyIter (.ref d)) Q E s:=by
 have T:=x.ty
 obtain⟨o,h1,h2,h3⟩:=x
 refine wpAny_pyIter_slot T F.slot_dict_iter (cP F.slot_dict_iter T F.entry_dict_iter ?_ (F.args_dict_iter_1 _))
 unfold Builtin.«dict.__iter__»; refine Ch ?_
 unfold Builtin.Dict.dictSlotNone; refine Ch (wpAny_notOrdered_dict T ?_)
 show wpAny (model P w) _ (pure (bT d)) _ _ s; refine Go ?_
 show wpAny (model P w) _ (ie d >>= _) _ _ s; unfold ie
 rw [if_neg (by rw [lo]; decide)]; refine Ch (Go (Ch (gv h1 h3 (Ch (iM h1 h3 ?_)))))
 refine Ch (bY (Go ⟨_,rfl,"dict_keyiterator",_,⟨_,Sc _ rfl,rfl⟩,cw.lookup,?_⟩)); simpa [rawInt] using q
theorem SW{Q:Option Value->Shared->Prop}(x:s.heap.IsKeyIter t d i es.size ep)(y:DRaw s.heap d es ep)(hi:i<es.size)
  (q:∀h',h'.IsKeyIter t d (i+1) es.size ep->d8 t s.heap h'->Q (some es[i].key) { s with heap:=h' }):wpAny (model P w) A (pyNext (.ref t)) Q E s:=by
 have T:=x.typeIs
 obtain⟨o,g1,g2,g3⟩:=x
 obtain⟨od,h1,h2,h3⟩:=y
 unfold pyNext; refine Ch (eO (bo (name:=cX "__next__") T cw (cP cw T gG ?_ (gE _))))
 refine Ch (Go (Ch (Ch ?_)))
 first | refine Ch (dI T (Go ?_)) | refine Ch (eE T (Go ?_))
 refine Ch (wpAny_fieldsOf g1 g3 ?_)
 have ow:gN "dict_keyiterator"=false:=by decide
 simp only [ow,bz,if_false]
 show wpAny (model P w) _ (if (bT d==bX)=true then _ else _) _ _ s
 rw [if_neg (show ¬(bT d==bX)=true by intro z; cases z)]; refine Ch (Go (Ch (gv h1 h3 ?_)))
 rw [if_neg (by simp)]; refine Ch (Go (Ch (iM h1 h3 ?_)))
 rw [if_neg (by simp)]; refine Go ?_
 simp only [show ¬(i:Int)<0 by omega,if_false,cJ,c_ hi]; refine Ch ?_
 first | refine Ch (dI T (Go ?_)) | refine Ch (eE T (Go ?_))
 refine Ch (wpAny_isOneOf_keyiter T ?_); show wpAny (model P w) _ (setField (.ref t) 1 (rawInt ((i:Int)+1)) >>= _) _ _ s
 refine Ch (gK g1 g3 (by simp) ?_)
 have g':(s.heap.update t (Obj.mapFields (·.setIfInBounds 1 (rawInt ((i:Int)+1))))).IsKeyIter t d (i+1) es.size ep:=⟨_,da _ g1 (Obj.isFreed_of_fields (fJ g3 _)),(Obj.cls_mapFields ..).trans g2,by rw [fJ g3]; simp [rawInt]⟩
 refine Ch (bw (Ch (wpAny_isOneOf_keyiter (s:={ s with heap:=s.heap.update t (Obj.mapFields (·.setIfInBounds 1 (rawInt ((i:Int)+1)))) }) g'.typeIs ?_)))
 show wpAny (model P w) _ (pure es[i].key) _ _ _; exact Go (Go ⟨_,rfl,Go (q _ g' (fB ..))⟩)
theorem U0{Q:Option Value->Shared->Prop}(hh:A.handled=none)(x:s.heap.IsKeyIter t d i es.size ep)(y:DRaw s.heap d es ep)(hi:es.size<=i)
  (q:∀h',iQ t s.heap h'->Q none { s with heap:=h' }):wpAny (model P w) A (pyNext (.ref t)) Q E s:=by
 have T:=x.typeIs
 obtain⟨o,g1,g2,g3⟩:=x
 obtain⟨od,h1,h2,h3⟩:=y
 unfold pyNext; refine Ch (eO (bo (name:=cX "__next__") T cw (cP cw T gG ?_ (gE _))))
 refine Ch (Go (Ch (Ch ?_)))
 first | refine Ch (dI T (Go ?_)) | refine Ch (eE T (Go ?_))
 refine Ch (wpAny_fieldsOf g1 g3 ?_)
 have ow:gN "dict_keyiterator"=false:=by decide
 simp only [ow,bz,if_false]
 show wpAny (model P w) _ (if (bT d==bX)=true then _ else _) _ _ s
 rw [if_neg (show ¬(bT d==bX)=true by intro z; cases z)]; refine Ch (Go (Ch (gv h1 h3 ?_)))
 rw [if_neg (by simp)]; refine Ch (Go (Ch (iM h1 h3 ?_)))
 rw [if_neg (by simp)]; refine Go ?_
 simp only [show ¬(i:Int)<0 by omega,if_false,cJ,fj hi]; refine Ch ?_
 first | refine Ch (dI T (Go ?_)) | refine Ch (eE T (Go ?_))
 show wpAny (model P w) _ (setField (.ref t) 0 .none >>= _) _ _ s; refine Ch (gK g1 g3 (by simp) ?_)
 show wpAny (model P w) _ (newExc (.type "StopIteration") [] >>= _) _ _ _; refine Ch ?_
 simp only [newExc,newTuple]; refine Ch (bY ?_ (by size_fits))
 refine Ch (m:=firstArgMember _ _) (gP (a:=bX) (by first | rfl | (simp only [firstArgMember]; rfl)) (bY ?_ (by size_fits)))
 simp only [raiseNew]; refine Ch (wpAny_handled ?_)
 rw [show A.in1.handled=none from hh]; refine Ch (Go (wpAny_throw ?_)); refine Ch (fq (T := "StopIteration") (b:=true) ⟨_,Sc _ rfl,rfl⟩ isSubtype_stop ?_)
 exact Go (q _ (((fB ..).extBut.push _).push _))
theorem Qd(hh:A.handled=none)(I d:Addr)(hne:d≠I)(es:Array DictEntry)(ep:Nat):Walks P w A I [I,d] [I] es.size (λi v=>∃e,es[i]?=some e/\v=e.key) (λi h=>h.IsKeyIter I d i es.size ep/\DRaw h d es ep) where
 sub:=λb hb=>by rw [On.mp hb]; exact No
 frame:=λ_ _ _ st hk=>⟨st.1.at λo e=>hk I (by simp) o e,st.2.to λo e=>hk d (by simp) o e⟩
 item:=λi s Q E hi st hQ=>SW st.1 st.2 hi λh' it' sb=>hQ _ h' s.toks ⟨_,c_ hi,rfl⟩ ⟨it',st.2.to λo e=>sb.extBut d o hne e⟩ λb o hb e=>sb.extBut b o (λh=>hb (by simp [h])) e
 done:=λs Q E st hQ=>U0 hh st.1 st.2 (Op _) λh' he=>hQ h' s.toks λb o hb e=>he b o (λh=>hb (by simp [h])) e
 self:=λ_ _ _ _ st hQ=>wpAny_pyIter_keyiter st.1 hQ
theorem Uz(lo:(d==sysModules)=false):PySem.W.KdlSrc P w "dict" d d es.size (λi v=>∃e,es[i]?=some e/\v=e.key) (λh=>DRaw h d es ep) where
 type:=λ_ x=>x.ty
 there:=λ_ x=>⟨x.lt,x.lt⟩
 keep:=λ_ _ x k=>x.to λo e=>k d (.inl rfl) o e
 notList:=by decide
 notTuple:=by decide
 hint:=λ_ _ _ _ x q=>PySem.W.kdl_hint_dict x.ty q
 iter:=λ_ _ hh x=>⟨_,_,(λ_ _ q=>SV lo x q),Qd hh _ d (bK x.lt) es ep,⟨⟨_,Sc _ rfl,rfl,rfl⟩,x.to λo e=>Ev _ e⟩⟩
end
end L2
namespace L2
open PySem PySem.Spec PyProof.Rows PySem.W
theorem Ph(k:Key):kOf k=kV k:=by cases k <;> rfl
theorem VP(ks:List Key):ks.map kOf=ks.map kV:=eJ λk _=>Ph k
section
variable {X:Cx}
theorem Vm{P:Program}{w:World}{H:Hp}{h:Heap}{d:Addr}{kvs:List (List Key×V)}(ok:HOk P w H h)(hd:Rd H d (.dT kvs)) :
  ∃(o:Obj) (es:Array DictEntry) (ep:Nat) (as:List Addr),h.get? d=some o/\o.ExactDict/\o.data=.dict es ep/\as.length=kvs.length/\es.size=kvs.length /\
   (∀(i:Nat) (e:DictEntry),es[i]?=some e->∃a,as[i]?=some a/\e.key=.ref a)/\∀(i:Nat) (a:Addr) (p:List Key×V),as[i]?=some a->kvs[i]?=some p->H a=some (.tup (p.1.map kV)):=by
 obtain⟨_,_,xs,r,o,es,ep,h1,h2,h3,h4,h5,h6⟩:=GH ok hd
 have hl:kvs.length=xs.length:=by
  have:∀{l:List (List Key×V)} {m:List (List Key×Addr×Value)},KT H l m->l.length=m.length:=λq=>q.length
  exact this r
 have hes:es.size=xs.length:=by rw [← bi,h4,FM]
 refine⟨o,es,ep,xs.map λx=>x.2.1,h1,h2,h3,by rw [FM,hl],by rw [hes,hl],λi e he=>?_,λi a p ha hp=>?_⟩
 ·rw [← fw,h4,T0] at he
  obtain⟨x,hx,rfl⟩:=bM.mp he
  exact⟨x.2.1,by rw [T0,hx]; rfl,rfl⟩
 ·rw [T0] at ha
  obtain⟨x,hx,rfl⟩:=bM.mp ha
  have:=Ir r hp hx
  exact this.2.1
noncomputable def SY:List V->Hp->VK->Prop:=λxs H Q=>∃(d:Addr) (kvs:List (List Key×V)),xs=[.ref d]/\Rd H d (.dT kvs)/\kvs.length<64/\(∀x∈kvs.map (·.1),∀y∈kvs.map (·.1),BV x y=true)/\(∀x∈kvs.map (·.1),x≠[]) /\
 ∀(as:List Addr) (ix:List Nat) (l:Addr),as.length=kvs.length->(∀(i:Nat) (a:Addr) (p:List Key×V),as[i]?=some a->kvs[i]?=some p->H a=some (.tup (p.1.map kV)))->HZ (kvs.map (·.1)) ix->H l=none ->
  Q (.ref l) (As H l (.lst (ix.map λi=>(as.map V.ref).getD i .non)))
theorem Ov(hc:X.calm=true):B_ X (.builtin "sorted") SY:=by
 intro pins s σ H xs us Q I r h
 obtain⟨d,kvs,rfl,hd,h64,hsm,hne,q⟩:=h
 obtain⟨u,rfl,rx⟩:=vals1 r
 cases rx
 obtain⟨o,es,ep,as,g1,g2,g3,g4,g5,g6,g7⟩:=Vm I.hok hd
 have lo:=(GH I.hok hd).2.1
 refine DV (kw:=[]) (args_sorted1 _) (λx=>args_list_sort _) (PySem.W.kdu_collect (Uz (P:=X.prog) (w:=X.w) (es:=es) (ep:=ep) lo) (show X.A.in1.handled=none from by simp [I.ok.hd hc]) ⟨o,g1,g2,g3⟩ (by rw [bm]; omega) λh' tk acc hkp hacc=>⟨by rw [bi,hacc.1,bm]; omega,?_⟩)
 have I1:Inv X pins σ H { s with heap:=h',toks:=tk }:=I.kept (t':=tk) hkp
 have hv:acc.toList=as.map bT:=by
  refine gu λi=>?_
  cases hx:acc.toList[i]? with
  | some v =>
   obtain⟨e,he,rfl⟩:=hacc.2 i v (by rw [← fw]; exact hx)
   obtain⟨a,ha,hk⟩:=g6 i e he
   rw [T0,ha,hk]; rfl
  | none =>
   have:acc.toList.length<=i:=List.getElem?_eq_none_iff.mp hx
   rw [bi,hacc.1] at this
   rw [di (by rw [FM]; omega)]
 rw [hv]
 refine KL I1 (J9 as) (by rw [FM]; omega) (keys:=kvs.map (·.1)) ⟨by rw [FM,FM]; exact g4,λi ns e=>?_,hsm,hne⟩ λix l ho hl=>q as ix l g4 g7 ho hl
 rw [T0] at e
 obtain⟨p,hp,rfl⟩:=bM.mp e
 have hil:i<as.length:=by rw [g4]; exact(TW.mp hp).1
 refine⟨as[i],by rw [T0,Db hil]; rfl,?_⟩
 rw [VP]
 exact SqT.of (g7 i _ p (Db hil) hp)
end
end L2
namespace Dp
open PySem PySem.Spec PyProof.Rows L2
noncomputable def tupK(k:List Key):D:=.tup (k.map Wh)
theorem NK{K:Frag}{M:Addr->Prop}{H:Hp}:∀{k:List Key},(∀x∈k,Ek x)->Ats K M H (k.map Wh) (k.map kV)
 | [],_=>rfl
 | x::k,h=>⟨kV x,k.map kV,rfl,by rw [← Ph]; exact UG (h x No),NK λy hy=>h y (Rs _ hy)⟩
theorem MQ{K:Frag}{M:Addr->Prop}{H:Hp}:∀{ks:List (List Key)} {as:List Addr},as.length=ks.length->(∀k∈ks,∀x∈k,Ek x)->(∀(i:Nat) (a:Addr) (k:List Key),as[i]?=some a->ks[i]?=some k->H a=some (.tup (k.map kV)))->Ats K M H (ks.map tupK) (as.map V.ref)
 | [],[],_,_,_=>rfl
 | k::ks,a::as,hl,hf,h=>⟨.ref a,as.map V.ref,rfl,⟨a,k.map kV,rfl,h 0 a k rfl rfl,NK (hf k No)⟩,MQ (by simpa using hl) (λk hk=>hf k (Rs _ hk)) λi a' k' e1 e2=>h (i+1) a' k' (by simpa using e1) (by simpa using e2)⟩
section
variable {X:Cx}
noncomputable def Ti(ds:List D)(P:D->Prop):Prop:=∃(ks:List (List Key)) (es:List D),ds=[.dit ks es]/\ks.length=es.length/\ks.length<64/\(∀x∈ks,∀y∈ks,BV x y=true)/\(∀x∈ks,x≠[])/\(∀k∈ks,∀x∈k,Ek x) /\
 ∀ks':List (List Key),ks'.Perm ks->ks'.Pairwise (λa b=>BB b a=false)->P (.lst (ks'.map tupK))
theorem S4{ks:List (List Key)}{ix:List Nat}(h:HZ ks ix):(ix.map λi=>ks.getD i []).Perm ks/\(ix.map λi=>ks.getD i []).Pairwise (λa b=>BB b a=false):=by
 obtain⟨h1,h2⟩:=h
 have il:ix.length=ks.length:=by rw [h1.length_eq,dH]
 constructor
 ·have:=h1.map λi=>ks.getD i []
  have e:(bU ks.length).map (λi=>ks.getD i [])=ks:=by
   apply List.ext_getElem
   ·simp
   ·intro i h1 h2
    simp [h2]
  rw [e] at this
  exact this
 ·rw [fF]
  intro i j hi hj hij
  rw [FM] at hi hj
  have:=h2 i j (fH hij) (by omega)
  rw [iA,iA]
  rw [bF (l:=ix),Db hj,bF (l:=ix),Db hi] at this
  exact this
theorem V3:Cv X.K .fr SY Ti:=by
 intro U M H ds vs P Q dom vM hp w q
 obtain⟨ks,es,rfl,hl,h64,hsm,hne,hf,w⟩:=w
 obtain⟨v,rfl,hx⟩:=HA hp
 obtain⟨a,us,rfl,ha,hs⟩:=JP hx
 have hul:=hs.length
 have ez:(ks.zip us).map (·.1)=ks:=List.map_fst_zip (by omega)
 have ezl:(ks.zip us).length=ks.length:=by rw [cq]; omega
 refine⟨a,_,rfl,ha,by omega,by rw [ez]; exact hsm,by rw [ez]; exact hne,λas ix l has hat ho hlf=>?_⟩
 rw [ez] at ho
 obtain⟨o1,o2⟩:=S4 ho
 have hA:Ats X.K M H (ks.map tupK) (as.map V.ref):=MQ (by omega) hf λi b k e1 e2=>by
  have hi:i<(ks.zip us).length:=by rw [ezl]; exact(TW.mp e2).1
  have:=hat i b _ e1 (Db hi)
  rw [iB] at this
  obtain⟨_,e3⟩:=TW.mp e2
  rw [e3] at this
  exact this
 have e4:(ix.map λi=>(ks.map tupK).getD i .non)=(ix.map λi=>ks.getD i []).map tupK:=by
  rw [dY]
  refine eJ λi hi=>?_
  have hil:i<ks.length:=cu.mp (ho.1.mem_iff.mp hi)
  show (ks.map tupK).getD i .non=tupK (ks.getD i [])
  rw [bF,bF,T0,Db hil]
  rfl
 have:=w _ o1 o2
 rw [← e4] at this
 exact q _ _ (.lst _) (Al hlf) (CW hlf (hA.pick ix)) this
end
section
variable {X:Cx}{κ κe:Kd}{e:Expr}{we:DW}{pos p apos cpos p2 apos2 cpos2:Pos}{x y:Str}{i j:Nat}
end
end Dp
namespace Nt
open PySem PySem.Spec PyProof.Rows L2 Dp
section
variable {ss:List Slot}{n:Nat}{Pd:D->Nat->Prop}
end
section
variable {ss:List Slot}{n:Nat}{Pd:D->Nat->Prop}
end
end Nt
namespace L2
open PySem PySem.Spec PyProof.Rows
section
variable {prog:Program}{w:World}{A:Around}{E:Value->Shared->Prop}{s:Shared}{x y:Str}{t u:Tok}
noncomputable def R8(x y:Str)(i:Nat):Str:=if i=0 then x else y
theorem O9{i:Nat}{v:Value}(h:(#[dR x t,dR y u]:Array Value)[i]?=some v):∃k,v=.str (R8 x y i) k:=by
 match i with
 | 0=>exact⟨t,(UF h).symm⟩
 | 1=>exact⟨u,(UF h).symm⟩
 | i+2=>simp at h
theorem RR:CmpOf prog w A .Lt (λi v=>(#[dR x t,dR y u]:Array Value)[i]?=some v) (λi j=>decide ((R8 x y i).cps.toList<(R8 x y j).cps.toList)):=λi j vi vj s Q E hi hj h=>by
 obtain⟨a,rfl⟩:=O9 hi
 obtain⟨b,rfl⟩:=O9 hj
 exact richCompare_gives (op:=.Lt) (fR s _ a) (fR s _ b) PySem.F.slot_str_lt PySem.F.entry_str_lt (PySem.F.args_str_lt_2 _ _) (gives_str_lt _ _ a b) (λe=>nomatch e) h
theorem RS:CmpOf prog w A .Gt (λi v=>(#[dR x t,dR y u]:Array Value)[i]?=some v) (λi j=>decide ((R8 x y j).cps.toList<(R8 x y i).cps.toList)):=λi j vi vj s Q E hi hj h=>by
 obtain⟨a,rfl⟩:=O9 hi
 obtain⟨b,rfl⟩:=O9 hj
 exact richCompare_gives (op:=.Gt) (fR s _ a) (fR s _ b) PySem.F.slot_str_gt PySem.F.entry_str_gt (PySem.F.args_str_gt_2 _ _) (gives_str_gt _ _ a b) (λe=>nomatch e) h
theorem R9{n c:Nat}(h:c∈[n+1,n]):c<n+1+1:=by
 simp only [TM,bJ,or_false] at h
 omega
theorem MO{bt:Nat->Nat->Bool}{v:Value}(h:(#[dR x t,dR y u]:Array Value)[argBest bt 1]?=some v):v=if bt 1 0=true then .str y u else .str x t:=by
 have e:argBest bt 1=if bt 1 0=true then 1 else 0:=rfl
 rw [e] at h
 cases c:bt 1 0 with
 | true=>rw [c] at h; exact(UF h).symm
 | false=>rw [c] at h; exact(UF h).symm
theorem Q2{Q:Value->Shared->Prop}(hh:A.handled=none)(h:∀h' tk,(∀c o,s.heap.get? c=some o->h'.get? c=some o)->Q (if decide (y.cps.toList<x.cps.toList)=true then .str y u else .str x t) { s with heap:=h',toks:=tk }) :
  wpAny (model prog w) A (call (.builtin "min") [.str x t,.str y u]) Q E s:=by
 have hT:(s.heap.push { cls:=.type "tuple",data:=.seq #[.str x t,.str y u] }).IsTuple s.heap.objs.size #[.str x t,.str y u]:=⟨_,Sc _ rfl,rfl,0,rfl⟩
 refine call_min_two (cV hT ?_)
 have z1:(s.heap.push { cls:=.type "tuple",data:=.seq #[.str x t,.str y u] }).objs.size=s.heap.objs.size+1:=cT ..
 refine⟨_,[_,s.heap.objs.size],[_],_,_,_,_,rfl,Walks.tuple (A:=A.in1) hh _ s.heap.objs.size (by rw [z1]; exact bK (em _)) #[.str x t,.str y u],⟨⟨_,Sc _ rfl,rfl,rfl⟩,hT.push _⟩,λc hc=>?_,by simp,RR,λv h' tk hP k=>?_⟩
 ·rw [cT,z1]; rw [z1] at hc; exact R9 hc
 ·rw [MO hP]
  refine h h' tk λc o e=>k c o (λm=>?_) (Ev _ (Ev _ e))
  have l:=Tk e
  rw [On.mp m,z1] at l
  exact absurd l (fS.mpr (cY _))
theorem Q4{Q:Value->Shared->Prop}(hh:A.handled=none)(h:∀h' tk,(∀c o,s.heap.get? c=some o->h'.get? c=some o)->Q (if decide (x.cps.toList<y.cps.toList)=true then .str y u else .str x t) { s with heap:=h',toks:=tk }) :
  wpAny (model prog w) A (call (.builtin "max") [.str x t,.str y u]) Q E s:=by
 have hT:(s.heap.push { cls:=.type "tuple",data:=.seq #[.str x t,.str y u] }).IsTuple s.heap.objs.size #[.str x t,.str y u]:=⟨_,Sc _ rfl,rfl,0,rfl⟩
 refine call_max_two (cV hT ?_)
 have z1:(s.heap.push { cls:=.type "tuple",data:=.seq #[.str x t,.str y u] }).objs.size=s.heap.objs.size+1:=cT ..
 refine⟨_,[_,s.heap.objs.size],[_],_,_,_,_,rfl,Walks.tuple (A:=A.in1) hh _ s.heap.objs.size (by rw [z1]; exact bK (em _)) #[.str x t,.str y u],⟨⟨_,Sc _ rfl,rfl,rfl⟩,hT.push _⟩,λc hc=>?_,by simp,RS,λv h' tk hP k=>?_⟩
 ·rw [cT,z1]; rw [z1] at hc; exact R9 hc
 ·rw [MO hP]
  refine h h' tk λc o e=>k c o (λm=>?_) (Ev _ (Ev _ e))
  have l:=Tk e
  rw [On.mp m,z1] at l
  exact absurd l (fS.mpr (cY _))
end
section
variable {X:Cx}
noncomputable def WN:List V->Hp->VK->Prop:=λxs H Q=>∃x y:Str,xs=[.str x,.str y]/\Q (.str (if decide (y.cps.toList<x.cps.toList)=true then y else x)) H
noncomputable def WP:List V->Hp->VK->Prop:=λxs H Q=>∃x y:Str,xs=[.str x,.str y]/\Q (.str (if decide (x.cps.toList<y.cps.toList)=true then y else x)) H
theorem RT(hc:X.calm=true):B_ X (.builtin "min") WN:=by
 intro pins s σ H xs us Q I r h
 obtain⟨x,y,rfl,q⟩:=h
 obtain⟨u,w',rfl,⟨t,rfl⟩,⟨t',rfl⟩⟩:=vals2 r
 refine Q2 (I.ok.hd hc) λh' tk k=>⟨_,H,I.kept k,?_,q⟩
 cases decide (y.cps.toList<x.cps.toList) <;> exact⟨_,rfl⟩
theorem RW(hc:X.calm=true):B_ X (.builtin "max") WP:=by
 intro pins s σ H xs us Q I r h
 obtain⟨x,y,rfl,q⟩:=h
 obtain⟨u,w',rfl,⟨t,rfl⟩,⟨t',rfl⟩⟩:=vals2 r
 refine Q4 (I.ok.hd hc) λh' tk k=>⟨_,H,I.kept k,?_,q⟩
 cases decide (x.cps.toList<y.cps.toList) <;> exact⟨_,rfl⟩
end
end L2
namespace Dp
open PySem PySem.Spec PyProof.Rows L2
section
variable {K:Frag}
noncomputable def To(ds:List D)(P:D->Prop):Prop:=∃x y:Str,ds=[.str x,.str y]/\P (.str (if decide (y.cps.toList<x.cps.toList)=true then y else x))
noncomputable def Tp(ds:List D)(P:D->Prop):Prop:=∃x y:Str,ds=[.str x,.str y]/\P (.str (if decide (x.cps.toList<y.cps.toList)=true then y else x))
theorem MN{U M:Addr->Prop}{H:Hp}{x y:Str}{vs:List V}(hp:Paired (λv d=>AtT K U M H d v) vs [.str x,.str y]):vs=[.str x,.str y]/\x.length<=sizeLine/\y.length<=sizeLine:=by
 cases hp with
 | cons r1 r2=>cases r2 with
  | cons r3 r4 =>
   cases r4
   obtain⟨rfl,l1⟩:=r1.str
   obtain⟨rfl,l2⟩:=r3.str
   exact⟨rfl,l1,l2⟩
theorem YG:Cv K .sh WN To:=by
 intro U M H ds vs P Q dom vM hp w q
 obtain⟨x,y,rfl,w⟩:=w
 obtain⟨e,l1,l2⟩:=MN hp
 exact⟨x,y,e,q _ H (.str _) .refl ⟨rfl,by split <;> assumption⟩ w⟩
theorem YI:Cv K .sh WP Tp:=by
 intro U M H ds vs P Q dom vM hp w q
 obtain⟨x,y,rfl,w⟩:=w
 obtain⟨e,l1,l2⟩:=MN hp
 exact⟨x,y,e,q _ H (.str _) .refl ⟨rfl,by split <;> assumption⟩ w⟩
end
end Dp
namespace L2
open PySem PySem.Spec PyProof.Rows PySem.W
section
variable {X:Cx}
end
end L2
namespace Dp
open PySem PySem.Spec PyProof.Rows L2
end Dp
namespace L2
open PySem PySem.Spec PyProof.Rows PySem.W
section
variable {X:Cx}
end
end L2
namespace Dp
open PySem PySem.Spec PyProof.Rows L2
section
variable {K:Frag}
end
end Dp
namespace Nt
open PySem PySem.Spec PyProof.Rows L2 Dp
noncomputable def words26:List Str:=["a","aa","ab","abc","b","ba","bb","c","come","d","far","in","lay","m","n","near","out","place","q","r","tie","tree","x","xy","y","zzzzzzzz"]
noncomputable def IF:W2:=λss n P=>ss=[]/\P (.lst (words26.map .str)) n
noncomputable def Gg:W2:=λss n P=>∃m:Nat,ss=[.fd,.sh (.int m)]/\m<=26/\2<=n/\∀xs:List Str,xs.length=m->(∀x∈xs,VS x)->rising xs->P (.tup (xs.map .str)) (n - 2)
noncomputable def QJ:W2:=λss n P=>∃s:Int,ss=[.fd,.sh (.int s)]/\0<=s/\s<=3/\1<=n/\∀r:Int,1<=r->r<=1000000->P (.int r) (n - 1)
noncomputable def L_:W2:=λss n P=>∃(xs:List Str) (most:Nat),ss=[.fd,.sh (.tup (xs.map .str)),.sh (.int most)]/\(∀x∈xs,VS x)/\rising xs/\xs.length<=26/\most<=60/\200<=n/\∀(ts:List Ag) (n':Nat),(⟨xs,ts⟩:Net).Ok->ts.length<=most->n - 200<=n'->P (.tup (ts.map Aj)) n'
noncomputable def QH:W2:=λss n P=>∃most ties:Nat,ss=[.fd,.sh (.int most),.sh (.int ties)]/\most<=25/\ties<=60/\210<=n/\∀(N:Net) (n':Nat),N.Ok->N.ps.length<=most->N.ts.length<=ties->n - 210<=n'->P (BL N) n'
noncomputable def FE:Aa:=(Ai (BA 0 (He (AE (wC (D.str "a")) (AE (wC (D.str "aa")) (AE (wC (D.str "ab")) (AE (wC (D.str "abc")) (AE (wC (D.str "b")) (AE (wC (D.str "ba")) (AE (wC (D.str "bb")) (AE (wC (D.str "c")) (AE (wC (D.str "come")) (AE (wC (D.str "d")) (AE (wC (D.str "far")) (AE (wC (D.str "in")) (AE (wC (D.str "lay")) (AE (wC (D.str "m")) (AE (wC (D.str "n")) (AE (wC (D.str "near")) (AE (wC (D.str "out")) Ae)))))))))))))))))))
 (A3 (Ad DK (AC 0) (He (AE (wC (D.str "place")) (AE (wC (D.str "q")) (AE (wC (D.str "r")) (AE (wC (D.str "tie")) (AE (wC (D.str "tree")) (AE (wC (D.str "x")) (AE (wC (D.str "xy")) (AE (wC (D.str "y")) (AE (wC (D.str "zzzzzzzz")) Ae)))))))))))))
noncomputable def EW:Aa:=(Ai (BA 2 (AV IF AW))
 (Ai (BA 3 (AV Cu (AB (Bc 0) (AB (AH (wC (D.int 26))) AW))))
 (Ai (BA 4 (Ad BP (He (AE (wC (D.int 1)) (AE (wC (D.int 3)) (AE (wC (D.int 5)) (AE (wC (D.int 7)) Ae))))) (AV Cu (AB (Bc 0) (AB (AH (wC (D.int 4))) AW)))))
 (A3 (Dy CJ (AE (Dy Tl (AE (Dt [some 2,some 3,some 4,none] (J7 (AE (AC 1) Ae)) (Ay 3) Fp (Ad BP (AC 0) (Ad (X0 (λ_ j=>0<j) λi j=>D.int (i % j)) (Ad DK (AC 1) (Ad ER (AC 2) (AC 3))) (wC (D.int 26))))) Ae)) Ae))))))
noncomputable def EX:Aa:=(Ai (Bp (Am (Ad (Rg false) (AC 1) (wC (D.int 3)))) (A3 (Ad Kf (Ad (X0 Ue λi j=>D.int (i ^ j.toNat)) (wC (D.int 10)) (wC (D.int 6))) (AV Cu (AB (Bc 0) (AB (AH (wC (D.int 3))) AW))))) BI)
 (A3 (Ad DK (wC (D.int 1)) (AV Cu (AB (Bc 0) (AB (AH (Ad BP (He (AE (wC (D.int 3)) (AE (wC (D.int 9)) (AE (wC (D.int 60)) Ae)))) (AC 1))) AW))))))
noncomputable def GU:Aa:=(Ai (G9 3 Rz)
 (Ai (BA 4 (AV Cu (AB (Bc 0) (AB (AH (wC (D.int 5))) AW))))
 (Ai (IK (J7 (AE (AV Cu (AB (Bc 0) (AB (AH (Ad DK (AC 2) (wC (D.int 1)))) AW))) Ae)) (Ay 5) (Bp (Am (Ad (f2 λi j=>D.bl (decide (j<i))) (Dy G3 (AE (AC 1) Ae)) (wC (D.int 1)))) (Ai (BA 6 (AV Cu (AB (Bc 0) (AB (AH (Dy G3 (AE (AC 1) Ae))) AW))))
 (Ai (BA 7 (Ad (X0 (λ_ j=>0<j) λi j=>D.int (i % j)) (Ad DK (Ad DK (AC 6) (wC (D.int 1))) (AV Cu (AB (Bc 0) (AB (AH (Ad Kf (Dy G3 (AE (AC 1) Ae)) (wC (D.int 1)))) AW)))) (Dy G3 (AE (AC 1) Ae))))
 (WA 3 (CG (AE (Ad BP (AC 1) (Dy Pp (AE (AC 6) (AE (AC 7) Ae)))) (AE (Ad BP (AC 1) (Dy Pq (AE (AC 6) (AE (AC 7) Ae)))) Ae))) (AV QJ (AB (Bc 0) (AB (AH (Ad BP (He (AE (AC 4) (AE (Ad (X0 (λ_ j=>0<j) λi j=>D.int (i % j)) (AC 5) (wC (D.int 4))) Ae))) (Ad (X0 Ug λi j=>D.int (i / j)) (AC 4) (wC (D.int 4))))) AW)))))) BI))
 (A3 (Dy CJ (AE (Dt [some 3,none] (Cw (Dy Ti (AE (BM 3) Ae))) (Ay 1) Fp (Ad DK (AC 1) (CG (AE (Ad NR (BM 0) (AC 1)) Ae)))) Ae))))))
noncomputable def HM:Aa:=(Ai (BA 3 (AV Gg (AB (Bc 0) (AB (AH (AV Cu (AB (Bc 0) (AB (AH (Ad DK (AC 1) (wC (D.int 1)))) AW)))) AW))))
 (A3 (CG (AE (AC 3) (AE (AV L_ (AB (Bc 0) (AB (AH (AC 3)) (AB (AH (AC 2)) AW)))) Ae)))))
noncomputable def CO(i:Nat):Str:=words26.getD i "a"
theorem N0:∀i,i<26->VS (CO i):=by
 have h:∀i∈bU 26,1<=(CO i).length/\(CO i).length<=8/\∀c∈cs (CO i),97<=c/\c<=122:=by decide +kernel
 exact λi hi=>h i (cu.mpr hi)
theorem QP:∀i j,i<26->j<26->CO i=CO j->i=j:=by
 have h:∀i∈bU 26,∀j∈bU 26,cs (CO i)=cs (CO j)->i=j:=by decide +kernel
 exact λi j hi hj e=>h i (cu.mpr hi) j (cu.mpr hj) (congrArg cs e)
theorem Ro(i:Nat)(h:i<26):(words26.map D.str)[i]?=some (.str (CO i)):=by
 have hl:i<words26.length:=h
 unfold CO
 rw [T0,bF,Db hl]
 rfl
section
variable {ss:List Slot}{n:Nat}{Pd:D->Nat->Prop}
theorem Jo(h:IF ss n Pd):FE (EE Pd) n (ss++Uf 1 .no):=by
 obtain⟨rfl,p⟩:=h
 unfold FE
 exact⟨(by decide:17<=sizeLine),(by decide:9<=sizeLine),(by decide:26<=sizeLine),p⟩
noncomputable def ON(f s:Nat):D->D
 | .int k=>.str (CO ((f+s*k.toNat) % 26))
 | _=>.non
theorem Mn(f s k:Nat):ON f s (.int (0+(k:Int)))=.str (CO ((f+s*k) % 26)):=by
 show D.str (CO ((f+s*(0+(k:Int)).toNat) % 26))=_
 rw [show (0+(k:Int)).toNat=k by omega]
theorem Ij(h:Gg ss n Pd):EW (EE Pd) n (ss++Uf 3 .no):=by
 obtain⟨m,rfl,hm,hn,p⟩:=h
 unfold EW
 refine⟨rfl,26,rfl,by decide,by decide,by omega,λfirst f0 f1=>?_⟩
 obtain⟨f,rfl⟩:∃f:Nat,first=(f:Int):=⟨first.toNat,by omega⟩
 refine⟨(by decide:4<=sizeLine),4,rfl,by decide,by decide,by omega,λw w0 w1=>?_⟩
 obtain⟨s,hs,es⟩:∃s:Nat,(s=1\/s=3\/s=5\/s=7)/\atI [D.int 1,D.int 3,D.int 5,D.int 7] w=some (.int (s:Int)):=by
  rcases (show w=0\/w=1\/w=2\/w=3 by omega) with rfl | rfl | rfl | rfl
  ·exact⟨1,.inl rfl,rfl⟩
  ·exact⟨3,.inr (.inl rfl),rfl⟩
  ·exact⟨5,.inr (.inr (.inl rfl)),rfl⟩
  ·exact⟨7,.inr (.inr (.inr rfl)),rfl⟩
 refine⟨_,es,(m:Int),rfl,⟨by omega,by omega⟩,by rw [Ic]; omega,?_⟩
 refine Bw (ON f s) (λρ=>∃s',ρ=[.sh (.lst (words26.map .str)),.sh (.int f),.sh (.int s),s']) _ _ _ _ ?_ ⟨_,rfl⟩ ?_
 ·rintro d hd ρ n' nx ⟨s',rfl⟩ hnx
  obtain⟨k,hk,rfl⟩:=SN hd
  have hlt:(f+s*k) % 26<26:=ik _ (by decide)
  have hsk:(s:Int)*(0+(k:Int))=((s*k:Nat):Int):=by rw [cK]; exact(Int.natCast_mul s k).symm
  refine⟨YA (by omega) (by omega),by show (0:Int)<26; decide,.str (CO ((f+s*k) % 26)),?_,?_⟩
  ·rw [hsk,show ((f:Int)+((s*k:Nat):Int)) % 26=(((f+s*k) % 26:Nat):Int) by omega]
   exact AQ (Ro _ hlt)
  ·have:=hnx [.sh (.lst (words26.map .str)),.sh (.int f),.sh (.int s),.sh (.int (0+(k:Int)))] ⟨_,rfl⟩
   rw [Mn] at this
   exact this
 ·have e:[]++(EH 0 ((m:Int)).toNat).map (ON f s)=((bU m).map λk:Nat=>CO ((f+s*k) % 26)).map .str:=by
   unfold EH
   rw [cD,dY,dY,cJ]
   refine eJ λk _=>?_
   exact Mn f s k
  rw [e]
  refine⟨_,_,rfl,Np _,by rw [FM,dH]; omega,λss' hp hs'=>p ss' ?_ ?_ ?_⟩
  ·rw [hp.length_eq,FM,dH]
  ·intro y hy
   obtain⟨k,_,rfl⟩:=ZB.mp (hp.mem_iff.mp hy)
   exact N0 _ (ik _ (by decide))
  ·refine Ji hs' (hp.nodup_iff.mpr (KR List.nodup_range λj hj k hk e=>?_))
   have e:=QP _ _ (ik _ (by decide)) (ik _ (by decide)) e
   have hj:=cu.mp hj
   have hk:=cu.mp hk
   rcases hs with rfl | rfl | rfl | rfl <;> omega
theorem Ik(h:QJ ss n Pd):EX (EE Pd) n (ss++Uf 0 .no):=by
 obtain⟨s,rfl,s0,s3,hn,p⟩:=h
 unfold EX
 show if (s==3)=true then _ else _
 refine Cg (λc=>?_) λc=>?_
 ·refine⟨aZ,_,rfl,by decide,by decide,hn,λr r0 r1=>?_⟩
  have e6:(10:Int) ^ (6:Int).toNat=1000000:=by decide
  show Pd (.int (10 ^ (6:Int).toNat - r)) (n - 1)
  rw [e6]
  exact p _ (by omega) (by omega)
 ·have c:s≠3:=by simpa using c
  obtain⟨k,hk,ek⟩:∃k:Int,(1<=k/\k<=60)/\atI [D.int 3,D.int 9,D.int 60] s=some (.int k):=by
   rcases (show s=0\/s=1\/s=2 by omega) with rfl | rfl | rfl
   ·exact⟨3,by decide,rfl⟩
   ·exact⟨9,by decide,rfl⟩
   ·exact⟨60,by decide,rfl⟩
  refine⟨(by decide:3<=sizeLine),_,ek,k,rfl,by omega,by omega,hn,λr r0 r1=>?_⟩
  exact p _ (by omega) (by omega)
theorem Mg(h:QH ss n Pd):HM (EE Pd) n (ss++Uf 1 .no):=by
 obtain⟨most,ties,rfl,hm,ht,hn,p⟩:=h
 unfold HM
 refine⟨_,rfl,by omega,by omega,by omega,λr r0 r1=>?_⟩
 refine⟨r.toNat,by rw [show ((r.toNat:Nat):Int)=r by omega],by omega,by omega,λxs xl hx hr=>?_⟩
 refine⟨xs,ties,rfl,hx,hr,by omega,ht,by omega,λts n' ok hl hn'=>⟨z2,?_⟩⟩
 exact p ⟨xs,ts⟩ n' ok (by show xs.length<=most; omega) hl (by omega)
theorem P5(x y:Str):cs x<cs y\/x=y\/cs y<cs x:=by
 by_cases h1:cs x<cs y
 ·exact .inl h1
 ·by_cases h2:cs y<cs x
  ·exact .inr (.inr h2)
  ·refine .inr (.inl ?_)
   have:=KS (.inr x) (.inr y) (decide_eq_false h1) (decide_eq_false h2)
   exact cQ this
theorem Sj{ks:List (List Key)}{k x:List Key}(h:x∈Bm ks k):x∈ks\/x=k:=by
 unfold Bm at h
 split at h
 ·exact .inl h
 ·exact(bV.mp h).imp id On.mp
theorem U1{ks:List (List Key)}{k:List Key}(nd:ks.Nodup):(Bm ks k).Nodup:=by
 unfold Bm
 split
 ·exact nd
 ·rename_i h
  rw [cR]
  refine⟨nd,by simp,λx hx y hy e=>h (hasK_iffU.mpr ?_)⟩
  rw [On] at hy
  subst hy; subst e; exact hx
theorem U2{ks:List (List Key)}{k:List Key}:(Bm ks k).length<=ks.length+1:=by
 unfold Bm
 split
 ·omega
 ·rw [bD,bW]; omega
theorem Ml{k:List Key}{d x:D}:∀{ks:List (List Key)} {ds:List D},x∈cz (λk0 d0=>if k0=k then d else d0) ks ds->x=d\/x∈ds
 | [],_,h=>by cases h
 | _::_,[],h=>by cases h
 | k0::ks,d0::ds,h=>by
  rw [iS] at h
  rcases TM.mp h with h | h
  ·by_cases e:k0=k
   ·rw [if_pos e] at h; exact .inl h
   ·rw [if_neg e] at h; exact .inr (by rw [h]; exact No)
  ·exact(Ml h).imp id (Rs _)
theorem Qf{ks:List (List Key)}{ds:List D}{k:List Key}{d x:D}(h:x∈Bl ks ds k d):x=d\/x∈ds:=by
 unfold Bl at h
 split at h
 ·exact Ml h
 ·rcases bV.mp h with h | h
  ·exact .inr h
  ·exact .inl (On.mp h)
theorem MM{k:List Key}{z:D}:∀{ks:List (List Key)} {ds:List D},Ba ks ds k=some z->z∈ds
 | [],_,h=>by cases h
 | _::_,[],h=>by cases h
 | k0::ks,d0::ds,h=>by
  unfold Ba at h
  split at h
  ·cases h; exact No
  ·exact Rs _ (MM h)
structure Tds (xs:List Str) (ks:List (List Key)) (ds:List D):Prop where
 len:ks.length=ds.length
 nd:ks.Nodup
 key:∀k∈ks,∃a b:Str,k=[.inr a,.inr b]/\a∈xs/\b∈xs/\cs a<cs b
 val:∀d∈ds,∃l:Int,d=.int l/\1<=l/\l<=1000000
theorem Tds.put{xs:List Str}{ks:List (List Key)}{ds:List D}(T:Tds xs ks ds){a b:Str}{l:Int}(ha:a∈xs)(hb:b∈xs)(lt:cs a<cs b)(l1:1<=l)(l2:l<=1000000):Tds xs (Bm ks [.inr a,.inr b]) (Bl ks ds [.inr a,.inr b] (.int l)):=by
 refine⟨Mi T.len,U1 T.nd,λk hk=>?_,λd hd=>?_⟩
 ·rcases Sj hk with hk | rfl
  ·exact T.key k hk
  ·exact⟨a,b,rfl,ha,hb,lt⟩
 ·rcases Qf hd with rfl | hd
  ·exact⟨l,rfl,l1,l2⟩
  ·exact T.val d hd
noncomputable def J4(ks:List (List Key))(ds:List D):D->D
 | .tup [.str a,.str b]=>.tup [.str a,.str b,(Ba ks ds [.inr a,.inr b]).getD .non]
 | d=>d
theorem MG(ks:List (List Key))(ds:List D)(a b:Str):J4 ks ds (.tup [.str a,.str b])=.tup [.str a,.str b,(Ba ks ds [.inr a,.inr b]).getD .non]:=rfl
theorem Tds.ties{xs:List Str}{ks:List (List Key)}{ds:List D}(T:Tds xs ks ds):∀{ks':List (List Key)},(∀k∈ks',k∈ks)->ks'.Nodup->ks'.Pairwise (λa b=>BB b a=false) ->
  ∃ts:List Ag,(ks'.map tupK).map (J4 ks ds)=ts.map Aj/\ts.map (λt=>([.inr t.a,.inr t.b]:List Key))=ks'/\(∀t∈ts,t.a∈xs/\t.b∈xs/\cs t.a<cs t.b/\1<=t.len/\t.len<=1000000)/\ts.Pairwise BG
 | [],_,_,_=>⟨[],rfl,rfl,(λt h=>by cases h),gn⟩
 | k::ks',hin,nd,pw=>by
  rw [bQ] at nd
  rw [b8] at pw
  obtain⟨ts,e1,e2,h1,h2⟩:=T.ties (ks':=ks') (λk hk=>hin k (Rs _ hk)) nd.2 pw.2
  obtain⟨a,b,rfl,ha,hb,lt⟩:=T.key k (hin k No)
  obtain⟨z,hz⟩:=FJ T.len (hin _ No)
  obtain⟨l,rfl,l1,l2⟩:=T.val z (MM hz)
  refine⟨⟨a,b,l⟩::ts,?_,?_,λt ht=>?_,b8.mpr ⟨λt ht=>?_,h2⟩⟩
  ·rw [bE,bE,bE,e1]
   show J4 ks ds (.tup [.str a,.str b])::_=_
   rw [MG,hz]; rfl
  ·rw [bE,e2]
  ·rcases TM.mp ht with rfl | ht
   ·exact⟨ha,hb,lt,l1,l2⟩
   ·exact h1 t ht
  ·have hm:([.inr t.a,.inr t.b]:List Key)∈ks':=by rw [← e2]; exact ZB.mpr ⟨t,ht,rfl⟩
   have h3:=pw.1 _ hm
   have hne:([.inr a,.inr b]:List Key)≠[.inr t.a,.inr t.b]:=λz=>nd.1 (by rw [z]; exact hm)
   have h3:(if (ce t.a:Key)=.inr a then (if (ce t.b:Key)=.inr b then false else decide (t.b.cps.toList<b.cps.toList)) else decide (t.a.cps.toList<a.cps.toList))=false:=h3
   show cs a<cs t.a\/(a=t.a/\cs b<cs t.b)
   by_cases q1:t.a=a
   ·rw [if_pos (by rw [q1])] at h3
    by_cases q2:t.b=b
    ·exact absurd (by rw [q1,q2]) hne
    ·rw [if_neg (λz=>q2 (cQ z))] at h3
     refine .inr ⟨q1.symm,?_⟩
     rcases P5 b t.b with l | l | l
     ·exact l
     ·exact absurd l.symm q2
     ·exact absurd l (of_decide_eq_false h3)
   ·rw [if_neg (λz=>q1 (cQ z))] at h3
    left
    rcases P5 a t.a with l | l | l
    ·exact l
    ·exact absurd l.symm q1
    ·exact absurd l (of_decide_eq_false h3)
theorem LG(h:L_ ss n Pd):GU (EE Pd) n (ss++Uf 5 .no):=by
 obtain⟨xs,most,rfl,hx,hr,h26,hm,hn,p⟩:=h
 have szl:=PySem.sizeLine_eq
 unfold GU
 refine⟨5,rfl,by decide,by decide,by omega,λsort s0 s1=>?_⟩
 refine⟨_,rfl,by omega,by omega,by omega,λmany m0 m1=>⟨many,rfl,⟨by omega,by omega⟩,?_⟩⟩
 refine Bv (all:=EH 0 many.toNat) (λpre m ρ=>n - 2 - 3*pre.length<=m/\∃(ks:List (List Key)) (ds:List D) (s5 s6 s7:Slot),ρ=[.fd,.sh (.tup (xs.map .str)),.sh (.int most),.ow (.dit ks ds),.sh (.int sort),s5,s6,s7]/\Tds xs ks ds/\ks.length<=pre.length) ?_ ?_ _ [] _ _ rfl ⟨by simp; omega,[],[],_,_,_,rfl,⟨rfl,bj,(λk h=>by cases h),λd h=>by cases h⟩,Op _⟩
 ·rintro m ρ ⟨hm2,ks,ds,s5,s6,s7,rfl,T,hkl⟩
  rw [Ic] at hm2 hkl
  refine⟨ks,ds,rfl,T.len,by omega,λx hx' y hy'=>?_,λx hx'=>?_,λk hk' x hx'=>?_,λks' hp pw=>⟨by show (ks'.map tupK).length<=10000000; rw [FM,hp.length_eq]; omega,?_⟩⟩
  ·obtain⟨a,b,rfl,_⟩:=T.key x hx'
   obtain⟨a',b',rfl,_⟩:=T.key y hy'
   rfl
  ·obtain⟨a,b,rfl,_⟩:=T.key x hx'
   simp
  ·obtain⟨a,b,rfl,ha,hb,_⟩:=T.key k hk'
   have fit:∀y∈xs,Ek (.inr y):=λy hy=>by
    have:=(hx y hy).2.1
    show y.length<=sizeLine
    omega
   rcases TM.mp hx' with rfl | hx'
   ·exact fit a ha
   ·rw [On.mp hx']; exact fit b hb
  ·obtain⟨ts,e1,e2,h1,h2⟩:=T.ties (ks':=ks') (λk hk'=>hp.mem_iff.mp hk') (hp.nodup_iff.mpr T.nd) pw
   have htl:ts.length=ks.length:=by rw [← hp.length_eq,← e2,FM]
   refine Bw (J4 ks ds) (λρ=>∃s,ρ=[.br (.dit ks ds),s]) _ _ _ _ ?_ ⟨_,rfl⟩ ?_
   ·rintro d hd ρ n' nx ⟨s,rfl⟩ hnx
    obtain⟨k,hk',rfl⟩:=ZB.mp hd
    have hkk:=hp.mem_iff.mp hk'
    obtain⟨a,b,rfl,_⟩:=T.key k hkk
    obtain⟨z,hz⟩:=FJ T.len hkk
    have:=hnx [.br (.dit ks ds),.sh (.tup [.str a,.str b])] ⟨_,rfl⟩
    rw [show J4 ks ds (tupK [.inr a,.inr b])=.tup [.str a,.str b,z] by show J4 ks ds (.tup [.str a,.str b])=_; rw [MG,hz]; rfl] at this
    exact⟨ks,ds,_,z,rfl,rfl,hz,z1,z3,this⟩
   ·rw [cD,e1]
    exact p ts m ⟨hx,hr,h1,h2⟩ (by omega) (by omega)
 ·rintro pre d post m ρ nx hall ⟨hm2,ks,ds,s5,s6,s7,rfl,T,hkl⟩ hnx
  obtain⟨rfl,hk⟩:=Hv hall
  rw [bD,bW] at hnx
  generalize pre.length=i at hk hm2 hkl hnx ⊢
  have xl:(xs.map D.str).length=xs.length:=FM ..
  refine⟨_,_,rfl,rfl,?_⟩
  show if decide ((1:Int)<((xs.map D.str).length:Int))=true then _ else _
  refine Cg (λc=>?_) λc=>hnx _ _ ⟨by omega,ks,ds,_,_,_,rfl,T,by omega⟩
  have c:=of_decide_eq_true c
  rw [xl] at c
  refine⟨_,_,rfl,rfl,_,rfl,by omega,by omega,by omega,λa a0 a1=>?_⟩
  refine⟨_,_,rfl,rfl,_,rfl,by omega,by omega,by omega,λq q0 q1=>⟨_,_,rfl,rfl,by show (0:Int)<_; omega,?_⟩⟩
  rw [xl] at a1 q1 ⊢
  obtain⟨s,es,se0,se3⟩:∃s:Int,atI [D.int sort,D.int ((0+(i:Int)) % 4)] (sort / 4)=some (.int s)/\0<=s/\s<=3:=by
   rcases (show sort<4\/sort=4 by omega) with z | z
   ·refine⟨sort,?_,s0,by omega⟩
    rw [show sort / 4=0 by omega]; rfl
   ·refine⟨(0+(i:Int)) % 4,?_,by omega,by omega⟩
    rw [show sort / 4=1 by omega]; rfl
  refine⟨ks,ds,rfl,by show (0:Int)<4; decide,z2,⟨by decide,by decide⟩,_,es,s,rfl,se0,se3,by omega,λr r1 r2=>?_⟩
  have hb0:0<=(a+1+q) % (xs.length:Int)/\(a+1+q) % (xs.length:Int)<xs.length:=⟨iJ _ (by omega),gW _ (by omega)⟩
  have hab:(a+1+q) % (xs.length:Int)≠a:=by
   intro e
   rcases (show a+1+q<xs.length\/xs.length<=a+1+q by omega) with z | z
   ·rw [Int.emod_eq_of_lt (by omega) z] at e; omega
   ·have:(a+1+q) % (xs.length:Int)=a+1+q - xs.length:=by
     rw [← Int.sub_emod_right,Int.emod_eq_of_lt (by omega) (by omega)]
    omega
  obtain⟨b,eb⟩:∃b,(a+1+q) % (xs.length:Int)=b:=⟨_,rfl⟩
  rw [eb] at hb0 hab
  have key:∀lo hi:Int,0<=lo->lo<hi->hi<xs.length->∃x y:Str,atI (xs.map D.str) lo=some (.str x)/\atI (xs.map D.str) hi=some (.str y)/\x∈xs/\y∈xs/\cs x<cs y:=by
   intro lo hi l0 lh hl
   have h1:lo.toNat<xs.length:=by omega
   have h2:hi.toNat<xs.length:=by omega
   refine⟨xs[lo.toNat],xs[hi.toNat],?_,?_,bv _,bv _,?_⟩
   ·have:=AQ (xs:=xs.map D.str) (j:=lo.toNat) (v:=.str xs[lo.toNat]) (by rw [T0,Db h1]; rfl)
    rwa [show ((lo.toNat:Nat):Int)=lo by omega] at this
   ·have:=AQ (xs:=xs.map D.str) (j:=hi.toNat) (v:=.str xs[hi.toNat]) (by rw [T0,Db h2]; rfl)
    rwa [show ((hi.toNat:Nat):Int)=hi by omega] at this
   ·exact fF.mp hr _ _ h1 h2 (by omega)
  obtain⟨x,y,ex,ey,hx1,hy1,lt⟩:=key (if b<a then b else a) (if b > a then b else a) (by split <;> omega) (by split <;> omega) (by split <;> omega)
  have done:=hnx (m - 1 - 1 - 1) [.fd,.sh (.tup (xs.map .str)),.sh (.int most),.ow (.dit (Bm ks [.inr x,.inr y]) (Bl ks ds [.inr x,.inr y] (.int r))),.sh (.int sort),.sh (.int (0+(i:Int))),.sh (.int a),.sh (.int b)] ⟨by omega,_,_,_,_,_,rfl,T.put hx1 hy1 lt r1 r2,bS U2 (by omega)⟩
  subst eb
  refine⟨_,ex,_,ey,z2,_,rfl,by omega,done⟩
end
noncomputable abbrev Mx:=Nat->Nat->Option Int
noncomputable def Im(g:Mx)(i j:Nat)(x:Int):Mx:=λa b=>if a=i/\b=j then some x else g a b
theorem BS{g:Mx}{i j:Nat}{x:Int}:Im g i j x i j=some x:=if_pos ⟨rfl,rfl⟩
theorem BK{g:Mx}{i j a b:Nat}{x:Int}(h:¬(a=i/\b=j)):Im g i j x a b=g a b:=if_neg h
inductive WI (E:Nat->Nat->Int->Prop) (m i:Nat):Nat->Int->Prop
 | nil:WI E m i i 0
 | one {j:Nat} {l:Int}:E i j l->WI E m i j l
 | snoc {k j:Nat} {d l:Int}:WI E m i k d->k<m->E k j l->WI E m i j (d+l)
section
variable {E A:Nat->Nat->Int->Prop}{n m i j a b:Nat}{d:Int}{g g0:Mx}
theorem WI.pos(hp:∀i j l,E i j l->0<=l)(h:WI E m i j d):0<=d:=by
 induction h with
 | nil=>exact ca _
 | one e=>exact hp _ _ _ e
 | snoc _ _ e ih=>have:=hp _ _ _ e; omega
theorem WI.split(hp:∀i j l,E i j l->0<=l)(h:WI E (m+1) i j d):WI E m i j d\/∃d1 d2,WI E m i m d1/\WI E m m j d2/\d1+d2<=d:=by
 induction h with
 | nil=>exact .inl .nil
 | one e=>exact .inl (.one e)
 | @snoc k j d l _ hk e ih =>
  have hl:=hp _ _ _ e
  rcases ih with w | ⟨d1,d2,w1,w2,le⟩
  ·by_cases hm:k<m
   ·exact .inl (.snoc w hm e)
   ·have:k=m:=by omega
    subst this
    exact .inr ⟨d,l,w,.one e,ca _⟩
  ·by_cases hm:k<m
   ·exact .inr ⟨d1,d2+l,w1,.snoc w2 hm e,by omega⟩
   ·have:k=m:=by omega
    subst this
    have:=w2.pos hp
    exact .inr ⟨d1,l,w1,.one e,by omega⟩
structure Fm (E A:Nat->Nat->Int->Prop) (n m:Nat) (g:Mx):Prop where
 snd:∀i j d,g i j=some d->A i j d
 cmp:∀i j d,i<n->j<n->WI E m i j d->∃d',g i j=some d'/\d'<=d
structure Rm (A:Nat->Nat->Int->Prop) (n m:Nat) (g0:Mx) (a b:Nat) (g:Mx):Prop where
 snd:∀i j d,g i j=some d->A i j d
 dec:∀i j d,g0 i j=some d->∃d',g i j=some d'/\d'<=d
 got:∀i j,j<n->(i<a\/(i=a/\j<b))->∀d1 d2,g0 i m=some d1->g0 m j=some d2->∃d',g i j=some d'/\d'<=d1+d2
theorem Fm.start(h:Fm E A n m g0):Rm A n m g0 0 0 g0:=⟨h.snd,λi j d e=>⟨d,e,ca _⟩,λi j _ z=>by omega⟩
theorem Rm.next(h:Rm A n m g0 a n g):Rm A n m g0 (a+1) 0 g:=⟨h.snd,h.dec,λi j hj z=>h.got i j hj (by omega)⟩
theorem Rm.done(hp:∀i j l,E i j l->0<=l)(hm:m<n)(h0:Fm E A n m g0)(h:Rm A n m g0 n 0 g):Fm E A n (m+1) g:=by
 refine⟨h.snd,λi j d hi hj w=>?_⟩
 rcases w.split hp with w | ⟨d1,d2,w1,w2,le⟩
 ·obtain⟨d',e,l⟩:=h0.cmp i j d hi hj w
  obtain⟨d2,e2,l2⟩:=h.dec i j d' e
  exact⟨d2,e2,by omega⟩
 ·obtain⟨x,ex,lx⟩:=h0.cmp i m d1 hi hm w1
  obtain⟨y,ey,ly⟩:=h0.cmp m j d2 hm hj w2
  obtain⟨z,ez,lz⟩:=h.got i j hj (.inl hi) x y ex ey
  exact⟨z,ez,by omega⟩
theorem Rm.skip(h:Rm A n m g0 a b g)(hn:∀d1 d2,g a m=some d1->g m b=some d2->∃d',g a b=some d'/\d'<=d1+d2):Rm A n m g0 a (b+1) g:=by
 refine⟨h.snd,h.dec,λi j hj z d1 d2 e1 e2=>?_⟩
 by_cases c:i<a\/(i=a/\j<b)
 ·exact h.got i j hj c d1 d2 e1 e2
 ·have e1':i=a:=by omega
  have e2':j=b:=by omega
  subst e1' e2'
  obtain⟨x,ex,lx⟩:=h.dec _ _ _ e1
  obtain⟨y,ey,ly⟩:=h.dec _ _ _ e2
  obtain⟨z,ez,lz⟩:=hn x y ex ey
  exact⟨z,ez,by omega⟩
theorem Rm.put(ht:∀i k j d1 d2,A i k d1->A k j d2->A i j (d1+d2))(h:Rm A n m g0 a b g){x y:Int}(hx:g a m=some x)(hy:g m b=some y)(hl:∀z,g a b=some z->x+y<=z):Rm A n m g0 a (b+1) (Im g a b (x+y)):=by
 have le:∀i j d,g i j=some d->∃d',Im g a b (x+y) i j=some d'/\d'<=d:=λi j d e=>by
  by_cases c:i=a/\j=b
  ·obtain⟨rfl,rfl⟩:=c
   exact⟨_,BS,hl d e⟩
  ·exact⟨d,by rw [BK c]; exact e,ca _⟩
 refine⟨λi j d e=>?_,λi j d e=>?_,λi j hj z d1 d2 e1 e2=>?_⟩
 ·by_cases c:i=a/\j=b
  ·obtain⟨rfl,rfl⟩:=c
   rw [BS] at e
   cases e
   exact ht _ _ _ _ _ (h.snd _ _ _ hx) (h.snd _ _ _ hy)
  ·rw [BK c] at e
   exact h.snd i j d e
 ·obtain⟨d1,e1,l1⟩:=h.dec i j d e
  obtain⟨d2,e2,l2⟩:=le i j d1 e1
  exact⟨d2,e2,by omega⟩
 ·by_cases c:i<a\/(i=a/\j<b)
  ·obtain⟨d',e',l'⟩:=h.got i j hj c d1 d2 e1 e2
   obtain⟨d3,e3,l3⟩:=le i j d' e'
   exact⟨d3,e3,by omega⟩
  ·have e1':i=a:=by omega
   have e2':j=b:=by omega
   subst e1' e2'
   obtain⟨x',ex,lx⟩:=h.dec _ _ _ e1
   obtain⟨y',ey,ly⟩:=h.dec _ _ _ e2
   rw [hx] at ex
   rw [hy] at ey
   cases ex
   cases ey
   exact⟨_,BS,by omega⟩
end
noncomputable def EI(N:Net)(i j:Nat)(l:Int):Prop:=∃x y,N.ps[i]?=some x/\N.ps[j]?=some y/\Ed N x y l
noncomputable def AI(N:Net)(i j:Nat)(d:Int):Prop:=∃x y,N.ps[i]?=some x/\N.ps[j]?=some y/\Wk N x y d
theorem Wk.trans{N:Net}{x y z:Str}{d1 d2:Int}(h1:Wk N x y d1)(h2:Wk N y z d2):Wk N x z (d1+d2):=by
 induction h2 with
 | nil=>rw [Int.add_zero]; exact h1
 | snoc _ e ih=>rw [← iq]; exact .snoc ih e
theorem AI.trans{N:Net}:∀i k j d1 d2,AI N i k d1->AI N k j d2->AI N i j (d1+d2):=by
 rintro i k j d1 d2 ⟨x,y,hx,hy,w⟩ ⟨y',z,hy',hz,w'⟩
 rw [hy] at hy'
 cases hy'
 exact⟨x,z,hx,hz,w.trans w'⟩
theorem EI.pos{N:Net}(ok:N.Ok):∀i j l,EI N i j l->0<=l:=by
 rintro i j l ⟨x,y,_,_,e⟩
 have:=e.pos ok
 omega
theorem Lh{N:Net}(ok:N.Ok){i j:Nat}{x:Str}(h1:N.ps[i]?=some x)(h2:N.ps[j]?=some x):i=j:=by
 exact F4 (Dd ok.rise) h1 h2
theorem TV{N:Net}{x:Str}(h:x∈N.ps):∃i,N.ps[i]?=some x/\i<N.ps.length:=by
 obtain⟨i,l,e⟩:=dC.mp h
 exact⟨i,by rw [Db l,e],l⟩
theorem Wk.wi{N:Net}(ok:N.Ok){i:Nat}{x:Str}(hx:N.ps[i]?=some x){y:Str}{d:Int}(h:Wk N x y d):∀{j:Nat},N.ps[j]?=some y->WI (EI N) N.ps.length i j d:=by
 induction h with
 | nil =>
  intro j hj
  rw [Lh ok hx hj]
  exact .nil
 | @snoc z y d l w e ih =>
  intro j hj
  obtain⟨k,hk,kl⟩:=TV (w.ins ok (bq hx))
  exact .snoc (ih hk) kl ⟨z,y,hk,hj,e⟩
structure Tm (N:Net) (ts:List Ag) (g:Mx):Prop where
 snd:∀i j d,g i j=some d->AI N i j d
 dia:∀i,i<N.ps.length->∃d,g i i=some d/\d<=0
 tie:∀t∈ts,∀i j,N.ps[i]?=some t.a->N.ps[j]?=some t.b->g i j=some t.len/\g j i=some t.len
theorem Tm.put{N:Net}(ok:N.Ok){ts:List Ag}{t:Ag}{g:Mx}(h:Tm N ts g)(hm:t∈N.ts)(hp:(ts++[t]).Pairwise BG)(hs:∀s∈ts,s∈N.ts){i j:Nat}(hi:N.ps[i]?=some t.a)(hj:N.ps[j]?=some t.b):Tm N (ts++[t]) (Im (Im g i j t.len) j i t.len):=by
 obtain⟨_,_,lt,_⟩:=ok.tin t hm
 have ne:i≠j:=λe=>by
  subst e
  rw [hi] at hj
  rw [UF hj] at lt
  exact bc _ lt
 have ed:=GG hm
 refine⟨λa b d e=>?_,λa ha=>?_,λs hs' a b ha hb=>?_⟩
 ·by_cases c1:a=j/\b=i
  ·obtain⟨rfl,rfl⟩:=c1
   rw [BS] at e
   cases e
   have:=Wk.snoc (.nil (N:=N) (s:=t.b)) ed.2
   rw [cK] at this
   exact⟨_,_,hj,hi,this⟩
  ·rw [BK c1] at e
   by_cases c2:a=i/\b=j
   ·obtain⟨rfl,rfl⟩:=c2
    rw [BS] at e
    cases e
    have:=Wk.snoc (.nil (N:=N) (s:=t.a)) ed.1
    rw [cK] at this
    exact⟨_,_,hi,hj,this⟩
   ·rw [BK c2] at e
    exact h.snd a b d e
 ·rw [BK (by omega),BK (by omega)]
  exact h.dia a ha
 ·rcases bV.mp hs' with hs1 | hs1
  ·have h1:=h.tie s hs1 a b ha hb
   have hlt:=(List.pairwise_append.mp hp).2.2 s hs1 t No
   obtain⟨_,_,lt2,_⟩:=ok.tin s (hs s hs1)
   have nab:¬(a=i/\b=j):=fun⟨z1,z2⟩=>by
    subst z1 z2
    rw [hi] at ha
    rw [hj] at hb
    have e1:=UF ha
    have e2:=UF hb
    rcases hlt with l | ⟨l1,l2⟩
    ·rw [e1] at l; exact bc _ l
    ·rw [e2] at l2; exact bc _ l2
   have nba:¬(a=j/\b=i):=fun⟨z1,z2⟩=>by
    subst z1 z2
    rw [hj] at ha
    rw [hi] at hb
    have e1:=UF ha
    have e2:=UF hb
    rw [← e1,← e2] at lt2
    exact absurd lt2 (iu lt)
   rw [BK (by omega),BK (by omega),BK (by omega),BK (by omega)]
   exact h1
  ·rw [On.mp hs1] at ha hb ⊢
   have e1:=Lh ok ha hi
   have e2:=Lh ok hb hj
   subst e1 e2
   rw [BK (a:=a) (b:=b) (by omega),BS,BS]
   exact⟨rfl,rfl⟩
theorem Tm.fm{N:Net}(ok:N.Ok){g:Mx}(h:Tm N N.ts g):Fm (EI N) (AI N) N.ps.length 0 g:=by
 refine⟨h.snd,λi j d hi hj w=>?_⟩
 cases w with
 | nil=>exact h.dia i hi
 | one e =>
  obtain⟨x,y,hx,hy,e⟩:=e
  obtain⟨t,ht,rfl,c⟩:=e.tie ok
  rcases c with ⟨rfl,rfl⟩ | ⟨rfl,rfl⟩
  ·exact⟨_,(h.tie t ht i j hx hy).1,ca _⟩
  ·exact⟨_,(h.tie t ht j i hy hx).2,ca _⟩
 | snoc _ z _=>omega
noncomputable def Zh(N:Net)(F:Str->Str->Option Int):Prop:=∀x∈N.ps,∀y∈N.ps,(∀d,F x y=some d->Least N x y d)/\∀d,Wk N x y d->F x y≠none
noncomputable def ofM(ps:List Str)(g:Mx)(x y:Str):Option Int:=g (ps.idxOf x) (ps.idxOf y)
theorem Fm.far{N:Net}(ok:N.Ok){g:Mx}(h:Fm (EI N) (AI N) N.ps.length N.ps.length g):Zh N (ofM N.ps g):=by
 intro x hx y hy
 have lx:=fP.mpr hx
 have ly:=fP.mpr hy
 have ex:N.ps[N.ps.idxOf x]?=some x:=by rw [Db lx,fO lx]
 have ey:N.ps[N.ps.idxOf y]?=some y:=by rw [Db ly,fO ly]
 have cm:∀d,Wk N x y d->∃d',ofM N.ps g x y=some d'/\d'<=d:=λd w=>h.cmp _ _ d lx ly (w.wi ok ex ey)
 refine⟨λd e=>⟨?_,λd' w=>?_⟩,λd w e=>?_⟩
 ·obtain⟨x',y',h1,h2,w⟩:=h.snd _ _ _ e
  rw [ex] at h1
  rw [ey] at h2
  cases h1
  cases h2
  exact w
 ·obtain⟨d2,e2,l2⟩:=cm d' w
  rw [e] at e2
  cases e2
  exact l2
 ·obtain⟨d2,e2,_⟩:=cm d w
  rw [e] at e2
  cases e2
noncomputable def ov:Option Int->V
 | none=>.non
 | some l=>.int l
noncomputable def od:Option Int->D
 | none=>.non
 | some l=>.int l
noncomputable def Fv(n:Nat)(g:Mx)(i:Nat):List V:=(bU n).map λj=>ov (g i j)
noncomputable def Hg(ps:List Str)(F:Str->Str->Option Int):D:=.lst (ps.map λx=>.lst (ps.map λy=>od (F x y)))
theorem EG{n:Nat}{g:Mx}{i:Nat}:(Fv n g i).length=n:=by unfold Fv; rw [FM,dH]
theorem Fu{n:Nat}{g:Mx}{i j:Nat}(h:j<n):(Fv n g i)[j]?=some (ov (g i j)):=by
 unfold Fv
 rw [T0,gI h]; rfl
theorem Uy{n:Nat}{g:Mx}{i j:Nat}(h:j<n):atI (Fv n g i) (j:Int)=some (ov (g i j)):=AQ (Fu h)
theorem SM{n:Nat}{g:Mx}{i j:Nat}{x:Int}:(Fv n g i).set j (.int x)=Fv n (Im g i j x) i:=by
 refine gu λk=>?_
 by_cases hk:k<n
 ·rw [Fu hk,fc]
  by_cases e:j=k
  ·subst e
   rw [if_pos rfl,if_pos (by rw [EG]; exact hk),BS]; rfl
  ·rw [if_neg e,Fu hk,BK (by omega)]
 ·rw [di (by rw [de,EG]; omega),di (by rw [EG]; omega)]
theorem Ux{n:Nat}{g:Mx}{i j k:Nat}{x:Int}(h:k≠i):Fv n (Im g i j x) k=Fv n g k:=by
 unfold Fv
 refine eJ λy _=>?_
 rw [BK (by omega)]
structure Mat (H:Hp) (d:Addr) (as:List Addr) (n:Nat) (g:Mx) (H':Hp):Prop where
 old:∀b o,H b=some o->H' b=some o
 new:H d=none
 top:H' d=some (.lst (as.map .ref))
 inn:∀i a,as[i]?=some a->H a=none/\a≠d/\H' a=some (.lst (Fv n g i))
section
variable {H H':Hp}{d:Addr}{as:List Addr}{n:Nat}{g:Mx}
theorem Mat.ads(s:Mat H d as n g H')(hd:as.Nodup){i j:Nat}{a:Addr}(h1:as[i]?=some a)(h2:as[j]?=some a):i=j:=by
 obtain⟨l1,e1⟩:=TW.mp h1
 obtain⟨l2,e2⟩:=TW.mp h2
 exact List.getElem_inj hd |>.mp (e1.trans e2.symm)
theorem Mat.put(s:Mat H d as n g H')(hd:as.Nodup){i j:Nat}{a:Addr}{x:Int}(ha:as[i]?=some a):Mat H d as n (Im g i j x) (As H' a (.lst ((Fv n g i).set j (.int x)))):=by
 obtain⟨i1,i2,i3⟩:=s.inn i a ha
 refine⟨λb o e=>?_,s.new,?_,λk b hb=>?_⟩
 ·have:b≠a:=λz=>by rw [z,i1] at e; cases e
  rw [AK this]
  exact s.old b o e
 ·rw [AK (bp i2)]
  exact s.top
 ·obtain⟨g1,g2,g3⟩:=s.inn k b hb
  refine⟨g1,g2,?_⟩
  by_cases e:b=a
  ·subst e
   have:=s.ads hd hb ha
   subst this
   rw [AT,SM]
  ·have hk:k≠i:=λz=>by
    subst z
    rw [ha] at hb
    exact e (UF hb).symm
   rw [AK e,Ux hk]
   exact g3
theorem Mat.more(s:Mat H d as n g H'){p q:Addr}{o:HO}{xs:List V}(hp:H' p=none)(hq:As H' p o q=none)(hr:Fv n g as.length=xs):Mat H d (as++[q]) n g (As (As (As H' p o) q (.lst xs)) d (.lst (as.map .ref++[.ref q]))):=by
 have np:∀b u,H' b=some u->b≠p:=λb u e z=>by rw [z,hp] at e; cases e
 have hqp:q≠p:=λz=>by rw [z,AT] at hq; cases hq
 have hq':H' q=none:=by rw [AK hqp] at hq; exact hq
 have nq:∀b u,H' b=some u->b≠q:=λb u e z=>by rw [z,hq'] at e; cases e
 have hHq:H q=none:=by
  cases c:H q with
  | none=>rfl
  | some u=>rw [s.old q u c] at hq'; cases hq'
 refine⟨λb u e=>?_,s.new,?_,λi a ha=>?_⟩
 ·have h':=s.old b u e
  rw [AK (λz=>by rw [z,s.new] at e; cases e),AK (nq b u h'),AK (np b u h')]
  exact h'
 ·rw [AT,cH]; rfl
 ·rw [List.getElem?_append] at ha
  split at ha
  ·obtain⟨g1,g2,g3⟩:=s.inn i a ha
   exact⟨g1,g2,by rw [AK g2,AK (nq a _ g3),AK (np a _ g3)]; exact g3⟩
  ·rename_i hl
   have hi:i=as.length:=by
    have:=(TW.mp ha).1
    rw [bW] at this
    omega
   subst hi
   rw [fL] at ha
   cases (show q=a from UF ha)
   have nd:q≠d:=λz=>by rw [z,s.top] at hq'; cases hq'
   exact⟨hHq,nd,by rw [AK nd,AT,hr]⟩
theorem Mat.fresh(s:Mat H d as n g H'){q:Addr}(hq:H' q=none):q∉as:=λhm=>by
 obtain⟨i,l,e⟩:=dC.mp hm
 obtain⟨_,_,h⟩:=s.inn i q (by rw [Db l,e])
 rw [h] at hq
 cases hq
end
theorem O0{K:Frag}{M:Addr->Prop}{H:Hp}:∀{ds:List D} {vs:List V},ds.length=vs.length->(∀(i:Nat) d v,ds[i]?=some d->vs[i]?=some v->At K M H d v)->Ats K M H ds vs
 | [],[],_,_=>rfl
 | d::ds,v::vs,hl,h=>⟨v,vs,rfl,h 0 d v rfl rfl,O0 (iE hl) λi d' v' e1 e2=>h (i+1) d' v' e1 e2⟩
 | [],_::_,hl,_=>by cases hl
 | _::_,[],hl,_=>by cases hl
theorem Mat.at_{K:Frag}{M:Addr->Prop}{H H':Hp}{d:Addr}{as:List Addr}{ps:List Str}{g:Mx}(dom:∀a,M a->∃o,H a=some o)(s:Mat H d as ps.length g H')(hl:as.length=ps.length)(nd:ps.Nodup):At K M H' (Hg ps (ofM ps g)) (.ref d):=by
 have nM:∀b,H b=none->¬M b:=λb e m=>by obtain⟨o,h⟩:=dom b m; rw [h] at e; cases e
 have ix:∀{i:Nat} {x:Str},ps[i]?=some x->ps.idxOf x=i:=λ{i x} e=>by
  have hx:=bq e
  have lx:=fP.mpr hx
  exact F4 nd (by rw [Db lx,fO lx]) e
 refine⟨d,as.map .ref,rfl,⟨nM d s.new,s.top⟩,O0 (by rw [FM,FM,hl]) λi x v e1 e2=>?_⟩
 rw [T0] at e1 e2
 obtain⟨p,hp,rfl⟩:=bM.mp e1
 obtain⟨a,ha,rfl⟩:=bM.mp e2
 obtain⟨g1,g2,g3⟩:=s.inn i a ha
 refine⟨a,_,rfl,⟨nM a g1,g3⟩,O0 (by rw [FM,EG]) λj y v f1 f2=>?_⟩
 rw [T0] at f1
 obtain⟨q,hq,rfl⟩:=bM.mp f1
 rw [Fu (TW.mp hq).1] at f2
 cases f2
 show At K M H' (od (g (ps.idxOf p) (ps.idxOf q))) _
 rw [ix hp,ix hq]
 cases g i j with
 | none=>rfl
 | some l=>rfl
theorem Xq{n j:Nat}(h:j<n):Rc n (j:Int)=some j:=by
 unfold Rc
 rw [if_pos (by omega),if_pos (by omega)]
 congr 1
section
variable {K:Frag}{H H':Hp}{d:Addr}{as:List Addr}{n:Nat}{g:Mx}{σ:L2.St}{a b i j:Nat}{zi zj:Int}
theorem Mat.rd2(s:Mat H d as n g H')(hl:as.length=n){Q:VK}(hi:i<n)(hj:j<n)(hd:σ[3]?=some (some (.ref d)))(ha:σ[a]?=some (some (.int zi)))(ei:zi=i)(hb:σ[b]?=some (some (.int zj)))(ej:zj=j){o:Option Int}(eo:g i j=o)(q:Q (ov o) H') :
  Cd (Qe K) (Cd (Qe K) (BJ 3) (BJ a)) (BJ b) σ H' Q:=by
 subst ei ej eo
 obtain⟨r,hr⟩:∃r,as[i]?=some r:=⟨_,Db (by omega)⟩
 obtain⟨_,_,h3⟩:=s.inn i r hr
 exact⟨.ref d,hd,.int i,ha,d,_,_,.ref r,rfl,rfl,SqL.of s.top,AQ (by rw [T0,hr]; rfl),.int j,hb,r,_,_,_,rfl,rfl,SqL.of h3,Uy hj,q⟩
theorem Mat.wr(s:Mat H d as n g H')(hl:as.length=n)(nd:as.Nodup){x:Int}{to ti:TE}{R:L2.St->Hp->Prop}(hi:i<n)(hj:j<n)(ho:∀Q:VK,(∀r,as[i]?=some r->Q (.ref r) H')->to σ H' Q)(ht:∀Q:VK,Q (.int (j:Int)) H'->ti σ H' Q)(q:∀H'',Mat H d as n (Im g i j x) H''->R σ H'') :
  Xx to ti Sd (.int x) σ H' R:=by
 refine ho _ λr hr=>ht _ ?_
 obtain⟨_,_,h3⟩:=s.inn i r hr
 exact⟨r,_,_,j,rfl,rfl,h3,Xq (by rw [EG]; exact hj),q _ (s.put nd hr)⟩
theorem Mat.row(s:Mat H d as n g H')(hl:as.length=n)(hi:i<n){Q:VK}{ti:TE}(hd:σ[3]?=some (some (.ref d)))(ht:∀Q:VK,Q (.int (i:Int)) H'->ti σ H' Q)(q:∀r,as[i]?=some r->Q (.ref r) H'):Cd (Qe K) (BJ 3) ti σ H' Q:=by
 obtain⟨r,hr⟩:∃r,as[i]?=some r:=⟨_,Db (by omega)⟩
 exact⟨.ref d,hd,ht _ ⟨d,_,_,.ref r,rfl,rfl,SqL.of s.top,AQ (by rw [T0,hr]; rfl),q r hr⟩⟩
end
theorem VW{K:Frag}{a:Addr}{xs:List V}{g:TG}{tb:TS}{D:Ends}{σ:L2.St}{H:Hp}{J:It}(Pv:Nat->L2.St->Hp->Prop)(h0:Pv 0 σ H)(hl:(J=Ub K a/\∀i σ H,Pv i σ H->SqL K H a xs)\/(J=Rj K a/\∀i σ H,Pv i σ H->SqT K H a xs))
  (hs:∀i x σ H,xs[i]?=some x->Pv i σ H->g x σ H λσ2 H2=>tb { D with nx:=Pv (i+1),ct:=Pv (i+1),bk:=D.nx } σ2 H2) (hd:∀σ H,Pv xs.length σ H->D.nx σ H) :
  ∃W:Nat->Nat->L2.St->Hp->Prop,(∃m,W 0 m σ H)/\∀i m σ H,W i m σ H ->
   (J.stop i H/\D.nx σ H)\/(J.go i H/\∃N:L2.St->Hp->Prop,(∀σ' H',N σ' H'->∃m',m'<m/\W (i+1) m' σ' H')/\∀x H',J.yld i H x H'->g x σ H' λσ2 H2=>tb { D with nx:=N,ct:=N,bk:=D.nx } σ2 H2):=by
 rcases hl with ⟨rfl,h⟩ | ⟨rfl,h⟩
 ·exact Th Pv h0 (λi σ H _ p=>h i σ H p) hs hd
 ·exact Ll Pv h0 (λi σ H _ p=>h i σ H p) hs hd
theorem YE{K:Frag}{H:Hp}{a:Addr}{J:It}{R:It->Hp->Prop}(h:(J=Ub K a/\∃xs,SqL K H a xs)\/(J=Rj K a/\∃xs,SqT K H a xs))(r:R J H):(∃b,V.ref a=.ref b/\(∃xs,SqL K H b xs)/\R (Ub K b) H)\/(∃b,V.ref a=.ref b/\(∃xs,SqT K H b xs)/\R (Rj K b) H)\/∃z,V.ref a=.str z/\R (Zy z) H:=by
 rcases h with ⟨rfl,h⟩ | ⟨rfl,h⟩
 ·exact .inl ⟨a,rfl,h,r⟩
 ·exact .inr (.inl ⟨a,rfl,h,r⟩)
theorem SE{K:Frag}{a:Addr}{xs:List V}{g:TG}{tb:TS}{D:Ends}{σ:L2.St}{H:Hp}{J:It}{i:Nat}(hv:σ[i]?=some (some (.ref a)))(Pv:Nat->L2.St->Hp->Prop)(h0:Pv 0 σ H)(hl:(J=Ub K a/\∀i σ H,Pv i σ H->SqL K H a xs)\/(J=Rj K a/\∀i σ H,Pv i σ H->SqT K H a xs))
  (hs:∀i x σ H,xs[i]?=some x->Pv i σ H->g x σ H λσ2 H2=>tb { D with nx:=Pv (i+1),ct:=Pv (i+1),bk:=D.nx } σ2 H2) (hd:∀σ H,Pv xs.length σ H->D.nx σ H):Yn (ZG K (BJ i)) g tb D σ H :=
 ⟨.ref a,hv,YE (R:=λJ H1=>∃W:Nat->Nat->L2.St->Hp->Prop,(∃m,W 0 m σ H1)/\∀i m σ H,W i m σ H ->
   (J.stop i H/\D.nx σ H)\/(J.go i H/\∃N:L2.St->Hp->Prop,(∀σ' H',N σ' H'->∃m',m'<m/\W (i+1) m' σ' H')/\∀x H',J.yld i H x H'->g x σ H' λσ2 H2=>tb { D with nx:=N,ct:=N,bk:=D.nx } σ2 H2)) (hl.imp (λh=>⟨h.1,_,h.2 _ _ _ h0⟩) λh=>⟨h.1,_,h.2 _ _ _ h0⟩) (VW Pv h0 hl hs hd)⟩
noncomputable def Dg(N:Net)(k:Nat)(g:Mx):Prop:=(∀i j d,g i j=some d->AI N i j d)/\∀i,i<k->∃d,g i i=some d/\d<=0
theorem Dg.zero{N:Net}:Dg N 0 (λ_ _=>none):=⟨λ_ _ _ e=>(by cases e),λ_ h=>(by omega)⟩
theorem Dg.succ{N:Net}{k:Nat}{g:Mx}(hk:k<N.ps.length)(h:Dg N k g):Dg N (k+1) (Im g k k 0):=by
 refine⟨λi j d e=>?_,λi hi=>?_⟩
 ·by_cases c:i=k/\j=k
  ·obtain⟨rfl,rfl⟩:=c
   rw [BS] at e
   cases e
   exact⟨_,_,Db hk,Db hk,.nil⟩
  ·rw [BK c] at e
   exact h.1 i j d e
 ·by_cases c:i=k
  ·subst c
   exact⟨0,BS,ca _⟩
  ·rw [BK (by omega)]
   exact h.2 i (by omega)
theorem Dg.tm{N:Net}{g:Mx}(h:Dg N N.ps.length g):Tm N [] g:=⟨h.1,h.2,λt ht=>by cases ht⟩
theorem PH{K:Frag}{M:Addr->Prop}{H:Hp}:∀{ss:List Str} {vs:List V},Ats K M H (ss.map .str) vs->vs=ss.map .str
 | [],vs,h=>h
 | x::ss,vs,h=>by
  obtain⟨v,r,rfl,⟨rfl,_⟩,h2⟩:=h
  rw [PH h2,bE]
theorem W4{N:Net}(ok:N.Ok){H:Hp}{ap:Addr}(hH:H ap=some (.tup (N.ps.map .str))){i:Nat}{x:Str}(hi:N.ps[i]?=some x){Q:VK}(q:Q (.int (i:Int)) H):XG (.ref ap) [.str x] H Q:=by
 have szl:=PySem.sizeLine_eq
 have hx:VS x:=ok.names x (bq hi)
 have le:∀y∈N.ps,y.length<=sizeLine:=λy hy=>by have:=(ok.names y hy).2.1; omega
 have as:Ats ([]:Frag) (λ_=>False) H (N.ps.map D.str) (N.ps.map V.str):=Ats.strs le
 obtain⟨n1,l1,_⟩:=KZ ok.names
 obtain⟨n2,l2,d2⟩:=JD hx
 refine⟨ap,_,.str x,A2 (N.ps.map .str),toPy (.str x),i,rfl,rfl,hH,as.rv n1,At.rv (K:=([]:Frag)) (M:=λ_=>False) (show At _ _ H (.str x) (.str x) from⟨rfl,le x (bq hi)⟩) n2,l1,l2,d2,⟨toPy (.str x),by rw [CK,T0,T0,hi]; rfl,?_⟩,λm p hm e=>?_,q⟩
 ·show H_ (.str x) (.str x)=true
  rw [Pt,beq_self_eq_true]
 ·rw [CK,T0,T0] at e
  obtain⟨z,e1,rfl⟩:=bM.mp e
  obtain⟨y,e2,rfl⟩:=bM.mp e1
  show H_ (.str y) (.str x)=false
  rw [Pt,beq_eq_false_iff_ne]
  intro z
  subst z
  have:=Lh ok e2 hi
  omega
theorem PB{N:Net}(ok:N.Ok){H:Hp}{ap:Addr}(hH:H ap=some (.tup (N.ps.map .str))){i k:Nat}{x:Str}{σ:L2.St}(h0:σ[0]?=some (some (.ref ap)))(hk:σ[k]?=some (some (.str x)))(hi:N.ps[i]?=some x)(Q:VK)(q:Q (.int (i:Int)) H):Yj XG (BJ 0) (MV (BJ k) QX) σ H Q :=
 ⟨.ref ap,h0,⟨ap,_,rfl,hH⟩,.str x,hk,W4 ok hH hi q⟩
noncomputable def QL:W2:=λss n P=>∃(N:Net) (d:D),ss=[.sh (.tup (N.ps.map .str)),.sh d]/\(d=.lst (N.ts.map Aj)\/d=.tup (N.ts.map Aj))/\N.Ok/\N.ps.length<=1000/\∀F,Zh N F->P (Hg N.ps F) n
end Nt
namespace L2
open PySem PySem.Spec PyProof.Rows PySem.W
theorem Ot:mroOf (.type "dict")=pure [.type "dict",.type "object"]:=by rw [mroOf_type]; kernel_rfl
theorem X5:typeLookup (.type "dict") "__new__"=pure (some (.builtin "dict.__new__")):=by rw [gC,ef]; kernel_rfl
theorem dp_called:TypeCalled "dict" "dict.__new__" "dict.__init__" :=
 ⟨by decide +kernel,by decide +kernel,⟨_,_,Ot⟩,madeBy_type Ot X5 (by decide +kernel),by decide +kernel,by rw [isSubtype_type]; kernel_rfl,PySem.F.slot_dict_init⟩
theorem Vs(a:Value):checkTypeCall "dict" ⟨[a],[]⟩=pure ():=by kernel_rfl
theorem Vt(a:Value):checkBuiltinCall "dict.__new__" ⟨[.type "dict",a],[]⟩=pure ():=by kernel_rfl
theorem Lp:entryFor table "dict.__new__"=some Builtin.«dict.__new__»:=entryFor_of_tree (by kernel_rfl)
theorem GI:plainId "dict.__new__"=true:=by decide +kernel
theorem E9:entryFor table "dict.update.loop"=some Builtin.«dict.update.loop»:=entryFor_of_tree (by kernel_rfl)
theorem B6:plainId "dict.update.loop"=true:=by decide +kernel
section
variable {prog:Program}{w:World}{A:Around}{E:Value->Shared->Prop}{s:Shared}
theorem NY(a:Value){Q₁:Value->Shared->Prop}(h:Q₁ (.ref s.heap.objs.size) { s with heap:=s.heap.push { cls:=.type "dict",data:=.dict #[] } }) :
  codeAny (model prog w) A (.call (.builtin "dict.__new__") ⟨[.type "dict",a],[]⟩) (wants Q₁ E) s:=by
 refine codeAny_of_tree ?_
 show wpAny _ A.in1 (do checkBuiltinCall "dict.__new__" ⟨[.type "dict",a],[]⟩; again (.builtin "dict.__new__" ⟨[.type "dict",a],[]⟩)) _ _ s
 refine Ch (gP (Vt a) (Go ⟨cf GI _,cO Lp ?_⟩))
 rw [b_ GI _]
 unfold Builtin.«dict.__new__»
 have hsub:=dp_called.sub
 have hmro:=Ot
 obtain⟨hp,g,d,tk,os⟩:=s
 wp_walk
 exact h
end
section
variable {prog:Program}{w:World}{A:Around}{R:Result->Shared->Prop}{I:Addr}{fp wr:List Addr}{n:Nat}{P:Nat->Value->Prop}{St:Nat->Heap->Prop}{K:Type}[DecidableEq K]{knd:KeyKind prog w K}
end
section
variable {X:Cx}
end
end L2
namespace Dp
open PySem PySem.Spec PyProof.Rows L2
end Dp
namespace L2
open PySem PySem.Spec PyProof.Rows PySem.W
noncomputable abbrev C_(h:Heap)(z TI TO:Addr)(f0:Value)(b:Bool):Prop:=h.get? z=some { cls:=.type "zip",dict:=none,data:=.fields #[f0,.bool b,.bool false,.ref TI,.ref TO],slots:=#[] }
theorem Hk:typeLookup (.type "zip") "__getattr__"=pure none:=by rw [gC,ef]; kernel_rfl
theorem D1:entryFor table "zip.__getattribute__"=some Builtin.«object.__getattribute__» :=
 entryFor_alias (id' := "object.__getattribute__") (by kernel_rfl) (by decide +kernel) (by decide +kernel) (by kernel_rfl)
theorem Vg:typeLookup (.type "zip") "keys"=pure none:=am_miss_of_fast (by decide +kernel)
theorem Tx(a:Addr)(xs:Array Value)(name:Str)(u:Tok)(hmiss:typeLookup (.type "zip") name=pure none)(hname:(["__module__","__name__","__qualname__","__doc__","__annotations__"]:List Str).contains name=false)(hsz:autoParam (name.length+100<=sizeLine) zau9._auto_1) :
  Meets (Builtin.«object.__getattribute__» ⟨[.ref a,.str name u],[]⟩) (λA R s=>s.heap.get? a=some { cls:=.type "zip",dict:=none,data:=.fields xs,slots:=#[] }/\raisesAttr (.ref a) name A R s) :=
 Meets.of_wp λprog w A R s hs=>by
  obtain⟨hp,g,d,tk,os⟩:=s
  obtain⟨hx,hs⟩:=hs
  have hT:(⟨hp,g,d,tk,os⟩:Shared).TypeIs (.ref a) "zip":=⟨_,hx,rfl⟩
  unfold Builtin.«object.__getattribute__»
  repeat (any_goals (first | assumption | wp_step))
  simp only [hname,bz,if_false]
  repeat (any_goals (first | assumption | wp_step))
  exact wpAny_raiseAttrError hs.1 hs.2 (attrMsg_fits (by decide +kernel) hsz)
section
variable {prog:Program}{w:World}{A:Around}{E:Value->Shared->Prop}{s:Shared}
theorem Vf{a:Addr}{xs:Array Value}{Q:Option Value->Shared->Prop}(hx:s.heap.get? a=some { cls:=.type "zip",dict:=none,data:=.fields xs,slots:=#[] })(hA:A.handled=none)
  (h:∀h' tk,(∀b o,s.heap.get? b=some o->h'.get? b=some o)->Q none { s with heap:=h',toks:=tk }):wpAny (model prog w) A (getAttr? (.ref a) "keys") Q E s:=by
 obtain⟨hp,g,d,tk,os⟩:=s
 have hT:∀tk',(⟨hp,g,d,tk',os⟩:Shared).TypeIs (.ref a) "zip":=λ_=>⟨_,hx,rfl⟩
 have f1:=sub_AttributeError
 have f3:=PySem.F.slot_zip_getattribute.lookup
 have f4:=PySem.F.slot_zip_getattribute.bind (.ref a)
 have f5:=Hk
 unfold getAttr? getAttrBy? getAttrBy
 repeat (any_goals (first | assumption | exact hT _ | ((with_reducible show wpAny _ _ (call (Value.builtin "zip.__getattribute__") _ _) _ _ _); refine gx PySem.F.slot_zip_getattribute (hT _) D1 (PySem.F.args_zip_getattribute_2 _ _) (Tx a xs "keys" _ Vg (by decide +kernel) (by decide +kernel)) ⟨hx,hA,λh' tk' e hx'=>?_⟩) | wp_step))
 obtain⟨t',u',he⟩:=hx'.there
 show wpAny _ _ (getattributeRaised _ _ _ _ _ _ _) _ _ _
 unfold getattributeRaised
 repeat (any_goals (first | assumption | wp_step))
 exact h _ _ hx'.keeps
theorem Tz{a:Addr}{o:Obj}{Q:Option Obj->Shared->Prop}(ho:s.heap.get? a=some o)(h:Q (some o) s):wpAny (model prog w) A (loadIfAlive a) Q E s:=by
 have h':Q (s.heap.get? a) s:=by rw [ho]; exact h
 exact λ_ _ _=>h'
theorem Pu{z TI TO a:Addr}{b:Bool}{o:Obj}{Q:Bool->Shared->Prop}(hz:C_ s.heap z TI TO (rawInt (a:Nat)) b)(ha:s.heap.get? a=some o)
  (hQ:∀h',C_ h' z TI TO (rawInt (a:Nat)) true->d8 z s.heap h'->Q false { s with heap:=h' }):wpAny (model prog w) A (be (.ref z)) Q E s:=by
 unfold be
 refine Ch (bn hz rfl (x:=rawInt a) rfl ?_)
 show wpAny _ _ (loadIfAlive ((a:Int).toNat) >>= _) _ _ _
 rw [cJ]
 refine Ch (Tz ha ?_)
 simp only [Option.isNone_some,bz,if_false]
 refine Ch (bn hz rfl (x:=.bool b) rfl ?_)
 cases b with
 | true =>
  rw [if_neg (show ¬((d6 true != d6 true)=true) from bG)]
  exact Go (hQ _ hz (Heap.SameBut.refl _ _))
 | false =>
  rw [if_pos (show (d6 false != d6 true)=true from rfl)]
  refine Ch (c6 hz (by simp) λh₃ he₃ hs₃=>?_)
  exact Go (hQ h₃ he₃ hs₃)
theorem Vh{κ1 κ2:Bool}{z TI TO i1 i2 l1 l2 a:Addr}{b:Bool}{o:Obj}{k:Nat}{xs ys:Array Value}{x y:Value}{Q:Value->Shared->Prop}(D:Ri z TI TO i1 i2 l1 l2)
  (hz:C_ s.heap z TI TO (rawInt (a:Nat)) b) (ha:s.heap.get? a=some o) (hTI:IsPair s.heap TI (.ref i1) (.ref i2)) (h1:ItAt κ1 s.heap i1 l1 k) (h2:ItAt κ2 s.heap i2 l2 k) (hl1:SqAt κ1 s.heap l1 xs) (hl2:SqAt κ2 s.heap l2 ys) (hx:xs[k]?=some x) (hy:ys[k]?=some y)
  (hQ:∀h',C_ h' z TI TO (rawInt (a:Nat)) true->ItAt κ1 h' i1 l1 (k+1)->ItAt κ2 h' i2 l2 (k+1)->IsPair h' s.heap.objs.size x y->(∀c o,c≠z->c≠i1->c≠i2->s.heap.get? c=some o->h'.get? c=some o)->Q (.ref s.heap.objs.size) { s with heap:=h' }) :
  wpAny (model prog w) A (Builtin.«zip.__next__» ⟨[.ref z],[]⟩) (λfin s'=>∃v,fin=.done (.ret v)/\Q v s') E s:=by
 show wpAny (model prog w) A (field (.ref z) 2 >>= _) _ _ _; refine Ch (bn hz rfl (x:=.bool false) rfl ?_)
 show wpAny (model prog w) A (field (.ref z) 3 >>= _) _ _ _; refine Ch (bn hz rfl (x:=.ref TI) rfl ?_); refine Ch (cM hTI rfl ?_)
 show wpAny (model prog w) A (be (.ref z) >>= _) _ _ _
 refine Ch (Pu hz ha λha hza hsa=>?_)
 simp only [bz,if_false]
 refine Ch ?_
 simp only [gX,df,gL]
 refine Ch (Ch (bw ?_)); show wpAny (model prog w) _ (bg (.ref i1) >>= _) _ _ _
 refine Ch (CM (h1.eb hsa.extBut D.i1z) (hl1.eb hsa.extBut D.l1z) hx λhb h1b hsb=>Go ?_)
 refine Go ?_
 refine Ch (Ch (bw ?_)); show wpAny (model prog w) _ (bg (.ref i2) >>= _) _ _ _
 refine Ch (CM ((h2.eb hsa.extBut D.i2z).eb hsb.extBut D.i12.symm) ((hl2.eb hsa.extBut D.l2z).eb hsb.extBut D.l2i1) hy λhc h2c hsc=>Go ?_)
 refine Go (Go ?_)
 refine Ch (gM ?_ (by show 2<=sizeLine; decide))
 have hsz:hc.objs.size=s.heap.objs.size:=by rw [hsc.1,hsb.1,hsa.1]
 have hzc:C_ hc z TI TO (rawInt (a:Nat)) true:=hsc.extBut _ _ D.i2z.symm (hsb.extBut _ _ D.i1z.symm hza)
 have hp:IsPair (hc.push { cls:=.type "tuple",data:=.seq #[x,y] }) s.heap.objs.size x y:=by
  show Heap.get? _ _=_
  rw [← hsz]
  exact Sc _ rfl
 have fin:=hQ _ (Ev _ hzc) ((h1b.eb hsc.extBut D.i12).mv λo e=>Ev _ e) (h2c.mv λo e=>Ev _ e) hp λc o c1 c3 c4 e=>Ev _ (hsc.extBut _ _ c4 (hsb.extBut _ _ c3 (hsa.extBut _ _ c1 e)))
 refine Go ⟨_,rfl,?_⟩
 show Q (.ref hc.objs.size) _
 rw [hsz]
 exact fin
theorem X2{κ1 κ2:Bool}{z TI TO i1 i2 l1 l2 a:Addr}{b:Bool}{o:Obj}{k:Nat}{xs ys:Array Value}{Q:Fin->Shared->Prop}(hh:A.handled=none)(D:Ri z TI TO i1 i2 l1 l2)
  (hz:C_ s.heap z TI TO (rawInt (a:Nat)) b) (ha:s.heap.get? a=some o) (hTI:IsPair s.heap TI (.ref i1) (.ref i2)) (h1:ItAt κ1 s.heap i1 l1 k) (hl1:SqAt κ1 s.heap l1 xs) (hx:xs[k]?=none)
  (hE:∀h' e,(∀c o,c≠z->c≠i1->s.heap.get? c=some o->h'.get? c=some o)->(∃o,h'.get? e=some o/\o.cls=.type "StopIteration")->E (.ref e) { s with heap:=h' }) :
  wpAny (model prog w) A (Builtin.«zip.__next__» ⟨[.ref z],[]⟩) Q E s:=by
 show wpAny (model prog w) A (field (.ref z) 2 >>= _) _ _ _; refine Ch (bn hz rfl (x:=.bool false) rfl ?_)
 show wpAny (model prog w) A (field (.ref z) 3 >>= _) _ _ _; refine Ch (bn hz rfl (x:=.ref TI) rfl ?_); refine Ch (cM hTI rfl ?_)
 show wpAny (model prog w) A (be (.ref z) >>= _) _ _ _
 refine Ch (Pu hz ha λha hza hsa=>?_)
 simp only [bz,if_false]
 refine Ch ?_
 simp only [gX,df,gL]
 refine Ch (Ch (bw ?_)); show wpAny (model prog w) _ (bg (.ref i1) >>= _) _ _ _
 refine Ch (ET hh (h1.eb hsa.extBut D.i1z) (hl1.eb hsa.extBut D.l1z) hx λhb e hsb he=>?_)
 exact hE hb e (λc o c1 c3 x=>hsb _ _ c3 (hsa.extBut _ _ c1 x)) he
theorem Lo{κ1 κ2:Bool}{z TI TO i1 i2 l1 l2 a:Addr}{b:Bool}{o:Obj}{k:Nat}{xs ys:Array Value}{x y:Value}{Q:Option Value->Shared->Prop}(D:Ri z TI TO i1 i2 l1 l2)
  (hz:C_ s.heap z TI TO (rawInt (a:Nat)) b) (ha:s.heap.get? a=some o) (hTI:IsPair s.heap TI (.ref i1) (.ref i2)) (h1:ItAt κ1 s.heap i1 l1 k) (h2:ItAt κ2 s.heap i2 l2 k) (hl1:SqAt κ1 s.heap l1 xs) (hl2:SqAt κ2 s.heap l2 ys) (hx:xs[k]?=some x) (hy:ys[k]?=some y)
  (hQ:∀h',C_ h' z TI TO (rawInt (a:Nat)) true->ItAt κ1 h' i1 l1 (k+1)->ItAt κ2 h' i2 l2 (k+1)->IsPair h' s.heap.objs.size x y->(∀c o,c≠z->c≠i1->c≠i2->s.heap.get? c=some o->h'.get? c=some o)->Q (some (.ref s.heap.objs.size)) { s with heap:=h' }) :
  wpAny (model prog w) A (pyNext (.ref z)) Q E s:=by
 have hT:s.TypeIs (.ref z) "zip":=⟨_,hz,rfl⟩
 unfold pyNext
 exact Ch (eO (bo (name:=cX "__next__") hT dB (cP dB hT fo
  (Vh D hz ha hTI h1 h2 hl1 hl2 hx hy λh' a1 a2 a3 a4 a5=>Go (hQ h' a1 a2 a3 a4 a5)) (fe _))))
theorem NV{κ1:Bool}{z TI TO i1 i2 l1 l2 a:Addr}{b:Bool}{o:Obj}{k:Nat}{xs:Array Value}{Q:Option Value->Shared->Prop}(hh:A.handled=none)(D:Ri z TI TO i1 i2 l1 l2)
  (hz:C_ s.heap z TI TO (rawInt (a:Nat)) b) (ha:s.heap.get? a=some o) (hTI:IsPair s.heap TI (.ref i1) (.ref i2)) (h1:ItAt κ1 s.heap i1 l1 k) (hl1:SqAt κ1 s.heap l1 xs) (hx:xs[k]?=none)
  (hQ:∀h',(∀c o,c≠z->c≠i1->s.heap.get? c=some o->h'.get? c=some o)->Q none { s with heap:=h' }):wpAny (model prog w) A (pyNext (.ref z)) Q E s:=by
 have hT:s.TypeIs (.ref z) "zip":=⟨_,hz,rfl⟩
 unfold pyNext
 refine Ch (eO (bo (name:=cX "__next__") hT dB (cP dB hT fo (X2 (κ2:=true) (ys:=#[]) hh D hz ha hTI h1 hl1 hx λh' e hk he=>?_) (fe _))))
 obtain⟨o,ho,hc⟩:=he
 exact Ch (fq (T := "StopIteration") (b:=true) ⟨o,ho,hc⟩ isSubtype_stop (Go (hQ _ hk)))
end
structure PrW (prog:Program) (w:World) (A:Around) (I d:Addr) (n:Nat) (base:Heap) (key:Nat->Addr) (val:Nat->Value) (ch:Addr->Prop) (St:Nat->Heap->Prop):Prop where
 new:∀b,ch b->base.get? b=none
 item:∀(i:Nat) (s:Shared) (Q:Option Value->Shared->Prop) (E:Value->Shared->Prop),i<n->St i s.heap->(∀b o,base.get? b=some o->s.heap.get? b=some o)->(∃o,s.heap.get? d=some o) ->
  (∀h' tk a o c,h'.get? a=some o->o.cls=.type "tuple"->o.data=.seq #[.ref (key i),val i] c->St (i+1) h'->(∀b o,¬ch b->s.heap.get? b=some o->h'.get? b=some o)->Q (some (.ref a)) { s with heap:=h',toks:=tk })->wpAny (model prog w) A (pyNext (.ref I)) Q E s
 done:∀(s:Shared) (Q:Option Value->Shared->Prop) (E:Value->Shared->Prop),St n s.heap->(∀b o,base.get? b=some o->s.heap.get? b=some o)->(∀h' tk,(∀b o,¬ch b->s.heap.get? b=some o->h'.get? b=some o)->Q none { s with heap:=h',toks:=tk })->wpAny (model prog w) A (pyNext (.ref I)) Q E s
 frame:∀i h h',St i h->d8 d h h'->St i h'
 dch:¬ch d
section
variable {prog:Program}{w:World}{A:Around}{R:Result->Shared->Prop}{I d:Addr}{n:Nat}{base:Heap}{key:Nat->Addr}{val:Nat->Value}{ch:Addr->Prop}{St:Nat->Heap->Prop}
theorem Gn{h h':Heap}{ks:List Key}{a:Addr}(x:(tupleKind (Af prog w)).is h ks a)(k:∀b o,h.get? b=some o->h'.get? b=some o):(tupleKind (Af prog w)).is h' ks a:=by
 obtain⟨o,its,n,h1,r⟩:=x
 exact⟨o,its,n,k _ _ h1,r⟩
theorem JQ{h h':Heap}{d:Addr}{xs:List (List Key×Addr×Value)}(x:h.DictOfH (tupleKind (Af prog w)) d xs)(k:∀o,h.get? d=some o->h'.get? d=some o)(hk:∀y∈xs,(tupleKind (Af prog w)).is h' y.1 y.2.1):h'.DictOfH (tupleKind (Af prog w)) d xs:=by
 obtain⟨o,es,ep,h1,h2,h3,h4,_,h6⟩:=x
 exact⟨o,es,ep,k _ h1,h2,h3,h4,hk,h6⟩
theorem Tw(W:PrW prog w A.in1 I d n base key val ch St)(hu:A.units+1<cLine)(xs:List (List Key×Addr×Value))(hlen:xs.length=n)(nd:(xs.map (·.1)).Nodup)(hsz:n<=sizeLine)(hdb:base.get? d=none)
  (hxs:∀(i:Nat) y,xs[i]?=some y->y.2.1=key i/\y.2.2=val i) (hkey:∀y∈xs,(tupleKind (Af prog w)).is base y.1 y.2.1) :
  ∀(k i:Nat) (s:Shared),n - i=k->i<=n->St i s.heap->(∀b o,base.get? b=some o->s.heap.get? b=some o)->s.heap.DictOfH (tupleKind (Af prog w)) d (xs.take i) ->
   (∀h' tk,h'.DictOfH (tupleKind (Af prog w)) d xs->(∀b o,base.get? b=some o->h'.get? b=some o)->R (.ok (.ret .none)) { s with heap:=h',toks:=tk }) ->
   codeAny (model prog w) A (.builtin "dict.update.loop" ⟨[.ref d,.ref I,rawInt (i:Int),.none],[]⟩) R s:=by
 have old:∀{h h':Heap},(∀b o,base.get? b=some o->h.get? b=some o)->(∀b o,¬ch b->h.get? b=some o->h'.get? b=some o)->∀b o,base.get? b=some o->h'.get? b=some o:=λh1 h2 b o e=>h2 b o (λz=>by rw [W.new b z] at e; cases e) (h1 b o e)
 intro k
 induction k with
 | zero =>
  intro i s hk hi hst hold hD hR
  have hin:i=n:=by omega
  subst hin
  refine cO E9 ?_
  rw [b_ B6 _]
  show wpAny _ A.in1 (pyNext (.ref I) >>= _) _ _ s
  refine Ch (W.done s _ _ hst hold λh' tk hk'=>?_)
  show wpAny _ A.in1 (Builtin.Dict.addKeywords d [] >>= λ_=>ret bX) _ _ _
  have ho:=old hold hk'
  rw [fi (by omega)] at hD
  exact Ch (Go (Go (hR h' tk (JQ hD (λo e=>hk' d o W.dch e) λy hy=>Gn (hkey y hy) ho) ho)))
 | succ k ih =>
  intro i s hk hi hst hold hD hR
  have hlt:i<n:=by omega
  refine cO E9 ?_
  rw [b_ B6 _]
  show wpAny _ A.in1 (pyNext (.ref I) >>= _) _ _ s
  refine Ch (W.item i s _ _ hlt hst hold (by obtain⟨o,_,_,h,_⟩:=hD; exact⟨o,h⟩) λh' tk a o c ha hc hd hst' hk'=>?_)
  have hp:xs[i]?=some (xs[i]'(by omega)):=Db (by omega)
  have hmem:xs[i]'(by omega)∈xs:=bv _
  generalize xs[i]'(by omega)=p at hp hmem
  obtain⟨k1,k2⟩:=hxs i p hp
  have ho:=old hold hk'
  have hD':=JQ hD (λo e=>hk' d o W.dch e) λy hy=>Gn (hkey y (gF hy)) ho
  show wpAny _ A.in1 (holding [bT a] _ >>= _) _ _ _
  refine Ch (bw ?_)
  show wpAny _ A.in1 (tryCatch (iU (.ref a)) _ >>= _) _ _ _
  refine Ch (fT ?_)
  unfold iU
  refine Ch (dS (T := "tuple") ⟨o,ha,hc⟩ ?_)
  show wpAny _ A.in1 (seqItems? (.ref a) >>= _) _ _ _
  refine Ch (cM ha hd (Go ?_))
  show wpAny _ A.in1 (holding [bT (key i),val i] (dictSet d (.ref (key i)) (val i))) _ _ _
  refine bw (wpAny_dictSet_heap (knd:=tupleKind (Af prog w)) (k:=p.1) (xs:=xs.take i) (hsz:=by rw [c0]; omega) (dW hu) (by rw [← k1]; exact Gn (hkey p hmem) ho) hD' λh'' hD'' hs=>?_)
  have hni:p.1∉(xs.take i).map (·.1):=λz=>by
   have e:xs.map (·.1)=(xs.take i).map (·.1)++p.1::(xs.drop (i+1)).map (·.1):=by
    have:=iY i xs
    rw [c9 (by omega:i<xs.length)] at this
    rw [Db (by omega:i<xs.length)] at hp
    cases hp
    conv=>lhs; rw [← this]
    rw [cH,bE]
   rw [e,cR] at nd
   exact nd.2.2 p.1 z p.1 No rfl
  have e2:xs.take (i+1)=xs.take i++[p]:=by rw [gq,hp]; rfl
  have e3:storedH (xs.take i) p.1 (key i) (val i)=xs.take (i+1):=by
   rw [storedH_new,e2]
   ·have:p=(p.1,key i,val i):=by rw [← k1,← k2]
    rw [← this]
   ·unfold atKey
    rw [List.find?_eq_none.mpr λy hy z=>hni (by rw [← of_decide_eq_true z]; exact ZB.mpr ⟨y,hy,rfl⟩)]; rfl
  rw [e3] at hD''
  refine Go ⟨cf B6 _,?_⟩
  have hi1:((i:Int)+1)=((i+1:Nat):Int):=by omega
  rw [hi1]
  refine ih (i+1) _ (by omega) hlt (W.frame _ _ _ hst' hs) (λb o e=>?_) hD'' λh3 tk3 hD3 hold3=>hR h3 tk3 hD3 hold3
  exact(hs.2 b λz=>by rw [z,hdb] at e; cases e).trans (ho b o e)
noncomputable def ZS(κ1 κ2:Bool)(z TI TO i1 i2 l1 l2 d:Addr)(i:Nat)(h:Heap):Prop:=IsPair h TI (.ref i1) (.ref i2)/\ItAt κ1 h i1 l1 i/\ItAt κ2 h i2 l2 i/\((IsZip h z TI TO .none/\∃a b,IsPair h TO a b)\/∃(a:Nat) (b:Bool) (o:Obj),C_ h z TI TO (rawInt (a:Nat)) b/\h.get? a=some o/\a≠z/\a≠TO/\a≠i1/\a≠i2/\a≠d)
theorem PrW.zip{κ1 κ2:Bool}{z TI TO i1 i2 l1 l2:Addr}{ks vs:Array Value}(hh:A.handled=none)(D:Ri z TI TO i1 i2 l1 l2)(hTI:TI≠z/\TI≠TO/\TI≠i1/\TI≠i2)(hd:d≠z/\d≠TI/\d≠TO/\d≠i1/\d≠i2)(hn:∀b,b=z\/b=TO\/b=i1\/b=i2->base.get? b=none)
  (hl1:SqAt κ1 base l1 ks) (hl2:SqAt κ2 base l2 vs) (h1:ks.size=n) (hk:∀i,i<n->ks[i]?=some (.ref (key i))/\vs[i]?=some (val i)):PrW prog w A z d n base key val (λb=>b=z\/b=TO\/b=i1\/b=i2) (ZS κ1 κ2 z TI TO i1 i2 l1 l2 d) where
 new:=hn
 item:=λi s Q E hi ⟨ti,a1,a2,st⟩ hold ⟨od,hod⟩ h=>by
  have q1:SqAt κ1 s.heap l1 ks:=hl1.mv λo e=>hold _ o e
  have q2:SqAt κ2 s.heap l2 vs:=hl2.mv λo e=>hold _ o e
  obtain⟨e1,e2⟩:=hk i hi
  have lt:∀{b:Addr} {o:Obj},s.heap.get? b=some o->s.heap.objs.size≠b:=λe=>d9 (Tk e)
  obtain⟨o1,x1,_⟩:=a1.lies
  obtain⟨o2,x2,_⟩:=a2.lies
  rcases st with ⟨hz,p,q,hTO⟩ | ⟨a,b,o,hz,ha,n1,n2,n3,n4,n5⟩
  ·refine E5 D hz ti hTO a1 a2 q1 q2 e1 e2 λh' b1 b2 b3 b4 b5 _ b7=>?_
   exact h h' s.toks _ _ _ b5 rfl rfl ⟨b7 _ _ hTI.1 hTI.2.1 hTI.2.2.1 hTI.2.2.2 ti,b3,b4,.inr ⟨_,false,_,b1,b5,lt hz,lt hTO,lt x1,lt x2,lt hod⟩⟩ λb o nb e=>b7 b o (λz=>nb (.inl z)) (λz=>nb (.inr (.inl z))) (λz=>nb (.inr (.inr (.inl z)))) (λz=>nb (.inr (.inr (.inr z)))) e
  ·refine Lo D hz ha ti a1 a2 q1 q2 e1 e2 λh' b1 b3 b4 b5 b7=>?_
   exact h h' s.toks _ _ _ b5 rfl rfl ⟨b7 _ _ hTI.1 hTI.2.2.1 hTI.2.2.2 ti,b3,b4,.inr ⟨a,true,o,b1,b7 _ _ n1 n3 n4 ha,n1,n2,n3,n4,n5⟩⟩ λb o nb e=>b7 b o (λz=>nb (.inl z)) (λz=>nb (.inr (.inr (.inl z)))) (λz=>nb (.inr (.inr (.inr z)))) e
 done:=λs Q E ⟨ti,a1,a2,st⟩ hold h=>by
  have q1:SqAt κ1 s.heap l1 ks:=hl1.mv λo e=>hold _ o e
  have q2:SqAt κ2 s.heap l2 vs:=hl2.mv λo e=>hold _ o e
  have e1:ks[n]?=none:=by rw [fj (by omega)]
  rcases st with ⟨hz,p,q,hTO⟩ | ⟨a,b,o,hz,ha,n1,n2,n3,n4,n5⟩
  ·exact F6 hh D hz ti hTO a1 a2 q1 q2 (.inl e1) λh' b7=>h h' s.toks λb o nb e=>b7 b o (λz=>nb (.inl z)) (λz=>nb (.inr (.inl z))) (λz=>nb (.inr (.inr (.inl z)))) (λz=>nb (.inr (.inr (.inr z)))) e
  ·exact NV hh D hz ha ti a1 q1 e1 λh' b7=>h h' s.toks λb o nb e=>b7 b o (λz=>nb (.inl z)) (λz=>nb (.inr (.inr (.inl z)))) e
 frame:=λi h h' ⟨ti,a1,a2,st⟩ hs=>by
  have mv:∀b o,b≠d->h.get? b=some o->h'.get? b=some o:=λb o nb e=>(hs.2 b nb).trans e
  refine⟨mv _ _ (bp hd.2.1) ti,a1.mv λo e=>mv _ o (bp hd.2.2.2.1) e,a2.mv λo e=>mv _ o (bp hd.2.2.2.2) e,?_⟩
  rcases st with ⟨hz,p,q,hTO⟩ | ⟨a,b,o,hz,ha,n1,n2,n3,n4,n5⟩
  ·exact .inl ⟨mv _ _ (bp hd.1) hz,p,q,mv _ _ (bp hd.2.2.1) hTO⟩
  ·exact .inr ⟨a,b,o,mv _ _ (bp hd.1) hz,mv _ _ n5 ha,n1,n2,n3,n4,n5⟩
 dch:=λz=>by
  rcases z with z | z | z | z
  ·exact hd.1 z
  ·exact hd.2.2.1 z
  ·exact hd.2.2.2.1 z
  ·exact hd.2.2.2.2 z
end
section
variable {prog:Program}{w:World}{A:Around}{E:Value->Shared->Prop}{s:Shared}
theorem RM{h:Heap}{d:Addr}(hd:h.get? d=some { cls:=.type "dict",data:=.dict #[] }):h.DictOfH (tupleKind (Af prog w)) d ([]:List (List Key×Addr×Value)):=⟨_,#[],0,hd,⟨rfl,rfl,rfl⟩,rfl,rfl,(λx hx=>by cases hx),bj⟩
theorem Vi{κ1 κ2:Bool}{z TI TO i1 i2 l1 l2:Addr}{ks vs:Array Value}{base:Heap}{n:Nat}{key:Nat->Addr}{val:Nat->Value}{Q:Value->Shared->Prop}(hh:A.handled=none)(hu:A.units+8<cLine)(D:Ri z TI TO i1 i2 l1 l2)(hTI:TI≠z/\TI≠TO/\TI≠i1/\TI≠i2)
  (hz:IsZip s.heap z TI TO .none) (ti:IsPair s.heap TI (.ref i1) (.ref i2)) (to:∃a b,IsPair s.heap TO a b) (it1:ItAt κ1 s.heap i1 l1 0) (it2:ItAt κ2 s.heap i2 l2 0) (hn:∀b,b=z\/b=TO\/b=i1\/b=i2->base.get? b=none) (hold:∀b o,base.get? b=some o->s.heap.get? b=some o)
  (hl1:SqAt κ1 base l1 ks) (hl2:SqAt κ2 base l2 vs) (h1:ks.size=n) (hk:∀i,i<n->ks[i]?=some (.ref (key i))/\vs[i]?=some (val i))
  (xs:List (List Key×Addr×Value)) (hlen:xs.length=n) (nd:(xs.map (·.1)).Nodup) (hsz:n<=sizeLine) (hxs:∀(i:Nat) y,xs[i]?=some y->y.2.1=key i/\y.2.2=val i) (hkey:∀y∈xs,(tupleKind (Af prog w)).is base y.1 y.2.1)
  (h:∀h' tk,h'.DictOfH (tupleKind (Af prog w)) s.heap.objs.size xs->(∀b o,base.get? b=some o->h'.get? b=some o)->Q (.ref s.heap.objs.size) { s with heap:=h',toks:=tk }) :
  wpAny (model prog w) A (call (.type "dict") [.ref z]) Q E s:=by
 refine callType_codes (Q₁:=λobj s₁=>obj=.ref s.heap.objs.size/\s₁={ s with heap:=s.heap.push { cls:=.type "dict",data:=.dict #[] } }) dp_called (Vs _) PySem.F.entry_dict_init (NY _ ⟨rfl,rfl⟩) ?_
 rintro obj s₁ ⟨rfl,rfl⟩
 have hd0:(s.heap.push { cls:=.type "dict",data:=.dict #[] }).get? s.heap.objs.size=some { cls:=.type "dict",data:=.dict #[] }:=Sc _ rfl
 have hz':IsZip (s.heap.push { cls:=.type "dict",data:=.dict #[] }) z TI TO .none:=Ev _ hz
 have nd':∀{b:Addr} {o:Obj},s.heap.get? b=some o->s.heap.objs.size≠b:=λe=>d9 (Tk e)
 refine⟨⟨_,hd0,rfl⟩,PySem.F.args_dict_init_2 _ _,?_⟩
 unfold Builtin.«dict.__init__»
 refine Ch ?_
 unfold Builtin.Dict.selfAndRest
 refine Ch (wpAny_notOrdered_dict ⟨_,hd0,rfl⟩ ?_)
 show wpAny _ _ (pure (s.heap.objs.size,[bT z])) _ _ _
 refine Go ?_
 show wpAny _ _ (iH "dict.__init__" s.heap.objs.size (.ref z) [] .none) _ _ _
 unfold iH
 refine Ch (dS (T := "zip") ⟨_,hz',rfl⟩ ?_)
 rw [if_pos (by decide)]
 have hh2:A.in1.in1.handled=none:=by simp [hh]
 have hh1:A.in1.handled=none:=by simp [hh]
 refine Ch (Vf hz' hh2 λh1' tk1 hk1=>?_)
 show wpAny _ _ (rule _ >>= _) _ _ _
 refine Ch (en ?_)
 have up:∀b o,s.heap.get? b=some o->h1'.get? b=some o:=λb o e=>hk1 b o (Ev _ e)
 refine Ch (hZ (s:={ s with heap:=h1',toks:=tk1 }) (up _ _ hz) ?_)
 refine Go ⟨cf B6 _,?_⟩
 obtain⟨p,q,hTO⟩:=to
 obtain⟨o1,x1,_⟩:=it1.lies
 obtain⟨o2,x2,_⟩:=it2.lies
 have hdb:base.get? s.heap.objs.size=none:=by
  cases e:base.get? s.heap.objs.size with
  | none=>rfl
  | some o=>exact absurd (Tk (hold _ _ e)) (cI _)
 refine Tw (A:=A.in1) (PrW.zip (A:=A.in1.in1) hh2 D hTI ⟨nd' hz,nd' ti,nd' hTO,nd' x1,nd' x2⟩ hn hl1 hl2 h1 hk) (by simp; omega) xs hlen nd hsz hdb hxs hkey n 0 _ (Nat.sub_zero _) (bH _) ⟨up _ _ ti,it1.mv λo e=>up _ o e,it2.mv λo e=>up _ o e,.inl ⟨up _ _ hz,p,q,up _ _ hTO⟩⟩ (λb o e=>up b o (hold b o e)) (by rw [List.take_zero]; exact RM (hk1 _ _ hd0)) λh' tk hD hk'=>?_
 exact⟨rfl,h h' tk hD hk'⟩
theorem ME{H:Hp}:∀{keys:List (List Key)} {as:List Addr} {ws:List V} {us:List Value},as.length=keys.length->Vals ws us->(∀(i:Nat) x k,as[i]?=some x->keys[i]?=some k->H x=some (.tup (k.map kV))) ->
  Paired (fun(p:List Key×V) (q:List Key×Addr×Value)=>p.1=q.1/\H q.2.1=some (.tup (p.1.map kV))/\RelV p.2 q.2.2) (keys.zip ws) (keys.zip (as.zip us))
 | [],_,_,_,_,_,_=>.nil
 | k::keys,[],_,_,hl,_,_=>by cases hl
 | k::keys,a::as,[],[],hl,r,hk=>.nil
 | k::keys,a::as,w::ws,u::us,hl,r,hk=>by
  cases r with
  | cons r1 r2=>exact .cons ⟨rfl,hk 0 a k rfl rfl,r1⟩ (ME (iE hl) r2 λi x k e1 e2=>hk (i+1) x k e1 e2)
end
section
variable {X:Cx}
theorem Vl{pins:List (Addr×Obj)}{σ:L2.St}{H:Hp}{s:Shared}{h':Heap}{tk:Nat}{keys:List (List Key)}{as:List Addr}{ws:List V}{us:List Value}{l:Addr}(I:Inv X pins σ H s)(hl:s.heap.objs.size<=l)(hb:(l==sysModules)=false)(kp:∀b o,s.heap.get? b=some o->h'.get? b=some o)(la:as.length=keys.length)(lw:ws.length=keys.length)(hz:keys.length<=sizeLine)(r:Vals ws us)(hk:∀(i:Nat) x k,as[i]?=some x->keys[i]?=some k->H x=some (.tup (k.map kV)))
  (hD:h'.DictOfH (tupleKind (Af X.prog X.w)) l (keys.zip (as.zip us))):Inv X pins σ (As H l (.dT (keys.zip ws))) { s with heap:=h',toks:=tk }:=by
 obtain⟨o,es,ep,h1,h2,h3,h4,_,h6⟩:=hD
 refine I.laid (t':=tk) (o:=.dT (keys.zip ws)) kp hl ⟨by rw [cq]; omega,hb,_,ME la r λi x k e1 e2=>?_,o,es,ep,h1,h2,h3,h4,h6⟩
 have:=hk i x k e1 e2
 rw [AK (Ac this (I.hok.fresh hl))]
 exact this
noncomputable def W8(K:Frag)(ta:TA):TE:=λσ H Q=>ta σ H λvs H1=>∃κ1 κ2 a b,∃(as:List Addr) (ws:List V) (keys:List (List Key)),vs=[.ref a,.ref b]/\SqK κ1 K H1 a (as.map .ref)/\SqK κ2 K H1 b ws/\as.length=keys.length/\ws.length=keys.length/\keys.length<=sizeLine/\(∀(i:Nat) x k,as[i]?=some x->keys[i]?=some k->H1 x=some (.tup (k.map kV)))/\keys.Nodup/\∀l,H1 l=none->Q (.ref l) (As H1 l (.dT (keys.zip ws)))
theorem Rl{α β γ:Type}{xs:List α}{ys:List β}{zs:List γ}(h1:ys.length=xs.length)(h2:zs.length=xs.length):(xs.zip (ys.zip zs)).map (·.1)=xs:=by
 rw [List.map_fst_zip]
 rw [cq]; omega
theorem O5{keys:List (List Key)}{as:List Addr}{us:List Value}{i:Nat}{y:List Key×Addr×Value}(e:(keys.zip (as.zip us))[i]?=some y):keys[i]?=some y.1/\as[i]?=some y.2.1/\us[i]?=some y.2.2:=by
 obtain⟨y1,y2,y3⟩:=y
 rw [fG,fG] at e
 exact⟨e.1,e.2.1,e.2.2⟩
theorem Sw{e1 e2:Expr}{ta:TA}{p1 q1 p2 q2:Pos}(hc:X.calm=true){k0:Nat}(hr:Room k0 X.A)(ha:PA X [e1,e2] ta)(hg1:Gl X "dict")(hm1:X.mg "dict"=none)(hg2:Gl X "zip")(hm2:X.mg "zip"=none)(h1:autoParam (starEach [fM (.Name "zip" p2) [e1,e2] [] q2] X.env=[(false,eval (fM (.Name "zip" p2) [e1,e2] [] q2) X.env)]) zau3._auto_1)
  (hs:autoParam (starEach [e1,e2] X.env=[(false,eval e1 X.env),(false,eval e2 X.env)]) zau3._auto_1) (hs2:autoParam (starEach [e2] X.env=[(false,eval e2 X.env)]) zau3._auto_1):PE X (.Call (.Name "dict" p1) [.Call (.Name "zip" p2) [e1,e2] [] q2] [] q1) (W8 X.K ta):=by
 intro pins s σ H Q I h
 refine cb (CV I hg1 hm1 boot_dict ?_)
 refine cA ?_ h1 rfl
 rw [h1]
 refine c5 ?_
 refine Call_ (CV I hg2 hm2 boot_zip (cA (thn (ha q2 pins s σ H _ I h) λus0 s1 ⟨vs,H1,I1,r1,q1⟩=>?_) (by rw [hs,hs2]) (by rw [hs2]; rfl)))
 obtain⟨κ1,κ2,a,b,as,ws,keys,e,g1,g2,la,lw,hz,hk,nd,q⟩:=q1
 subst e
 obtain⟨u,v,rfl,ru,rv⟩:=vals2 r1
 cases ru
 cases rv
 obtain⟨ks,r1',q1'⟩:=g1.at I1
 obtain⟨us,r2',q2'⟩:=g2.at I1
 have l1:=r1'.length
 have l2:=r2'.length
 rw [FM] at l1
 have lta:a<s1.heap.objs.size:=by obtain⟨o,e⟩:=q1'.lies; exact Tk e
 have ltb:b<s1.heap.objs.size:=by obtain⟨o,e⟩:=q2'.lies; exact Tk e
 have none_ge:∀c,s1.heap.objs.size<=c->s1.heap.get? c=none:=λc hb=>by
  cases e:s1.heap.get? c with
  | none=>rfl
  | some o=>exact absurd (bR (Tk e) hb) (cI _)
 refine GO q1' q2' λh' hz' hTI hTO hi1 hi2 hkp=>dr ?_
 have D:=Rn s1.heap.objs.size a b lta ltb
 have hun:=hr.un
 have hsz:s1.heap.objs.size<=h'.objs.size:=fH (fI (h_ _ 4) (Tk hz'))
 refine Vi (s:={ s1 with heap:=h' }) (base:=s1.heap) (n:=keys.length) (ks:=ks.toArray) (vs:=us.toArray) (key:=λi=>as.getD i 0) (val:=λi=>us.getD i .none) (I1.ok.hd hc) (by omega) D (by refine⟨?_,?_,?_,?_⟩ <;> (show (_:Nat)≠(_:Nat); omega)) hz' hTI ⟨_,_,hTO⟩ hi1 hi2 (λc hc=>none_ge c ?_) hkp q1' q2' (by rw [Re]; omega) (λi hi=>?_) (keys.zip (as.zip us)) (by rw [cq,cq]; omega) (by rw [Rl la (by omega)]; exact nd) hz (λi y e=>?_) (λy hy=>?_) λh2 tk hD hk2=>?_
 ·rcases hc with rfl | rfl | rfl | rfl <;> (show (_:Nat)<=(_:Nat); omega)
 ·obtain⟨u,f1,f2⟩:=r1'.get (i:=i) (x:=.ref (as.getD i 0)) (by rw [T0,Db (by omega),bF,Db (by omega)]; rfl)
  cases (show u=bT (as.getD i 0) from f2)
  refine⟨by simpa using f1,?_⟩
  rw [List.getElem?_toArray,Db (by omega),bF,Db (by omega)]; rfl
 ·obtain⟨_,e2,e3⟩:=O5 e
  refine⟨?_,?_⟩
  ·show _=as.getD i 0; rw [bF,e2]; rfl
  ·show _=us.getD i .none; rw [bF,e3]; rfl
 ·obtain⟨i,hi⟩:=dh.mp hy
  obtain⟨e1,e2,e3⟩:=O5 hi
  exact Fd I1.hok (hk i _ _ e2 e1)
 ·refine⟨.ref h'.objs.size,_,Vl (s:=s1) (l:=h'.objs.size) I1 hsz (beq_eq_false_iff_ne.mpr (bp (bK (bR I1.big hsz)))) hk2 la lw hz r2' hk hD,rfl,q _ (I1.hok.fresh hsz)⟩
end
end L2
namespace Dp
open PySem PySem.Spec PyProof.Rows L2
section
variable {K:Frag}
noncomputable def Di:List D->Option (List (List Key))
 | []=>some []
 | d::ds=>match keysOf d,Di ds with
  | some k,some ks=>some (k::ks)
  | _,_=>none
theorem RA{M:Addr->Prop}{H:Hp}{d:D}{v:V}{k:List Key}(e:keysOf d=some k)(h:At K M H d v):∃b,v=.ref b/\H b=some (.tup (k.map kV)):=DH (U:=λ_=>False) e (h.tp λ_ z=>z.elim)
theorem JE{M:Addr->Prop}{H:Hp}:∀{ds:List D} {vs:List V} {ks:List (List Key)},Di ds=some ks->Ats K M H ds vs->∃as:List Addr,vs=as.map .ref/\as.length=ks.length/\∀(i:Nat) x k,as[i]?=some x->ks[i]?=some k->H x=some (.tup (k.map kV))
 | [],vs,ks,e,h=>by
  cases e
  exact⟨[],h,rfl,λi x k e=>by simp at e⟩
 | d::ds,vs,ks,e,h=>by
  obtain⟨v,r,rfl,h1,h2⟩:=h
  unfold Di at e
  split at e
  ·rename_i k ks' c1 c2
   cases e
   obtain⟨as,rfl,l,ha⟩:=JE c2 h2
   obtain⟨b,rfl,hb⟩:=RA c1 h1
   refine⟨b::as,rfl,by rw [XV,XV,l],λi x k' f1 f2=>?_⟩
   cases i with
   | zero=>cases f1; cases f2; exact hb
   | succ i=>exact ha i x k' f1 f2
  ·cases e
theorem Vu{M:Addr->Prop}{H:Hp}{l:Addr}{ks:List (List Key)}{ds:List D}{vs:List V}(hn:H l=none)(hl:ks.length=ds.length)(hs:Ats K M H ds vs):∃a,V.ref l=.ref a/\H a=none/\Tops K (λb=>M b\/b=a) (As H l (.dT (ks.zip vs))) a (.dit ks ds):=by
 refine⟨l,rfl,hn,vs,AT,hl,hs.pres ?_⟩
 exact⟨λb o eb nb=>by rw [AK (λz=>by rw [z,hn] at eb; cases eb)]; exact eb,λb z=>z.elim .inl λz=>.inr (by rw [z]; exact hn),λb vs eb=>by rw [AK (λz=>by rw [z,hn] at eb; cases eb)]; exact eb⟩
end
section
variable {X:Cx}{e1 e2:Expr}{ws:Et}{p1 q1 p2 q2:Pos}
noncomputable def Ry(ws:Et):DW:=λn ρ P=>ws n ρ λds n1=>∃d e xs ys ks,ds=[d,e]/\FL d=some xs/\FL e=some ys/\Di xs=some ks/\ks.length=ys.length/\ks.length<=sizeLine/\ks.Nodup/\P (.dit ks ys) n1
theorem UC(hc:X.calm=true){k0:Nat}(hr:Room k0 X.A)(ha:Wo X [e1,e2] ws)(hg1:Gl X "dict")(hm1:X.mg "dict"=none)(hg2:Gl X "zip")(hm2:X.mg "zip"=none)(h1:autoParam (starEach [fM (.Name "zip" p2) [e1,e2] [] q2] X.env=[(false,eval (fM (.Name "zip" p2) [e1,e2] [] q2) X.env)]) zau3._auto_1)
  (hs:autoParam (starEach [e1,e2] X.env=[(false,eval e1 X.env),(false,eval e2 X.env)]) zau3._auto_1) (hs2:autoParam (starEach [e2] X.env=[(false,eval e2 X.env)]) zau3._auto_1):DE X (.Call (.Name "dict" p1) [.Call (.Name "zip" p2) [e1,e2] [] q2] [] q1) .fr (Ry ws):=by
 obtain⟨t,a1,a2⟩:=ha
 refine⟨_,Sw hc hr a1 hg1 hm1 hg2 hm2 h1 hs hs2,λC M H n ρ σ P Q R w q=>?_⟩
 refine a2 C M H n ρ σ _ _ R w λvs H1 ds n1 ee f1 r1 p=>?_
 obtain⟨d,e,xs,ys,ks,rfl,hd,he,hk,hl,hz,nd,p⟩:=p
 cases r1 with
 | cons r rr =>
  cases rr with
  | cons r' rr =>
   cases rr
   have R1:=R.step ee f1
   obtain⟨κ1,a,us,rfl,g1,s1⟩:=Gr (U:=C.U) r hd R.uV R1.vM
   obtain⟨κ2,b,us',rfl,g2,s2⟩:=Gr (U:=C.U) r' he R.uV R1.vM
   obtain⟨as,rfl,la,hka⟩:=JE hk g1
   have l2:=g2.length
   refine⟨κ1,κ2,a,b,as,us',ks,rfl,s1 M H1 (Pres.refl _ _) (Ext.refl _ _),s2 M H1 (Pres.refl _ _) (Ext.refl _ _),la,by omega,hz,hka,nd,λl hn=>?_⟩
   have g:Grow H1 (As H1 l (.dT (ks.zip us'))):=Al hn
   exact q _ _ (.dit ks ys) n1 (ee.trans g.ext) (f1.grow g) (VR.back ee (κ:=.fr) (Vu hn hl g2)) p
end
end Dp
namespace L2
open PySem PySem.Spec PyProof.Rows
section
variable {X:Cx}
noncomputable def WQ:V->List V->Hp->VK->Prop:=λx vs H Q=>∃l b xs zs,x=.ref l/\vs=[.ref b]/\H l=some (.lst xs)/\H b=some (.tup zs)/\xs.length+zs.length<=sizeLine/\Q .non (As H l (.lst (xs++zs)))
theorem VJ:ah X "list.extend" WQ:=by
 intro pins s σ H x vs v us Q I rx rv h
 obtain⟨l,b,xs,zs,rfl,rfl,hH,hB,hz,q⟩:=h
 cases rx
 obtain⟨u,rfl,ru⟩:=rv.one
 cases ru
 obtain⟨z,its,n,r,hl,e⟩:=I.lstM hH
 obtain⟨z2,its2,r2,⟨⟨cls,dt,data,sl⟩,e2,c1,n2,c2,c3,c4⟩⟩:=(show ObjOk X.prog X.w H s.heap b (.tup zs) from I.hok b _ hB)
 simp only at c1 c2 c3 c4
 subst c1 c2 c3 c4
 have hl2:=r2.length
 have hsz:its.toArray.size+its2.toArray.size<=sizeLine:=by rw [Re,Re]; omega
 have hlong:¬(!its.toArray.isEmpty&&d_ (its.toArray.size+its2.toArray.size))=true:=by
  rw [NA hsz,Bool.and_false]
  exact bG
 refine gx F.slot_list_extend ⟨_,e,rfl⟩ F.entry_list_extend (F.args_list_extend_2 _ _)
  (AutoSeq1.list_extend_list_tuple_0 l its.toArray n b its2.toArray n2 hlong (by rw [Re]; omega) (by omega)) ⟨e,e2,?_⟩
 refine⟨.non,_,I.lset (its':=its++its2) hH e (by simp) (r.append r2) ?_,rfl,q⟩
 rw [bD]
 exact hz
end
end L2
namespace Dp
open PySem PySem.Spec PyProof.Rows L2
noncomputable def Wd(d:D)(ds:List D)(P:D->D->Prop):Prop:=∃xs ys,d=.lst xs/\ds=[.tup ys]/\xs.length+ys.length<=sizeLine/\P (.lst (xs++ys)) .non
theorem YJ{K:Frag}:V9 K WQ Wd:=by
 intro M H a d ds vs P Q m t hv w q
 obtain⟨xs,ys,rfl,rfl,hl,w⟩:=w
 obtain⟨us,h1,h2⟩:=t
 obtain⟨u,r,rfl,hu,hr⟩:=hv
 cases (show r=[] from hr)
 obtain⟨b,zs,rfl,hb,hz⟩:=hu
 refine⟨a,b,us,zs,rfl,rfl,h1,hb,by rw [h2.length,hz.length]; exact hl,q _ (.lst (xs++ys)) .non _ ⟨us++zs,AT,?_⟩ rfl w⟩
 exact(h2.append hz).pres (Co m h1)
section
variable {X:Cx}{κ:Kd}{pos:Pos}
end
end Dp
namespace Nt
open PySem PySem.Spec PyProof.Rows L2 Dp
inductive Cn (K:List Ag) (x:Str):Str->Prop
 | refl:Cn K x x
 | step {y z:Str}:Cn K x y->(∃t∈K,(t.a=y/\t.b=z)\/(t.b=y/\t.a=z))->Cn K x z
section
variable {ss:List Slot}{n:Nat}{Pd:D->Nat->Prop}
end
section
variable {ss:List Slot}{n:Nat}{Pd:D->Nat->Prop}
structure bA (N:Net) (ks:List Key) (ds:List D) (F:Str->Option Str):Prop where
 m:Dmap ks ds D.str F
 i:∀x,F x≠none->x∈N.ps
end
end Nt
namespace L2
open PySem PySem.Spec PyProof.Rows
section
variable {X:Cx}{e1 tg:Expr}{p pos:Pos}{te:TE}
end
end L2
namespace Dp
open PySem PySem.Spec PyProof.Rows L2
section
variable {X:Cx}{e1 tg:Expr}{p pos:Pos}{κ:Kd}{wa:DW}
end
end Dp
namespace Nt
open PySem PySem.Spec PyProof.Rows L2 Dp
section
variable {ss:List Slot}{n:Nat}{Pd:D->Nat->Prop}
end
noncomputable def tj(t:Ag)(x y:Str):Prop:=(t.a=x/\t.b=y)\/(t.b=x/\t.a=y)
inductive Us (K:List Ag) (x:Str):Str->Nat->Prop
 | nil:Us K x x 0
 | snoc {y z:Str} {n:Nat} {t:Ag}:Us K x y n->t∈K->tj t y z->Us K x z (n+1)
noncomputable def firm(N:Net)(t b:Int)(L:List Ag):Prop:=∀pre z post,L=pre++z::post->¬EN (sub N pre) t b z
structure Kept (N:Net) (t b:Int) (L:List Ag):Prop where
 ok:okN N
 firm:firm N t b L
 ins:∀u∈L,u∈N.ts
 up:L.Pairwise λu v=>u.len<=v.len
 b1:1<=b
end Nt
namespace L2
open PySem PySem.Spec PyProof.Rows PySem.W
section
variable {prog:Program}{w:World}{A:Around}{E:Value->Shared->Prop}{I:Addr}{fp wr:List Addr}{N:Nat}{P:Nat->Value->Prop}{St:Nat->Heap->Prop}
end
section
variable {X:Cx}{pos:Pos}
end
end L2
namespace Dp
open PySem PySem.Spec PyProof.Rows L2
section
variable {X:Cx}{es:List Expr}{pos:Pos}
end
section
variable {X:Cx}{κ κe:Kd}{tg tg2 iter e:Expr}{sc:Scope}{pos cp p apos cpos:Pos}{x:Str}{src:Et}{b:BW}{we:DW}{i f:Nat}
end
end Dp
namespace Nt
open PySem PySem.Spec PyProof.Rows L2 Dp
theorem W5{N:Net}(ok:N.Ok){x y:Str}{l:Int}(he:Ed N x y l):∃t∈N.ts,t.len=l/\((t.a=x/\t.b=y)\/(t.b=x/\t.a=y))/\(if decide (cs y<cs x)=true then y else x)=t.a/\(if decide (cs x<cs y)=true then y else x)=t.b:=by
 obtain⟨t,ht,tl,h2⟩:=he.tie ok
 have lt:=(ok.tin t ht).2.2.1
 refine⟨t,ht,tl,h2,?_⟩
 rcases h2 with ⟨rfl,rfl⟩ | ⟨rfl,rfl⟩
 ·have:¬cs t.b<cs t.a:=λz=>bc _ (e_ lt z)
  exact⟨by rw [decide_eq_false this,if_neg (by decide)],by rw [decide_eq_true lt,if_pos rfl]⟩
 ·have:¬cs t.b<cs t.a:=λz=>bc _ (e_ lt z)
  exact⟨by rw [decide_eq_true lt,if_pos rfl],by rw [decide_eq_false this,if_neg (by decide)]⟩
theorem Tv{M:Net}{t:Ag}{x y:Str}(ht:t∈M.ts)(h:(t.a=x/\t.b=y)\/(t.b=x/\t.a=y)):Ed M x y t.len:=by
 rcases h with ⟨rfl,rfl⟩ | ⟨rfl,rfl⟩
 ·exact(GG ht).1
 ·exact(GG ht).2
section
variable {ss:List Slot}{n:Nat}{Pd:D->Nat->Prop}
end
noncomputable def E3(w:List Str):D:=.tup (w.map .str)
noncomputable def C4(t:Ag):List Key:=[.inr t.a,.inr t.b,.inl t.len]
noncomputable def CA(N:Net):List Str->List Ag->Prop
 | x::y::r,us=>∃t us',us=t::us'/\t∈N.ts/\((t.a=x/\t.b=y)\/(t.b=x/\t.a=y))/\CA N (y::r) us'
 | [_],us=>us=[]
 | [],_=>False
noncomputable abbrev Gj:=List (Ag×List Str)
noncomputable def Lq(T:Gj):D:=.dit (T.map λp=>C4 p.1) (T.map λp=>E3 p.2)
noncomputable def BF:Gj->Ag->Option (List Str)
 | [],_=>none
 | p::T,t=>if p.1=t then some p.2 else BF T t
noncomputable def Be(T:Gj)(t:Ag)(x:Str):List Str:=if x=t.a then (BF T t).getD [t.a,t.b] else ((BF T t).getD [t.a,t.b]).reverse
noncomputable def A6(T:Gj):List Str->List Ag->List Str
 | x::w,t::us=>(Be T t x).drop 1++A6 T w us
 | _,_=>[]
noncomputable def Hb(N:Net)(ts os:List Ag):Prop:=os.Perm (N.ts.filter λt=>decide (t∉ts))/\C7 os
noncomputable def V_(N1:Net)(T1 T2:Gj)(t:Ag)(r:List Str):Prop:=BF T2 t=some r\/(BF T2 t=none/\∃x w us,BF T1 t=some (x::w)/\CA N1 (x::w) us/\r=x::A6 T2 (x::w) us)
noncomputable def S2(N1:Net)(T:Gj):Prop:=∀p∈T,∃r us,p.2=p.1.a::r/\CA N1 p.2 us/\p.2.length<=30/\∀x∈p.2,x∈N1.ps
structure Z1 (N:Net) (ts1 ts2:List Ag) (T1 T2:Gj):Prop where
 ok:N.Ok
 lp:N.ps.length<=24
 lt:N.ts.length<60
 s1:ts1.Sublist N.ts
 s2:ts2.Sublist ts1
 o1:Hb N ts1 (T1.map (·.1))
 o2:Hb ⟨N.ps,ts1⟩ ts2 (T2.map (·.1))
 p1:S2 ⟨N.ps,ts1⟩ T1
 p2:S2 ⟨N.ps,ts2⟩ T2
noncomputable def ID:W2:=λss n P=>∃(N:Net) (w:List Str) (us:List Ag),ss=[.sh (BL N),.sh (E3 w)]/\N.Ok/\N.ps.length<=1000/\N.ts.length<=1000/\CA N w us/\w.length<=30/\(∀x∈w,x∈N.ps)/\P (.lst (us.map Aj)) n
noncomputable def UX:W2:=λss n P=>∃(N:Net) (ts:List Ag) (T:Gj),ss=[.sh (BL N),.sh (BL ⟨N.ps,ts⟩),.sh (.tup (T.map λp=>E3 p.2))]/\N.Ok/\N.ts.length<64/\(∀t∈ts,t∈N.ts)/\Hb N ts (T.map (·.1))/\P (Lq T) n
noncomputable def MA:W2:=λss n P=>∃(N:Net) (x:Str) (w:List Str) (us:List Ag) (T:Gj),ss=[.sh (BL N),.sh (E3 (x::w)),.sh (Lq T)]/\N.Ok/\N.ps.length<=1000/\N.ts.length<=1000/\CA N (x::w) us/\w.length<=29/\(∀y∈x::w,y∈N.ps)/\(∀p∈T,p.2.length<=30)/\P (E3 (x::A6 T (x::w) us)) n
noncomputable def Es:W2:=λss n P=>∃(N:Net) (ts1 ts2:List Ag) (T1 T2:Gj),ss=[.sh (BL N),.sh (BL ⟨N.ps,ts1⟩),.sh (BL ⟨N.ps,ts2⟩),.sh (.tup (T1.map λp=>E3 p.2)),.sh (.tup (T2.map λp=>E3 p.2))]/\Z1 N ts1 ts2 T1 T2/\∀os:List Ag,Hb N ts2 os->∃rs:List (List Str),rs.length=os.length/\(∀(i:Nat) t r,os[i]?=some t->rs[i]?=some r->V_ ⟨N.ps,ts1⟩ T1 T2 t r)/\P (.tup (rs.map E3)) n
noncomputable def FC:Aa:=(Ai (BA 2 (AV Jf (AB (AH (AC 0)) AW)))
 (A3 (Dt [some 2,none,none] (Ru (AE (AC 1) (AE (YX Oj (AC 1) (J8 (wC (D.int 1))) Eh) Ae))) (Hl 2 (A8 (Ay 1) (A8 (Ay 2) Dv))) Fp (CG (AE (Dy To (AE (AC 1) (AE (AC 2) Ae))) (AE (Dy Tp (AE (AC 1) (AE (AC 2) Ae))) (AE (Ad Bn (Ad Bn (AC 0) (AC 1)) (AC 2)) Ae)))))))
noncomputable def Dw:Aa:=(A3 (Ry (AE (AV HY (AB (AH (AC 0)) (AB (AH (AC 1)) AW))) (AE (AC 2) Ae))))
noncomputable def E_:Aa:=(Ai (G9 3 (He (AE (Ad BP (AC 1) (wC (D.int 0))) Ae)))
 (Ai (IK (Rx (AV ID (AB (AH (AC 0)) (AB (AH (AC 1)) AW)))) (Hl 2 (A8 (Ay 4) (A8 (Ay 5) Dv))) (Ai (BA 6 (WB (AC 2) (AC 5) (YX Oj (AC 5) Eh (J8 (wC (D.int 2))))))
 (Ai (Bp (Am (Ad (Rg true) (Ad BP (AC 1) (AC 4)) (Ad BP (AC 5) (wC (D.int 0))))) (BA 6 (Yb (AC 6) (Ww (wC (D.int 1))))) BI)
 (Uk 3 "list" Wd (AE (YX Oj (AC 6) (J8 (wC (D.int 1))) Eh) Ae)))))
 (A3 (Dy CJ (AE (BM 3) Ae)))))
noncomputable def GS:Aa:=(Ai (BA 5 (AV UX (AB (AH (AC 0)) (AB (AH (AC 1)) (AB (AH (AC 3)) AW)))))
 (Ai (BA 6 (AV UX (AB (AH (AC 1)) (AB (AH (AC 2)) (AB (AH (AC 4)) AW)))))
 (Ai (G9 7 (He Ae))
 (Ai (IK (Cw (AV HY (AB (AH (AC 0)) (AB (AH (AC 2)) AW)))) (Ay 8) (Uk 7 "list" Om (AE (Yd (Am (Ad (ZK false) (AC 8) (AC 6))) (Ad NR (AC 6) (AC 8)) (AV MA (AB (AH (AC 1)) (AB (AH (Ad NR (AC 5) (AC 8))) (AB (AH (AC 6)) AW))))) Ae)))
 (A3 (Dy CJ (AE (BM 7) Ae)))))))
theorem NN{s t:Ag}(h:C4 s=C4 t):s=t:=by
 obtain⟨a,b,l⟩:=s
 obtain⟨a',b',l'⟩:=t
 have h:([.inr a,.inr b,.inl l]:List Key)=[.inr a',.inr b',.inl l']:=h
 simp only [iL,ip,io,and_true] at h
 obtain⟨rfl,rfl,rfl⟩:=h
 rfl
theorem F8(T:Gj)(t:Ag):Ba (T.map λp=>C4 p.1) (T.map λp=>E3 p.2) (C4 t)=(BF T t).map E3:=by
 induction T with
 | nil=>rfl
 | cons p T ih =>
  show (if C4 p.1=C4 t then some (E3 p.2) else Ba (T.map λp=>C4 p.1) (T.map λp=>E3 p.2) (C4 t))=_
  unfold BF
  by_cases e:p.1=t
  ·rw [if_pos (by rw [e]),if_pos e]; rfl
  ·rw [if_neg (λz=>e (NN z)),if_neg e,ih]
theorem Og(t:Ag):keysOf (Aj t)=some (C4 t):=rfl
theorem Bx{T:Gj}{t:Ag}{w:List Str}(h:BF T t=some w):(t,w)∈T:=by
 induction T with
 | nil=>cases h
 | cons p T ih =>
  unfold BF at h
  split at h
  ·rename_i e
   cases h
   rw [← e]
   exact No
  ·exact Rs _ (ih h)
theorem JA{T:Gj}{t:Ag}(h:t∈T.map (·.1)):∃w,BF T t=some w:=by
 induction T with
 | nil=>cases h
 | cons p T ih =>
  unfold BF
  by_cases e:p.1=t
  ·rw [if_pos e]; exact⟨_,rfl⟩
  ·rw [if_neg e]
   rcases TM.mp h with h | h
   ·exact absurd h.symm e
   ·exact ih h
theorem JB{T:Gj}{t:Ag}(h:BF T t=none):t∉T.map (·.1):=λz=>by
 obtain⟨w,e⟩:=JA z
 rw [h] at e
 cases e
theorem PC{N:Net}(ok:N.Ok){s t:Ag}(hs:s∈N.ts)(ht:t∈N.ts)(ea:s.a=t.a)(eb:s.b=t.b):s=t:=by
 have key:∀ts:List Ag,ts.Pairwise BG->s∈ts->t∈ts->s=t:=by
  intro ts hp h1 h2
  induction hp with
  | nil=>cases h1
  | @cons u ts hu _ ih =>
   have no:∀v w:Ag,BG v w->v.a=w.a->v.b=w.b->False:=λv w h e1 e2=>by
    rcases h with h | ⟨_,h⟩
    ·rw [e1] at h; exact bc _ h
    ·rw [e2] at h; exact bc _ h
   rcases TM.mp h1 with e1 | k1
   ·rcases TM.mp h2 with e2 | k2
    ·exact e1.trans e2.symm
    ·exact(no _ _ (hu t k2) (by rw [← e1]; exact ea) (by rw [← e1]; exact eb)).elim
   ·rcases TM.mp h2 with e2 | k2
    ·exact(no _ _ (hu s k1) (by rw [← e2]; exact ea.symm) (by rw [← e2]; exact eb.symm)).elim
    ·exact ih k1 k2
 exact key N.ts ok.trise hs ht
theorem NU{N:Net}(ok:N.Ok){s t:Ag}{x y:Str}(hs:s∈N.ts)(ht:t∈N.ts)(h1:(s.a=x/\s.b=y)\/(s.b=x/\s.a=y))(h2:(t.a=x/\t.b=y)\/(t.b=x/\t.a=y)):s=t:=by
 have l1:=(ok.tin s hs).2.2.1
 have l2:=(ok.tin t ht).2.2.1
 rcases h1 with ⟨a1,b1⟩ | ⟨a1,b1⟩ <;> rcases h2 with ⟨a2,b2⟩ | ⟨a2,b2⟩
 ·exact PC ok hs ht (a1.trans a2.symm) (b1.trans b2.symm)
 ·rw [a1,b1] at l1; rw [a2,b2] at l2; exact absurd l1 (iu l2)
 ·rw [a1,b1] at l1; rw [a2,b2] at l2; exact absurd l1 (iu l2)
 ·exact PC ok hs ht (b1.trans b2.symm) (a1.trans a2.symm)
theorem OT{N:Net}:∀{w:List Str} {us:List Ag},CA N w us->w.length=us.length+1
 | [],_,h=>h.elim
 | [_],_,h=>by rw [show _=[] from h]; rfl
 | x::y::r,us,h=>by
  obtain⟨t,us',rfl,_,_,h⟩:=h
  have:=OT h
  simp only [XV] at this ⊢
  omega
theorem WZ{N:Net}:∀{w:List Str} {us:List Ag} {i:Nat} {t:Ag},CA N w us->us[i]?=some t->∃x y,w[i]?=some x/\w[i+1]?=some y/\t∈N.ts/\((t.a=x/\t.b=y)\/(t.b=x/\t.a=y))
 | [],_,_,_,h,_=>h.elim
 | [_],_,_,_,h,e=>by rw [show _=[] from h] at e; simp at e
 | x::y::r,us,i,t,h,e=>by
  obtain⟨s,us',rfl,hs,hx,h⟩:=h
  cases i with
  | zero=>cases e; exact⟨x,y,rfl,rfl,hs,hx⟩
  | succ i =>
   obtain⟨x',y',h1,h2,h3⟩:=WZ h (show us'[i]?=some t from e)
   exact⟨x',y',h1,h2,h3⟩
theorem IQ(T:Gj):∀{w:List Str} {us:List Ag} {i:Nat} {x:Str} {t:Ag},us[i]?=some t->w[i]?=some x->A6 T w (us.take (i+1))=A6 T w (us.take i)++(Be T t x).drop 1
 | [],_,_,_,_,_,h=>by simp at h
 | _::_,[],_,_,_,h,_=>by simp at h
 | z::w,s::us,0,x,t,h1,h2=>by
  cases h1
  cases h2
  show (Be T s z).drop 1++A6 T w (us.take 0)=_
  rw [List.take_zero]
  show (Be T s z).drop 1++A6 T w []=[]++(Be T s z).drop 1
  have:A6 T w []=[]:=by cases w <;> rfl
  rw [this,bh,cD]
 | z::w,s::us,i+1,x,t,h1,h2=>by
  have ih:=IQ T (w:=w) (us:=us) (i:=i) h1 h2
  show (Be T s z).drop 1++A6 T w (us.take (i+1))=((Be T s z).drop 1++A6 T w (us.take i))++_
  rw [ih,cW]
theorem Mr{T:Gj}(h:∀p∈T,p.2.length<=30)(t:Ag)(x:Str):(Be T t x).length<=30:=by
 have:((BF T t).getD [t.a,t.b]).length<=30:=by
  cases e:BF T t with
  | none=>show 2<=30; decide
  | some w=>exact h _ (Bx e)
 unfold Be
 split
 ·exact this
 ·rw [dM]; exact this
theorem Gp{T:Gj}(h:∀p∈T,p.2.length<=30):∀(w:List Str) (us:List Ag),(A6 T w us).length<=30*us.length
 | [],us=>by show 0<=_; exact bH _
 | _::_,[]=>bH _
 | x::w,t::us=>by
  have h1:=Gp h w us
  have h2:=Mr h t x
  show ((Be T t x).drop 1++A6 T w us).length<=30*(us.length+1)
  rw [bD,eh]
  omega
section
variable {ss:List Slot}{n:Nat}{Pd:D->Nat->Prop}
theorem Ih(h:ID ss n Pd):FC (EF Pd) n (ss++Uf 1 .no):=by
 obtain⟨N,w,us,rfl,ok,lp,lt,hw,hl,hin,p⟩:=h
 unfold FC
 refine⟨N,rfl,ok,lp,lt,?_⟩
 have go:∀(r:List Str) (x:Str) (us acc:List Ag) (s1 s2:Slot),CA N (x::r) us->(∀y∈x::r,y∈N.ps)->Pd (.lst ((acc++us).map Aj)) n ->
   DF (Hl 2 (A8 (Ay 1) (A8 (Ay 2) Dv))) Fp (CG (AE (Dy To (AE (AC 1) (AE (AC 2) Ae))) (AE (Dy Tp (AE (AC 1) (AE (AC 2) Ae))) (AE (Ad Bn (Ad Bn (AC 0) (AC 1)) (AC 2)) Ae)))) (λacc n2=>Pd (.lst acc) n2) (Cf ((x::r).map .str) (r.map .str)) (acc.map Aj) n [.sh (DU N),s1,s2]:=by
  intro r
  induction r with
  | nil =>
   intro x us acc s1 s2 hw hin h
   rw [show us=[] from hw,bh] at h
   exact h
  | cons y r ih =>
   intro x us acc s1 s2 hw hin h
   obtain⟨t,us,rfl,ht,te,hw⟩:=hw
   have he:Ed N x y t.len:=Tv ht te
   obtain⟨t',ht',tl,te',ea,eb⟩:=W5 ok he
   have:=NU ok ht' ht te' te
   subst this
   have hx:=hin x No
   refine⟨rfl,rfl,x,y,rfl,x,y,rfl,_,_,_,Qy N.ts x,rfl,BX x,KJ hx,_,_,_,.int t'.len,rfl,BX y,?_,z3,?_⟩
   ·show BN ((Ce N.ts x).map λz=>.inr z.1) ((Ce N.ts x).map λz=>.int z.2) (.inr y)=_
    rw [Hq]
    have:=Pc ok he
    unfold look at this
    rw [this]
    rfl
   have et:D.tup [.str (if decide (y.cps.toList<x.cps.toList)=true then y else x),.str (if decide (x.cps.toList<y.cps.toList)=true then y else x),.int t'.len]=Aj t':=by
    show D.tup [.str (if decide (cs y<cs x)=true then y else x),.str (if decide (cs x<cs y)=true then y else x),.int t'.len]=Aj t'
    rw [ea,eb]
    rfl
   rw [et]
   have:=ih y us (acc++[t']) (.sh (.str x)) (.sh (.str y)) hw (λz hz=>hin z (Rs _ hz)) (by rw [cW]; exact h)
   rw [cH] at this
   exact this
 cases w with
 | nil=>exact hw.elim
 | cons x r =>
  rw [XV] at hl
  refine⟨_,_,(x::r).map .str,r.map .str,rfl,rfl,by show some (Dp.cutD (D.str x::r.map .str) (some 1) none)=_; rw [UH]; rfl,?_,?_⟩
  ·unfold Cf
   rw [dL,FM,FM]
   omega
  ·exact go r x us [] _ _ hw hin (by rw [cD]; exact p)
theorem OZ{N:Net}(ok:N.Ok){ts os:List Ag}(h:Hb N ts os):os.Nodup:=by
 refine h.1.nodup_iff.mpr (List.Nodup.sublist eK ?_)
 exact ok.trise.imp λ{s t} h e=>by
  rw [e] at h
  rcases h with h | ⟨_,h⟩
  ·exact bc _ h
  ·exact bc _ h
theorem keys_nodup{os:List Ag}(h:os.Nodup):(os.map C4).Nodup:=List.Pairwise.map C4 (λ_ _ h e=>h (NN e)) h
theorem Lg(os:List Ag):Di (os.map Aj)=some (os.map C4):=by
 induction os with
 | nil=>rfl
 | cons t os ih =>
  show (match keysOf (Aj t),Di (os.map Aj) with
   | some k,some ks=>some (k::ks)
   | _,_=>none)=_
  rw [Og,ih]; rfl
theorem RL{N:Net}(ok:N.Ok)(l64:N.ts.length<64){ts:List Ag}{T:Gj}(h:Hb N ts (T.map (·.1))){ts':List Ag}(h1:ts'.Perm (N.ts.filter λt=>decide (t∉ts)))(h2:C7 ts'){P:D->Prop}(p:P (Lq T)) :
  ∃d e xs ys ks,[D.lst (ts'.map Aj),D.tup (T.map λp=>E3 p.2)]=[d,e]/\FL d=some xs/\FL e=some ys/\Di xs=some ks/\ks.length=ys.length/\ks.length<=sizeLine/\ks.Nodup/\P (.dit ks ys):=by
 have e:=EJ (h1.trans h.1.symm) h2 h.2
 subst e
 have szl:=PySem.sizeLine_eq
 have l1:=h1.length_eq
 have l2:=c7 (λt=>decide (t∉ts)) N.ts
 rw [FM] at l1
 refine⟨_,_,_,_,(T.map fun(p:Ag×List Str)=>C4 p.1),rfl,rfl,rfl,?_,by rw [FM,FM],by rw [FM]; omega,?_,p⟩
 ·rw [Lg,dY]; rfl
 ·have:=keys_nodup (OZ ok h)
  rw [dY] at this
  exact this
theorem Gx(h:UX ss n Pd):Dw (EE Pd) n (ss++Uf 0 .no):=by
 obtain⟨N,ts,T,rfl,ok,l64,hts,ho,p⟩:=h
 unfold Dw
 exact⟨N,ts,rfl,ok,l64,hts,λts' h1 h2=>RL ok l64 ho h1 h2 (P:=λd=>Pd d n) p⟩
theorem Vc{us:List Ag}{pre post:List D}{d:D}(h:DL 0 (us.map Aj)=pre++d::post):∃t,us[pre.length]?=some t/\d=.tup [.int (pre.length:Int),Aj t]:=by
 have e:(DL 0 (us.map Aj))[pre.length]?=some d:=by rw [h,cS (Op _),fL]; rfl
 rw [G5,T0,Option.map_map] at e
 obtain⟨t,h1,h2⟩:=bM.mp e
 refine⟨t,h1,?_⟩
 rw [← h2]
 show D.tup [.int ((0+pre.length:Nat):Int),Aj t]=_
 rw [Nat.zero_add]
theorem Tf(T:Gj)(t:Ag):(Ba (T.map λp=>C4 p.1) (T.map λp=>E3 p.2) (C4 t)).getD (.tup [.str t.a,.str t.b])=E3 ((BF T t).getD [t.a,t.b]):=by
 rw [F8]
 cases BF T t <;> rfl
theorem Ie(h:MA ss n Pd):E_ (EE Pd) n (ss++Uf 4 .no):=by
 obtain⟨N,x,w,us,T,rfl,ok,lp,lt,hw,hl,hin,hT,p⟩:=h
 have szl:=PySem.sizeLine_eq
 have ul:=OT hw
 rw [XV] at ul
 unfold E_
 refine⟨_,AQ (j:=0) rfl,z1,?_⟩
 refine⟨N,x::w,us,rfl,ok,lp,lt,hw,by rw [XV]; omega,hin,?_⟩
 refine⟨us.map Aj,rfl,?_⟩
 refine Bv (all:=DL 0 (us.map Aj)) (λpre m ρ=>m=n/\∃s4 s5 s6,ρ=[.sh (BL N),.sh (E3 (x::w)),.sh (Lq T),.ow (.lst ((x::A6 T (x::w) (us.take pre.length)).map .str)),s4,s5,s6]) ?_ ?_ _ [] _ _ rfl ⟨rfl,_,_,_,rfl⟩
 ·rintro m ρ ⟨rfl,s4,s5,s6,rfl⟩
  rw [G4,FM,dO]
  exact p
 ·rintro pre d post m ρ nx hall ⟨rfl,s4,s5,s6,rfl⟩ hnx
  obtain⟨t,ht,rfl⟩:=Vc hall
  rw [bD,bW] at hnx
  generalize pre.length=i at ht hnx ⊢
  obtain⟨xi,yi,hx,hy,hm,he⟩:=WZ hw ht
  have hi:i<us.length:=(TW.mp ht).1
  rw [IQ T ht hx] at hnx
  have lpart:=Mr hT t xi
  have ltak:=Gp hT (x::w) (us.take i)
  rw [c0] at ltak
  refine⟨rfl,rfl,_,_,rfl,C4 t,rfl,?_⟩
  rw [show (Ba (T.map λp=>C4 p.1) (T.map λp=>E3 p.2) (C4 t)).getD (D.tup (Dp.cutD [D.str t.a,D.str t.b,D.int t.len] none (some 2)))=E3 ((BF T t).getD [t.a,t.b]) from Tf T t]
  refine⟨.str xi,AQ (by show ((x::w).map D.str)[i]?=_; rw [T0,hx]; rfl),_,AQ (j:=0) rfl,?_⟩
  have fin:=hnx m [.sh (BL N),.sh (E3 (x::w)),.sh (Lq T),.ow (.lst ((x::A6 T (x::w) (us.take i)).map .str++((Be T t xi).drop 1).map .str)),.sh (.int (i:Int)),.sh (Aj t),.sh (E3 (Be T t xi))] ⟨rfl,_,_,_,by rw [← cH]; rfl⟩
  have ev:∀l:List Str,Dp.cutD (l.map D.str) (some 1) none=(l.drop 1).map .str:=λl=>by rw [UH,List.map_drop]
  have le:((x::A6 T (x::w) (us.take i)).map D.str).length+(((Be T t xi).drop 1).map D.str).length<=sizeLine:=by
   rw [FM,FM,eh,XV]; omega
  show if (!(xi==t.a))=true then _ else _
  refine Cg (λc=>?_) λc=>?_
  ·have c:¬xi=t.a:=by simpa using c
   rw [show Be T t xi=((BF T t).getD [t.a,t.b]).reverse from if_neg c] at fin le
   refine⟨1,rfl,rfl,_,rfl,rfl,_,_,rfl,rfl,?_,?_⟩
   ·rw [← iD,ev]; exact le
   ·rw [← iD,ev]; exact fin
  ·have c:xi=t.a:=by simpa using c
   rw [show Be T t xi=(BF T t).getD [t.a,t.b] from if_pos c] at fin le
   refine⟨_,rfl,rfl,_,_,rfl,rfl,?_,?_⟩
   ·rw [ev]; exact le
   ·rw [ev]; exact fin
theorem Ut{N:Net}(ok:N.Ok){ts:List Ag}(h:ts.Sublist N.ts):(⟨N.ps,ts⟩:Net).Ok:=⟨ok.names,ok.rise,λt ht=>ok.tin t (h.subset ht),ok.trise.sublist h⟩
theorem YD{α:Type}{f:α->D}{xs:List α}{pre post:List D}{d:D}(h:xs.map f=pre++d::post):∃t,xs[pre.length]?=some t/\d=f t:=by
 have e:(xs.map f)[pre.length]?=some d:=by rw [h,cS (Op _),fL]; rfl
 rw [T0] at e
 obtain⟨t,h1,h2⟩:=bM.mp e
 exact⟨t,h1,h2.symm⟩
theorem Jq(h:Es ss n Pd):GS (EE Pd) n (ss++Uf 4 .no):=by
 obtain⟨N,ts1,ts2,T1,T2,rfl,C,hp⟩:=h
 have szl:=PySem.sizeLine_eq
 have ok:=C.ok
 have ok1:=Ut ok C.s1
 have lp:=C.lp
 have lt:=C.lt
 have l1:=C.s1.length_le
 have m1:=λt=>C.s1.subset (a:=t)
 have m2:=λt=>C.s2.subset (a:=t)
 unfold GS
 refine⟨N,ts1,T1,rfl,ok,by omega,m1,C.o1,?_⟩
 refine⟨⟨N.ps,ts1⟩,ts2,T2,rfl,ok1,by show ts1.length<64; omega,m2,C.o2,?_⟩
 refine⟨z0,N,ts2,rfl,ok,by omega,λt ht=>m1 t (m2 t ht),λts' h1 h2=>?_⟩
 obtain⟨rs,hrl,hd,p⟩:=hp ts' ⟨h1,h2⟩
 have lo:ts'.length<=60:=by
  have:=h1.length_eq
  have:=c7 (λt=>decide (t∉ts2)) N.ts
  omega
 refine Bv (all:=ts'.map Aj) (λpre m ρ=>m=n/\∃s8,ρ=[.sh (BL N),.sh (BL ⟨N.ps,ts1⟩),.sh (BL ⟨N.ps,ts2⟩),.sh (.tup (T1.map λp=>E3 p.2)),.sh (.tup (T2.map λp=>E3 p.2)),.sh (Lq T1),.sh (Lq T2),.ow (.lst ((rs.take pre.length).map E3)),s8]) ?_ ?_ _ [] _ _ rfl ⟨rfl,_,rfl⟩
 ·rintro m ρ ⟨rfl,s8,rfl⟩
  rw [FM,← hrl,dO]
  exact p
 ·rintro pre d post m ρ nx hall ⟨rfl,s8,rfl⟩ hnx
  obtain⟨t,ht,rfl⟩:=YD hall
  rw [bD,bW] at hnx
  generalize pre.length=i at ht hnx ⊢
  have hi:i<rs.length:=by rw [hrl]; exact(TW.mp ht).1
  have hr:rs[i]?=some rs[i]:=Db hi
  generalize rs[i]=r at hr
  have fin:=hnx m [.sh (BL N),.sh (BL ⟨N.ps,ts1⟩),.sh (BL ⟨N.ps,ts2⟩),.sh (.tup (T1.map λp=>E3 p.2)),.sh (.tup (T2.map λp=>E3 p.2)),.sh (Lq T1),.sh (Lq T2),.ow (.lst ((rs.take i).map E3++[E3 r])),.sh (Aj t)] ⟨rfl,_,by rw [gq,hr,cH]; rfl⟩
  have lr:((rs.take i).map E3).length<sizeLine:=by rw [FM,c0]; omega
  refine⟨_,rfl,rfl,_,_,_,rfl,rfl,?_⟩
  show if (Ba (T2.map λp=>C4 p.1) (T2.map λp=>E3 p.2) (C4 t)).isSome=true then _ else _
  rcases hd i t r ht hr with e2 | ⟨e2,x,w,us,e1,hw,rfl⟩
  ·have v2:=F8 T2 t
   rw [e2] at v2
   rw [v2]
   refine Cg (λ_=>?_) λc=>absurd rfl c
   exact⟨_,_,_,_,rfl,rfl,v2,_,_,rfl,rfl,lr,fin⟩
  ·have v2:=F8 T2 t
   rw [e2] at v2
   have v1:=F8 T1 t
   rw [e1] at v1
   rw [v2]
   refine Cg (λc=>absurd c (by decide)) λ_=>?_
   obtain⟨_,us',_,_,hl30,hin⟩:=C.p1 _ (Bx e1)
   have hl30:(x::w).length<=30:=hl30
   rw [XV] at hl30
   refine⟨_,_,_,_,rfl,rfl,v1,⟨N.ps,ts1⟩,x,w,us,T2,rfl,ok1,by show N.ps.length<=1000; omega,by show ts1.length<=1000; omega,hw,by omega,hin,λp hp=>?_,_,_,rfl,rfl,lr,fin⟩
   obtain⟨_,_,_,_,h30,_⟩:=C.p2 p hp
   exact h30
theorem Pb{ps:List Str}{F:Str->Str->Option Int}{i:Nat}{x:Str}(hi:ps[i]?=some x):atI (ps.map λx=>D.lst (ps.map λy=>od (F x y))) (i:Int)=some (.lst (ps.map λy=>od (F x y))):=AQ (by rw [T0,hi]; rfl)
theorem TF{ps:List Str}{F:Str->Str->Option Int}{j:Nat}{x y:Str}(hj:ps[j]?=some y):atI (ps.map λy=>od (F x y)) (j:Int)=some (od (F x y)):=AQ (by rw [T0,hj]; rfl)
theorem Ed.symm6{N:Net}(ok:N.Ok){x y:Str}{l:Int}(e:Ed N x y l):Ed N y x l:=by
 obtain⟨t,ht,rfl,h⟩:=e.tie ok
 exact Tv ht (h.elim (λz=>.inr ⟨z.2,z.1⟩) λz=>.inl ⟨z.2,z.1⟩)
theorem KH{T:Gj}{y:Str}:∀{w:List Str} {us:List Ag},y∈A6 T w us->(∃p∈T,y∈p.2)\/∃t∈us,y=t.a\/y=t.b
 | [],_,h=>by cases h
 | _::_,[],h=>by cases h
 | x::w,t::us,h=>by
  rcases bV.mp (show y∈(Be T t x).drop 1++A6 T w us from h) with h | h
  ·have h:=List.mem_of_mem_drop h
   have h:y∈(BF T t).getD [t.a,t.b]:=by
    unfold Be at h
    split at h
    ·exact h
    ·exact List.mem_reverse.mp h
   cases e:BF T t with
   | none =>
    rw [e] at h
    have h:y∈[t.a,t.b]:=h
    refine .inr ⟨t,No,?_⟩
    simpa using h
   | some p =>
    rw [e] at h
    exact .inl ⟨_,Bx e,h⟩
  ·rcases KH h with z | ⟨s,hs,z⟩
   ·exact .inl z
   ·exact .inr ⟨s,Rs _ hs,z⟩
theorem TB{N:Net}:∀{w:List Str} {us:List Ag},CA N w us->∀t∈us,t∈N.ts
 | [],_,h,_,_=>h.elim
 | [_],us,h,t,ht=>by rw [show us=[] from h] at ht; cases ht
 | x::y::r,us,h,t,ht=>by
  obtain⟨s,us',rfl,hs,_,h⟩:=h
  rcases TM.mp ht with rfl | ht
  ·exact hs
  ·exact TB h t ht
noncomputable def N_(ps:List Str)(r:List Str):Prop:=r.length<=900/\∀x∈r,x∈ps
theorem Vk{N:Net}{ts1 ts2:List Ag}{T1 T2:Gj}(C:Z1 N ts1 ts2 T1 T2){t:Ag}(h1:t∈N.ts)(h2:t∉ts2):∃r,V_ ⟨N.ps,ts1⟩ T1 T2 t r/\N_ N.ps r:=by
 cases e2:BF T2 t with
 | some w =>
  obtain⟨_,_,_,_,hl,hin⟩:=C.p2 _ (Bx e2)
  exact⟨w,.inl e2,bS hl (by decide),hin⟩
 | none =>
  have hn:=JB e2
  have hn1:t∉ts1:=λz=>hn (C.o2.1.mem_iff.mpr (cB.mpr ⟨z,decide_eq_true h2⟩))
  obtain⟨w1,e1⟩:=JA (C.o1.1.mem_iff.mpr (cB.mpr ⟨h1,decide_eq_true hn1⟩))
  obtain⟨r,us,e,hw,hl,hin⟩:=C.p1 _ (Bx e1)
  have e:w1=t.a::r:=e
  have hw:CA ⟨N.ps,ts1⟩ w1 us:=hw
  have hl:w1.length<=30:=hl
  have hin:∀x∈w1,x∈N.ps:=hin
  subst e
  have ul:=OT hw
  have tl:=Gp (T:=T2) (λp hp=>by obtain⟨_,_,_,_,h,_⟩:=C.p2 p hp; exact h) (t.a::r) us
  refine⟨_,.inr ⟨e2,t.a,r,us,e1,hw,rfl⟩,?_,λy hy=>?_⟩
  ·rw [XV]; omega
  ·rcases TM.mp hy with rfl | hy
   ·exact hin _ No
   ·rcases KH hy with ⟨p,hp,hy⟩ | ⟨s,hs,hy⟩
    ·obtain⟨_,_,_,_,_,hin⟩:=C.p2 p hp
     exact hin y hy
    ·obtain⟨m1,m2,_⟩:=C.ok.tin s (C.s1.subset (TB hw s hs))
     rcases hy with rfl | rfl
     ·exact m1
     ·exact m2
theorem Pw{N:Net}{ts1 ts2:List Ag}{T1 T2:Gj}(C:Z1 N ts1 ts2 T1 T2):∀{os:List Ag},(∀t∈os,t∈N.ts/\t∉ts2)->∃rs:List (List Str),rs.length=os.length/\(∀(i:Nat) t r,os[i]?=some t->rs[i]?=some r->V_ ⟨N.ps,ts1⟩ T1 T2 t r)/\∀r∈rs,N_ N.ps r
 | [],_=>⟨[],rfl,(λi t r h=>by simp at h),λr h=>by cases h⟩
 | t::os,h=>by
  obtain⟨rs,h1,h2,h3⟩:=Pw C (os:=os) λs hs=>h s (Rs _ hs)
  obtain⟨r,hr,hs⟩:=Vk C (h t No).1 (h t No).2
  refine⟨r::rs,by rw [XV,XV,h1],λi s q e1 e2=>?_,λq hq=>?_⟩
  ·cases i with
   | zero=>cases e1; cases e2; exact hr
   | succ i=>exact h2 i s q e1 e2
  ·rcases TM.mp hq with rfl | hq
   ·exact hs
   ·exact h3 q hq
end
noncomputable def Zm(m t b:Int):Prop:=1<=b/\b<=t/\t<=m
noncomputable abbrev Yh(t b:Int):D:=.tup [.int t,.int b]
noncomputable def Ge:W2:=λss n P=>∃t b u v:Int,ss=[.sh (Yh t b),.sh (Yh u v)]/\Zm 1000000 t b/\Zm 1000000 u v/\P (Yh (t*u) (b*v)) n
noncomputable def MB:W2:=λss n P=>∃t b u v:Int,ss=[.sh (Yh t b),.sh (Yh u v)]/\Zm 1000000 t b/\Zm 1000000 u v/\P (.bl (decide (u*b<=t*v))) n
noncomputable def Ks:Aa:=(A3 (CG (AE (Ad ER (Ad BP (AC 0) (wC (D.int 0))) (Ad BP (AC 1) (wC (D.int 0)))) (AE (Ad ER (Ad BP (AC 0) (wC (D.int 1))) (Ad BP (AC 1) (wC (D.int 1)))) Ae))))
noncomputable def DN:Aa:=(A3 (Ad (f2 λi j=>D.bl (decide (j<=i))) (Ad ER (Ad BP (AC 0) (wC (D.int 0))) (Ad BP (AC 1) (wC (D.int 1)))) (Ad ER (Ad BP (AC 1) (wC (D.int 0))) (Ad BP (AC 0) (wC (D.int 1))))))
section
variable {ss:List Slot}{n:Nat}{Pd:D->Nat->Prop}
theorem OH(h:Ge ss n Pd):Ks (EE Pd) n (ss++Uf 0 .no):=by
 obtain⟨t,b,u,v,rfl,⟨b0,bt,t1⟩,⟨v0,vu,u1⟩,p⟩:=h
 unfold Ks
 exact⟨_,AQ (j:=0) rfl,_,AQ (j:=0) rfl,YA (by omega) u1,_,AQ (j:=1) rfl,_,AQ (j:=1) rfl,YA (by omega) (by omega),z2,p⟩
theorem Fx(h:MB ss n Pd):DN (EE Pd) n (ss++Uf 0 .no):=by
 obtain⟨t,b,u,v,rfl,⟨b0,bt,t1⟩,⟨v0,vu,u1⟩,p⟩:=h
 unfold DN
 exact⟨_,AQ (j:=0) rfl,_,AQ (j:=1) rfl,YA (by omega) (by omega),_,AQ (j:=0) rfl,_,AQ (j:=1) rfl,YA (by omega) (by omega),p⟩
end
end Nt
namespace Dp
open PySem PySem.Spec PyProof.Rows L2
section
variable {X:Cx}
theorem Vo{κ:Kd}{body:List Stmt}{wb:Aa}{h₀:ExceptHandler}{hs:List ExceptHandler}{pos:Pos}(hx:∀e s,X.xe e s->False)(hb:Uc X κ body wb):DS X κ (.Try body (h₀::hs) [] [] pos) wb:=by
 obtain⟨t,b1,b2⟩:=hb
 refine⟨t,λpins s σ H D I h=>?_,b2⟩
 refine wpAny_Try_except ?_
 refine cC (b1 pins s σ H D I h) (λf s1 q=>?_) λe s1 q=>(hx e s1 q).elim
 cases f with
 | next=>exact Go q
 | _=>exact q
end
end Dp
namespace Nt
open PySem PySem.Spec PyProof.Rows L2 Dp
noncomputable def Eb:W2:=λss n P=>ss=[.fd]/\1<=n/\∀t b:Int,1<=b->b<=t->t<=1000->P (.tup [.int t,.int b]) (n - 1)
noncomputable def II(N M:Net)(t b:Int):Prop:=∀{x y:Str} {d:Int},Wk N x y d->∃d',Wk M x y d'/\d'*b<=d*t
noncomputable def QM:W2:=λss n P=>∃(N:Net) (ts:List Ag) (t b:Int),ss=[.sh (BL N),.sh (BL ⟨N.ps,ts⟩),.sh (.tup [.int t,.int b])]/\okN N/\thn N ts/\W3 t b/\II N ⟨N.ps,ts⟩ t b/\P (.bl true) n
noncomputable def CD:Aa:=(A3 (Ad BP (He (AE (CG (AE (wC (D.int 1)) (AE (wC (D.int 1)) Ae))) (AE (CG (AE (wC (D.int 3)) (AE (wC (D.int 2)) Ae))) (AE (CG (AE (wC (D.int 2)) (AE (wC (D.int 1)) Ae))) (AE (CG (AE (wC (D.int 3)) (AE (wC (D.int 1)) Ae))) (AE (CG (AE (wC (D.int 5)) (AE (wC (D.int 2)) Ae))) (AE (CG (AE (wC (D.int 1000)) (AE (wC (D.int 1)) Ae))) (AE (CG (AE (wC (D.int 4)) (AE (wC (D.int 1)) Ae))) (AE (CG (AE (wC (D.int 1000)) (AE (wC (D.int 999)) Ae))) Ae))))))))) (AV Cu (AB (Bc 0) (AB (AH (wC (D.int 8))) AW)))))
noncomputable def CF:Aa:=(Ai (BA 3 (AV QL (AB (AH (Ad BP (AC 0) (wC (D.int 0)))) (AB (AH (Ad BP (AC 0) (wC (D.int 1)))) AW))))
 (Ai (BA 4 (AV QL (AB (AH (Ad BP (AC 0) (wC (D.int 0)))) (AB (AH (Ad BP (AC 1) (wC (D.int 1)))) AW))))
 (Ai (IK (J7 (AE (Dy G3 (AE (Ad BP (AC 0) (wC (D.int 0))) Ae)) Ae)) (Ay 5) (IK (J7 (AE (Dy G3 (AE (Ad BP (AC 0) (wC (D.int 0))) Ae)) Ae)) (Ay 6) (Ai (Bp (Am (Ad (Rg true) (Ad (Ey false) (Ad BP (Ad BP (AC 3) (AC 5)) (AC 6)) (wC D.non)) (Ad (Ey false) (Ad BP (Ad BP (AC 4) (AC 5)) (AC 6)) (wC D.non)))) (A3 (wC (D.bl false))) BI)
 (Bp (WC (Am (Ad (Ey true) (Ad BP (Ad BP (AC 3) (AC 5)) (AC 6)) (wC D.non))) (Am (Ad (f2 λi j=>D.bl (decide (j<i))) (Ad ER (Ad BP (Ad BP (AC 4) (AC 5)) (AC 6)) (Ad BP (AC 2) (wC (D.int 1)))) (Ad ER (Ad BP (Ad BP (AC 3) (AC 5)) (AC 6)) (Ad BP (AC 2) (wC (D.int 0))))))) (A3 (wC (D.bl false))) BI))))
 (A3 (wC (D.bl true))))))
noncomputable def J3:Aa:=(Ai (BA 4 (wC (D.bl false)))
 (Ai (BA 4 (Ad (Vb false) (AV Ds (AB (AH (AC 0)) (AB (AH (AC 1)) (AB (AH (AC 2)) (AB (AH (AC 3)) AW))))) (wC (D.bl true))))
 (A3 (AC 4))))
noncomputable def Kt:Aa:=(Ai (IK (J7 (AE (wC (D.int 2)) Ae)) (Ay 2) (Ai (BA 3 (AV QH (AB (Bc 1) (AB (AH (wC (D.int 7))) (AB (AH (wC (D.int 12))) AW)))))
 (Ai (BA 4 (AV Eb (AB (Bc 1) AW)))
 (Ai (BA 5 (AV Eb (AB (Bc 1) AW)))
 (Ai (BA 6 (AV Ge (AB (AH (AC 4)) (AB (AH (AC 5)) AW))))
 (Ai (BA 7 (AV Ec (AB (AH (AC 3)) (AB (AH (AC 4)) AW))))
 (Ai (BA 8 (AV Ec (AB (AH (AC 7)) (AB (AH (AC 5)) AW))))
 (Ai (BA 9 (AV Gb (AB (AH (AC 3)) (AB (AH (AC 4)) (AB (AH (AC 7)) AW)))))
 (Ai (BA 10 (AV Gb (AB (AH (AC 7)) (AB (AH (AC 5)) (AB (AH (AC 8)) AW)))))
 (Ai (Bp (IJ (Am (Ad (Ey false) (AC 9) (wC D.non))) (IJ (Am (Ad (Ey false) (AC 10) (wC D.non))) (D3 (Am (AV QM (AB (AH (AC 3)) (AB (AH (AC 8)) (AB (AH (AC 6)) AW)))))))) (A3 (wC (D.bl false))) BI)
 (Ai (BA 11 (AV Es (AB (AH (AC 3)) (AB (AH (AC 7)) (AB (AH (AC 8)) (AB (AH (AC 9)) (AB (AH (AC 10)) AW)))))))
 (Ai (Bp (IJ (D3 (Am (AV Ds (AB (AH (AC 3)) (AB (AH (AC 6)) (AB (AH (AC 8)) (AB (AH (AC 11)) AW))))))) (Am (Ad (Rg true) (Dy G3 (AE (AC 11) Ae)) (Ad Kf (Dy G3 (AE (Ad BP (AC 3) (wC (D.int 1))) Ae)) (Dy G3 (AE (Ad BP (AC 8) (wC (D.int 1))) Ae)))))) (A3 (wC (D.bl false))) BI)
 (Ai (BA 12 (CG (AE (Dy Pp (AE (Ad (X0 Ue λi j=>D.int (i ^ j.toNat)) (wC (D.int 10)) (wC (D.int 6))) (AE (Ad DK (Ad BP (AC 6) (wC (D.int 0))) (AV Cu (AB (Bc 1) (AB (AH (wC (D.int 5))) AW)))) Ae))) (AE (Dy Pq (AE (wC (D.int 1)) (AE (Ad Kf (Ad BP (AC 6) (wC (D.int 1))) (AV Cu (AB (Bc 1) (AB (AH (wC (D.int 2))) AW)))) Ae))) Ae))))
 (Bp (IJ (Am (Ad (Vb true) (AV MB (AB (AH (AC 12)) (AB (AH (AC 6)) AW))) (wC (D.bl true)))) (D3 (Am (AV Ds (AB (AH (AC 3)) (AB (AH (AC 12)) (AB (AH (AC 8)) (AB (AH (AC 11)) AW)))))))) (A3 (wC (D.bl false))) BI))))))))))))))
 (A3 (wC (D.bl true))))
theorem Q0{x y z:Int}(h:x<=y)(hz:0<=z):x*z<=y*z:=gD h hz
theorem FK{d d1 d2 t1 b1 t2 b2:Int}(h2:d2*b2<=d1*t2)(h1:d1*b1<=d*t1)(hb:0<=b1)(ht:0<=t2):d2*(b1*b2)<=d*(t1*t2):=by
 have e1:d2*(b1*b2)=d2*b2*b1:=by rw [eZ b1 b2,gj]
 have e2:d1*t2*b1=d1*b1*t2:=by rw [gj,eZ t2 b1,gj]
 have e3:d*t1*t2=d*(t1*t2):=gj _ _ _
 have:=Q0 h2 hb
 have:=Q0 h1 ht
 omega
theorem Wk.back{N:Net}(ok:N.Ok){x y:Str}{d:Int}(h:Wk N x y d):Wk N y x d:=by
 induction h with
 | nil=>exact .nil
 | snoc h e ih =>
  rename_i y z d l
  have:=Wk.trans (Wk.snoc .nil (e.symm6 ok)) ih
  rw [show d+l=0+l+d by omega]
  exact this
theorem O6{N:Net}{ts:List Ag}{t b:Int}(okn:okN N)(ht:thn N ts)(h:QA N ts t b):II N ⟨N.ps,ts⟩ t b:=by
 intro x y d hw
 have okm:=(ht.okN okn).1
 induction hw with
 | nil=>exact⟨0,.nil,by omega⟩
 | snoc hw e ih =>
  rename_i y z d l
  obtain⟨d1,w1,h1⟩:=ih
  obtain⟨u,hu,el,hj⟩:=e.tie okn.1
  obtain⟨d2,⟨w2,_⟩,h2⟩:=h u hu
  have w3:Wk ⟨N.ps,ts⟩ y z d2:=by
   rcases hj with ⟨e1,e2⟩ | ⟨e1,e2⟩
   ·rw [← e1,← e2]; exact w2
   ·rw [← e1,← e2]; exact w2.back okm
  rw [el] at h2
  refine⟨d1+d2,w1.trans w3,?_⟩
  rw [iV,iV]
  omega
theorem Rp{N M L:Net}{t1 b1 t2 b2:Int}(h1:II N M t1 b1)(h2:II M L t2 b2)(hb:0<=b1)(ht:0<=t2):II N L (t1*t2) (b1*b2):=by
 intro x y d hw
 obtain⟨d1,w1,e1⟩:=h1 hw
 obtain⟨d2,w2,e2⟩:=h2 w1
 exact⟨d2,w2,FK e2 e1 hb ht⟩
theorem Kb{N:Net}(okn:okN N){t b:Int}(b0:1<=b)(bt:b<=t){ord:List Ag}(o1:ord.Perm N.ts):QA N (sub N (Aw N t b [] ord)).ts t b:=by
 intro u hu
 have okm:=(Hu okn (Aw N t b [] ord)).1
 show EN (sub N (Aw N t b [] ord)) t b u
 rcases Fe (N:=N) (t:=t) (b:=b) (kept:=[]) (o1.mem_iff.mpr hu) with h | ⟨k',h1,d,h2,h3⟩
 ·exact TD okn (Hs okn eK) bt b0 (sub_mem.mpr ⟨hu,h⟩)
 ·have hw:Wk (sub N (Aw N t b [] ord)) u.a u.b d:=h2.1.mono λv hv=>by
   obtain⟨a1,a2⟩:=sub_mem.mp hv
   exact sub_mem.mpr ⟨a1,h1 v a2⟩
  obtain⟨e,he,le⟩:=JC okm d.toNat d (Op _) hw
  exact⟨e,he,Int.le_trans (Q0 le (by omega)) h3⟩
theorem Gk{M:Net}{y:Str}{q:List Str}{e:Int}(hq:walk M (y::q) e):∀{p:List Str} {d:Int},walk M p d->p.getLast?=some y->walk M (p++q) (d+e)
 | [],d,h,_=>h.elim
 | [x],d,h,hl=>by
  cases hl
  rw [show d=0 from h,cK]
  exact hq
 | x::z::r,d,h,hl=>by
  obtain⟨l,f,e1,e2,rfl⟩:=h
  have:=Gk hq (p:=z::r) e2 (by rw [fZ] at hl; exact hl)
  rw [iq]
  exact⟨l,f+e,e1,this,rfl⟩
theorem MH{M:Net}{x y:Str}{l:Int}(e:Ed M x y l):walk M [x,y] l:=⟨l,0,e,rfl,by omega⟩
theorem J5{M:Net}(ok:M.Ok):∀{w:List Str} {d:Int},walk M w d->walk M w.reverse d
 | [],d,h=>h
 | [x],d,h=>h
 | x::z::r,d,h=>by
  obtain⟨l,f,e1,e2,rfl⟩:=h
  have ih:=J5 ok e2
  have hl:(z::r).reverse.getLast?=some z:=by rw [ig]; rfl
  have:=Gk (MH (e1.symm6 ok)) ih hl
  rw [eW,show l+f=f+l by omega]
  exact this
theorem PZ{M:Net}(ok:M.Ok):∀{w:List Str} {d:Int},walk M w d->∃us,CA M w us
 | [],d,h=>h.elim
 | [x],d,h=>⟨[],rfl⟩
 | x::z::r,d,h=>by
  obtain⟨l,f,e1,e2,rfl⟩:=h
  obtain⟨us,hu⟩:=PZ ok e2
  obtain⟨t,ht,_,hj⟩:=e1.tie ok
  exact⟨t::us,t,us,rfl,ht,hj,hu⟩
structure Zv (ps:List Str) (ts1 ts2:List Ag) (T2:Gj) (t2 b2:Int):Prop where
 ok2:(⟨ps,ts2⟩:Net).Ok
 bt:b2<=t2
 out:∀t∈ts1,BF T2 t=none->t∈ts2
 way:∀t w,BF T2 t=some w->∃d,Eg 30 ⟨ps,ts2⟩ t.a t.b w d/\d*b2<=t.len*t2
theorem Qk{ps:List Str}{ts1 ts2:List Ag}{T2:Gj}{t2 b2:Int}(h:Zv ps ts1 ts2 T2 t2 b2){t:Ag}(ht:t∈ts1)(ok1:(⟨ps,ts1⟩:Net).Ok){x y:Str}(hj:(t.a=x/\t.b=y)\/(t.b=x/\t.a=y)) :
  ∃r d,Be T2 t x=x::r/\(x::r).getLast?=some y/\walk ⟨ps,ts2⟩ (x::r) d/\d*b2<=t.len*t2:=by
 obtain⟨m1,m2,m3,l0,_⟩:=ok1.tin t ht
 have nab:t.a≠t.b:=λe=>by rw [e] at m3; exact bc _ m3
 obtain⟨w,d,e,hh,hl,hw,hd⟩:∃w d,(BF T2 t).getD [t.a,t.b]=w/\(∃r,w=t.a::r)/\w.getLast?=some t.b/\walk ⟨ps,ts2⟩ w d/\d*b2<=t.len*t2:=by
  cases e:BF T2 t with
  | none =>
   refine⟨_,t.len,rfl,⟨[t.b],rfl⟩,rfl,MH (GG (N:=⟨ps,ts2⟩) (h.out t ht e)).1,?_⟩
   rw [eZ,eZ t.len]
   exact Q0 h.bt (by omega)
  | some w =>
   obtain⟨d,⟨h1,h2,h3,_⟩,h4⟩:=h.way t w e
   exact⟨w,d,rfl,h1,h2,h3,h4⟩
 unfold Be
 rw [e]
 obtain⟨r,rfl⟩:=hh
 rcases hj with ⟨rfl,rfl⟩ | ⟨rfl,rfl⟩
 ·rw [if_pos rfl]
  exact⟨r,d,rfl,hl,hw,hd⟩
 ·rw [if_neg (λz=>nab z.symm)]
  have hr:(t.a::r).reverse.head?=some t.b:=by rw [List.head?_reverse]; exact hl
  obtain⟨q,eq⟩:∃q,(t.a::r).reverse=t.b::q:=by
   cases c:(t.a::r).reverse with
   | nil=>rw [c] at hr; cases hr
   | cons z q=>rw [c] at hr; cases hr; exact⟨q,rfl⟩
  refine⟨q,d,eq,?_,?_,hd⟩
  ·rw [← eq,ig]; rfl
  ·rw [← eq]; exact J5 h.ok2 hw
theorem IP{ps:List Str}{ts1 ts2:List Ag}{T2:Gj}{t2 b2:Int}(h:Zv ps ts1 ts2 T2 t2 b2)(ok1:(⟨ps,ts1⟩:Net).Ok):∀{w:List Str} {x:Str} {us:List Ag} {d:Int},walk ⟨ps,ts1⟩ (x::w) d->CA ⟨ps,ts1⟩ (x::w) us ->
  ∃e,walk ⟨ps,ts2⟩ (x::A6 T2 (x::w) us) e/\e*b2<=d*t2/\(x::A6 T2 (x::w) us).getLast?=(x::w).getLast?
 | [],x,us,d,hw,hu=>by
  rw [show us=[] from hu,show d=0 from hw]
  exact⟨0,rfl,by omega,rfl⟩
 | y::w,x,us,d,hw,hu=>by
  obtain⟨t,us',rfl,ht,hj,hu⟩:=hu
  obtain⟨l,f,e1,e2,rfl⟩:=hw
  have el:l=t.len:=by
   obtain⟨s,hs,e,hj'⟩:=e1.tie ok1
   rw [← e,NU ok1 hs ht hj' hj]
  subst el
  obtain⟨e,g1,g2,g3⟩:=IP h ok1 e2 hu
  obtain⟨r,d1,p1,p2,p3,p4⟩:=Qk h ht ok1 hj
  have key:x::A6 T2 (x::y::w) (t::us')=(x::r)++A6 T2 (y::w) us':=by
   show x::((Be T2 t x).drop 1++A6 T2 (y::w) us')=_
   rw [p1]
   rfl
  rw [key]
  refine⟨d1+e,Gk g1 p3 p2,?_,?_⟩
  ·rw [iV,iV]; omega
  ·rw [fZ,← g3]
   cases c:A6 T2 (y::w) us' with
   | nil=>rw [bh,p2]; rfl
   | cons z q =>
    rw [List.getLast?_append,fZ]
    cases k:(z::q).getLast? with
    | none=>simp at k
    | some v=>rfl
section
variable {ss:List Slot}{n:Nat}{Pd:D->Nat->Prop}
theorem Ew(h:Eb ss n Pd):CD (EE Pd) n (ss++Uf 0 .no):=by
 obtain⟨rfl,hn,p⟩:=h
 unfold CD
 refine⟨z2,z2,z2,z2,z2,z2,z2,z2,(by decide:8<=sizeLine),8,rfl,by decide,by decide,hn,λr r0 r1=>?_⟩
 rcases (show r=0\/r=1\/r=2\/r=3\/r=4\/r=5\/r=6\/r=7 by omega) with rfl | rfl | rfl | rfl | rfl | rfl | rfl | rfl <;> exact⟨_,rfl,p _ _ (by decide) (by decide) (by decide)⟩
theorem Jp(h:Ds ss n Pd):J3 (EE Pd) n (ss++Uf 1 .no):=by
 obtain⟨N,ts,t,b,ws,rfl,h1,h2,h3,h4,h5,p⟩:=h
 exact⟨N,ts,t,b,ws,rfl,h1,h2,h3,h4,h5,p⟩
theorem Ex(h:QM ss n Pd):CF (EE Pd) n (ss++Uf 4 .no):=by
 obtain⟨N,ts,t,b,rfl,okn,ht,⟨b0,b1,t0,t1⟩,hw,p⟩:=h
 have okm:=ht.okN okn
 have ok:=okn.1
 have l25:=okn.2.1
 unfold CF
 refine⟨_,AQ (j:=0) rfl,_,AQ (j:=1) rfl,N,_,rfl,.inr rfl,ok,by omega,λF hF=>?_⟩
 refine⟨_,AQ (j:=0) rfl,_,AQ (j:=1) rfl,⟨N.ps,ts⟩,_,rfl,.inr rfl,okm.1,by show N.ps.length<=1000; omega,λG hG=>?_⟩
 refine⟨_,AQ (j:=0) rfl,_,_,rfl,rfl,_,rfl,⟨by omega,by rw [FM]; omega⟩,?_⟩
 refine Bv (all:=EH 0 (((N.ps.map D.str).length:Nat):Int).toNat) (λpre m ρ=>m=n/\∃s5 s6,ρ=[.sh (BL N),.sh (BL ⟨N.ps,ts⟩),.sh (.tup [.int t,.int b]),.sh (Hg N.ps F),.sh (Hg N.ps G),s5,s6]) ?_ ?_ _ [] _ _ rfl ⟨rfl,_,_,rfl⟩
 ·rintro m ρ ⟨rfl,s5,s6,rfl⟩
  exact p
 ·rintro pre d post m ρ nx hall ⟨rfl,s5,s6,rfl⟩ hnx
  obtain⟨rfl,hi⟩:=Hv hall
  rw [cJ,FM] at hi
  have fin:=λs6=>hnx m [.sh (BL N),.sh (BL ⟨N.ps,ts⟩),.sh (.tup [.int t,.int b]),.sh (Hg N.ps F),.sh (Hg N.ps G),.sh (.int (0+(pre.length:Int))),s6] ⟨rfl,_,_,rfl⟩
  clear hnx hall
  generalize pre.length=i at hi fin ⊢
  have ex:N.ps[i]?=some N.ps[i]:=Db hi
  have mx:N.ps[i]∈N.ps:=bv hi
  generalize N.ps[i]=x at ex mx
  refine⟨_,AQ (j:=0) rfl,_,_,rfl,rfl,_,rfl,⟨by omega,by rw [FM]; omega⟩,?_⟩
  refine Bv (all:=EH 0 (((N.ps.map D.str).length:Nat):Int).toNat) (λpre m' ρ=>m'=m/\∃s6,ρ=[.sh (BL N),.sh (BL ⟨N.ps,ts⟩),.sh (.tup [.int t,.int b]),.sh (Hg N.ps F),.sh (Hg N.ps G),.sh (.int (0+(i:Int))),s6]) ?_ ?_ _ [] _ _ rfl ⟨rfl,_,rfl⟩
  ·rintro m' ρ ⟨rfl,s6,rfl⟩
   exact fin s6
  ·rintro pre d post m' ρ nx hall ⟨rfl,s6,rfl⟩ hnx
   obtain⟨rfl,hj⟩:=Hv hall
   rw [cJ,FM] at hj
   have fin:=hnx m' [.sh (BL N),.sh (BL ⟨N.ps,ts⟩),.sh (.tup [.int t,.int b]),.sh (Hg N.ps F),.sh (Hg N.ps G),.sh (.int (0+(i:Int))),.sh (.int (0+(pre.length:Int)))] ⟨rfl,_,rfl⟩
   clear hnx hall
   generalize pre.length=j at hj fin ⊢
   have ey:N.ps[j]?=some N.ps[j]:=Db hj
   have my:N.ps[j]∈N.ps:=bv hj
   generalize N.ps[j]=y at ey my
   have rF:atI (N.ps.map λx=>D.lst (N.ps.map λy=>od (F x y))) (0+(i:Int))=some (.lst (N.ps.map λy=>od (F x y))):=by rw [cK]; exact Pb ex
   have rG:atI (N.ps.map λx=>D.lst (N.ps.map λy=>od (G x y))) (0+(i:Int))=some (.lst (N.ps.map λy=>od (G x y))):=by rw [cK]; exact Pb ex
   have eF:atI (N.ps.map λy=>od (F x y)) (0+(j:Int))=some (od (F x y)):=by rw [cK]; exact TF ey
   have eG:atI (N.ps.map λy=>od (G x y)) (0+(j:Int))=some (od (G x y)):=by rw [cK]; exact TF ey
   refine⟨_,rF,_,eF,rfl,_,rG,_,eG,rfl,?_⟩
   cases cF:F x y with
   | none =>
    have cG:G x y=none:=by
     cases c:G x y with
     | none=>rfl
     | some d=>exact absurd cF ((hF x mx y my).2 d ((((hG x mx y my).1 d c).1).mono ht.1))
    rw [cG]
    rw [cF] at eF
    refine⟨_,rF,_,eF,rfl,?_⟩
    exact fin
   | some d =>
    obtain⟨d1,w1,h1⟩:=hw ((hF x mx y my).1 d cF).1
    cases cG:G x y with
    | none=>exact absurd cG ((hG x mx y my).2 d1 w1)
    | some d' =>
     have le:=((hG x mx y my).1 d' cG).2 d1 w1
     have hle:d'*b<=d*t:=Int.le_trans (Q0 le (by omega)) h1
     rw [cF] at eF
     rw [cG] at eG
     refine⟨_,rF,_,eF,rfl,?_⟩
     refine⟨_,rG,_,eG,_,AQ (j:=1) rfl,.inr (by constructor <;> omega),_,rF,_,eF,_,AQ (j:=0) rfl,.inr (by constructor <;> omega),?_⟩
     exact Cg (λc=>absurd (of_decide_eq_true c) (by omega)) λ_=>fin
end
theorem OQ{M:Net}{t b:Int}:∀{os:List Ag} {ws:List (List Str)},PapOkK 30 M t b os ws->∃T:Gj,T.map (·.1)=os/\T.map (λp=>E3 p.2)=ws.map Hd/\∀p∈T,∃d,Eg 30 M p.1.a p.1.b p.2 d/\d*b<=p.1.len*t
 | [],[],_=>⟨[],rfl,rfl,λp h=>by cases h⟩
 | u::us,w::ws,⟨h,hr⟩=>by
  obtain⟨T,e1,e2,h2⟩:=OQ hr
  refine⟨(u,w)::T,by rw [bE,e1],by rw [bE,e2]; rfl,λp hp=>?_⟩
  rcases TM.mp hp with rfl | hp
  ·exact h
  ·exact h2 p hp
 | [],_::_,h=>h.elim
 | _::_,[],h=>h.elim
theorem S0{M:Net}(ok:M.Ok){t b:Int}{T:Gj}(h:∀p∈T,∃d,Eg 30 M p.1.a p.1.b p.2 d/\d*b<=p.1.len*t):S2 M T:=λp hp=>by
 obtain⟨d,⟨⟨r,e⟩,h2,h3,h4,h5⟩,_⟩:=h p hp
 obtain⟨us,hu⟩:=PZ ok h3
 exact⟨r,us,e,hu,h4,h5⟩
theorem S1{M:Net}{t b:Int}:∀{os:List Ag} {rs:List (List Str)},rs.length=os.length->(∀(i:Nat) u r,os[i]?=some u->rs[i]?=some r->∃d,walked M u.a u.b r d/\d*b<=u.len*t)->Nv M t b os rs
 | [],[],_,_=>trivial
 | u::os,r::rs,hl,h=>⟨h 0 u r rfl rfl,S1 (iE hl) λi v q e1 e2=>h (i+1) v q e1 e2⟩
 | [],_::_,hl,_=>by cases hl
 | _::_,[],hl,_=>by cases hl
theorem Mt{M:Net}{t b t' b':Int}(ht:t<=t')(hb:b'<=b)(ok:M.Ok):∀{os:List Ag} {rs:List (List Str)},(∀u∈os,0<=u.len)->Nv M t b os rs->Nv M t' b' os rs
 | [],[],_,_=>trivial
 | u::os,r::rs,hu,⟨⟨d,h1,h2⟩,h⟩=>by
  refine⟨⟨d,h1,?_⟩,Mt ht hb ok (λv hv=>hu v (Rs _ hv)) h⟩
  have d0:=MI ok h1.2.2.1
  have l0:=hu u No
  have e1:d*b'<=d*b:=eV hb d0
  have e2:u.len*t<=u.len*t':=eV ht l0
  omega
 | [],_::_,_,h=>h.elim
 | _::_,[],_,h=>h.elim
theorem Oo{N:Net}{ts1 ts2:List Ag}{T1 T2:Gj}{t1 b1 t2 b2:Int}(ok1:(⟨N.ps,ts1⟩:Net).Ok)(h2:Zv N.ps ts1 ts2 T2 t2 b2)(bt:b1<=t1)(b0:0<=b1)(b20:1<=b2)
  (hT:∀p∈T1,∃d,Eg 30 ⟨N.ps,ts1⟩ p.1.a p.1.b p.2 d/\d*b1<=p.1.len*t1) {t:Ag} (l0:0<=t.len) {r:List Str} (h:V_ ⟨N.ps,ts1⟩ T1 T2 t r) (hs:N_ N.ps r):∃d,walked ⟨N.ps,ts2⟩ t.a t.b r d/\d*(b1*b2)<=t.len*(t1*t2):=by
 rcases h with e | ⟨_,x,w,us,e1,hu,rfl⟩
 ·obtain⟨d,⟨g1,g2,g3,g4,g5⟩,g6⟩:=h2.way t r e
  refine⟨d,⟨g1,g2,g3,bS g4 (by decide),g5⟩,?_⟩
  exact FK (d1:=t.len) g6 (by rw [eZ,eZ t.len]; exact Q0 bt l0) b0 (by have:=h2.bt; omega)
 ·obtain⟨d,⟨⟨q,g1⟩,g2,g3,g4,g5⟩,g6⟩:=hT _ (Bx e1)
  have g1:x::w=t.a::q:=g1
  have g2:(x::w).getLast?=some t.b:=g2
  have g3:walk ⟨N.ps,ts1⟩ (x::w) d:=g3
  have g6:d*b1<=t.len*t1:=g6
  obtain⟨e,f1,f2,f3⟩:=IP h2 ok1 g3 hu
  have ex:x=t.a:=(List.cons.inj g1).1
  refine⟨e,⟨⟨_,by rw [ex]⟩,by rw [f3]; exact g2,f1,bS hs.1 (by decide),hs.2⟩,FK f2 g6 b0 (by have:=h2.bt; omega)⟩
theorem Gy{N:Net}{ord:List Ag}(o1:ord.Perm N.ts)(r1:C7 ord)(ts:List Ag):Hb N ts (ord.filter λt=>decide (t∉ts)):=⟨o1.filter _,List.Pairwise.sublist eK r1⟩
theorem VA{N:Net}(ok:N.Ok){ts os:List Ag}(hs:ts.Sublist N.ts)(ho:Hb N ts os):(os.length:Int)=(N.ts.length:Int) - (ts.length:Int):=by
 have nd:N.ts.Nodup:=ok.trise.imp λ{a b} h e=>by
  subst e
  rcases h with h | ⟨_,h⟩
  ·exact bc _ h
  ·exact bc _ h
 have e1:(N.ts.filter λt=>decide (t∈ts)).Perm ts:=(fA (nd.filter _) (nd.sublist hs)).mpr λu=>by
  rw [cB,decide_eq_true_eq]
  exact⟨λh=>h.2,λh=>⟨hs.subset h,h⟩⟩
 have e2:=ho.1.length_eq
 have e3:=e1.length_eq
 have key:∀l:List Ag,l.length=(l.filter λt=>decide (t∈ts)).length+(l.filter λt=>decide (t∉ts)).length:=by
  intro l
  induction l with
  | nil=>rfl
  | cons a l ih =>
   by_cases c:a∈ts
   ·rw [fX (by simpa using c),fY (by simpa using c),XV,XV,ih]; omega
   ·rw [fY (by simpa using c),fX (by simpa using c),XV,XV,ih]; omega
 have:=key N.ts
 omega
theorem OI:Kt { nx:=λ_ _=>False,rt:=λd _=>d=.bl true } 3000 (.no::.fd::Uf 11 .no):=by
 have szl:=PySem.sizeLine_eq
 unfold Kt
 refine⟨2,rfl,by decide,?_⟩
 refine Bv (all:=EH 0 2) (λpre m ρ=>3000 - 400*pre.length<=m/\∃s2 s3 s4 s5 s6 s7 s8 s9 s10 s11 s12,ρ=[.no,.fd,s2,s3,s4,s5,s6,s7,s8,s9,s10,s11,s12]) ?_ ?_ _ [] _ _ rfl ⟨Op _,_,_,_,_,_,_,_,_,_,_,_,rfl⟩
 ·rintro m ρ ⟨_,s2,s3,s4,s5,s6,s7,s8,s9,s10,s11,s12,rfl⟩
  rfl
 ·rintro pre d post m ρ nx hall ⟨hm,s2,s3,s4,s5,s6,s7,s8,s9,s10,s11,s12,rfl⟩ hnx
  obtain⟨rfl,hi⟩:=Hv hall
  rw [bD,bW] at hnx
  generalize pre.length=i at hi hnx hm ⊢
  refine⟨7,12,rfl,by decide,by decide,by omega,λN n1 ok lp lt hn1=>?_⟩
  refine⟨rfl,by omega,λt1 b1 b10 bt1 t11=>⟨rfl,by omega,λt2 b2 b20 bt2 t21=>?_⟩⟩
  refine⟨t1,b1,t2,b2,rfl,⟨b10,bt1,by omega⟩,⟨b20,bt2,by omega⟩,?_⟩
  have okn:okN N:=⟨ok,by omega,by omega⟩
  have tb:1<=b1*b2/\b1*b2<=t1*t2/\t1*t2<=1000000:=by
   have h1:1*1<=b1*b2:=gO b10 b20 (by decide) (by omega)
   have h2:b1*b2<=t1*t2:=gO bt1 bt2 (by omega) (by omega)
   have h3:t1*t2<=1000*1000:=gO t11 t21 (by omega) (by decide)
   omega
  refine⟨N,t1,b1,rfl,okn,b10,by omega,by omega,by omega,λord o1 r1=>?_⟩
  have near1:=Kb okn b10 bt1 o1
  have okn1:=Hu okn (Aw N t1 b1 [] ord)
  refine⟨sub N (Aw N t1 b1 [] ord),t2,b2,rfl,okn1,b20,by omega,by omega,by omega,λord2 o2 r2=>?_⟩
  have near2:=Kb okn1 b20 bt2 o2
  have okn2:=Hu okn1 (Aw (sub N (Aw N t1 b1 [] ord)) t2 b2 [] ord2)
  have s1:(sub N (Aw N t1 b1 [] ord)).ts.Sublist N.ts:=eK
  have s2':(sub (sub N (Aw N t1 b1 [] ord)) (Aw (sub N (Aw N t1 b1 [] ord)) t2 b2 [] ord2)).ts.Sublist (sub N (Aw N t1 b1 [] ord)).ts:=eK
  have e1:sub N (Aw N t1 b1 [] ord)=⟨N.ps,(sub N (Aw N t1 b1 [] ord)).ts⟩:=rfl
  have e2:sub (sub N (Aw N t1 b1 [] ord)) (Aw (sub N (Aw N t1 b1 [] ord)) t2 b2 [] ord2)=⟨N.ps,(sub (sub N (Aw N t1 b1 [] ord)) (Aw (sub N (Aw N t1 b1 [] ord)) t2 b2 [] ord2)).ts⟩:=rfl
  generalize (sub (sub N (Aw N t1 b1 [] ord)) (Aw (sub N (Aw N t1 b1 [] ord)) t2 b2 [] ord2)).ts=ts2 at near2 s2' e2
  rw [e2] at okn2 ⊢
  clear e2
  generalize (sub N (Aw N t1 b1 [] ord)).ts=ts1 at near1 s1 s2' e1
  rw [e1] at okn1 near2 o2 ⊢
  clear e1
  have th1:thn N ts1:=Hs okn s1
  have th2:thn ⟨N.ps,ts1⟩ ts2:=Hs okn1 s2'
  have th3:thn N ts2:=Hs okn (s2'.trans s1)
  have tm1:W3 t1 b1:=⟨b10,by omega,by omega,by omega⟩
  have tm2:W3 t2 b2:=⟨b20,by omega,by omega,by omega⟩
  have tm3:W3 (t1*t2) (b1*b2):=⟨by omega,by omega,by omega,by omega⟩
  refine⟨N,ts1,t1,b1,rfl,okn,th1,tm1,λws1 hp1 _=>?_,fun⟨u,hu,hn⟩=>absurd (near1 u (cB.mp hu).1) hn⟩
  refine⟨⟨N.ps,ts1⟩,ts2,t2,b2,rfl,okn1,th2,tm2,λws2 hp2 _=>?_,fun⟨u,hu,hn⟩=>absurd (near2 u (cB.mp hu).1) hn⟩
  refine⟨rfl,rfl,?_⟩
  refine⟨N,ts2,t1*t2,b1*b2,rfl,okn,th3,tm3,Rp (O6 okn th1 near1) (O6 okn1 th2 near2) (by omega) (by omega),?_⟩
  obtain⟨T1,a1,a2,a3⟩:=OQ (hp1 _ (Gy o1 r1 ts1).1 (Gy o1 r1 ts1).2)
  obtain⟨T2,c1,c2,c3⟩:=OQ (hp2 _ (Gy (N:=⟨N.ps,ts1⟩) o2 r2 ts2).1 (Gy (N:=⟨N.ps,ts1⟩) o2 r2 ts2).2)
  have C:Z1 N ts1 ts2 T1 T2:=⟨ok,by omega,by omega,s1,s2',by rw [a1]; exact Gy o1 r1 ts1,by rw [c1]; exact Gy (N:=⟨N.ps,ts1⟩) o2 r2 ts2,S0 okn1.1 a3,S0 okn2.1 c3⟩
  have tw:Zv N.ps ts1 ts2 T2 t2 b2:=⟨okn2.1,bt2,λt ht hn=>by
   have:=JB hn
   rw [c1] at this
   exact fE λz=>this (cB.mpr ⟨o2.mem_iff.mpr ht,decide_eq_true z⟩),λt w hw=>c3 _ (Bx hw)⟩
  rw [← a2,← c2]
  refine⟨N,ts1,ts2,T1,T2,rfl,C,λos ho=>?_⟩
  have hmem:∀t∈os,t∈N.ts/\t∉ts2:=λt ht=>by
   have:=cB.mp (ho.1.mem_iff.mp ht)
   exact⟨this.1,of_decide_eq_true this.2⟩
  obtain⟨rs,q1,q2,q3⟩:=Pw C hmem
  refine⟨rs,q1,q2,?_⟩
  have pap:Nv ⟨N.ps,ts2⟩ (t1*t2) (b1*b2) os rs:=S1 q1 λi u r e1 e2=>by
   have hu:=hmem u (bq e1)
   have:=(ok.tin u hu.1).2.2.2.1
   exact Oo okn1.1 tw bt1 (by omega) b20 a3 (by omega) (q2 i u r e1 e2) (q3 r (bq e2))
  have pof:PX N ts2 (t1*t2) (b1*b2) rs:=λlo p1 p2=>by
   rw [EJ (p1.trans ho.1.symm) p2 ho.2]
   exact pap
  refine⟨N,ts2,t1*t2,b1*b2,rs,rfl,okn,by omega,th3,tm3,pof,?_⟩
  refine⟨_,_,rfl,rfl,_,AQ (j:=1) rfl,_,_,rfl,rfl,_,AQ (j:=1) rfl,_,_,rfl,rfl,?_⟩
  show if (!(((rs.map E3).length:Int)==((N.ts.map Aj).length:Int) - ((ts2.map Aj).length:Int)))=true then _ else _
  rw [show (((rs.map E3).length:Int)==((N.ts.map Aj).length:Int) - ((ts2.map Aj).length:Int))=true by
   rw [FM,FM,FM,q1,VA ok (s2'.trans s1) ho]
   exact beq_self_eq_true _]
  refine GC ⟨aZ,_,AQ (j:=0) rfl,5,rfl,by decide,by decide,by omega,λr r0 r1'=>?_⟩
  refine⟨_,AQ (j:=1) rfl,2,rfl,by decide,by decide,by omega,λq q0 q1'=>⟨z2,?_⟩⟩
  have e6:(10:Int) ^ (6:Int).toNat=1000000:=by decide
  rw [e6]
  obtain⟨T,eT,T1',T2'⟩:∃T:Int,(if t1*t2+r<1000000 then t1*t2+r else 1000000)=T/\t1*t2<=T/\T<=1000000:=by
   by_cases c:t1*t2+r<1000000
   ·exact⟨_,if_pos c,by omega,by omega⟩
   ·exact⟨_,if_neg c,by omega,by omega⟩
  obtain⟨B,eB,B1,B2⟩:∃B:Int,(if b1*b2 - q > 1 then b1*b2 - q else 1)=B/\1<=B/\B<=b1*b2:=by
   by_cases c:b1*b2 - q > 1
   ·exact⟨_,if_pos c,by omega,by omega⟩
   ·exact⟨_,if_neg c,by omega,by omega⟩
  rw [eT,eB]
  refine⟨T,B,t1*t2,b1*b2,rfl,⟨B1,by omega,T2'⟩,⟨by omega,by omega,by omega⟩,?_⟩
  have hst:t1*t2*B<=T*(b1*b2):=gO T1' B2 (by omega) (by omega)
  rw [decide_eq_true hst]
  refine⟨N,ts2,T,B,rs,rfl,okn,by omega,th3,⟨B1,by omega,by omega,by omega⟩,λlo p1 p2=>?_,?_⟩
  ·exact Mt T1' B2 okn2.1 (λu hu=>by have:=(ok.tin u (cB.mp (p1.mem_iff.mp hu)).1).2.2.2.1; omega) (pof lo p1 p2)
  ·exact hnx _ _ ⟨by omega,_,_,_,_,_,_,_,_,_,_,_,rfl⟩
end Nt
namespace K66
open PySem PySem.Spec PyProof.Rows L2 Dp Nt
section
variable (P:Program)(w:World)(K:Frag)(mg:Str->Option Value)(base:Heap)
noncomputable abbrev Jb:Prop:=Got P w K mg base "is_whole" 1 ["thing"] .sh L9
noncomputable abbrev C9:Prop:=Got P w K mg base "is_tuple_of" 1 ["count","thing"] .sh Ea
noncomputable abbrev HV:Prop:=Got P w K mg base "is_rising" 1 ["things"] .sh IE
noncomputable abbrev Kx:Prop:=Got P w K mg base "rank_of" 1 ["tie"] .sh QG
noncomputable abbrev Fj:Prop:=Got P w K mg base "order_of" 4 ["ties"] .fr Jg
noncomputable abbrev Dr:Prop:=Got P w K mg base "steps_of" 1 ["net"] .sh Jf
noncomputable abbrev UW:Prop:=Got P w K mg base "only" 1 ["net","ties"] .sh Fl
noncomputable abbrev HU:Prop:=Got P w K mg base "is_tie_of" 2 ["net","thing"] .sh V7
noncomputable abbrev Kz:Prop:=Got P w K mg base "is_thin" 3 ["net","thing"] .sh QF
noncomputable abbrev Cc:Prop:=Got P w K mg base "left_out" 5 ["net","thin"] .fr HY
noncomputable abbrev EY:Prop:=Got P w K mg base "length_of" 2 ["net","thing"] .sh UY
noncomputable abbrev DQ:Prop:=Got P w K mg base "length_between" 3 ["net","a","b","thing"] .sh QK
noncomputable abbrev HR:Prop:=Got P w K mg base "ties_over" 2 ["net","way"] .fr ID
noncomputable abbrev GY:Prop:=Got P w K mg base "nearest_of" 1 ["waiting","found"] .sh QI
noncomputable abbrev GZ:Prop:=Got P w K mg base "least_ways" 2 ["net","start"] .fr MC
noncomputable abbrev Nu:Prop:=Got P w K mg base "way_of" 3 ["net","a","b"] .sh V6
noncomputable abbrev Ky:Prop:=Got P w K mg base "product" 1 ["one","other"] .sh Ge
noncomputable abbrev DR:Prop:=Got P w K mg base "is_no_stricter" 1 ["one","other"] .sh MB
noncomputable abbrev FF:Prop:=Got P w K mg base "ways_by_tie" 6 ["net","thin","paper"] .sh UX
noncomputable abbrev HP:Prop:=Got P w K mg base "way_taken" 3 ["thin","way","taken"] .sh MA
noncomputable abbrev Jc:Prop:=Got P w K mg base "composed" 7 ["net","thin","thinner","ways","more"] .sh Es
noncomputable abbrev EZ:Prop:=Got P w K mg base "is_within" 1 ["length","times","number"] .sh Gc
noncomputable abbrev Fk:Prop:=Got P w K mg base "near_way" 4 ["net","times","tie"] .sh Fn
noncomputable abbrev Kw:Prop:=Got P w K mg base "thinned" 5 ["net","times"] .sh Ec
noncomputable abbrev GX:Prop:=Got P w K mg base "ways_paper" 6 ["net","times","thin"] .sh Gb
noncomputable abbrev HQ:Prop:=Got P w K mg base "way_fault" 4 ["net","times","tie","thing"] .sh Gd
noncomputable abbrev HS:Prop:=Got P w K mg base "lets_ways" 6 ["net","times","thin","paper"] .sh Ds
noncomputable abbrev BY:Prop:=Got P w K mg base "_law_next" 1 ["_law_feed_here","_law_many"] .sh Cu
noncomputable abbrev Ga:Prop:=Got P w K mg base "_law_names" 1 [] .sh IF
noncomputable abbrev FG:Prop:=Got P w K mg base "_law_places" 2 ["_law_feed_here","_law_many"] .sh Gg
noncomputable abbrev FH:Prop:=Got P w K mg base "_law_length" 2 ["_law_feed_here","_law_sort"] .sh QJ
noncomputable abbrev HW:Prop:=Got P w K mg base "_law_ties" 3 ["_law_feed_here","_law_places_here","_law_most"] .sh L_
noncomputable abbrev Jd:Prop:=Got P w K mg base "_law_net" 4 ["_law_feed_here","_law_most","_law_ties_here"] .sh QH
noncomputable abbrev Je:Prop:=Got P w K mg base "_law_far" 1 ["_law_places_here","_law_ties_here"] .sh QL
noncomputable abbrev Cs:Prop:=Got P w K mg base "_law_some_times" 2 ["_law_feed_here"] .sh Eb
noncomputable abbrev Ct:Prop:=Got P w K mg base "_law_all_within" 2 ["_law_net_here","_law_thin","_law_times"] .sh QM
noncomputable abbrev HX:Prop:=Got P w K mg base "_law_lets" 7 ["_law_net_here","_law_times","_law_thin","_law_paper"] .sh Ds
end
section
variable {P:Program}{w:World}{K:Frag}{mg:Str->Option Value}{base:Heap}
theorem Mc:AU ["thing"] ["thing"] (AN FS):=by constructor <;> first | rfl | decide +kernel
theorem M7{f:Addr}{fd:FuncData}(T:Txt K mg)(F:Fun K "is_whole" "is_whole" FS f fd):A0 P w K mg base Br 1 f fd ["thing"] (Ci K .sh L9 1):=by
 exact Eo F Mc (by decide) (λcdv A outer s H E hr=>(AM (AY (JR (G7 VO (dv 0) rfl T.n_isinstance rfl T.n_int (by decide +kernel)) (Lw (X8 (G7 TR (dv 0) rfl T.n_isinstance rfl T.n_bool (by decide +kernel)))))))) (λss n Pd hl hw=>Mh hw)
theorem IX:AU ["count","thing"] ["count","thing"] (AN Cz):=by constructor <;> first | rfl | decide +kernel
theorem Iv{f:Addr}{fd:FuncData}(T:Txt K mg)(F:Fun K "is_tuple_of" "is_tuple_of" Cz f fd):A0 P w K mg base Br 1 f fd ["count","thing"] (Ci K .sh Ea 2):=by
 exact Eo F IX (by decide) (λcdv A outer s H E hr=>(AM (AY (JR (G7 kit_tuple (dv 1) rfl T.n_isinstance rfl T.n_tuple (by decide +kernel)) (Lw (Dn S9 YK (Ak A7 Dx rfl T.n_len PySem.boot_len (AR (dv 1) AZ)) (dv 0) (Ar _))))))) (λss n Pd hl hw=>Il hw)
theorem LB:AU ["things"] ["things"] (AN EA):=by constructor <;> first | rfl | decide +kernel
theorem LY{f:Addr}{fd:FuncData}(T:Txt K mg)(F:Fun K "is_rising" "is_rising" EA f fd):A0 P w K mg base Br 1 f fd ["things"] (Ci K .sh IE 1):=by
 exact Eo F LB (by decide) (λcdv A outer s H E hr=>(AM (AY (Ak (JX rfl) UV rfl T.n_all f6 (AR (Cr rfl [("ahead" : Str),("behind" : Str)] [none,none] (Py rfl T.n_zip (AR (dv 0) (AR (Nb SI Nq (dv 0) (GJ AG) GK) AZ))) (λ_ _ _ _ _=>(G6 rfl (BQ (Au (i:=0) (show dD [("ahead" : Str),("behind" : Str)] by decide +kernel) rfl (bC rfl)) (BQ (Au (i:=1) (show dD [("ahead" : Str),("behind" : Str)] by decide +kernel) rfl (bC rfl)) Er)))) (λ_ _ _ _ _=>Cp) (λ_ _ _ _ _=>(Dn (S6 hr) Wl (dv 0) (dv 1) (Ar _))) (by kernel_rfl)) AZ))))) (λss n Pd hl hw=>LJ hw)
theorem OB:AU ["tie"] ["tie"] (AN Gu):=by constructor <;> first | rfl | decide +kernel
theorem OV{f:Addr}{fd:FuncData}(T:Txt K mg)(F:Fun K "rank_of" "rank_of" Gu f fd):A0 P w K mg base Br 1 f fd ["tie"] (Ci K .sh QG 1):=by
 exact Eo F OB (by decide) (λcdv A outer s H E hr=>(AM (AY (BH (AD (AX AS An (dv 0) AG) (AD (AX AS An (dv 0) AG) (AD (AX AS An (dv 0) AG) Ab))))))) (λss n Pd hl hw=>OG hw)
theorem Ma:AU ["ties"] ["ties"] (AN FP):=by constructor <;> first | rfl | decide +kernel
theorem Mz{f:Addr}{fd:FuncData}(T:Txt K mg)(G_rank_of:Kx P w K mg base)(F:Fun K "order_of" "order_of" FP f fd):A0 P w K mg base Br 4 f fd ["ties"] (Ci K .fr Jg 1):=by
 exact Eo F Ma (by decide) (λcdv A outer s H E hr=>(AM (AY (T9 G_rank_of (hr.mono (by decide)) rfl T.n_sorted rfl (dv 0))))) (λss n Pd hl hw=>Me hw)
theorem sc_steps_of:AU ["net","steps","place","a","b","length"] ["net"] (AN FO):=⟨rfl,rfl,rfl,by decide +kernel,rfl,by decide +kernel,by decide +kernel⟩
theorem Mw{f:Addr}{fd:FuncData}(F:Fun K "steps_of" "steps_of" FO f fd):A0 P w K mg base Br 1 f fd ["net"] (Ci K .sh Jf 1):=by
 refine F.ok (k:=0) sc_steps_of (λvs H Q E h=>h.1) (λcdv A outer s H vs Q E hr h=>?_)
 obtain⟨hl,F0,U,V',M,n,ss,Pd,ra,⟨N,rfl,ok,lp,lt,p⟩,q⟩:=h
 obtain⟨dom,fU,uV,vM,fd0,pa⟩:=ra
 cases pa with
 | cons r1 pa =>
 cases pa
 obtain⟨v,e1,h1⟩:=r1.1
 cases e1
 obtain⟨an,vs,rfl,hn,v1,r,rfl,hp,v2,r2,rfl,ht,e2⟩:=h1
 cases (show r2=[] from e2)
 obtain⟨ap,us,rfl,hpn,hps⟩:=hp
 obtain⟨at_,ws,rfl,htn,hts⟩:=ht
 have nd:=sc_steps_of.nd
 have hu:=HD hr
 have szl:=PySem.sizeLine_eq
 have lus:us.length=N.ps.length:=by rw [hps.length,FM]
 have lws:ws.length=N.ts.length:=by rw [hts.length,FM]
 refine⟨_,Ao (C2 (i:=1) nd rfl (bC rfl) Mq)
  (Ao (EL bd rfl (Sr (BD ix_tup (pv 0) Ap (λ_ _=>rfl))) (BZ (i:=2) nd rfl (bC rfl)) (BE (Fz hu (pv 1) (pv 2) Mq rfl)))
  (Ao (EL bd rfl (Sr (BD ix_tup (pv 0) Ap (λ_ _=>rfl))) (OP rfl (CS (BZ (i:=3) nd rfl (bC rfl)) (CS (BZ (i:=4) nd rfl (bC rfl)) (CS (BZ (i:=5) nd rfl (bC rfl)) LL))))
   (Ao (Fz hu (Hw hu (pv 1) (pv 3) (λ_ _=>rfl)) (pv 4) (pv 5) rfl) (BE (Fz hu (Hw hu (pv 1) (pv 4) (λ_ _=>rfl)) (pv 3) (pv 5) rfl))))
  (BE (EK (XW (pv 1)))))),?_⟩
 refine λd hd=>?_
 have old0:∀b o,H b=some o->As H d (.dK []) b=some o:=λb o e=>by rw [AK (Ac e hd)]; exact e
 have SqN:∀H':Hp,(∀b o,H b=some o->H' b=some o)->SqT K H' an [.ref ap,.ref at_]:=λH' o=>SqT.of (o _ _ hn)
 have SqP:∀H':Hp,(∀b o,H b=some o->H' b=some o)->SqT K H' ap us:=λH' o=>SqT.of (o _ _ hpn)
 have SqW:∀H':Hp,(∀b o,H b=some o->H' b=some o)->SqT K H' at_ ws:=λH' o=>SqT.of (o _ _ htn)
 refine⟨_,rfl,an,_,0,_,rfl,rfl,SqN _ old0,rfl,ap,rfl,⟨_,SqP _ old0⟩,?_⟩
 refine Ll (xs:=us) (λi σ H'=>∃(as:List (Str×Addr)) (x2 x3 x4 x5:Option V),σ=[some (.ref an),some (.ref d),x2,x3,x4,x5]/\as.map (·.1)=N.ps.take i/\Stp H d as (λ_=>[]) H') ?_ (λi σ H' hi ⟨as,x2,x3,x4,x5,e,hm,st⟩=>SqP _ st.old) ?_ ?_
 ·exact⟨[],_,_,_,_,rfl,rfl,old0,hd,AT,(λx hx=>by cases hx),bj,bj⟩
 ·rintro i x σ H' hx ⟨as,x2,x3,x4,x5,rfl,hm,st⟩
  have hi:i<N.ps.length:=by rw [← lus]; exact(TW.mp hx).1
  obtain⟨x',hx',hAt⟩:=hps.get (i:=i) (d:=.str N.ps[i]) (by rw [T0,Db hi]; rfl)
  rw [hx] at hx'
  cases hx'
  obtain⟨rfl,_⟩:=hAt
  intro q hq
  have las:as.length<=i:=by have:=congrArg fh hm; rw [FM,c0] at this; omega
  have nq:d≠q:=λe=>by rw [← e,st.top] at hq; cases hq
  have las2:(as.map λx=>((.inr x.1:Key),V.ref x.2)).length=as.length:=FM ..
  refine⟨_,rfl,_,rfl,d,_,rfl,DPut.k (k:=.inr N.ps[i]) (by rw [AK nq]; exact st.top) (by omega),?_⟩
  refine⟨as++[(N.ps[i],q)],_,_,_,_,rfl,?_,st.more hq ?_ rfl⟩
  ·rw [cH,hm,ii,Db hi]; rfl
  ·rw [hm]; exact OY (Dd ok.rise) hi
 ·rintro σ H' ⟨as,x2,x3,x4,x5,rfl,hm,st⟩
  rw [lus,dO] at hm
  refine⟨_,rfl,an,_,1,_,rfl,rfl,SqN _ st.old,rfl,at_,rfl,⟨_,SqW _ st.old⟩,?_⟩
  refine Ll (xs:=ws) (λi σ H'=>∃(x2 x3 x4 x5:Option V),σ=[some (.ref an),some (.ref d),x2,x3,x4,x5]/\Stp H d as (λp=>(Ce (N.ts.take i) p).map kv) H') ⟨_,_,_,_,rfl,st⟩ (λi σ H' hi ⟨x2,x3,x4,x5,e,st⟩=>SqW _ st.old) ?_ ?_
  ·rintro i x σ H' hx ⟨x2,x3,x4,x5,rfl,st⟩
   have hi:i<N.ts.length:=by rw [← lws]; exact(TW.mp hx).1
   obtain⟨x',hx',hAt⟩:=hts.get (i:=i) (d:=Aj N.ts[i]) (by rw [T0,Db hi]; rfl)
   rw [hx] at hx'
   cases hx'
   have hmem:N.ts[i]∈N.ts:=bv hi
   have hsnoc:N.ts.take (i+1)=N.ts.take i++[N.ts[i]]:=by rw [ii,Db hi]; rfl
   have hpre:(N.ts.take (i+1)).Pairwise BG:=ok.trise.sublist (gk _ _)
   have hlt2:∀s∈N.ts.take (i+1),cs s.a<cs s.b:=λs hs=>(ok.tin s (gF hs)).2.2.1
   rw [hsnoc] at hpre hlt2
   have new:=Tu hpre hlt2
   have ltk:(N.ts.take i).length<=1000:=by rw [c0]; omega
   generalize N.ts[i]=t at hAt hmem hsnoc new
   generalize N.ts.take i=ts at hsnoc new st ltk
   obtain⟨m1,m2,m3,_⟩:=ok.tin t hmem
   have hab:t.a≠t.b:=λe=>by rw [e] at m3; exact bc _ m3
   obtain⟨ta,tb,tl⟩:=t
   obtain⟨tt,us3,rfl,htt,hit⟩:=hAt
   obtain⟨va,r3,rfl,⟨rfl,_⟩,vb,r4,rfl,⟨rfl,_⟩,vl,r5,rfl,rfl,e5⟩:=hit
   cases (show r5=[] from e5)
   rw [← hm] at m1 m2
   obtain⟨⟨xa,pa⟩,ha,ea⟩:=ZB.mp m1
   obtain⟨⟨xb,pb⟩,hb,eb⟩:=ZB.mp m2
   have ea':ta=xa:=ea.symm
   have eb':tb=xb:=eb.symm
   subst ea' eb'
   clear ea eb
   replace hab:ta≠tb:=hab
   replace new:tb∉(Ce ts ta).map (·.1)/\ta∉(Ce ts tb).map (·.1):=new
   have ga:=DGet.k (k:=.inr ta) st.top
   rw [Ho st.nms ha] at ga
   have l1:=Pa ts ta
   refine⟨tt,_,rfl,SqT.of (st.old _ _ htt),rfl,_,_,rfl,_,_,rfl,_,_,rfl,rfl,?_⟩
   refine⟨_,rfl,_,rfl,_,rfl,d,_,rfl,ga,_,rfl,pa,_,rfl,DPut.k (k:=.inr tb) (st.inn _ ha).2.2 (by show ((Ce ts ta).map kv).length<sizeLine; rw [FM]; omega),?_⟩
   have st1:=st.put (tb2:=λp=>(Ce ts p++if ta=p then [(tb,tl)] else []).map kv) ha (kvs:=putK ((Ce ts ta).map kv) (.inr tb) (.int tl)) (by rw [PN new.1,if_pos rfl]) (λq hq=>by rw [if_neg (bp hq),bh])
   have gb:=DGet.k (k:=.inr tb) st1.top
   rw [Ho st1.nms hb] at gb
   have l2:=Pa ts tb
   have ib:=(st1.inn _ hb).2.2
   simp only [if_neg hab,bh] at ib
   refine⟨_,rfl,_,rfl,_,rfl,d,_,rfl,gb,_,rfl,pb,_,rfl,DPut.k (k:=.inr ta) ib (by rw [FM]; omega),?_⟩
   refine⟨_,_,_,_,rfl,st1.put hb ?_ λq hq=>?_⟩
   ·show (Ce (N.ts.take (i+1)) tb).map kv=_
    rw [hsnoc,NB,PN new.2]
    show ((Ce ts tb++((if ta=tb then [(tb,tl)] else [])++if tb=tb then [(ta,tl)] else [])).map kv)=_
    rw [if_neg hab,if_pos rfl]; rfl
   ·show (Ce (N.ts.take (i+1)) q).map kv=_
    rw [hsnoc,NB]
    show ((Ce ts q++((if ta=q then [(tb,tl)] else [])++if tb=q then [(ta,tl)] else [])).map kv)=_
    rw [if_neg (bp hq),bh]
  ·rintro σ H' ⟨x2,x3,x4,x5,rfl,st⟩
   rw [lws,dO] at st
   have old:∀(f:Addr->Obj) b o,H b=some o->Fg H' (as.map (·.2)) f b=some o:=λf b o e=>by
    rw [DJ (λhm=>by obtain⟨x,hx,e2⟩:=ZB.mp hm; have:=(st.inn x hx).1; rw [e2,e] at this; cases this)]
    exact st.old b o e
   refine⟨_,rfl,(as.map fun(x:Str×Addr)=>x.2),λb hb=>?_,λf=>q (.ref d) (Fg H' (as.map fun(x:Str×Addr)=>x.2) f) (DU N) n (λb o e=>⟨o,old f b o e,λ_=>rfl,λ_ _=>rfl⟩) (λg hg=>?_) (show At K M (Fg H' (as.map fun(x:Str×Addr)=>x.2) f) (DU N) (.ref d) from st.at_ dom hm f) p⟩
   ·obtain⟨x,hx,rfl⟩:=ZB.mp hb
    exact⟨_,(st.inn x hx).2.2⟩
   ·obtain⟨a,r,cells,hf,hcf,hc,rest⟩:=fd0 g hg
    exact⟨a,r,cells,old f _ _ hf,hcf,⟨hc.1,old f _ _ hc.2⟩,rest⟩
theorem Uw:AU ["net","ties"] ["net","ties"] (AN OE):=by constructor <;> first | rfl | decide +kernel
theorem VF{f:Addr}{fd:FuncData}(T:Txt K mg)(F:Fun K "only" "only" OE f fd):A0 P w K mg base Br 1 f fd ["net","ties"] (Ci K .sh Fl 2):=by
 exact Eo F Uw (by decide) (λcdv A outer s H E hr=>(AM (AY (BH (AD (AX AS An (dv 0) AG) (AD (CN BU DP rfl T.n_tuple fV (AR (Ak Ow V4 rfl T.n_sorted iT (AR (Nx 1) AZ)) AZ)) Ab)))))) (λss n Pd hl hw=>Qc hw)
theorem LA:AU ["net","thing"] ["net","thing"] (AN D_):=by constructor <;> first | rfl | decide +kernel
theorem LX{f:Addr}{fd:FuncData}(T:Txt K mg)(G_is_whole:Jb P w K mg base)(F:Fun K "is_tie_of" "is_tie_of" D_ f fd):A0 P w K mg base Br 2 f fd ["net","thing"] (Ci K .sh V7 2):=by
 exact Eo F LA (by decide) (λcdv A outer s H E hr=>(AM (AY (JR (Dn (S7 hr) UU (dv 1) (AX AS An (dv 0) AG) (by with_unfolding_all rfl)) (Lw (AJ G_is_whole (hr.mono (by decide)) rfl (AA (AL (AX AS An (dv 1) AG)) AO))))))) (λss n Pd hl hw=>LI hw)
theorem OD:AU ["net","thing"] ["net","thing"] (AN Gw):=by constructor <;> first | rfl | decide +kernel
theorem OX{f:Addr}{fd:FuncData}(T:Txt K mg)(G_is_rising:HV P w K mg base)(G_is_tie_of:HU P w K mg base)(G_is_tuple_of:C9 P w K mg base)(F:Fun K "is_thin" "is_thin" Gw f fd):A0 P w K mg base Br 3 f fd ["net","thing"] (Ci K .sh QF 2):=by
 exact Eo F OD (by decide) (λcdv A outer s H E hr=>(AF (Bb (DTW.dt (E8 (C5 (CY (AJ G_is_tuple_of (hr.mono (by decide)) rfl (AA (AL AG) (AA (AL (dv 1)) AO))))) (ES (C5 (CY (G7 kit_tuple (AX AS An (dv 1) AG) rfl T.n_isinstance rfl T.n_tuple (by decide +kernel))))))) (AM (AY Du)) A4)
 (AM (AY (JR (Dn (Xd hr) ZY (AX AS An (dv 1) AG) (AX AS An (dv 0) AG) (Ar _)) (JR (Ak (JX rfl) UV rfl T.n_all f6 (AR (Cr rfl [("net" : Str),("tie" : Str)] [some 0,none] (Ep (AX AS An (dv 1) AG)) (λ_ _ _ _ _=>(Au (i:=1) (show dD [("net" : Str),("tie" : Str)] by decide +kernel) rfl (bC rfl))) (λ_ _ _ _ _=>Cp) (λ_ _ _ _ _=>(AJ G_is_tie_of (hr.mono (by decide)) rfl (AA (AL (dv 0)) (AA (AL (dv 1)) AO)))) (by kernel_rfl)) AZ)) (Lw (AJ G_is_rising (hr.mono (by decide)) rfl (AA (AL (AX AS An (dv 1) AG)) AO))))))))) (λss n Pd hl hw=>OJ hw)
theorem Mb:AU ["net","thin"] ["net","thin"] (AN FR):=by constructor <;> first | rfl | decide +kernel
theorem M6{f:Addr}{fd:FuncData}(T:Txt K mg)(G_order_of:Fj P w K mg base)(F:Fun K "left_out" "left_out" FR f fd):A0 P w K mg base Br 5 f fd ["net","thin"] (Ci K .fr HY 2):=by
 exact Eo F Mb (by decide) (λcdv A outer s H E hr=>(AM (AY (AJ G_order_of (hr.mono (by decide)) rfl (AA (AL (Cr rfl [("thin" : Str),("tie" : Str)] [some 1,none] (Ep (AX AS An (dv 0) AG)) (λ_ _ _ _ _=>(Au (i:=1) (show dD [("thin" : Str),("tie" : Str)] by decide +kernel) rfl (bC rfl))) (λ_ _ _ _ _=>(Vv (A1 (Qn hr) UU (dv 1) (AX AS An (dv 0) AG) (by with_unfolding_all rfl)))) (λ_ _ _ _ _=>(dv 1)) (by kernel_rfl))) AO))))) (λss n Pd hl hw=>Mf hw)
theorem sc_length_of:AU ["net","thing","steps","length","here","there"] ["net","thing"] (AN D8):=by constructor <;> first | rfl | decide +kernel
theorem LV{f:Addr}{fd:FuncData}(T:Txt K mg)(G_steps_of:Dr P w K mg base)(F:Fun K "length_of" "length_of" D8 f fd):A0 P w K mg base Br 2 f fd ["net","thing"] (Ci K .sh UY 2):=by
 exact Eo F sc_length_of (by decide) (λcdv A outer s H E hr=>(AF (Bb (DTW.dt (E8 (C5 (CY (G7 kit_tuple (dv 1) rfl T.n_isinstance rfl T.n_tuple (by decide +kernel)))) (ES (A1 S9 YK (Ak A7 Dx rfl T.n_len PySem.boot_len (AR (dv 1) AZ)) AG (Ar _))))) (AM (AY A_)) A4)
 (AF (Bb (C5 (CY (Ak (JX rfl) UV rfl T.n_all f6 (AR (Cr rfl [("place" : Str)] [none] (Ep (dv 1)) (λ_ _ _ _ _=>(Au (i:=0) (show dD [("place" : Str)] by decide +kernel) rfl (bC rfl))) (λ_ _ _ _ _=>Cp) (λ_ _ _ _ _=>(G7 VN (dv 0) rfl T.n_isinstance rfl T.n_str (by decide +kernel))) (by kernel_rfl)) AZ)))) (AM (AY A_)) A4)
 (AF (Ah (i:=2) sc_length_of.nd rfl (bC rfl) (AJ G_steps_of (hr.mono (by decide)) rfl (AA (AL (dv 0)) AO)))
 (AF (Bb (A1 (Ei hr) GW (AX AS An (dv 1) AG) (dv 2) (by with_unfolding_all rfl)) (AM (AY A_)) A4)
 (AF (Ah (i:=3) sc_length_of.nd rfl (bC rfl) AG)
 (AF (C6 bd rfl (X6 rfl T.n_zip (AD (dv 1) (AD (Nb SI Nq (dv 1) (GJ AG) GK) Ab))) (G6 rfl (BQ (Au (i:=4) sc_length_of.nd rfl (bC rfl)) (BQ (Au (i:=5) sc_length_of.nd rfl (bC rfl)) Er))) (AF (Bb (A1 (Ei hr) GW (dv 5) (B7 hr (dv 2) (dv 4)) (by with_unfolding_all rfl)) (AM (AY A_)) A4)
 (AM (Vr (i:=3) sc_length_of.nd rfl (bC rfl) (B7 hr (B7 hr (dv 2) (dv 4)) (dv 5))))))
 (AM (AY (dv 3)))))))))) (λss n Pd hl hw=>LF hw)
theorem sc_length_between:AU ["net","a","b","thing","length"] ["net","a","b","thing"] (AN Bt):=by constructor <;> first | rfl | decide +kernel
theorem F2{f:Addr}{fd:FuncData}(T:Txt K mg)(G_length_of:EY P w K mg base)(F:Fun K "length_between" "length_between" Bt f fd):A0 P w K mg base Br 3 f fd ["net","a","b","thing"] (Ci K .sh QK 4):=by
 exact Eo F sc_length_between (by decide) (λcdv A outer s H E hr=>(AF (Ah (i:=4) sc_length_between.nd rfl (bC rfl) (AJ G_length_of (hr.mono (by decide)) rfl (AA (AL (dv 0)) (AA (AL (dv 3)) AO))))
 (AF (Bb (DTW.dt (E8 (A1 De HN (dv 4) A_ (Ar _)) (E8 (A1 Mv UQ (AX AS An (dv 3) AG) (dv 1) (Ar _)) (ES (A1 Mv UQ (AX AS An (dv 3) (T_ AG)) (dv 2) (Ar _)))))) (AM (AY A_)) A4)
 (AM (AY (dv 4)))))) (λss n Pd hl hw=>Eu hw)
theorem sc_ties_over:AU ["net","way","steps"] ["net","way"] (AN D6):=by constructor <;> first | rfl | decide +kernel
theorem LS{f:Addr}{fd:FuncData}(T:Txt K mg)(G_steps_of:Dr P w K mg base)(F:Fun K "ties_over" "ties_over" D6 f fd):A0 P w K mg base Br 2 f fd ["net","way"] (Ci K .fr ID 2):=by
 exact Eo F sc_ties_over (by decide) (λcdv A outer s H E hr=>(AF (Ah (i:=2) sc_ties_over.nd rfl (dU rfl) (AJ G_steps_of (hr.mono (by decide)) rfl (AA (AL (dv 0)) AO)))
 (AM (AY (Cr rfl [("steps" : Str),("here" : Str),("there" : Str)] [some 2,none,none] (Py rfl T.n_zip (AR (dv 1) (AR (Nb SI Nq (dv 1) (GJ AG) GK) AZ))) (λ_ _ _ _ _=>(G6 rfl (BQ (Au (i:=1) (show dD [("steps" : Str),("here" : Str),("there" : Str)] by decide +kernel) rfl (bC rfl)) (BQ (Au (i:=2) (show dD [("steps" : Str),("here" : Str),("there" : Str)] by decide +kernel) rfl (bC rfl)) Er)))) (λ_ _ _ _ _=>Cp) (λ_ _ _ _ _=>(BH (AD (Ak (RT rfl) YG rfl T.n_min boot_min (AR (dv 1) (AR (dv 2) AZ))) (AD (Ak (RW rfl) YI rfl T.n_max boot_max (AR (dv 1) (AR (dv 2) AZ))) (AD (B7 hr (B7 hr (dv 0) (dv 1)) (dv 2)) Ab))))) (by kernel_rfl)))))) (λss n Pd hl hw=>Ih hw)
theorem Jk:AU ["waiting","found"] ["waiting","found"] (AN DY):=by constructor <;> first | rfl | decide +kernel
theorem Jt{f:Addr}{fd:FuncData}(T:Txt K mg)(F:Fun K "nearest_of" "nearest_of" DY f fd):A0 P w K mg base Br 1 f fd ["waiting","found"] (Ci K .sh QI 2):=by
 exact Eo F Jk (by decide) (λcdv A outer s H E hr=>(AM (AY (AX AS An (Ak (RU hr) YH rfl T.n_min boot_min (AR (Cr rfl [("found" : Str),("place" : Str)] [some 1,none] (Ep (Nx 0)) (λ_ _ _ _ _=>(Au (i:=1) (show dD [("found" : Str),("place" : Str)] by decide +kernel) rfl (bC rfl))) (λ_ _ _ _ _=>Cp) (λ_ _ _ _ _=>(BH (AD (AX AS An (B7 hr (Nx 0) (dv 1)) AG) (AD (dv 1) Ab)))) (by kernel_rfl)) AZ)) AG)))) (λss n Pd hl hw=>Jl hw)
theorem sc_least_ways:AU ["net","start","steps","found","waiting","place","other","step","length"] ["net","start"] (AN DZ):=by constructor <;> first | rfl | decide +kernel
theorem Ju{f:Addr}{fd:FuncData}(T:Txt K mg)(G_nearest_of:GY P w K mg base)(G_steps_of:Dr P w K mg base)(F:Fun K "least_ways" "least_ways" DZ f fd):A0 P w K mg base Br 2 f fd ["net","start"] (Ci K .fr MC 2):=by
 exact Eo F sc_least_ways (by decide) (λcdv A outer s H E hr=>(AF (Ah (i:=2) sc_least_ways.nd rfl (bC rfl) (AJ G_steps_of (hr.mono (by decide)) rfl (AA (AL (dv 0)) AO)))
 (AF (Dl (i:=3) sc_least_ways.nd rfl (bC rfl) (UE (dv 1) (BH (AD AG (AD A_ Ab)))))
 (AF (Dl (i:=4) sc_least_ways.nd rfl (bC rfl) (CZ (AD (dv 1) Ab)))
 (AF (NW bd (X4 (Nx 4)) (AF (Ah (i:=5) sc_least_ways.nd rfl (bC rfl) (AJ G_nearest_of (hr.mono (by decide)) rfl (AA (P2 (Nx 4)) (AA (P2 (Nx 3)) AO))))
 (AF (Kh 4 PySem.F.plainAttrs_list PySem.F.slot_list_remove PySem.F.type_list_remove (Q1 hr) ZV (pv 4) (AD (dv 5) Ab))
 (AM (C6 bd rfl (T7 (B7 hr (dv 2) (dv 5))) (G6 rfl (BQ (Au (i:=6) sc_least_ways.nd rfl (bC rfl)) (BQ (Au (i:=7) sc_least_ways.nd rfl (bC rfl)) Er))) (AF (Ah (i:=8) sc_least_ways.nd rfl (bC rfl) (BC B5 C8 (AX AS An (B7 hr (Nx 3) (dv 5)) AG) (dv 7)))
 (AM (Bb (A1 (Ei hr) GW (dv 6) (Nx 3) (by with_unfolding_all rfl)) (AF (Kh 4 PySem.F.plainAttrs_list PySem.F.slot_list_append PySem.F.type_list_append DC QD (pv 4) (AD (dv 6) Ab))
 (AM (Px (i:=3) hr (pv 3) (dv 6) (BH (AD (dv 8) (AD (dv 5) Ab)))))) (AM (Bb (A1 (S6 hr) Wl (dv 8) (AX AS An (B7 hr (Nx 3) (dv 6)) AG) (Ar _)) (AM (Px (i:=3) hr (pv 3) (dv 6) (BH (AD (dv 8) (AD (dv 5) Ab))))) A4))))))))))
 (AM (Vq 3 (pv 3)))))))) (λss n Pd hl hw=>Jn hw)
theorem sc_way_of:AU ["net","a","b","found","way","place"] ["net","a","b"] (AN IZ):=by constructor <;> first | rfl | decide +kernel
theorem Qs{f:Addr}{fd:FuncData}(T:Txt K mg)(G_least_ways:GZ P w K mg base)(F:Fun K "way_of" "way_of" IZ f fd):A0 P w K mg base Br 3 f fd ["net","a","b"] (Ci K .sh V6 3):=by
 exact Eo F sc_way_of (by decide) (λcdv A outer s H E hr=>(AF (Ah (i:=3) sc_way_of.nd rfl (bC rfl) (AJ G_least_ways (hr.mono (by decide)) rfl (AA (AL (dv 0)) (AA (AL (dv 1)) AO))))
 (AF (Bb (A1 (Ei hr) GW (dv 2) (dv 3) (by with_unfolding_all rfl)) (AM (AY A_)) A4)
 (AF (Dl (i:=4) sc_way_of.nd rfl (bC rfl) (CZ Ab))
 (AF (Ah (i:=5) sc_way_of.nd rfl (bC rfl) (dv 2))
 (AF (NW bd (A1 F1 O3 (dv 5) A_ (Ar _)) (AF (Kh 4 PySem.F.plainAttrs_list PySem.F.slot_list_append PySem.F.type_list_append DC QD (pv 4) (AD (dv 5) Ab))
 (AM (Ah (i:=5) sc_way_of.nd rfl (bC rfl) (AX AS An (B7 hr (dv 3) (dv 5)) AG)))))
 (AM (AY (RN rfl (Nx 4) rfl T.n_tuple rfl T.n_reversed))))))))) (λss n Pd hl hw=>Qb hw)
theorem OC:AU ["one","other"] ["one","other"] (AN Gv):=by constructor <;> first | rfl | decide +kernel
theorem OW{f:Addr}{fd:FuncData}(T:Txt K mg)(F:Fun K "product" "product" Gv f fd):A0 P w K mg base Br 1 f fd ["one","other"] (Ci K .sh Ge 2):=by
 exact Eo F OC (by decide) (λcdv A outer s H E hr=>(AM (AY (BH (AD (BC CI Dq (AX AS An (dv 0) AG) (AX AS An (dv 1) AG)) (AD (BC CI Dq (AX AS An (dv 0) AG) (AX AS An (dv 1) AG)) Ab)))))) (λss n Pd hl hw=>OH hw)
theorem Ft:AU ["one","other"] ["one","other"] (AN Bu):=by constructor <;> first | rfl | decide +kernel
theorem F3{f:Addr}{fd:FuncData}(T:Txt K mg)(F:Fun K "is_no_stricter" "is_no_stricter" Bu f fd):A0 P w K mg base Br 1 f fd ["one","other"] (Ci K .sh MB 2):=by
 exact Eo F Ft (by decide) (λcdv A outer s H E hr=>(AM (AY (Dn Xc ZX (BC CI Dq (AX AS An (dv 0) AG) (AX AS An (dv 1) AG)) (BC CI Dq (AX AS An (dv 1) AG) (AX AS An (dv 0) AG)) (Ar _))))) (λss n Pd hl hw=>Fx hw)
theorem IW:AU ["net","thin","paper"] ["net","thin","paper"] (AN Cy):=by constructor <;> first | rfl | decide +kernel
theorem Iu{f:Addr}{fd:FuncData}(T:Txt K mg)(G_left_out:Cc P w K mg base)(F:Fun K "ways_by_tie" "ways_by_tie" Cy f fd):A0 P w K mg base Br 6 f fd ["net","thin","paper"] (Ci K .sh UX 3):=by
 exact Eo F IW (by decide) (λcdv A outer s H E hr=>(AM (AY (DE.sh (UC rfl hr (AR (AJ G_left_out (hr.mono (by decide)) rfl (AA (AL (dv 0)) (AA (AL (dv 1)) AO))) (AR (dv 2) AZ)) rfl T.n_dict rfl T.n_zip))))) (λss n Pd hl hw=>Gx hw)
theorem sc_way_taken:AU ["thin","way","taken","told","number","tie","part"] ["thin","way","taken"] (AN D4):=by constructor <;> first | rfl | decide +kernel
theorem LQ{f:Addr}{fd:FuncData}(T:Txt K mg)(G_ties_over:HR P w K mg base)(F:Fun K "way_taken" "way_taken" D4 f fd):A0 P w K mg base Br 3 f fd ["thin","way","taken"] (Ci K .sh MA 3):=by
 exact Eo F sc_way_taken (by decide) (λcdv A outer s H E hr=>(AF (Dl (i:=3) sc_way_taken.nd rfl (bC rfl) (CZ (AD (AX AS An (dv 1) AG) Ab)))
 (AF (C6 bd rfl (Pz rfl T.n_enumerate (AJ G_ties_over (hr.mono (by decide)) rfl (AA (AL (dv 0)) (AA (AL (dv 1)) AO)))) (G6 rfl (BQ (Au (i:=4) sc_way_taken.nd rfl (bC rfl)) (BQ (Au (i:=5) sc_way_taken.nd rfl (bC rfl)) Er))) (AF (Ah (i:=6) sc_way_taken.nd rfl (bC rfl) (Vx hr (dv 2) (dv 5) (Nb SI Nq (dv 5) GK (GJ AG))))
 (AF (Bb (A1 Mv UQ (AX AS An (dv 1) (dv 4)) (AX AS An (dv 5) AG) (Ar _)) (AM (Ah (i:=6) sc_way_taken.nd rfl (bC rfl) (X7 (dv 6) (T_ AG)))) A4)
 (AM (Kh 3 PySem.F.plainAttrs_list PySem.F.slot_list_extend PySem.F.type_list_extend VJ YJ (pv 3) (AD (Nb SI Nq (dv 6) (GJ AG) GK) Ab))))))
 (AM (AY (CN BU DP rfl T.n_tuple fV (AR (Nx 3) AZ))))))) (λss n Pd hl hw=>Ie hw)
theorem sc_composed:AU ["net","thin","thinner","ways","more","first","second","paper","tie"] ["net","thin","thinner","ways","more"] (AN FT):=by constructor <;> first | rfl | decide +kernel
theorem M8{f:Addr}{fd:FuncData}(T:Txt K mg)(G_left_out:Cc P w K mg base)(G_way_taken:HP P w K mg base)(G_ways_by_tie:FF P w K mg base)(F:Fun K "composed" "composed" FT f fd):A0 P w K mg base Br 7 f fd ["net","thin","thinner","ways","more"] (Ci K .sh Es 5):=by
 exact Eo F sc_composed (by decide) (λcdv A outer s H E hr=>(AF (Ah (i:=5) sc_composed.nd rfl (bC rfl) (AJ G_ways_by_tie (hr.mono (by decide)) rfl (AA (AL (dv 0)) (AA (AL (dv 1)) (AA (AL (dv 3)) AO)))))
 (AF (Ah (i:=6) sc_composed.nd rfl (bC rfl) (AJ G_ways_by_tie (hr.mono (by decide)) rfl (AA (AL (dv 1)) (AA (AL (dv 2)) (AA (AL (dv 4)) AO)))))
 (AF (Dl (i:=7) sc_composed.nd rfl (bC rfl) (CZ Ab))
 (AF (C6 bd rfl (T8 (AJ G_left_out (hr.mono (by decide)) rfl (AA (AL (dv 0)) (AA (AL (dv 2)) AO)))) (Au (i:=8) sc_composed.nd rfl (bC rfl)) (AM (Kh 7 PySem.F.plainAttrs_list PySem.F.slot_list_append PySem.F.type_list_append DC QD (pv 7) (AD (UB (A1 (Xe hr) ZU (dv 8) (dv 6) (by with_unfolding_all rfl)) (Lv hr (dv 6) (dv 8)) (AJ G_way_taken (hr.mono (by decide)) rfl (AA (AL (dv 1)) (AA (AL (Lv hr (dv 5) (dv 8))) (AA (AL (dv 6)) AO))))) Ab))))
 (AM (AY (CN BU DP rfl T.n_tuple fV (AR (Nx 7) AZ))))))))) (λss n Pd hl hw=>Jq hw)
theorem K_:AU ["length","times","number"] ["length","times","number"] (AN D9):=by constructor <;> first | rfl | decide +kernel
theorem LW{f:Addr}{fd:FuncData}(T:Txt K mg)(F:Fun K "is_within" "is_within" D9 f fd):A0 P w K mg base Br 1 f fd ["length","times","number"] (Ci K .sh Gc 3):=by
 exact Eo F K_ (by decide) (λcdv A outer s H E hr=>(AM (AY (Dn Xa ZW (BC CI Dq (dv 0) (AX AS An (dv 1) AG)) (BC CI Dq (dv 2) (AX AS An (dv 1) AG)) (Ar _))))) (λss n Pd hl hw=>LH hw)
theorem sc_near_way:AU ["net","times","tie","way"] ["net","times","tie"] (AN FQ):=by constructor <;> first | rfl | decide +kernel
theorem M5{f:Addr}{fd:FuncData}(T:Txt K mg)(G_is_within:EZ P w K mg base)(G_length_of:EY P w K mg base)(G_way_of:Nu P w K mg base)(F:Fun K "near_way" "near_way" FQ f fd):A0 P w K mg base Br 4 f fd ["net","times","tie"] (Ci K .sh Fn 3):=by
 exact Eo F sc_near_way (by decide) (λcdv A outer s H E hr=>(AF (Ah (i:=3) sc_near_way.nd rfl (bC rfl) (AJ G_way_of (hr.mono (by decide)) rfl (AA (AL (dv 0)) (AA (AL (AX AS An (dv 2) AG)) (AA (AL (AX AS An (dv 2) AG)) AO)))))
 (AF (Bb (DTW.dt (E8 (A1 De HN (dv 3) A_ (Ar _)) (ES (C5 (CY (AJ G_is_within (hr.mono (by decide)) rfl (AA (AL (AJ G_length_of (hr.mono (by decide)) rfl (AA (AL (dv 0)) (AA (AL (dv 3)) AO)))) (AA (AL (dv 1)) (AA (AL (AX AS An (dv 2) AG)) AO))))))))) (AM (AY A_)) A4)
 (AM (AY (dv 3)))))) (λss n Pd hl hw=>Jm hw)
theorem sc_thinned:AU ["net","times","kept","tie"] ["net","times"] (AN Gs):=by constructor <;> first | rfl | decide +kernel
theorem OU{f:Addr}{fd:FuncData}(T:Txt K mg)(G_near_way:Fk P w K mg base)(G_only:UW P w K mg base)(G_order_of:Fj P w K mg base)(F:Fun K "thinned" "thinned" Gs f fd):A0 P w K mg base Br 5 f fd ["net","times"] (Ci K .sh Ec 2):=by
 exact Eo F sc_thinned (by decide) (λcdv A outer s H E hr=>(AF (Dl (i:=2) sc_thinned.nd rfl (bC rfl) (CZ Ab))
 (AF (C6 bd rfl (T8 (AJ G_order_of (hr.mono (by decide)) rfl (AA (AL (AX AS An (dv 0) AG)) AO))) (Au (i:=3) sc_thinned.nd rfl (bC rfl)) (AM (Bb (A1 De HN (AJ G_near_way (hr.mono (by decide)) rfl (AA (AL (AJ G_only (hr.mono (by decide)) rfl (AA (AL (dv 0)) (AA (P2 (Nx 2)) AO)))) (AA (AL (dv 1)) (AA (AL (dv 3)) AO)))) A_ (Ar _)) (AM (Kh 2 PySem.F.plainAttrs_list PySem.F.slot_list_append PySem.F.type_list_append DC QD (pv 2) (AD (dv 3) Ab))) A4)))
 (AM (AY (AJ G_only (hr.mono (by decide)) rfl (AA (AL (dv 0)) (AA (P2 (Nx 2)) AO)))))))) (λss n Pd hl hw=>LD hw)
theorem sc_ways_paper:AU ["net","times","thin","ways"] ["net","times","thin"] (AN DX):=by constructor <;> first | rfl | decide +kernel
theorem Js{f:Addr}{fd:FuncData}(T:Txt K mg)(G_left_out:Cc P w K mg base)(G_near_way:Fk P w K mg base)(F:Fun K "ways_paper" "ways_paper" DX f fd):A0 P w K mg base Br 6 f fd ["net","times","thin"] (Ci K .sh Gb 3):=by
 exact Eo F sc_ways_paper (by decide) (λcdv A outer s H E hr=>(AF (Vp (i:=3) sc_ways_paper.nd rfl (bC rfl) rfl [("thin" : Str),("times" : Str),("tie" : Str)] [some 2,some 1,none] (Ep (AJ G_left_out (hr.mono (by decide)) rfl (AA (AL (dv 0)) (AA (AL (dv 2)) AO)))) (λ_ _ _ _ _=>(Au (i:=2) (show dD [("thin" : Str),("times" : Str),("tie" : Str)] by decide +kernel) rfl (bC rfl))) (λ_ _ _ _ _=>Cp) (λ_ _ _ _ _=>(AJ G_near_way (hr.mono (by decide)) rfl (AA (AL (dv 0)) (AA (AL (dv 1)) (AA (AL (dv 2)) AO))))) (by kernel_rfl))
 (AM (AY (UB (A1 (S7 hr) UU A_ (dv 3) (by with_unfolding_all rfl)) A_ (CN BU DP rfl T.n_tuple fV (AR (dv 3) AZ))))))) (λss n Pd hl hw=>Hf hw)
theorem sc_way_fault:AU ["net","times","tie","thing","length"] ["net","times","tie","thing"] (AN D5):=by constructor <;> first | rfl | decide +kernel
theorem LR{f:Addr}{fd:FuncData}(T:Txt K mg)(G_is_within:EZ P w K mg base)(G_length_between:DQ P w K mg base)(F:Fun K "way_fault" "way_fault" D5 f fd):A0 P w K mg base Br 4 f fd ["net","times","tie","thing"] (Ci K .sh Gd 4):=by
 exact Eo F sc_way_fault (by decide) (λcdv A outer s H E hr=>(AF (Ah (i:=4) sc_way_fault.nd rfl (bC rfl) (AJ G_length_between (hr.mono (by decide)) rfl (AA (AL (dv 0)) (AA (AL (AX AS An (dv 2) AG)) (AA (AL (AX AS An (dv 2) AG)) (AA (AL (dv 3)) AO))))))
 (AF (Bb (A1 De HN (dv 4) A_ (Ar _)) (AM (AY Az)) A4)
 (AM (AY (UB (CY (AJ G_is_within (hr.mono (by decide)) rfl (AA (AL (dv 4)) (AA (AL (dv 1)) (AA (AL (AX AS An (dv 2) AG)) AO))))) A_ Az)))))) (λss n Pd hl hw=>Ig hw)
theorem sc_lets_ways:AU ["net","times","thin","paper","number","tie","fault"] ["net","times","thin","paper"] (AN D7):=by constructor <;> first | rfl | decide +kernel
theorem LU{f:Addr}{fd:FuncData}(T:Txt K mg)(G_is_thin:Kz P w K mg base)(G_is_tuple_of:C9 P w K mg base)(G_left_out:Cc P w K mg base)(G_way_fault:HQ P w K mg base)(F:Fun K "lets_ways" "lets_ways" D7 f fd):A0 P w K mg base Br 6 f fd ["net","times","thin","paper"] (Ci K .sh Ds 4):=by
 exact Eo F sc_lets_ways (by decide) (λcdv A outer s H E hr=>(AF (Bb (DTW.dt (E8 (C5 (CY (AJ G_is_thin (hr.mono (by decide)) rfl (AA (AL (dv 0)) (AA (AL (dv 2)) AO))))) (ES (C5 (CY (AJ G_is_tuple_of (hr.mono (by decide)) rfl (AA (AL (Ak A7 Dx rfl T.n_len PySem.boot_len (AR (AJ G_left_out (hr.mono (by decide)) rfl (AA (AL (dv 0)) (AA (AL (dv 2)) AO))) AZ))) (AA (AL (dv 3)) AO)))))))) (AM NX) A4)
 (AF (C6 bd rfl (Pz rfl T.n_enumerate (AJ G_left_out (hr.mono (by decide)) rfl (AA (AL (dv 0)) (AA (AL (dv 2)) AO)))) (G6 rfl (BQ (Au (i:=4) sc_lets_ways.nd rfl (bC rfl)) (BQ (Au (i:=5) sc_lets_ways.nd rfl (bC rfl)) Er))) (AF (Ah (i:=6) sc_lets_ways.nd rfl (bC rfl) (AJ G_way_fault (hr.mono (by decide)) rfl (AA (AL (dv 2)) (AA (AL (dv 1)) (AA (AL (dv 5)) (AA (AL (AX AS An (dv 3) (dv 4))) AO))))))
 (AM (Bb (A1 F1 O3 (dv 6) A_ (Ar _)) (AM NX) A4))))
 (AM (AY Du))))) (λss n Pd hl hw=>Ii hw)
theorem sc__law_names:AU ["_law_names_here"] [] (AN Dc):=by constructor <;> first | rfl | decide +kernel
theorem Jv{f:Addr}{fd:FuncData}(T:Txt K mg)(F:Fun K "_law_names" "_law_names" Dc f fd):A0 P w K mg base Br 1 f fd [] (Ci K .sh IF 0):=by
 exact Eo F sc__law_names (by decide) (λcdv A outer s H E hr=>(AF (Ah (i:=0) sc__law_names.nd rfl (bC rfl) (CZ (AD Az (AD Az (AD Az (AD Az (AD Az (AD Az (AD Az (AD Az (AD Az (AD Az (AD Az (AD Az (AD Az (AD Az (AD Az (AD Az (AD Az Ab)))))))))))))))))))
 (AM (AY (BC B5 C8 (dv 0) (CZ (AD Az (AD Az (AD Az (AD Az (AD Az (AD Az (AD Az (AD Az (AD Az Ab))))))))))))))) (λss n Pd hl hw=>Jo hw)
theorem sc__law_places:AU ["_law_feed_here","_law_many","_law_names_here","_law_at","_law_step"] ["_law_feed_here","_law_many"] (AN C0):=by constructor <;> first | rfl | decide +kernel
theorem Iw{f:Addr}{fd:FuncData}(T:Txt K mg)(G__law_names:Ga P w K mg base)(G__law_next:BY P w K mg base)(F:Fun K "_law_places" "_law_places" C0 f fd):A0 P w K mg base Br 2 f fd ["_law_feed_here","_law_many"] (Ci K .sh Gg 2):=by
 exact Eo F sc__law_places (by decide) (λcdv A outer s H E hr=>(AF (Ah (i:=2) sc__law_places.nd rfl (dU rfl) (RO G__law_names (hr.mono (by decide)) rfl))
 (AF (Ah (i:=3) sc__law_places.nd rfl (dU rfl) (AJ G__law_next (hr.mono (by decide)) rfl (AA (Bq 0) (AA (AL AG) AO))))
 (AF (Ah (i:=4) sc__law_places.nd rfl (dU rfl) (AX AS An (CZ (AD AG (AD AG (AD AG (AD AG Ab))))) (AJ G__law_next (hr.mono (by decide)) rfl (AA (Bq 0) (AA (AL AG) AO)))))
 (AM (AY (CN BU DP rfl T.n_tuple fV (AR (Ak Ox V5 rfl T.n_sorted iT (AR (Cr rfl [("_law_names_here" : Str),("_law_at" : Str),("_law_step" : Str),("_law_k" : Str)] [some 2,some 3,some 4,none] (DI.c (DM rfl T.n_range (AR (dv 1) AZ))) (λ_ _ _ _ _=>(Au (i:=3) (show dD [("_law_names_here" : Str),("_law_at" : Str),("_law_step" : Str),("_law_k" : Str)] by decide +kernel) rfl (bC rfl))) (λ_ _ _ _ _=>Cp) (λ_ _ _ _ _=>(AX AS An (dv 0) (BC C3 Fi (BC B5 C8 (dv 1) (BC CI Dq (dv 2) (dv 3))) AG))) (by kernel_rfl)) AZ)) AZ)))))))) (λss n Pd hl hw=>Ij hw)
theorem IY:AU ["_law_feed_here","_law_sort"] ["_law_feed_here","_law_sort"] (AN C1):=by constructor <;> first | rfl | decide +kernel
theorem Iy{f:Addr}{fd:FuncData}(T:Txt K mg)(G__law_next:BY P w K mg base)(F:Fun K "_law_length" "_law_length" C1 f fd):A0 P w K mg base Br 2 f fd ["_law_feed_here","_law_sort"] (Ci K .sh QJ 2):=by
 exact Eo F IY (by decide) (λcdv A outer s H E hr=>(AF (Bb (A1 S9 YK (dv 1) AG (Ar _)) (AM (AY (BC Hx L6 (BC OR Fi AG AG) (AJ G__law_next (hr.mono (by decide)) rfl (AA (Bq 0) (AA (AL AG) AO)))))) A4)
 (AM (AY (BC B5 C8 AG (AJ G__law_next (hr.mono (by decide)) rfl (AA (Bq 0) (AA (AL (AX AS An (CZ (AD AG (AD AG (AD AG Ab)))) (dv 1))) AO)))))))) (λss n Pd hl hw=>Ik hw)
theorem sc__law_ties:AU ["_law_feed_here","_law_places_here","_law_most","_law_found","_law_sort","_law_k","_law_a","_law_b"] ["_law_feed_here","_law_places_here","_law_most"] (AN EB):=by constructor <;> first | rfl | decide +kernel
theorem LZ{f:Addr}{fd:FuncData}(T:Txt K mg)(G__law_length:FH P w K mg base)(G__law_next:BY P w K mg base)(F:Fun K "_law_ties" "_law_ties" EB f fd):A0 P w K mg base Br 3 f fd ["_law_feed_here","_law_places_here","_law_most"] (Ci K .sh L_ 3):=by
 exact Eo F sc__law_ties (by decide) (λcdv A outer s H E hr=>(AF (Dl (i:=3) sc__law_ties.nd rfl (dU rfl) UD)
 (AF (Ah (i:=4) sc__law_ties.nd rfl (bC rfl) (AJ G__law_next (hr.mono (by decide)) rfl (AA (Bq 0) (AA (AL AG) AO))))
 (AF (C6 bd rfl (DM rfl T.n_range (AR (AJ G__law_next (hr.mono (by decide)) rfl (AA (Bq 0) (AA (AL (BC B5 C8 (dv 2) AG)) AO))) AZ)) (Au (i:=5) sc__law_ties.nd rfl (bC rfl)) (AM (Bb (A1 S8 Wn (Ak A7 Dx rfl T.n_len PySem.boot_len (AR (dv 1) AZ)) AG (Ar _)) (AF (Ah (i:=6) sc__law_ties.nd rfl (bC rfl) (AJ G__law_next (hr.mono (by decide)) rfl (AA (Bq 0) (AA (AL (Ak A7 Dx rfl T.n_len PySem.boot_len (AR (dv 1) AZ))) AO))))
 (AF (Ah (i:=7) sc__law_ties.nd rfl (bC rfl) (BC C3 Fi (BC B5 C8 (BC B5 C8 (dv 6) AG) (AJ G__law_next (hr.mono (by decide)) rfl (AA (Bq 0) (AA (AL (BC Hx L6 (Ak A7 Dx rfl T.n_len PySem.boot_len (AR (dv 1) AZ)) AG)) AO)))) (Ak A7 Dx rfl T.n_len PySem.boot_len (AR (dv 1) AZ))))
 (AM (Vn (i:=3) hr (pv 3) (BH (AD (AX AS An (dv 1) (Ak (Kj rfl) UR rfl T.n_min boot_min (AR (dv 6) (AR (dv 7) AZ)))) (AD (AX AS An (dv 1) (Ak (Kk rfl) US rfl T.n_max boot_max (AR (dv 6) (AR (dv 7) AZ)))) Ab))) (AJ G__law_length (hr.mono (by decide)) rfl (AA (Bq 0) (AA (AL (AX AS An (CZ (AD (dv 4) (AD (BC C3 Fi (dv 5) AG) Ab))) (BC Hy Fi (dv 4) AG))) AO))))))) A4)))
 (AM (AY (CN BU DP rfl T.n_tuple fV (AR (Cr rfl [("_law_found" : Str),("_law_pair" : Str)] [some 3,none] (Ep (Ak (Ov rfl) V3 rfl T.n_sorted iT (AR (Nx 3) AZ))) (λ_ _ _ _ _=>(Au (i:=1) (show dD [("_law_found" : Str),("_law_pair" : Str)] by decide +kernel) rfl (bC rfl))) (λ_ _ _ _ _=>Cp) (λ_ _ _ _ _=>(BC B5 C8 (dv 1) (BH (AD (Lv hr (Nx 0) (dv 1)) Ab)))) (by kernel_rfl)) AZ)))))))) (λss n Pd hl hw=>LG hw)
theorem sc__law_net:AU ["_law_feed_here","_law_most","_law_ties_here","_law_places_here"] ["_law_feed_here","_law_most","_law_ties_here"] (AN FU):=by constructor <;> first | rfl | decide +kernel
theorem M9{f:Addr}{fd:FuncData}(T:Txt K mg)(G__law_next:BY P w K mg base)(G__law_places:FG P w K mg base)(G__law_ties:HW P w K mg base)(F:Fun K "_law_net" "_law_net" FU f fd):A0 P w K mg base Br 4 f fd ["_law_feed_here","_law_most","_law_ties_here"] (Ci K .sh QH 3):=by
 exact Eo F sc__law_net (by decide) (λcdv A outer s H E hr=>(AF (Ah (i:=3) sc__law_net.nd rfl (bC rfl) (AJ G__law_places (hr.mono (by decide)) rfl (AA (Bq 0) (AA (AL (AJ G__law_next (hr.mono (by decide)) rfl (AA (Bq 0) (AA (AL (BC B5 C8 (dv 1) AG)) AO)))) AO))))
 (AM (AY (BH (AD (dv 3) (AD (AJ G__law_ties (hr.mono (by decide)) rfl (AA (Bq 0) (AA (AL (dv 3)) (AA (AL (dv 2)) AO)))) Ab))))))) (λss n Pd hl hw=>Mg hw)
theorem az(n:Nat):-2 ^ 62<=(n:Int):=by omega
theorem ay{n:Nat}(h:n<=1000):(n:Int)<2 ^ 62:=by omega
theorem sc__law_far:AU ["_law_places_here","_law_ties_here","_law_many","_law_spans","_law_k","_law_a","_law_b","_law_length_here","_law_mid","_law_by"] ["_law_places_here","_law_ties_here"] (AN FV):=by constructor <;> first | rfl | decide +kernel
theorem M_{f:Addr}{fd:FuncData}(T:Txt K mg)(F:Fun K "_law_far" "_law_far" FV f fd):A0 P w K mg base Br 1 f fd ["_law_places_here","_law_ties_here"] (Ci K .sh QL 2):=by
 refine F.ok (k:=0) sc__law_far (λvs H Q E h=>h.1) (λcdv A outer s H vs Q E hr h=>?_)
 obtain⟨hl,F0,U,V',M,n,ss,Pd,ra,⟨N,dt,rfl,hdt,ok,lp,p⟩,q⟩:=h
 obtain⟨dom,fU,uV,vM,fd0,pa⟩:=ra
 cases pa with
 | cons r1 pa =>
 cases pa with
 | cons r2 pa =>
 cases pa
 obtain⟨v,e1,h1⟩:=r1.1
 cases e1
 obtain⟨v2,e2,h2⟩:=r2.1
 cases e2
 rename_i v2
 obtain⟨ap,us,rfl,hpn,hps⟩:=h1
 have nd:=sc__law_far.nd
 have szl:=PySem.sizeLine_eq
 refine⟨_,Ao (C2 (i:=2) nd rfl (dU rfl) (EM A7 rfl T.n_len boot_len (Av (pv 0) A9)))
  (Ao (PP (i:=3) rfl [("_law_many" : Str),("_law_k" : Str)] [some 2,none] (CL rfl T.n_range (Av (pv 2) A9)) (by kernel_rfl) nd rfl (bC rfl) rfl)
  (Ao (EL bd rfl (CL rfl T.n_range (Av (pv 2) A9)) (BZ (i:=4) nd rfl (bC rfl)) (BE (FW Ap (FX (BD ix_list (pv 3) (pv 4) (λ_ _=>rfl)) (pv 4) set_list))))
  (Ao (EL bd rfl (OO (pv 1)) (OP rfl (CS (BZ (i:=5) nd rfl (bC rfl)) (CS (BZ (i:=6) nd rfl (bC rfl)) (CS (BZ (i:=7) nd rfl (bC rfl)) LL))))
   (Ao (FW (pv 7) (FX (BD ix_list (pv 3) (LO PySem.F.slot_tuple_index PySem.F.type_tuple_index (Le hr) (pv 0) (Av (pv 5) A9)) (λ_ _=>rfl)) (LO PySem.F.slot_tuple_index PySem.F.type_tuple_index (Le hr) (pv 0) (Av (pv 6) A9)) set_list))
   (BE (FW (pv 7) (FX (BD ix_list (pv 3) (LO PySem.F.slot_tuple_index PySem.F.type_tuple_index (Le hr) (pv 0) (Av (pv 6) A9)) (λ_ _=>rfl)) (LO PySem.F.slot_tuple_index PySem.F.type_tuple_index (Le hr) (pv 0) (Av (pv 5) A9)) set_list)))))
  (Ao (EL bd rfl (CL rfl T.n_range (Av (pv 2) A9)) (BZ (i:=8) nd rfl (bC rfl)) (BE
   (EL bd rfl (CL rfl T.n_range (Av (pv 2) A9)) (BZ (i:=5) nd rfl (bC rfl)) (BE
   (EL bd rfl (CL rfl T.n_range (Av (pv 2) A9)) (BZ (i:=6) nd rfl (bC rfl)) (BE
    (Mm (OK (CH F1 (BD ix_list (BD ix_list (pv 3) (pv 5) (λ_ _=>rfl)) (pv 8) (λ_ _=>rfl)) Iq rfl) (LK (CH F1 (BD ix_list (BD ix_list (pv 3) (pv 8) (λ_ _=>rfl)) (pv 6) (λ_ _=>rfl)) Iq rfl))).pt
     (Ao (C2 (i:=9) nd rfl (bC rfl) (BO op_add (BD ix_list (BD ix_list (pv 3) (pv 5) (λ_ _=>rfl)) (pv 8) (λ_ _=>rfl)) (BD ix_list (BD ix_list (pv 3) (pv 8) (λ_ _=>rfl)) (pv 6) (λ_ _=>rfl))))
     (BE (Mm (WV (CH De (BD ix_list (BD ix_list (pv 3) (pv 5) (λ_ _=>rfl)) (pv 6) (λ_ _=>rfl)) Iq rfl) (Sh (CH op_lt (pv 9) (BD ix_list (BD ix_list (pv 3) (pv 5) (λ_ _=>rfl)) (pv 6) (λ_ _=>rfl)) rfl))).pt
      (BE (FW (pv 9) (FX (BD ix_list (pv 3) (pv 5) (λ_ _=>rfl)) (pv 6) set_list))) Fy))) Fy)))))))
  (BE (EK (pv 3))))))),?_⟩
 cases (PH hps)
 have hpn:H ap=some (.tup (N.ps.map .str)):=hpn
 have hln:N.ps.length=(N.ps.map V.str).length:=(FM ..).symm
 refine⟨_,rfl,_,N.ps.length,rfl,.inr ⟨_,SqT.of hpn,hln⟩,?_⟩
 have b1:-2 ^ 62<=(N.ps.length:Int):=az _
 have b2:(N.ps.length:Int)<2 ^ 62:=ay lp
 refine⟨_,rfl,_,rfl,b1,b2,λl hl' hk cl C s' H0 fp=>⟨_,_,_,λi m σ' H'=>i<=N.ps.length/\m=N.ps.length - i/\∃(as:List Addr) (x:Option V),as.length=i/\as.Nodup/\σ'=[some (.int N.ps.length),x]/\Mat H l as N.ps.length (λ_ _=>none) H',
  BZ (i:=1) (show dD [("_law_many" : Str),("_law_k" : Str)] by decide +kernel) rfl (bC rfl),PU,BO XY (LP (Av Iq A9)) (pv 0),⟨N.ps.length,?_⟩,?_⟩⟩
 ·exact⟨bH _,rfl,[],_,rfl,bj,rfl,λb o e=>by rw [AK (Ac e hl')]; exact e,hl',AT,λi a h=>by cases h⟩
 rintro i m σ' H' ⟨hi,rfl,as,x,hal,hnd,rfl,st⟩
 rw [cJ]
 by_cases hlt:i<N.ps.length
 ·refine .inr ⟨hlt,λy H2 ⟨e1,e2⟩=>?_⟩
  subst e1 e2
  have nl:∀b,H2 b=none->l≠b:=λb e z=>by rw [← z,st.top] at e; cases e
  refine⟨by show 1<=sizeLine; omega,λp' hp=>⟨_,rfl,p',N.ps.length,[.non],rfl,rfl,AT,by omega,by omega,by show 1*_<=_; rw [cJ]; omega,λr hr'=>⟨as.map .ref,?_,?_,N.ps.length - (i+1),by omega,by omega,rfl,as++[r],_,?_,?_,rfl,st.more hp hr' ?_⟩⟩⟩
  ·have nr:l≠r:=λz=>by rw [← z,AK (nl p' hp),st.top] at hr'; cases hr'
   rw [AK nr,AK (nl p' hp)]
   exact st.top
  ·rw [FM]; omega
  ·rw [bD,bW,hal]
  ·have hn:H2 r=none:=by
    have:r≠p':=λz=>by rw [z,AT] at hr'; cases hr'
    rwa [AK this] at hr'
   rw [cR]
   refine⟨hnd,bQ.mpr ⟨bJ,bj⟩,λa ha b hb e=>?_⟩
   rw [On.mp hb] at e
   rw [e] at ha
   exact st.fresh hn ha
  ·rw [cJ,List.flatten_replicate_singleton]
   unfold Fv
   show (bU N.ps.length).map (λ_=>V.non)=_
   rw [List.map_const',dH]
 ·have e:i=N.ps.length:=by omega
  refine .inl ⟨show N.ps.length<=i by omega,?_⟩
  rw [e] at hal
  clear hlt e hi
  obtain⟨at_,ws,rfl,hts,hJ⟩:∃(at_:Addr) (ws:List V),v2=.ref at_/\Ats K M H (N.ts.map Aj) ws/\(H at_=some (.lst ws)\/H at_=some (.tup ws)):=by
   rcases hdt with rfl | rfl
   ·obtain⟨a,us,rfl,⟨_,h⟩,hs⟩:=h2
    exact⟨a,us,rfl,hs,.inl h⟩
   ·obtain⟨a,us,rfl,h,hs⟩:=h2
    exact⟨a,us,rfl,hs,.inr h⟩
  have lws:ws.length=N.ts.length:=by rw [hts.length,FM]
  refine⟨_,rfl,_,rfl,b1,b2,?_⟩
  refine En (lo:=0) (n:=N.ps.length) (λk σ H'=>∃(x4 x5 x6 x7 x8 x9:Option V) (g:Mx),σ=[some (.ref ap),some (.ref at_),some (.int N.ps.length),some (.ref l),x4,x5,x6,x7,x8,x9]/\Mat H l as N.ps.length g H'/\Dg N k g) ⟨_,_,_,_,_,_,_,rfl,st,Dg.zero⟩ ?_ ?_
  ·rintro k σ H' hk ⟨x4,x5,x6,x7,x8,x9,g,rfl,st,dg⟩
   refine st.wr hal hnd hk hk (λQ q=>st.row hal hk rfl (λQ q=>⟨_,rfl,?_⟩) q) (λQ q=>⟨_,rfl,?_⟩) λH3 st3=>⟨_,_,_,_,_,_,_,rfl,st3,dg.succ hk⟩
   ·rw [cK]; exact q
   ·rw [cK]; exact q
  rintro σ H' ⟨x4,x5,x6,x7,x8,x9,g,rfl,st,dg⟩
  obtain⟨J,hJ⟩:∃J:It,(J=Ub K at_/\∀H':Hp,(∀b o,H b=some o->H' b=some o)->SqL K H' at_ ws)\/(J=Rj K at_/\∀H':Hp,(∀b o,H b=some o->H' b=some o)->SqT K H' at_ ws):=by
   rcases hJ with h | h
   ·exact⟨_,.inl ⟨rfl,λH' o=>SqL.of (o _ _ h)⟩⟩
   ·exact⟨_,.inr ⟨rfl,λH' o=>SqT.of (o _ _ h)⟩⟩
  unfold N6
  dsimp only
  refine SE (i:=1) (J:=J) (xs:=ws) rfl (λi σ H'=>∃(x4 x5 x6 x7 x8 x9:Option V) (g:Mx),σ=[some (.ref ap),some (.ref at_),some (.int N.ps.length),some (.ref l),x4,x5,x6,x7,x8,x9]/\Mat H l as N.ps.length g H'/\Tm N (N.ts.take i) g) ⟨_,_,_,_,_,_,_,rfl,st,dg.tm⟩
   (hJ.imp (λh=>⟨h.1,λi σ H' z=>h.2 _ (by obtain⟨_,_,_,_,_,_,_,_,st,_⟩:=z; exact st.old)⟩) λh=>⟨h.1,λi σ H' z=>h.2 _ (by obtain⟨_,_,_,_,_,_,_,_,st,_⟩:=z; exact st.old)⟩) ?_ ?_
  ·rintro i x σ H' hx ⟨x4,x5,x6,x7,x8,x9,g,rfl,st,tm⟩
   have hi:i<N.ts.length:=by rw [← lws]; exact(TW.mp hx).1
   obtain⟨x',hx',hAt⟩:=hts.get (i:=i) (d:=Aj N.ts[i]) (by rw [T0,Db hi]; rfl)
   rw [hx] at hx'
   cases hx'
   have hmem:N.ts[i]∈N.ts:=bv hi
   have hsnoc:N.ts.take (i+1)=N.ts.take i++[N.ts[i]]:=by rw [ii,Db hi]; rfl
   have hpre:(N.ts.take (i+1)).Pairwise BG:=ok.trise.sublist (gk _ _)
   rw [hsnoc] at hpre
   have hin:∀s∈N.ts.take i,s∈N.ts:=λs hs=>gF hs
   generalize N.ts[i]=t at hAt hmem hsnoc hpre
   obtain⟨m1,m2,m3,_⟩:=ok.tin t hmem
   obtain⟨ia,ha,la⟩:=TV m1
   obtain⟨ib,hb,lb⟩:=TV m2
   obtain⟨tt,us3,rfl,htt,hit⟩:=hAt
   obtain⟨va,r3,rfl,⟨rfl,_⟩,vb,r4,rfl,⟨rfl,_⟩,vl,r5,rfl,rfl,e5⟩:=hit
   cases (show r5=[] from e5)
   refine⟨tt,_,rfl,SqT.of (st.old _ _ htt),rfl,_,_,rfl,_,_,rfl,_,_,rfl,rfl,?_⟩
   refine⟨_,rfl,st.wr hal hnd la lb (λQ q=>st.row hal la rfl (PB ok (st.old _ _ hpn) rfl rfl ha) q) (PB ok (st.old _ _ hpn) rfl rfl hb) λH3 st3=>?_⟩
   refine⟨_,rfl,st3.wr hal hnd lb la (λQ q=>st3.row hal lb rfl (PB ok (st3.old _ _ hpn) rfl rfl hb) q) (PB ok (st3.old _ _ hpn) rfl rfl ha) λH4 st4=>?_⟩
   refine⟨_,_,_,_,_,_,_,rfl,st4,?_⟩
   rw [hsnoc]
   exact tm.put ok hmem hpre hin ha hb
  rintro σ H' ⟨x4,x5,x6,x7,x8,x9,g,rfl,st,tm⟩
  rw [lws,dO] at tm
  refine⟨_,rfl,_,rfl,b1,b2,?_⟩
  refine En (lo:=0) (n:=N.ps.length) (λm σ H'=>∃(x4 x5 x6 x7 x8 x9:Option V) (g:Mx),σ=[some (.ref ap),some (.ref at_),some (.int N.ps.length),some (.ref l),x4,x5,x6,x7,x8,x9]/\Mat H l as N.ps.length g H'/\Fm (EI N) (AI N) N.ps.length m g) ⟨_,_,_,_,_,_,_,rfl,st,tm.fm ok⟩ ?_ ?_
  ·rintro m σ H' hm ⟨x4,x5,x6,x7,x8,x9,g0,rfl,st,fm⟩
   refine⟨_,rfl,_,rfl,b1,b2,?_⟩
   refine En (lo:=0) (n:=N.ps.length) (λa σ H'=>∃(x5 x6 x9:Option V) (g:Mx),σ=[some (.ref ap),some (.ref at_),some (.int N.ps.length),some (.ref l),x4,x5,x6,x7,some (.int (0+(m:Int))),x9]/\Mat H l as N.ps.length g H'/\Rm (AI N) N.ps.length m g0 a 0 g) ⟨_,_,_,_,rfl,st,fm.start⟩ ?_ ?_
   ·rintro a σ H' ha ⟨x5,x6,x9,g,rfl,st,rm⟩
    refine⟨_,rfl,_,rfl,b1,b2,?_⟩
    refine En (lo:=0) (n:=N.ps.length) (λb σ H'=>∃(x6 x9:Option V) (g:Mx),σ=[some (.ref ap),some (.ref at_),some (.int N.ps.length),some (.ref l),x4,some (.int (0+(a:Int))),x6,x7,some (.int (0+(m:Int))),x9]/\Mat H l as N.ps.length g H'/\Rm (AI N) N.ps.length m g0 a b g) ⟨_,_,_,rfl,st,rm⟩ ?_ ?_
    ·rintro b σ H' hb ⟨x6,x9,g,rfl,st,rm⟩
     have z:=λk:Nat=>cK (k:Int)
     rcases c1:g a m with _ | x
     ·refine st.rd2 hal ha hm rfl rfl (z _) rfl (z _) c1 ⟨rfl,_,rfl,Cg (λc=>absurd c (by simp [ov])) λ_=>Cg (λc=>absurd c (by decide)) λ_=>⟨_,_,_,rfl,st,rm.skip λd1 d2 e1 e2=>?_⟩⟩
      rw [c1] at e1; cases e1
     refine st.rd2 hal ha hm rfl rfl (z _) rfl (z _) c1 ⟨rfl,_,rfl,Cg (λ_=>?_) λc=>absurd (show (!decide (ov (some x)=V.non))=true by simp [ov]) c⟩
     rcases c2:g m b with _ | y
     ·refine st.rd2 hal hm hb rfl rfl (z _) rfl (z _) c2 ⟨rfl,_,rfl,Cg (λc=>absurd c (by simp [ov])) λ_=>⟨_,_,_,rfl,st,rm.skip λd1 d2 e1 e2=>?_⟩⟩
      rw [c2] at e2; cases e2
     refine st.rd2 hal hm hb rfl rfl (z _) rfl (z _) c2 ⟨rfl,_,rfl,Cg (λ_=>?_) λc=>absurd (show (!decide (ov (some y)=V.non))=true by simp [ov]) c⟩
     refine st.rd2 hal ha hm rfl rfl (z _) rfl (z _) c1 (st.rd2 hal hm hb rfl rfl (z _) rfl (z _) c2 ⟨x,y,rfl,rfl,?_⟩)
     rcases c3:g a b with _ | u
     ·refine st.rd2 hal ha hb rfl rfl (z _) rfl (z _) c3 ⟨rfl,_,rfl,Cg (λ_=>Cg (λ_=>?_) λc=>absurd rfl c) λc=>absurd (show decide (ov none=V.non)=true by simp [ov]) c⟩
      refine⟨_,rfl,st.wr hal hnd ha hb (λQ q=>st.row hal ha rfl (λQ q=>⟨_,rfl,by rw [cK]; exact q⟩) q) (λQ q=>⟨_,rfl,by rw [cK]; exact q⟩) λH3 st3=>⟨_,_,_,rfl,st3,rm.put AI.trans c1 c2 λv e=>?_⟩⟩
      rw [c3] at e; cases e
     refine st.rd2 hal ha hb rfl rfl (z _) rfl (z _) c3 ⟨rfl,_,rfl,Cg (λc=>absurd c (by simp [ov])) λ_=>?_⟩
     refine⟨_,rfl,st.rd2 hal ha hb rfl rfl (z _) rfl (z _) c3 ⟨x+y,u,rfl,rfl,_,rfl,Cg (λc=>?_) λc=>?_⟩⟩
     ·have c:=of_decide_eq_true c
      refine⟨_,rfl,st.wr hal hnd ha hb (λQ q=>st.row hal ha rfl (λQ q=>⟨_,rfl,by rw [cK]; exact q⟩) q) (λQ q=>⟨_,rfl,by rw [cK]; exact q⟩) λH3 st3=>⟨_,_,_,rfl,st3,rm.put AI.trans c1 c2 λv e=>?_⟩⟩
      rw [c3] at e; cases e; omega
     ·have c:¬x+y<u:=λz=>c (decide_eq_true z)
      refine⟨_,_,_,rfl,st,rm.skip λd1 d2 e1 e2=>⟨u,c3,?_⟩⟩
      rw [c1] at e1; rw [c2] at e2; cases e1; cases e2; omega
    ·rintro σ H' ⟨x6,x9,g,rfl,st,rm⟩
     exact⟨_,_,_,_,rfl,st,rm.next⟩
   ·rintro σ H' ⟨x5,x6,x9,g,rfl,st,rm⟩
    exact⟨_,_,_,_,_,_,_,rfl,st,rm.done (EI.pos ok) hm fm⟩
  rintro σ H' ⟨x4,x5,x6,x7,x8,x9,g,rfl,st,fm⟩
  refine⟨_,rfl,q (.ref l) H' (Hg N.ps (ofM N.ps g)) n (λb o e=>⟨o,st.old b o e,λ_=>rfl,λ_ _=>rfl⟩) (λg' hg=>?_) (show At K M H' (Hg N.ps (ofM N.ps g)) (.ref l) from st.at_ dom hal (Dd ok.rise)) (p _ (fm.far ok))⟩
  obtain⟨a,r,cells,hf,hcf,hc,rest⟩:=fd0 g' hg
  exact⟨a,r,cells,st.old _ _ hf,hcf,⟨hc.1,st.old _ _ hc.2⟩,rest⟩
theorem FN:AU ["_law_feed_here"] ["_law_feed_here"] (AN Bi):=by constructor <;> first | rfl | decide +kernel
theorem FZ{f:Addr}{fd:FuncData}(T:Txt K mg)(G__law_next:BY P w K mg base)(F:Fun K "_law_some_times" "_law_some_times" Bi f fd):A0 P w K mg base Br 2 f fd ["_law_feed_here"] (Ci K .sh Eb 1):=by
 exact Eo F FN (by decide) (λcdv A outer s H E hr=>(AM (AY (AX AS An (CZ (AD (BH (AD AG (AD AG Ab))) (AD (BH (AD AG (AD AG Ab))) (AD (BH (AD AG (AD AG Ab))) (AD (BH (AD AG (AD AG Ab))) (AD (BH (AD AG (AD AG Ab))) (AD (BH (AD AG (AD AG Ab))) (AD (BH (AD AG (AD AG Ab))) (AD (BH (AD AG (AD AG Ab))) Ab))))))))) (AJ G__law_next (hr.mono (by decide)) rfl (AA (Bq 0) (AA (AL AG) AO))))))) (λss n Pd hl hw=>Ew hw)
theorem sc__law_all_within:AU ["_law_net_here","_law_thin","_law_times","_law_spans","_law_by","_law_a","_law_b"] ["_law_net_here","_law_thin","_law_times"] (AN Bj):=by constructor <;> first | rfl | decide +kernel
theorem Fa{f:Addr}{fd:FuncData}(T:Txt K mg)(G__law_far:Je P w K mg base)(F:Fun K "_law_all_within" "_law_all_within" Bj f fd):A0 P w K mg base Br 2 f fd ["_law_net_here","_law_thin","_law_times"] (Ci K .sh QM 3):=by
 exact Eo F sc__law_all_within (by decide) (λcdv A outer s H E hr=>(AF (Ah (i:=3) sc__law_all_within.nd rfl (bC rfl) (AJ G__law_far (hr.mono (by decide)) rfl (AA (AL (AX AS An (dv 0) AG)) (AA (AL (AX AS An (dv 0) AG)) AO))))
 (AF (Ah (i:=4) sc__law_all_within.nd rfl (bC rfl) (AJ G__law_far (hr.mono (by decide)) rfl (AA (AL (AX AS An (dv 0) AG)) (AA (AL (AX AS An (dv 1) AG)) AO))))
 (AF (C6 bd rfl (DM rfl T.n_range (AR (Ak A7 Dx rfl T.n_len PySem.boot_len (AR (AX AS An (dv 0) AG) AZ)) AZ)) (Au (i:=5) sc__law_all_within.nd rfl (bC rfl)) (AM (C6 bd rfl (DM rfl T.n_range (AR (Ak A7 Dx rfl T.n_len PySem.boot_len (AR (AX AS An (dv 0) AG) AZ)) AZ)) (Au (i:=6) sc__law_all_within.nd rfl (bC rfl)) (AF (Bb (A1 Mv UQ (Dn De HN (AX AS An (AX AS An (dv 3) (dv 5)) (dv 6)) A_ (Ar _)) (Dn De HN (AX AS An (AX AS An (dv 4) (dv 5)) (dv 6)) A_ (Ar _)) (Ar _)) (AM (AY Du)) A4)
 (AM (Bb (DTW.dt (X3 (A1 F1 O3 (AX AS An (AX AS An (dv 3) (dv 5)) (dv 6)) A_ (Ar _)) (Vj (A1 S8 Wn (BC CI Dq (AX AS An (AX AS An (dv 4) (dv 5)) (dv 6)) (AX AS An (dv 2) AG)) (BC CI Dq (AX AS An (AX AS An (dv 3) (dv 5)) (dv 6)) (AX AS An (dv 2) AG)) (Ar _))))) (AM (AY Du)) A4))))))
 (AM (AY Du)))))) (λss n Pd hl hw=>Ex hw)
theorem sc__law_lets:AU ["_law_net_here","_law_times","_law_thin","_law_paper","_law_told"] ["_law_net_here","_law_times","_law_thin","_law_paper"] (AN EC):=by constructor <;> first | rfl | decide +kernel
theorem La{f:Addr}{fd:FuncData}(T:Txt K mg)(G_lets_ways:HS P w K mg base)(F:Fun K "_law_lets" "_law_lets" EC f fd):A0 P w K mg base Br 7 f fd ["_law_net_here","_law_times","_law_thin","_law_paper"] (Ci K .sh Ds 4):=by
 exact Eo F sc__law_lets (by decide) (λcdv A outer s H E hr=>(AF (Ah (i:=4) sc__law_lets.nd rfl (bC rfl) Du)
 (AF (Vo (λ_ _ h=>h) (AM (Ah (i:=4) sc__law_lets.nd rfl (bC rfl) (Dn Xb Wm (AJ G_lets_ways (hr.mono (by decide)) rfl (AA (AL (dv 0)) (AA (AL (dv 1)) (AA (AL (dv 2)) (AA (AL (dv 3)) AO))))) Du (Ar _)))))
 (AM (AY (dv 4)))))) (λss n Pd hl hw=>Jp hw)
end
section
variable {P:Program}{w:World}{K:Frag}{mg:Str->Option Value}{base:Heap}
theorem LC:AU ["_law_script"] ["_law_script"] (AN ED):=by constructor <;> first | rfl | decide +kernel
theorem Lb{f:Addr}{fd:FuncData}(T:Txt K mg)(F:Fun K "_law_feed" "_law_feed" ED f fd):A0 P w K mg base Br 1 f fd ["_law_script"] (K7 K):=by
 refine F.ok LC (λvs H Q E h=>?_) (λcdv A outer s H vs Q E hr h=>?_)
 ·obtain⟨a,ns,rfl,_⟩:=h
  rfl
 ·obtain⟨a,ns,rfl,⟨hl,hS⟩,q⟩:=h
  refine⟨_,BE (EK (LP (Av (KQ L3 rfl T.n_list boot_list (Av (Mo sl_list (pv 0) PR (PQ Ap)) A9)) (Av Ap (Av Ap A9))))),?_⟩
  refine⟨_,rfl,63,rfl,a,_,rfl,hS,λp hp=>⟨p,_,rfl,.inl (SqL.of AT),λc hc=>⟨by show 3<=sizeLine; decide,λg hg=>?_⟩⟩⟩
  rw [ZT hl] at hg ⊢
  have ncg:c≠g:=λz=>by rw [← z,AT] at hg; cases hg
  exact q c g _ ncg (by rw [AK ncg,AT]) AT
theorem sc_law:AU ["_law_script","_law_feed_here","_law_turn","_law_net_here","_law_one","_law_other","_law_times","_law_thin","_law_thinner","_law_ways","_law_more","_law_paper","_law_looser"] ["_law_script"] (AN Ib):=by constructor <;> first | rfl | decide +kernel
theorem Xf{f ff:Addr}{fd fdf:FuncData}(T:Txt K mg)(Gf:A0 P w K mg base Br 1 ff fdf ["_law_script"] (K7 K))(mf:mg "_law_feed"=some (.ref ff))(kf:keepIn K (.ref ff)=true)(bf:Binds K fdf ["_law_script"] [])
  (G__law_all_within:Ct P w K mg base) (G__law_lets:HX P w K mg base) (G__law_net:Jd P w K mg base) (G__law_next:BY P w K mg base) (G__law_some_times:Cs P w K mg base) (G_composed:Jc P w K mg base) (G_is_no_stricter:DR P w K mg base) (G_product:Ky P w K mg base) (G_thinned:Kw P w K mg base) (G_ways_paper:GX P w K mg base) (F:Fun K "law" "law" Ib f fd):A0 P w K mg base Br 8 f fd ["_law_script"] (MZ K):=by
 exact ZJ (n0:=3000) F sc_law rfl (by decide) (λcdv A outer s H E hr=>C2 (i:=1) sc_law.nd rfl (bC rfl) (PV Gf (hr.mono (by decide)) rfl mf kf bf .nil Sz (Av (pv 0) A9)))
  (λcdv A outer s H E hr=>(AF (C6 bd rfl (DM rfl T.n_range (AR AG AZ)) (Au (i:=2) sc_law.nd rfl (bC rfl)) (AF (Ah (i:=3) sc_law.nd rfl (bC rfl) (AJ G__law_net (hr.mono (by decide)) rfl (AA (Bq 1) (AA (AL AG) (AA (AL AG) AO)))))
 (AF (Ah (i:=4) sc_law.nd rfl (bC rfl) (AJ G__law_some_times (hr.mono (by decide)) rfl (AA (Bq 1) AO)))
 (AF (Ah (i:=5) sc_law.nd rfl (bC rfl) (AJ G__law_some_times (hr.mono (by decide)) rfl (AA (Bq 1) AO)))
 (AF (Ah (i:=6) sc_law.nd rfl (bC rfl) (AJ G_product (hr.mono (by decide)) rfl (AA (AL (dv 4)) (AA (AL (dv 5)) AO))))
 (AF (Ah (i:=7) sc_law.nd rfl (bC rfl) (AJ G_thinned (hr.mono (by decide)) rfl (AA (AL (dv 3)) (AA (AL (dv 4)) AO))))
 (AF (Ah (i:=8) sc_law.nd rfl (bC rfl) (AJ G_thinned (hr.mono (by decide)) rfl (AA (AL (dv 7)) (AA (AL (dv 5)) AO))))
 (AF (Ah (i:=9) sc_law.nd rfl (bC rfl) (AJ G_ways_paper (hr.mono (by decide)) rfl (AA (AL (dv 3)) (AA (AL (dv 4)) (AA (AL (dv 7)) AO)))))
 (AF (Ah (i:=10) sc_law.nd rfl (bC rfl) (AJ G_ways_paper (hr.mono (by decide)) rfl (AA (AL (dv 7)) (AA (AL (dv 5)) (AA (AL (dv 8)) AO)))))
 (AF (Bb (DTW.dt (E8 (A1 De HN (dv 9) A_ (Ar _)) (E8 (A1 De HN (dv 10) A_ (Ar _)) (ES (C5 (CY (AJ G__law_all_within (hr.mono (by decide)) rfl (AA (AL (dv 3)) (AA (AL (dv 8)) (AA (AL (dv 6)) AO)))))))))) (AM (AY Du)) A4)
 (AF (Ah (i:=11) sc_law.nd rfl (bC rfl) (AJ G_composed (hr.mono (by decide)) rfl (AA (AL (dv 3)) (AA (AL (dv 7)) (AA (AL (dv 8)) (AA (AL (dv 9)) (AA (AL (dv 10)) AO)))))))
 (AF (Bb (DTW.dt (E8 (C5 (CY (AJ G__law_lets (hr.mono (by decide)) rfl (AA (AL (dv 3)) (AA (AL (dv 6)) (AA (AL (dv 8)) (AA (AL (dv 11)) AO))))))) (ES (A1 Mv UQ (Ak A7 Dx rfl T.n_len PySem.boot_len (AR (dv 11) AZ)) (BC Hx L6 (Ak A7 Dx rfl T.n_len PySem.boot_len (AR (AX AS An (dv 3) AG) AZ)) (Ak A7 Dx rfl T.n_len PySem.boot_len (AR (AX AS An (dv 8) AG) AZ))) (Ar _))))) (AM (AY Du)) A4)
 (AF (Ah (i:=12) sc_law.nd rfl (bC rfl) (BH (AD (Ak (Kj rfl) UR rfl T.n_min boot_min (AR (BC OR Fi AG AG) (AR (BC B5 C8 (AX AS An (dv 6) AG) (AJ G__law_next (hr.mono (by decide)) rfl (AA (Bq 1) (AA (AL AG) AO)))) AZ))) (AD (Ak (Kk rfl) US rfl T.n_max boot_max (AR AG (AR (BC Hx L6 (AX AS An (dv 6) AG) (AJ G__law_next (hr.mono (by decide)) rfl (AA (Bq 1) (AA (AL AG) AO)))) AZ))) Ab))))
 (AM (Bb (DTW.dt (E8 (A1 Qr Wm (AJ G_is_no_stricter (hr.mono (by decide)) rfl (AA (AL (dv 12)) (AA (AL (dv 6)) AO))) Du (Ar _)) (ES (C5 (CY (AJ G__law_lets (hr.mono (by decide)) rfl (AA (AL (dv 3)) (AA (AL (dv 12)) (AA (AL (dv 8)) (AA (AL (dv 11)) AO)))))))))) (AM (AY Du)) A4)))))))))))))))
 (AM (AY Du)))) OI
end
theorem Fb{β:Type}{n:Nat}(g k:List Value->β)(us:List Value)(h:us.length=n+1)(c:∀(a:Value) (r:List Value),r.length=n->g (a::r)=k (a::r)):g us=k us:=by
 cases us with
 | nil=>cases h
 | cons a r=>exact c a r (iE h)
theorem len0{β:Type}(g k:List Value->β)(us:List Value)(h:us.length=0)(c:g []=k []):g us=k us:=by
 cases us with
 | nil=>exact c
 | cons a r=>cases h
theorem ax{d:FuncData}{ps:List Str}(c:bindArgs d ⟨[],[]⟩=pure (ps.zip []))(us:List Value)(h:us.length=0):bindArgs d ⟨us,[]⟩=pure (ps.zip us):=len0 (λr=>bindArgs d ⟨r,[]⟩) (λr=>pure (ps.zip (r))) us h c
theorem YC{d:FuncData}{ps:List Str}(c:∀a0:Value,bindArgs d ⟨[a0],[]⟩=pure (ps.zip [a0]))(us:List Value)(h:us.length=1):bindArgs d ⟨us,[]⟩=pure (ps.zip us):=Fb (λr=>bindArgs d ⟨r,[]⟩) (λr=>pure (ps.zip (r))) us h λa0 r h=>len0 (λr=>bindArgs d ⟨a0::r,[]⟩) (λr=>pure (ps.zip (a0::r))) r h (c a0)
theorem Ny{d:FuncData}{ps:List Str}(c:∀a0 a1:Value,bindArgs d ⟨[a0,a1],[]⟩=pure (ps.zip [a0,a1]))(us:List Value)(h:us.length=2):bindArgs d ⟨us,[]⟩=pure (ps.zip us):=Fb (λr=>bindArgs d ⟨r,[]⟩) (λr=>pure (ps.zip (r))) us h λa0 r h=>Fb (λr=>bindArgs d ⟨a0::r,[]⟩) (λr=>pure (ps.zip (a0::r))) r h λa1 r h=>len0 (λr=>bindArgs d ⟨a0::a1::r,[]⟩) (λr=>pure (ps.zip (a0::a1::r))) r h (c a0 a1)
theorem V0{d:FuncData}{ps:List Str}(c:∀a0 a1 a2:Value,bindArgs d ⟨[a0,a1,a2],[]⟩=pure (ps.zip [a0,a1,a2]))(us:List Value)(h:us.length=3):bindArgs d ⟨us,[]⟩=pure (ps.zip us):=Fb (λr=>bindArgs d ⟨r,[]⟩) (λr=>pure (ps.zip (r))) us h λa0 r h=>Fb (λr=>bindArgs d ⟨a0::r,[]⟩) (λr=>pure (ps.zip (a0::r))) r h λa1 r h=>Fb (λr=>bindArgs d ⟨a0::a1::r,[]⟩) (λr=>pure (ps.zip (a0::a1::r))) r h λa2 r h=>len0 (λr=>bindArgs d ⟨a0::a1::a2::r,[]⟩) (λr=>pure (ps.zip (a0::a1::a2::r))) r h (c a0 a1 a2)
theorem Zu{d:FuncData}{ps:List Str}(c:∀a0 a1 a2 a3:Value,bindArgs d ⟨[a0,a1,a2,a3],[]⟩=pure (ps.zip [a0,a1,a2,a3]))(us:List Value)(h:us.length=4):bindArgs d ⟨us,[]⟩=pure (ps.zip us):=Fb (λr=>bindArgs d ⟨r,[]⟩) (λr=>pure (ps.zip (r))) us h λa0 r h=>Fb (λr=>bindArgs d ⟨a0::r,[]⟩) (λr=>pure (ps.zip (a0::r))) r h λa1 r h=>Fb (λr=>bindArgs d ⟨a0::a1::r,[]⟩) (λr=>pure (ps.zip (a0::a1::r))) r h λa2 r h=>Fb (λr=>bindArgs d ⟨a0::a1::a2::r,[]⟩) (λr=>pure (ps.zip (a0::a1::a2::r))) r h λa3 r h=>len0 (λr=>bindArgs d ⟨a0::a1::a2::a3::r,[]⟩) (λr=>pure (ps.zip (a0::a1::a2::a3::r))) r h (c a0 a1 a2 a3)
theorem aw{d:FuncData}{ps:List Str}(c:∀a0 a1 a2 a3 a4:Value,bindArgs d ⟨[a0,a1,a2,a3,a4],[]⟩=pure (ps.zip [a0,a1,a2,a3,a4]))(us:List Value)(h:us.length=5):bindArgs d ⟨us,[]⟩=pure (ps.zip us):=Fb (λr=>bindArgs d ⟨r,[]⟩) (λr=>pure (ps.zip (r))) us h λa0 r h=>Fb (λr=>bindArgs d ⟨a0::r,[]⟩) (λr=>pure (ps.zip (a0::r))) r h λa1 r h=>Fb (λr=>bindArgs d ⟨a0::a1::r,[]⟩) (λr=>pure (ps.zip (a0::a1::r))) r h λa2 r h=>Fb (λr=>bindArgs d ⟨a0::a1::a2::r,[]⟩) (λr=>pure (ps.zip (a0::a1::a2::r))) r h λa3 r h=>Fb (λr=>bindArgs d ⟨a0::a1::a2::a3::r,[]⟩) (λr=>pure (ps.zip (a0::a1::a2::a3::r))) r h λa4 r h=>len0 (λr=>bindArgs d ⟨a0::a1::a2::a3::a4::r,[]⟩) (λr=>pure (ps.zip (a0::a1::a2::a3::a4::r))) r h (c a0 a1 a2 a3 a4)
noncomputable def Ht(K:Frag)(x:Str)(st:Stmt):Prop:=∃(f:Addr) (oc:Value) (od an:Option Addr) (sl:Array (Option Value)) (kV dc pm cd ct:Value),nsIn K mainGlobals x=some (some (.ref f))/\K.lookup f=some ⟨oc,od,.func (fnOf x x (Cq st) (Bo st) (AN st) .none kV dc pm an cd ct),sl⟩/\codeIn K cd x=true/\keepIn K (.ref f)=true
noncomputable def Hn(K:Frag)(x:Str):Prop:=nsIn K mainGlobals x=some none
theorem Ht.mk{K:Frag}{x:Str}{st:Stmt}{f:Addr}{oc:Value}{od an:Option Addr}{sl:Array (Option Value)}{kV dc pm cd ct:Value}(a:nsIn K mainGlobals x=some (some (.ref f)))(l:K.lookup f=some ⟨oc,od,.func (fnOf x x (Cq st) (Bo st) (AN st) .none kV dc pm an cd ct),sl⟩)(c:codeIn K cd x=true)(k:keepIn K (.ref f)=true):Ht K x st:=⟨f,oc,od,an,sl,kV,dc,pm,cd,ct,a,l,c,k⟩
theorem Hn.mk{K:Frag}{x:Str}(a:nsIn K mainGlobals x=some none):Hn K x:=a
section
variable {P:Program}{w:World}{K:Frag}{mg:Str->Option Value}{h base:Heap}{x:Str}{st:Stmt}
theorem Ht.fn(X:K.In h)(G:h.Ns mainGlobals mg)(H:Ht K x st):∃f fd,mg x=some (.ref f)/\Fun K x x st f fd:=by
 obtain⟨f,oc,od,an,sl,kV,dc,pm,cd,ct,a,l,c,k⟩:=H
 exact⟨f,_,mg_of X G a,Tg (st:=st) l c k⟩
theorem Ht.got{k:Nat}{ps:List Str}{κ:Kd}{W:W2}(X:K.In h)(G:h.Ns mainGlobals mg)(H:Ht K x st)(hW:∀ss n P,W ss n P->ss.length=ps.length)
  (hb:∀(kV doc pm:Value) (an:Option Addr) (cdv ct:Value) (us:List Value),us.length=ps.length->bindArgs (fnOf x x (Cq st) (Bo st) (AN st) .none kV doc pm an cdv ct) ⟨us,[]⟩=pure (ps.zip us))
  (ok:∀{f:Addr} {fd:FuncData},Fun K x x st f fd->mg x=some (.ref f)->Binds K fd ps []->A0 P w K mg base Br k f fd ps (Ci K κ W ps.length)):Got P w K mg base x k ps κ W:=by
 obtain⟨f,fd,m,F⟩:=H.fn X G
 have b:=F.binds hb
 exact Xw F m b hW (ok F m b)
end
theorem all_mk{l:PySem.W.OpenLaw}{w:World}{K:Frag}{h:Heap}{mg:Str->Option Value}{fa:Addr}(X:K.In h)(G:h.Ns mainGlobals mg)(hfa:mg "law"=some (.ref fa))
  (h0:Ht K "is_whole" FS) (h1:Ht K "is_tuple_of" Cz) (h2:Ht K "is_rising" EA) (h3:Ht K "rank_of" Gu) (h4:Ht K "order_of" FP) (h5:Ht K "steps_of" FO) (h6:Ht K "only" OE) (h7:Ht K "is_tie_of" D_) (h8:Ht K "is_thin" Gw) (h9:Ht K "left_out" FR) (h10:Ht K "length_of" D8) (h11:Ht K "length_between" Bt) (h12:Ht K "ties_over" D6) (h13:Ht K "nearest_of" DY) (h14:Ht K "least_ways" DZ) (h15:Ht K "way_of" IZ) (h16:Ht K "product" Gv) (h17:Ht K "is_no_stricter" Bu) (h18:Ht K "ways_by_tie" Cy) (h19:Ht K "way_taken" D4) (h20:Ht K "composed" FT) (h21:Ht K "is_within" D9) (h22:Ht K "near_way" FQ) (h23:Ht K "thinned" Gs) (h24:Ht K "ways_paper" DX) (h25:Ht K "way_fault" D5) (h26:Ht K "lets_ways" D7) (h27:Ht K "_law_feed" ED) (h28:Ht K "_law_next" Ck) (h29:Ht K "_law_names" Dc) (h30:Ht K "_law_places" C0) (h31:Ht K "_law_length" C1) (h32:Ht K "_law_ties" EB) (h33:Ht K "_law_net" FU) (h34:Ht K "_law_far" FV) (h35:Ht K "_law_some_times" Bi) (h36:Ht K "_law_all_within" Bj) (h37:Ht K "_law_lets" EC) (h38:Ht K "law" Ib)
  (z0:Hn K "all") (z1:Hn K "bool") (z2:Hn K "dict") (z3:Hn K "enumerate") (z4:Hn K "int") (z5:Hn K "isinstance") (z6:Hn K "len") (z7:Hn K "list") (z8:Hn K "max") (z9:Hn K "min") (z10:Hn K "range") (z11:Hn K "reversed") (z12:Hn K "sorted") (z13:Hn K "str") (z14:Hn K "tuple") (z15:Hn K "zip") 
  : ∃fd:FuncData,(∀(s:Shared) (v:Value),BindsTo s fd ⟨[v],[]⟩ [("_law_script",v)])/\∀base:Heap,K.In base->base.Ns mainGlobals mg->A0 l.prog w K mg base Br 8 fa fd ["_law_script"] (MZ K):=by
 have T:Txt K mg:=⟨mg_none_of X G z0,mg_none_of X G z1,mg_none_of X G z2,mg_none_of X G z3,mg_none_of X G z4,mg_none_of X G z5,mg_none_of X G z6,mg_none_of X G z7,mg_none_of X G z8,mg_none_of X G z9,mg_none_of X G z10,mg_none_of X G z11,mg_none_of X G z12,mg_none_of X G z13,mg_none_of X G z14,mg_none_of X G z15⟩
 obtain⟨ff,ffd,mf,Ff⟩:=h27.fn X G
 have bf:=Ff.binds (ps:=["_law_script"]) λ_ _ _ _ _ _=>YC λ_=>rfl
 obtain⟨f,oc,od,an,sl,kV,dc,pm,cd,ct,a,l',c,k⟩:=h38
 have e:=hfa.symm.trans (mg_of X G a)
 cases e
 refine⟨fnOf "law" "law" (Cq Ib) (Bo Ib) (AN Ib) .none kV dc pm an cd ct,λs v=>.of_eq rfl,λbase _ _=>?_⟩
 have G_is_whole:Jb l.prog w K mg base:=h0.got X G (λ_ _ _ h=>Qh h) (λ_ _ _ _ _ _=>YC λ_=>rfl) λF m b=>M7 T  F
 have G_is_tuple_of:C9 l.prog w K mg base:=h1.got X G (λ_ _ _ h=>by obtain⟨_,_,e,_⟩:=h; rw [e]; rfl) (λ_ _ _ _ _ _=>Ny λ_ _=>rfl) λF m b=>Iv T  F
 have G_is_rising:HV l.prog w K mg base:=h2.got X G (λ_ _ _ h=>by obtain⟨_,_,e,_⟩:=h; rw [e]; rfl) (λ_ _ _ _ _ _=>YC λ_=>rfl) λF m b=>LY T  F
 have G_rank_of:Kx l.prog w K mg base:=h3.got X G (λ_ _ _ h=>by obtain⟨_,_,_,e,_⟩:=h; rw [e]; rfl) (λ_ _ _ _ _ _=>YC λ_=>rfl) λF m b=>OV T  F
 have G_order_of:Fj l.prog w K mg base:=h4.got X G (λ_ _ _ h=>by obtain⟨_,_,e,_⟩:=h; rw [e]; rfl) (λ_ _ _ _ _ _=>YC λ_=>rfl) λF m b=>Mz T G_rank_of F
 have G_steps_of:Dr l.prog w K mg base:=h5.got X G (λ_ _ _ h=>by obtain⟨_,e,_⟩:=h; rw [e]; rfl) (λ_ _ _ _ _ _=>YC λ_=>rfl) λF m b=>Mw F
 have G_only:UW l.prog w K mg base:=h6.got X G (λ_ _ _ h=>by obtain⟨_,_,_,e,_⟩:=h; rw [e]; rfl) (λ_ _ _ _ _ _=>Ny λ_ _=>rfl) λF m b=>VF T  F
 have G_is_tie_of:HU l.prog w K mg base:=h7.got X G (λ_ _ _ h=>by obtain⟨_,_,e,_⟩:=h; rw [e]; rfl) (λ_ _ _ _ _ _=>Ny λ_ _=>rfl) λF m b=>LX T G_is_whole F
 have G_is_thin:Kz l.prog w K mg base:=h8.got X G (λ_ _ _ h=>by obtain⟨_,_,e,_⟩:=h; rw [e]; rfl) (λ_ _ _ _ _ _=>Ny λ_ _=>rfl) λF m b=>OX T G_is_rising G_is_tie_of G_is_tuple_of F
 have G_left_out:Cc l.prog w K mg base:=h9.got X G (λ_ _ _ h=>by obtain⟨_,_,e,_⟩:=h; rw [e]; rfl) (λ_ _ _ _ _ _=>Ny λ_ _=>rfl) λF m b=>M6 T G_order_of F
 have G_length_of:EY l.prog w K mg base:=h10.got X G (λ_ _ _ h=>by obtain⟨_,_,e,_⟩:=h; rw [e]; rfl) (λ_ _ _ _ _ _=>Ny λ_ _=>rfl) λF m b=>LV T G_steps_of F
 have G_length_between:DQ l.prog w K mg base:=h11.got X G (λ_ _ _ h=>by obtain⟨_,_,_,_,_,e,_⟩:=h; rw [e]; rfl) (λ_ _ _ _ _ _=>Zu λ_ _ _ _=>rfl) λF m b=>F2 T G_length_of F
 have G_ties_over:HR l.prog w K mg base:=h12.got X G (λ_ _ _ h=>by obtain⟨_,_,_,e,_⟩:=h; rw [e]; rfl) (λ_ _ _ _ _ _=>Ny λ_ _=>rfl) λF m b=>LS T G_steps_of F
 have G_nearest_of:GY l.prog w K mg base:=h13.got X G (λ_ _ _ h=>by obtain⟨_,_,_,_,e,_⟩:=h; rw [e]; rfl) (λ_ _ _ _ _ _=>Ny λ_ _=>rfl) λF m b=>Jt T  F
 have G_least_ways:GZ l.prog w K mg base:=h14.got X G (λ_ _ _ h=>by obtain⟨_,_,e,_⟩:=h; rw [e]; rfl) (λ_ _ _ _ _ _=>Ny λ_ _=>rfl) λF m b=>Ju T G_nearest_of G_steps_of F
 have G_way_of:Nu l.prog w K mg base:=h15.got X G (λ_ _ _ h=>by obtain⟨_,_,_,e,_⟩:=h; rw [e]; rfl) (λ_ _ _ _ _ _=>V0 λ_ _ _=>rfl) λF m b=>Qs T G_least_ways F
 have G_product:Ky l.prog w K mg base:=h16.got X G (λ_ _ _ h=>by obtain⟨_,_,_,_,e,_⟩:=h; rw [e]; rfl) (λ_ _ _ _ _ _=>Ny λ_ _=>rfl) λF m b=>OW T  F
 have G_is_no_stricter:DR l.prog w K mg base:=h17.got X G (λ_ _ _ h=>by obtain⟨_,_,_,_,e,_⟩:=h; rw [e]; rfl) (λ_ _ _ _ _ _=>Ny λ_ _=>rfl) λF m b=>F3 T  F
 have G_ways_by_tie:FF l.prog w K mg base:=h18.got X G (λ_ _ _ h=>by obtain⟨_,_,_,e,_⟩:=h; rw [e]; rfl) (λ_ _ _ _ _ _=>V0 λ_ _ _=>rfl) λF m b=>Iu T G_left_out F
 have G_way_taken:HP l.prog w K mg base:=h19.got X G (λ_ _ _ h=>by obtain⟨_,_,_,_,_,e,_⟩:=h; rw [e]; rfl) (λ_ _ _ _ _ _=>V0 λ_ _ _=>rfl) λF m b=>LQ T G_ties_over F
 have G_composed:Jc l.prog w K mg base:=h20.got X G (λ_ _ _ h=>by obtain⟨_,_,_,_,_,e,_⟩:=h; rw [e]; rfl) (λ_ _ _ _ _ _=>aw λ_ _ _ _ _=>rfl) λF m b=>M8 T G_left_out G_way_taken G_ways_by_tie F
 have G_is_within:EZ l.prog w K mg base:=h21.got X G (λ_ _ _ h=>by obtain⟨_,_,_,_,e,_⟩:=h; rw [e]; rfl) (λ_ _ _ _ _ _=>V0 λ_ _ _=>rfl) λF m b=>LW T  F
 have G_near_way:Fk l.prog w K mg base:=h22.got X G (λ_ _ _ h=>by obtain⟨_,_,_,_,e,_⟩:=h; rw [e]; rfl) (λ_ _ _ _ _ _=>V0 λ_ _ _=>rfl) λF m b=>M5 T G_is_within G_length_of G_way_of F
 have G_thinned:Kw l.prog w K mg base:=h23.got X G (λ_ _ _ h=>by obtain⟨_,_,_,e,_⟩:=h; rw [e]; rfl) (λ_ _ _ _ _ _=>Ny λ_ _=>rfl) λF m b=>OU T G_near_way G_only G_order_of F
 have G_ways_paper:GX l.prog w K mg base:=h24.got X G (λ_ _ _ h=>by obtain⟨_,_,_,_,e,_⟩:=h; rw [e]; rfl) (λ_ _ _ _ _ _=>V0 λ_ _ _=>rfl) λF m b=>Js T G_left_out G_near_way F
 have G_way_fault:HQ l.prog w K mg base:=h25.got X G (λ_ _ _ h=>by obtain⟨_,_,_,_,_,_,e,_⟩:=h; rw [e]; rfl) (λ_ _ _ _ _ _=>Zu λ_ _ _ _=>rfl) λF m b=>LR T G_is_within G_length_between F
 have G_lets_ways:HS l.prog w K mg base:=h26.got X G (λ_ _ _ h=>by obtain⟨_,_,_,_,_,e,_⟩:=h; rw [e]; rfl) (λ_ _ _ _ _ _=>Zu λ_ _ _ _=>rfl) λF m b=>LU T G_is_thin G_is_tuple_of G_left_out G_way_fault F
 have Gf:=Lb (P:=l.prog) (w:=w) (base:=base) T Ff
 have G__law_next:BY l.prog w K mg base:=h28.got X G (λ_ _ _ h=>by obtain⟨_,e,_⟩:=h; rw [e]; rfl) (λ_ _ _ _ _ _=>Ny λ_ _=>rfl) λF m b=>VG F T.n_len
 have G__law_names:Ga l.prog w K mg base:=h29.got X G (λ_ _ _ h=>by obtain⟨e,_⟩:=h; rw [e]; rfl) (λ_ _ _ _ _ _=>ax rfl) λF m b=>Jv T  F
 have G__law_places:FG l.prog w K mg base:=h30.got X G (λ_ _ _ h=>by obtain⟨_,e,_⟩:=h; rw [e]; rfl) (λ_ _ _ _ _ _=>Ny λ_ _=>rfl) λF m b=>Iw T G__law_names G__law_next F
 have G__law_length:FH l.prog w K mg base:=h31.got X G (λ_ _ _ h=>by obtain⟨_,e,_⟩:=h; rw [e]; rfl) (λ_ _ _ _ _ _=>Ny λ_ _=>rfl) λF m b=>Iy T G__law_next F
 have G__law_ties:HW l.prog w K mg base:=h32.got X G (λ_ _ _ h=>by obtain⟨_,_,e,_⟩:=h; rw [e]; rfl) (λ_ _ _ _ _ _=>V0 λ_ _ _=>rfl) λF m b=>LZ T G__law_length G__law_next F
 have G__law_net:Jd l.prog w K mg base:=h33.got X G (λ_ _ _ h=>by obtain⟨_,_,e,_⟩:=h; rw [e]; rfl) (λ_ _ _ _ _ _=>V0 λ_ _ _=>rfl) λF m b=>M9 T G__law_next G__law_places G__law_ties F
 have G__law_far:Je l.prog w K mg base:=h34.got X G (λ_ _ _ h=>by obtain⟨_,_,e,_⟩:=h; rw [e]; rfl) (λ_ _ _ _ _ _=>Ny λ_ _=>rfl) λF m b=>M_ T F
 have G__law_some_times:Cs l.prog w K mg base:=h35.got X G (λ_ _ _ h=>by obtain⟨e,_⟩:=h; rw [e]; rfl) (λ_ _ _ _ _ _=>YC λ_=>rfl) λF m b=>FZ T G__law_next F
 have G__law_all_within:Ct l.prog w K mg base:=h36.got X G (λ_ _ _ h=>by obtain⟨_,_,_,_,e,_⟩:=h; rw [e]; rfl) (λ_ _ _ _ _ _=>V0 λ_ _ _=>rfl) λF m b=>Fa T G__law_far F
 have G__law_lets:HX l.prog w K mg base:=h37.got X G (λ_ _ _ h=>by obtain⟨_,_,_,_,_,e,_⟩:=h; rw [e]; rfl) (λ_ _ _ _ _ _=>Zu λ_ _ _ _=>rfl) λF m b=>La T G_lets_ways F
 exact Xf T Gf mf Ff.kp bf G__law_all_within G__law_lets G__law_net G__law_next G__law_some_times G_composed G_is_no_stricter G_product G_thinned G_ways_paper (Tg (st:=Ib) l' c k)
theorem walk{l:PySem.W.OpenLaw}{q:Program}{loose:List Str}{XP:(Str->Option Value)->Heap->Prop}{YP:World->Heap->Prop}{d:DefRec}{K:Params->Frag}(hn:l.most=some 63)(hdf:d.params.defaults=[])
  (hY:∀(w:World) (h:Heap),YP w h->(K w.params).In h)
  (F:∀(w:World) (mg:Str->Option Value) (fa:Addr) (h:Heap),(K w.params).In h->h.Ns mainGlobals mg->mg d.name=some (.ref fa) ->
   ∃fd:FuncData,(∀(s:Shared) (u:Value),BindsTo s fd ⟨[u],[]⟩ [("_law_script",u)])/\∀base:Heap,(K w.params).In base->base.Ns mainGlobals mg->A0 l.prog w (K w.params) mg base Br 8 fa fd ["_law_script"] (MZ (K w.params))) :
  PySem.W.WalkO q loose XP YP l.row.toRowW d [] (λf vs=>PySem.call f vs) :=
 L2.O7 (n:=63) (k:=8) (x := "_law_script") (CX:=λ_=>Br) (sp:=λw=>MZ (K w.params)) hn (by decide) hdf ⟨rfl,by decide,by decide,rfl⟩ hY F (λ_ _ a ns hl _ hS=>⟨a,ns,rfl,⟨hl,hS⟩,λ_=>rfl⟩) λ_ _ _ _ _ z=>z
end K66
end _p
namespace PySem.W.Fast
theorem tw12793826184159680941:True:=⟨⟩
theorem tw2893785099134603501:True:=⟨⟩
theorem tw16874911268510433482:True:=⟨⟩
theorem tw1340057179098073026:True:=⟨⟩
theorem tw3419029281426212516:True:=⟨⟩
theorem tw1385892123605565191:True:=⟨⟩
theorem tw4602179874691567956:True:=⟨⟩
theorem tw1173594388170555420:True:=⟨⟩
theorem tw17791115147715217745:True:=⟨⟩
theorem tw15229238744568755664:True:=⟨⟩
theorem tw3228664935336567235:True:=⟨⟩
theorem tw5910621678749778076:True:=⟨⟩
theorem tw16283525730510263441:True:=⟨⟩
theorem tw18120256846720441330:True:=⟨⟩
theorem tw5770651050662115630:True:=⟨⟩
theorem tw5698280365096849512:True:=⟨⟩
theorem tw6897279252268909170:True:=⟨⟩
theorem tw4002098639673311610:True:=⟨⟩
end PySem.W.Fast
open _p
open PySem PySem.W PyProof.Rows
set_option maxRecDepth 100000 in
set_option maxHeartbeats 0 in
theorem PySem.Challenge.cw_thinnet_k66_whole_thinned_twice_holds : PySem.Challenge.rw_thinnet_k66_whole_thinned_twice.Holds := by
 w_on; o_law; k_head; (case hw=>w_witness2)
 k_fill
 refine K66.walk (l:=PySem.Challenge.rw_thinnet_k66_whole_thinned_twice) rfl rfl (λw h Y=>PySem.W.kIn_of Y) ?F
 case F =>
  intro w mg fa h KX G hmg
  refine' K66.all_mk KX G hmg ?_ ?_ ?_ ?_ ?_ ?_ ?_ ?_ ?_ ?_ ?_ ?_ ?_ ?_ ?_ ?_ ?_ ?_ ?_ ?_ ?_ ?_ ?_ ?_ ?_ ?_ ?_ ?_ ?_ ?_ ?_ ?_ ?_ ?_ ?_ ?_ ?_ ?_ ?_ ?_ ?_ ?_ ?_ ?_ ?_ ?_ ?_ ?_ ?_ ?_ ?_ ?_ ?_ ?_ ?_
  all_goals first
   | (refine' K66.Ht.mk ?a ?l ?c ?k; (case a=>k_is); (case l=>k_is); (case c=>k_is); (case k=>k_is))
   | (refine' K66.Hi.mk ?a; (case a=>k_is))
   | (refine' K66.Hn.mk ?a; (case a=>k_is))
#print axioms PySem.Challenge.cw_thinnet_k66_whole_thinned_twice_holds

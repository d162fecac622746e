import PyProof.Rows.All
import Wide.All
import OpenK.AllK
import Wide.FinOn
import Lean
import PyProof.EqAt
import PyProof.EqKinds
import PyProof.TupleCall
import PyProof.StationsW
import PyProof.PassesOwn
import PyProof.RulesAs
import PyProof.ExcClass3
import PyProof.Rows.CatchOwn
import OpenK.KMake
import OpenK.KWalk
import PyProof.InstStoreFacts
import PyProof.ExcBaseAll.ValueError
import PyProof.RangeIter
import OpenK.KRaise
import PyProof.NsDelKeeps
import KE.KIsAll
import PyProof.P3In
import PyProof.NeData
import PyProof.CompUse
import PyProof.ReprLen
import KE.KSortTup
import PyProof.SumAny
import PyProof.Rows.SeqCalls
import KE.KRevIter
import PyProof.TupleOfGen
import PyProof.CollectIter
import PyProof.Draws
import PyProof.EnumMake
import KE.KEqDict
import KE.KDictSum
import PyProof.ConsumeS
import PyProof.WalkInts
import PySem.Challenge.RW_thinnet_k34_whole_light_trees
open PySem.W (Frag nsIn keepIn fnOf codeIn mg_of mg_none_of)
set_option genSizeOf false
set_option compiler.extract_closed false
set_option Elab.async false
set_option linter.all false
set_option maxRecDepth 100000
open Array renaming length_toList->Z5,getElem?_eq_getElem->bi,getElem?_toList->cH,getElem?_eq_some_iff->eO,getElem?_eq_none->fK
open Array.Perm renaming refl->fE
open Bool renaming false_ne_true->Ze,and_eq_true->Zl,false_eq_true->aS,eq_iff_iff->ay,eq_false_iff->c9,and_true->fZ
open Classical renaming byContradiction->bD,propDecidable->bz
open False renaming elim->aq
open ForInStep renaming yield->cC
open Int renaming le_refl->Z6,mul_le_mul_of_nonneg_left->ag,toNat_natCast->av,mul_le_mul_of_nonneg_right->bG,mul_comm->cm,mul_le_mul->d6,mul_add->d8,le_trans->e_
open List renaming mem_singleton->Go,getElem?_eq_getElem->No,length_map->On,mem_cons_self->Re,mem_cons_of_mem->Sc,mem_map->TW,size_toArray->UF,mem_cons->XV,getElem?_eq_some_iff->ZB,length_append->ZT,mem_append_right->ZW,map_cons->ZX,nodup_cons->ZY,getElem?_map->ZZ,length_cons->Za,mem_append->Zb,length_singleton->Zc,replicate->Zd,not_mem_nil->Zf,append_assoc->Zg,nodup_append->Zh,append_nil->Zn,nodup_nil->Zp,toArray->Zr,mem_append_left->Zt,getElem_mem->Zw,getD_eq_getElem?_getD->Zx,map_append->Z1,mem_flatMap->Z3,range->Z7,nil_append->aA,lt_irrefl->aK,flatMap_cons->aL,map_map->aO,length_nil->aQ,mem_of_getElem?->aT,zipWith->aW,pairwise_map->aZ,drop_eq_getElem_cons->aa,length_zip->af,pairwise_cons->al,sum_cons->ao,mem_filter->ax,length_set->az,perm_ext_iff_of_nodup->bA,Nodup->bB,cons_ne_nil->bC,mem_range->bM,lookup_cons->bN,all_eq_true->bO,any_eq_true->bP,getElem?_append_right->bZ,reverse_cons->bc,getElem?_append_left->be,pairwise_iff_getElem->bh,filterMap_cons->bu,map_congr_left->bv,length_eq_zero_iff->bx,lt_trans->b7,mem_filterMap->b8,find?_cons->cA,mem_iff_getElem?->cI,length_filter_le->cJ,length_take->cK,drop_length->cM,mem_iff_getElem->cP,getLast?_concat->cQ,nodup_iff_pairwise_ne->cS,length_zipWith->cU,flatMap_append->cV,of_mem_zip->cW,getElem?_zip_eq_some->cY,map_nil->ce,length_erase_of_mem->cj,getElem?_replicate->c0,length_range->c7,length->dA,take_of_length_le->dC,length_pos_of_mem->dE,singleton_append->dI,getElem?_eq_none->dJ,mem_of_mem_head?->dL,eraseIdxIfInBounds_toArray->dM,forIn_cons->dS,dropLast_append_of_ne_nil->da,toList_toArray->dg,length_reverse->dh,zip_cons_cons->eA,getElem?_set->eQ,mem_of_find?_eq_some->eT,getElem_inj->eX,length_drop->eh,take_length->e8,getElem?_cons_succ->fA,getLast?_cons_cons->fB,getElem?_set_self->fG,length_replicate->fL,getElem?_zipWith->fM,mem_of_mem_erase->fP,any_cons->fX,all_cons->fY
open List.Pairwise renaming nil->ft
open Nat renaming le_refl->Tk,zero_le->Zi,ne_of_lt->Zo,le_trans->Zu,lt_of_lt_of_le->Zv,lt_irrefl->aM,le_succ->a_,lt_succ_of_lt->bJ,le_sub_of_add_le->bj,lt_of_le_of_lt->b_,lt_succ_self->cL,not_lt->cx,ne_of_gt->dQ,le_of_lt->eV,min_le_right->eg,le_of_eq->ei,ble->fQ,mod_lt->fW
open Ne renaming symm->aI
open Option renaming map_eq_some_iff->Zy,isSome_map->eP
open Option.some renaming inj->ZS
open Or renaming inl->ZV,inr->bF
open PyProof.Rows renaming slot_tuple_getitem->aG,callWith_type1->aR,boot_sorted->bS,listUpdate_at->bb,get?_update_seq->cE,AllBare->cq,boot_tuple->cz,listItems_at->dY,seqEpoch_at->d7,size_push'->eS,lt_int->fH,boot_all->fS
open PyProof.Rows.KeyOrd renaming kle_refl->ac,kle_of_klt->c8,kle_trans->dH,kle_antisymm->fg
open PySem renaming wpAny_bind->Db,Addr->Ev,Value->FM,Shared->Rs,wpAny_pure->TM,Heap->Zk,Expr->Zq,Program->Zs,World->Zz,sizeLine_eq->Z2,Stmt->Z9,Around->aB,wpAny_newObj_type->aC,FuncData->aE,wpAny_callSpecial?_slot->aF,wpAny_mono->aJ,wpAny_holding->aN,wpAny_field->aP,wpAny_seqItems->aY,codeAny_builtin->ae,wpAny_pyIter_tuple->ah,wpAny_call_entry->ai,IsPair->ak,wpAny_pyIter_list->aw,NameKind->bE,wpAny_truthy_bool->bH,plainId_quiet->bK,wpAny_typeNameOfWhole_keyiter->bL,Scope->bQ,wpAny_Call_Name_kw->bU,wpAny_setField_rec->bV,wpAny_passesOwn->bX,DictEntry->bn,wpAny_letGo->bo,Builtin->bp,wpAny_typeNameOf_keyiter->bq,wpAny_getItem_str_slice->bw,tupleKind_room_in1->cB,wpAny_loadPart'->cD,IsZip->cF,wpAny_typeOf->cZ,typeIs_str->cr,Keyword->cu,wpAny_rule->cy,wpAny_dictEntries->c_,wpAny_attempt->dG,wpAny_execs_nil->dP,IsPart->dR,post_val_or_str->dU,wpAny_updateSeq_pair->dW,wpAny_updateSeq->dZ,wpAny_setField->dk,wpAny_tryCatch->dn,PassesOwn->d9,PyData->d_,wpAny_onRaise->eJ,wpAny_newList->eM,BindsTo->eU,codeAny_mono->eY,noFill_tuple_add->eZ,call_meetsIn->en,wpAny_isInstance->e7,wpAny_specialOf->fD,wpAny_dictEpoch->fF,wpAny_of_eq->fJ
open PySem.Around renaming under_plainId->aU,under->fj
open PySem.Builtin.Builtins renaming bindParams->eC
open PySem.Builtin.Dict renaming showsAll->fR
open PySem.Builtin.Dict_items renaming ownsTuple->dq
open PySem.Builtin.List renaming listExtendWith->bW,listTooLong->cb,listSameRef->e9
open PySem.Builtin.Slice renaming slicePlaces->bg,sliceAdjust->cX,sliceApplied->eG
open PySem.Builtin.SmallTypes renaming nextOf->aH,ownedTupleIsFree->ar,ownedTupleHandOut->ci
open PySem.Builtin.Tuple renaming tupleExact->aj,tupleItemsOf->eI,tupleIsExact->eK
open PySem.Calls renaming spliced_cons->b9,spliced_nil->c5,callWith_builtin->dB,Name_function_global->eE,evalArgs_plain->fT
open PySem.Code renaming isGuard->fk
open PySem.Expr renaming Call->fq
open PySem.F renaming slot_dict_keyiterator_next->au,slot_tuple_iterator_next->ba,slot_zip_next->dX,args_dict_keyiterator_next_1->de,entry_dict_keyiterator_next->df,args_tuple_iterator_next_1->di,entry_tuple_iterator_next->eB,called_tuple->fO
open PySem.Heap renaming get?_push_of_some->Op,get?_push_size->Uf,lt_size->ZU,get?_update_other->Zm,size_push->aX,get?_update_self->bY,SameBut->dO,ExtBut->fI,IsTuple->fm
open PySem.Heap.SameBut renaming update->cT
open PySem.NameKind renaming free->Z8,cell->cR
open PySem.Obj renaming mapSeq->Z_,data_mapFields->cf
open PySem.PassesOwn renaming never->Zj
open PySem.PyData renaming depthAll->a9,canLayAll0->bd,eqv->cO,eqvAll->eN,leavesShortAll->fN
open PySem.SeqAt.EqAt renaming int_str->fh,str_int->fi
open PySem.Shared renaming heap->dD
open PySem.Str renaming ofString->aV
open PySem.Value renaming none->Z0,ref->Z4,str->bT,bool->dN,type->eR,int->fC,notImplemented->fV
open Sum renaming inr->aD,inl->cG
open Sum.inl renaming inj->fu
open Sum.inr renaming inj->am
open True renaming intro->bR
namespace _p
theorem zau0 (h : True := by first | exact .inl rfl | exact .inr rfl | assumption) : True := h
theorem zau1 (h : True := by decide) : True := h
theorem zau2 (h : True := by intro _; rfl) : True := h
theorem zau3 (h : True := by rfl) : True := h
theorem zau4 (h : True := by first | exact ZV rfl | exact bF (ZV rfl) | exact bF (bF rfl)) : True := h
theorem zau5 (h : True := by intro _ _; rfl) : True := h
theorem zau6 (h : True := by intro z; cases z) : True := h
theorem zau7 (h : True := by intro _ z; cases z) : True := h
theorem zau8 (h : True := by exact⟨rfl,rfl,rfl,rfl⟩) : True := h
theorem zau9 (h : True := by assumption) : True := h
namespace L2
open PySem PySem.Spec PyProof.Rows
noncomputable abbrev Key:=Sum Int Str
noncomputable def J1:Key->FM->Bool
 | .inl k,v=>Value.isInt k v
 | .inr x,v=>Value.isStrOf x v
noncomputable def YW(w:Zz):Key->Int
 | .inl k=>hashInt k
 | .inr x=>hashStr w x
theorem A8:∀{k:Key} {v:FM},J1 k v=true->(∃i t,k=cG i/\v=fC i t)\/(∃x t,k=aD x/\v=bT x t)
 | .inl i,v,h=>by
  obtain⟨t,e⟩:=Value.isInt_shape (k:=i) (v:=v) h;exact .inl ⟨i,t,rfl,e⟩
 | .inr x,v,h=>by
  obtain⟨t,e⟩:=Value.isStrOf_shape (x:=x) (v:=v) h;exact .inr ⟨x,t,rfl,e⟩
theorem P1(i:Int)(t:Tok):J1 (.inl i) (.int i t)=true:=by simp [J1,Value.isInt]
theorem P0(x:Str)(t:Tok):J1 (.inr x) (.str x t)=true:=by simp [J1,Value.isStrOf]
theorem Vs(a b:Int):decide ((cG a:Key)=cG b)=(a==b):=by
 by_cases e:a=b
 ·subst e; simp
 ·have h:¬(cG a:Key)=cG b:=λq=>e (fu q)
  rw [decide_eq_false h];exact(beq_eq_false_iff_ne.mpr e).symm
theorem Vp(a b:Str):decide ((aD a:Key)=aD b)=decide (a=b):=by
 by_cases e:a=b
 ·subst e; simp
 ·have h:¬(aD a:Key)=aD b:=λq=>e (am q)
  rw [decide_eq_false h,decide_eq_false e]
theorem Vr(a:Int)(b:Str):decide ((cG a:Key)=aD b)=false:=decide_eq_false (λq=>nomatch q)
theorem Vq(a:Str)(b:Int):decide ((aD a:Key)=cG b)=false:=decide_eq_false (λq=>nomatch q)
noncomputable def Ay(prog:Zs)(w:Zz):PySem.KeyKind prog w Key where
 is:=J1
 hash:=YW w
 inj:=λv a b ha hb=>by
  rcases A8 ha with ⟨i,t,rfl,rfl⟩ | ⟨x,t,rfl,rfl⟩
  ·rcases A8 hb with ⟨j,u,rfl,e⟩ | ⟨y,u,rfl,e⟩
   ·injection e with e1 _; rw [e1]
   ·exact nomatch e
  ·rcases A8 hb with ⟨j,u,rfl,e⟩ | ⟨y,u,rfl,e⟩
   ·exact nomatch e
   ·injection e with e1 _; rw [e1]
 byValue:=λk v h=>by
  rcases A8 h with ⟨i,t,rfl,rfl⟩ | ⟨x,t,rfl,rfl⟩ <;> rfl
 pyHash:=λhv h=>by
  rcases A8 hv with ⟨i,t,rfl,rfl⟩ | ⟨x,t,rfl,rfl⟩
  ·exact wpAny_pyHash_int h
  ·exact wpAny_pyHash_str h
 eqBool:=λhu hv h=>by
  rcases A8 hu with ⟨i,t,rfl,rfl⟩ | ⟨x,t,rfl,rfl⟩
  ·rcases A8 hv with ⟨j,u,rfl,rfl⟩ | ⟨y,u,rfl,rfl⟩
   ·rw [Vs] at h; exact wpAny_eqBool_int h
   ·rw [Vr] at h; exact fh i t y u _ _ _ _ h
  ·rcases A8 hv with ⟨j,u,rfl,rfl⟩ | ⟨y,u,rfl,rfl⟩
   ·rw [Vq] at h; exact fi x t j u _ _ _ _ h
   ·rw [Vp] at h; exact wpAny_eqBool_str h
 «strs»:=λk x t v h=>by
  rcases A8 h with ⟨i,u,rfl,e⟩ | ⟨y,u,rfl,e⟩
  ·exact nomatch e
  ·injection e with e1 _
   subst e1
   cases v <;> rfl
theorem MD(prog:Zs)(w:Zz)(i:Int)(t:Tok):(Ay prog w).is (.inl i) (.int i t)=true:=P1 i t
theorem MC(prog:Zs)(w:Zz)(x:Str)(t:Tok):(Ay prog w).is (.inr x) (.str x t)=true:=P0 x t
inductive V where
 | non | bl (b:Bool) | int (i:Int) | str (x:Str) | byt (b:Array UInt8) | flt (b:UInt64) | ref (a:Ev) | ty (n:String)
 deriving DecidableEq
noncomputable def RelV:V->FM->Prop
 | .non,u=>u=Z0
 | .bl b,u=>u=dN b
 | .int i,u=>∃t,u=fC i t
 | .str x,u=>∃t,u=bT x t
 | .byt b,u=>∃t,u=Value.bytes b t
 | .flt b,u=>∃t,u=Value.float b t
 | .ref a,u=>u=Z4 a
 | .ty n,u=>u=eR n
noncomputable abbrev Vals:List V->List FM->Prop:=Paired RelV
theorem Vals.length{xs:List V}{us:List FM}(r:Vals xs us):xs.length=us.length:=Paired.length r
theorem Vals.get:∀{xs:List V} {us:List FM} {i:Nat} {x:V},Vals xs us->xs[i]?=some x->∃u,us[i]?=some u/\RelV x u
 | _,_,_,_,.nil,e=>by simp at e
 | _,_,0,_,.cons r _,e=>by simp at e; subst e; exact⟨_,rfl,r⟩
 | _,_,i+1,x,.cons _ t,e=>by
  obtain⟨u,h1,h2⟩:=Vals.get (i:=i) (x:=x) t (by simpa using e);exact⟨u,by simpa using h1,h2⟩
theorem Vals.set{x:V}{u:FM}(r:RelV x u):∀{xs:List V} {us:List FM} (i:Nat),Vals xs us->Vals (xs.set i x) (us.set i u)
 | _,_,_,.nil=>.nil
 | _,_,0,.cons _ t=>.cons r t
 | _,_,i+1,.cons q t=>.cons q (Vals.set r i t)
theorem Vals.append:∀{xs ys:List V} {us ws:List FM},Vals xs us->Vals ys ws->Vals (xs++ys) (us++ws)
 | _,_,_,_,.nil,s=>s
 | _,_,_,_,.cons r t,s=>.cons r (Vals.append t s)
theorem Vals.take:∀{xs:List V} {us:List FM} (n:Nat),Vals xs us->Vals (xs.take n) (us.take n)
 | _,_,0,_=>.nil
 | _,_,_+1,.nil=>.nil
 | _,_,n+1,.cons r t=>.cons r (Vals.take n t)
theorem Vals.drop:∀{xs:List V} {us:List FM} (n:Nat),Vals xs us->Vals (xs.drop n) (us.drop n)
 | _,_,0,r=>r
 | _,_,_+1,.nil=>.nil
 | _,_,n+1,.cons _ t=>Vals.drop n t
noncomputable def RelO:Option V->Option FM->Prop
 | some v,some u=>RelV v u
 | none,none=>True
 | _,_=>False
noncomputable def KV{κ:Type}:List (κ×V)->List (κ×FM)->Prop:=Paired fun(p:κ×V) (q:κ×FM)=>p.1=q.1/\RelV p.2 q.2
noncomputable def kV:Key->V
 | .inl i=>.int i
 | .inr x=>.str x
inductive HO where
 | lst (xs:List V)
 | tup (xs:List V)
 | dK (kvs:List (Key×V)) | dT (kvs:List (List Key×V))
 | set (S:Int->Bool) (n:Nat)
 | ins (C dx:Ev) (fs:List (Str×V))
 | own (x:Ev)
 | xd (fs:List (Str×V))
 | met (f x:Ev)
 | rng (lo hi:Int)
 | frz (o:Obj) (u:HO)
 | tbl (ps:Array FM)
 | ext (φ:Zk->Prop)
noncomputable abbrev Hp:=Ev->Option HO
noncomputable def Aw(H:Hp)(a:Ev)(o:HO):Hp:=λb=>if b=a then some o else H b
theorem AT{H:Hp}{a:Ev}{o:HO}:Aw H a o a=some o:=by unfold Aw; rw [if_pos rfl]
theorem AK{H:Hp}{a b:Ev}{o:HO}(h:b≠a):Aw H a o b=H b:=by unfold Aw; rw [if_neg h]
theorem XJ{H:Hp}{a b:Ev}{o u:HO}(h:H a=some o)(h':H b=some u)(d:o≠u):a≠b:=by
 intro e; subst e; rw [h] at h'; exact d (ZS h')
theorem Ag{H:Hp}{a b:Ev}{o:HO}(h:H a=some o)(h':H b=none):a≠b:=by
 intro e; subst e; rw [h] at h'; cases h'
noncomputable def IsTupN(h:Zk)(a:Ev)(items:Array FM):Prop:=∃o,h.get? a=some o/\o.cls=.type "tuple"/\∃n,o.data=.seq items n/\o.dict=none/\o.slots=#[]
theorem IsTupN.tup{h:Zk}{a:Ev}{items:Array FM}(x:IsTupN h a items):IsTup h a items:=let ⟨o,h1,h2,n,h3,_⟩:=x; ⟨o,h1,h2,n,h3⟩
theorem IsTupN.new(h:Zk)(items:Array FM):IsTupN (h.push { cls:=.type "tuple",data:=.seq items }) h.objs.size items:=⟨_,Uf _ rfl,rfl,_,rfl,rfl,rfl⟩
section
variable (P:Program)(w:World)
noncomputable def ObjOk(H:Hp)(h:Zk)(a:Ev):HO->Prop
 | .lst xs=>xs.length<=sizeLine/\∃(its:List FM) (n:Nat),Vals xs its/\h.get? a=some { cls:=.type "list",data:=.seq its.toArray n }
 | .tup xs=>xs.length<=sizeLine/\∃its:List FM,Vals xs its/\IsTupN h a its.toArray
 | .dK kvs=>kvs.length<=sizeLine/\(a==sysModules)=false/\∃vs,KV kvs vs/\h.DictOf (Ay P w) a vs
 | .dT kvs=>kvs.length<=sizeLine/\(a==sysModules)=false/\∃xs:List (List Key×Ev×FM),
   Paired (fun(p:List Key×V) (q:List Key×Ev×FM)=>p.1=q.1/\H q.2.1=some (.tup (p.1.map kV))/\RelV p.2 q.2.2) kvs xs /\
   ∃o es ep,h.get? a=some o/\o.ExactDict/\o.data=.dict es ep/\es.toList=xs.map (entryOfKey (tupleKind (Ay P w)))/\(xs.map (·.1)).Nodup
 | .set S n=>h.SetOf (intKind P w) a S n
 | .ins C dx fs=>H dx=some (.own a)/\fs.length<=1000/\dx≠a/\h.get? a=some (PySem.W.instObj C dx) /\
   ∃mA,h.Ns1 dx mA/\(∀f,RelO (fs.lookup f) (mA f))/\PySem.Within mA (fs.map (·.1))
 | .own _=>∃o,h.get? a=some o
 | .xd fs=>∃mA,h.Ns1 a mA/\∀f,RelO (fs.lookup f) (mA f)
 | .rng lo hi=>∃t u v,h.get? a=some { cls:=.type "range",data:=.fields #[.int lo t,.int hi u,.int 1 v] }
 | .frz o u=>h.get? a=some o/\ObjOk H h a u
 | .tbl ps=>h.get? a=some { cls:=.none,data:=.fields ps }
 | .met f x=>h.get? a=some (PySem.W.methodObj (.ref f) (.ref x))
 | .ext φ=>φ h/\(∃o,h.get? a=some o)/\∀h1 h2:Zk,φ h1->(∀o,h1.get? a=some o->h2.get? a=some o)->φ h2
noncomputable def HOk(H:Hp)(h:Zk):Prop:=∀a o,H a=some o->ObjOk P w H h a o
end
section
variable {P:Program}{w:World}{H H':Hp}{h h':Heap}{a:Addr}{o:HO}
theorem ObjOk.lt(x:ObjOk P w H h a o):a<h.objs.size:=by
 cases o with
 | lst xs=>obtain⟨_,_,_,_,e⟩:=x; exact ZU e
 | tup xs=>obtain⟨_,_,_,p⟩:=x; exact p.tup.lt
 | dK kvs=>obtain⟨_,_,_,_,o,_,_,e,_⟩:=x; exact ZU e
 | dT kvs=>obtain⟨_,_,_,_,o,_,_,e,_⟩:=x; exact ZU e
 | set S n=>obtain⟨o,_,_,_,e,_⟩:=x; exact ZU e
 | ins C dx fs=>obtain⟨_,_,_,e,_⟩:=x; exact ZU e
 | own y=>obtain⟨_,e⟩:=x; exact ZU e
 | xd fs=>obtain⟨_,⟨_,_,_,e,_⟩,_⟩:=x; exact ZU e
 | rng lo hi=>obtain⟨_,_,_,e⟩:=x; exact ZU e
 | frz ob u=>obtain⟨e,_⟩:=x; exact ZU e
 | tbl ps=>exact ZU (show h.get? a=some _ from x)
 | met f y=>exact ZU (show h.get? a=some _ from x)
 | ext φ=>obtain⟨_,⟨_,e⟩,_⟩:=x; exact ZU e
theorem Paired.mapP{α β:Type}{F G:α->β->Prop}:∀{l₁:List α} {l₂:List β},Paired F l₁ l₂->(∀a b,F a b->G a b)->Paired G l₁ l₂
 | _,_,.nil,_=>.nil
 | _,_,.cons r t,f=>.cons (f _ _ r) (Paired.mapP t f)
theorem ObjOk.stay(x:ObjOk P w H h a o)(k:∀b u,(b=a\/H b=some (.own a))->h.get? b=some u->h'.get? b=some u)
  (ho:∀b,H b=some (.own a)->H' b=some (.own a)) (ht:∀b xs,H b=some (.tup xs)->H' b=some (.tup xs)):ObjOk P w H' h' a o:=by
 induction o with
 | lst xs=>obtain⟨z,its,n,r,e⟩:=x; exact⟨z,its,n,r,k _ _ (.inl rfl) e⟩
 | tup xs=>obtain⟨z,its,r,ob,e,c⟩:=x; exact⟨z,its,r,ob,k _ _ (.inl rfl) e,c⟩
 | dK kvs=>obtain⟨z,y,vs,r,ob,es,ep,e,c⟩:=x; exact⟨z,y,vs,r,ob,es,ep,k _ _ (.inl rfl) e,c⟩
 | dT kvs =>
  obtain⟨z,y,xs,r,ob,es,ep,e,c⟩:=x;exact⟨z,y,xs,Paired.mapP r λp q z=>⟨z.1,ht _ _ z.2.1,z.2.2⟩,ob,es,ep,k _ _ (.inl rfl) e,c⟩
 | set S n=>obtain⟨ob,es,ep,t,e,c⟩:=x; exact⟨ob,es,ep,t,k _ _ (.inl rfl) e,c⟩
 | ins C dx fs =>
  obtain⟨d,z,ne,e,mA,⟨od,es,ep,e2,c⟩,r⟩:=x;exact⟨ho _ d,z,ne,k _ _ (.inl rfl) e,mA,⟨od,es,ep,k _ _ (.inr d) e2,c⟩,r⟩
 | own y=>obtain⟨ob,e⟩:=x; exact⟨ob,k _ _ (.inl rfl) e⟩
 | xd fs=>obtain⟨mA,⟨od,es,ep,e,c⟩,r⟩:=x; exact⟨mA,⟨od,es,ep,k _ _ (.inl rfl) e,c⟩,r⟩
 | rng lo hi=>obtain⟨t,u,v,e⟩:=x; exact⟨t,u,v,k _ _ (.inl rfl) e⟩
 | frz ob u ih=>obtain⟨e,q⟩:=x; exact⟨k _ _ (.inl rfl) e,ih q⟩
 | tbl ps =>
  have e:h.get? a=some { cls:=.none,data:=.fields ps }:=x;show h'.get? a=some { cls:=.none,data:=.fields ps };exact k a _ (.inl rfl) e
 | met f y =>
  have e:h.get? a=some (PySem.W.methodObj (.ref f) (.ref y)):=x;show h'.get? a=some (PySem.W.methodObj (.ref f) (.ref y));exact k a _ (.inl rfl) e
 | ext φ=>obtain⟨p,⟨o,e⟩,st⟩:=x; exact⟨st _ _ p λo q=>k _ _ (.inl rfl) q,⟨o,k _ _ (.inl rfl) e⟩,st⟩
theorem HOk.lt(x:HOk P w H h)(e:H a=some o):a<h.objs.size:=(x a o e).lt
theorem HOk.fresh(x:HOk P w H h)(e:h.objs.size<=a):H a=none:=by
 cases q:H a with
 | none=>rfl
 | some u=>exact absurd (Zv (x.lt q) e) (aM _)
theorem HOk.kept(x:HOk P w H h)(k:∀b u,h.get? b=some u->h'.get? b=some u):HOk P w H h':=λa o e =>
 (x a o e).stay (λb u _ q=>k b u q) (λ_ q=>q) λ_ _ q=>q
theorem HOk.laid(x:HOk P w H h)(k:∀b u,h.get? b=some u->h'.get? b=some u)(hp:h.objs.size<=a)(new:ObjOk P w (Aw H a o) h' a o):HOk P w (Aw H a o) h':=λb u e=>by
 have hn:=x.fresh hp
 by_cases hb:b=a
 ·subst hb; rw [AT] at e; cases e; exact new
 ·rw [AK hb] at e
  exact(x b u e).stay (λc v _ q=>k c v q) (λc q=>by rw [AK (Ag q hn)]; exact q) λc xs q=>by rw [AK (Ag q hn)]; exact q
end
noncomputable def Rd(H:Hp)(a:Ev)(u:HO):Prop:=H a=some u\/∃o,H a=some (.frz o u)
theorem Rd.ok{P:Zs}{w:Zz}{H:Hp}{h:Zk}{a:Ev}{u:HO}(r:Rd H a u)(x:HOk P w H h):ObjOk P w H h a u:=by
 rcases r with r | ⟨o,r⟩
 ·exact x a u r
 ·obtain⟨_,q⟩:=x a _ r
  exact q
noncomputable def Xy:Option HO->Prop
 | some (.lst _)=>True
 | some (.dK _)=>True
 | some (.dT _)=>True
 | some (.set _ _)=>True
 | some (.ins _ _ _)=>True
 | some (.ext _)=>True
 | _=>False
section
variable {P:Program}{w:World}{H:Hp}{h h':Heap}{x e:Addr}{o':HO}
theorem HOk.write(ok:HOk P w H h)(mu:Xy (H x))(he:e=x\/H e=some (.own x))(k:∀b u,b≠e->h.get? b=some u->h'.get? b=some u)(heo:∃u,h'.get? e=some u)
  (new:ObjOk P w (Aw H x o') h' x o'):HOk P w (Aw H x o') h':=λb u q=>by
 have nown:∀c y,H c=some (.own y)->c≠x:=λc y r z=>by subst z; rw [r] at mu; exact mu
 have ntup:∀c xs,H c=some (.tup xs)->c≠x:=λc xs r z=>by subst z; rw [r] at mu; exact mu
 by_cases hb:b=x
 ·subst hb; rw [AT] at q; cases q; exact new
 ·rw [AK hb] at q
  by_cases hbe:b=e
  ·have q':H b=some (.own x):=by
    rcases he with z | z
    ·exact absurd (hbe.trans z) hb
    ·rw [hbe]; exact z
   rw [q] at q'; cases q'
   obtain⟨v,hv⟩:=heo;exact⟨v,by rw [hbe]; exact hv⟩
  ·refine(ok b u q).stay (λc v hc r=>k c v ?_ r) (λc r=>by rw [AK (nown c b r)]; exact r) λc xs r=>by rw [AK (ntup c xs r)]; exact r
   rcases hc with rfl | hc
   ·exact hbe
   ·rintro rfl
    rcases he with z | z
    ·exact nown c b hc z
    ·rw [hc] at z; cases z; exact hb rfl
end
structure Un (fs ex:List Ev) (H H':Hp) (h h':Zk):Prop where
 keep:∀b o,h.get? b=some o->H b=none->b∉fs->b∉ex->h'.get? b=some o
 slot:∀b o,h.get? b=some o->H b=none->b∈fs->b∉ex->∃sl,h'.get? b=some { o with slots:=sl }
 free:∀b o,h.get? b=some o->H b=none->b∉ex->H' b=none
 there:∀b o,h.get? b=some o->b∉ex->∃o',h'.get? b=some o'
 tups:∀b xs,H b=some (.tup xs)->H' b=some (.tup xs)
 frzs:∀b o u,H b=some (.frz o u)->H' b=some (.frz o u)
 tbls:∀b ps,H b=some (.tbl ps)->∃more,H' b=some (.tbl (ps++more))
section
variable {fs fs' ex ex':List Addr}{H H1 H2:Hp}{h h1 h2 h':Heap}{a x e:Addr}{o:HO}
theorem Un.any(u:Un fs ex H H1 h h1){b:Ev}{ob:Obj}(q:h.get? b=some ob)(n:H b=none)(hx:b∉ex):∃sl,h1.get? b=some { ob with slots:=sl }:=by
 by_cases hb:b∈fs
 ·exact u.slot b ob q n hb hx
 ·exact⟨ob.slots,u.keep b ob q n hb hx⟩
theorem Un.kept(k:∀b u,h.get? b=some u->h'.get? b=some u):Un fs ex H H h h' :=
 ⟨λb ob q _ _ _=>k b ob q,λb ob q _ _ _=>⟨ob.slots,k b ob q⟩,λ_ _ _ n _=>n,λb ob q _=>⟨ob,k b ob q⟩,λ_ _ q=>q,λ_ _ _ q=>q,λ_ ps q=>⟨#[],by rw [q]; simp⟩⟩
theorem Un.refl:Un fs ex H H h h:=Un.kept λ_ _ q=>q
theorem Un.laid(k:∀b u,h.get? b=some u->h'.get? b=some u)(hp:h.objs.size<=a)(hn:H a=none):Un fs ex H (Aw H a o) h h' where
 keep:=λb u q _ _ _=>k b u q
 slot:=λb u q _ _ _=>⟨u.slots,k b u q⟩
 free:=λb u q n _=>by rw [AK (Zo (Zv (ZU q) hp))]; exact n
 there:=λb u q _=>⟨u,k b u q⟩
 tups:=λb xs q=>by rw [AK (Ag q hn)]; exact q
 frzs:=λb u xs q=>by rw [AK (Ag q hn)]; exact q
 tbls:=λb ps q=>⟨#[],by rw [AK (Ag q hn),q]; simp⟩
theorem Un.write(mu:Xy (H x))(he:e=x\/H e=some (.own x))(k:∀b u,b≠e->h.get? b=some u->h'.get? b=some u)(heo:∃u,h'.get? e=some u):Un fs ex H (Aw H x o) h h':=by
 have hx:∀b,H b=none->b≠x:=λb n z=>by subst z; rw [n] at mu; exact mu
 have hb:∀b,H b=none->b≠e:=λb n z=>by
  subst z
  rcases he with r | r
  ·exact hx b n r
  ·rw [n] at r; cases r
 have hm:∀b u,H b=some u->¬Xy (some u)->b≠x:=λb u q nm z=>by subst z; rw [q] at mu; exact nm mu
 refine⟨λb u q n _ _=>k b u (hb b n) q,λb u q n _ _=>⟨u.slots,k b u (hb b n) q⟩,λb u q n _=>by rw [AK (hx b n)]; exact n,λb u q _=>?_,
  λb xs q=>by rw [AK (hm b _ q λz=>z)]; exact q,λb u xs q=>by rw [AK (hm b _ q λz=>z)]; exact q,λb ps q=>⟨#[],by rw [AK (hm b _ q λz=>z),q]; simp⟩⟩
 by_cases hbe:b=e
 ·subst hbe; exact heo
 ·exact⟨u,k b u hbe q⟩
end
noncomputable def X3(h:Zk)(H:Hp):List Ev:=(Z7 h.objs.size).filter λa=>(H a).isSome
noncomputable def K_(h:Zk)(H:Hp):Zk:=PySem.W.hideAll h (X3 h H)
theorem P6(h:Zk)(H:Hp):(K_ h H).objs.size=h.objs.size:=PySem.W.hideAll_size _ _
theorem Rx{h:Zk}{H:Hp}{b:Ev}{o:Obj}(e:h.get? b=some o)(n:H b=none):(K_ h H).get? b=some o :=
 PySem.W.hideAll_get _ e λhm=>by
  have q:(H b).isSome=true:=(ax.mp hm).2;rw [n] at q; simp at q
theorem Tg{h:Zk}{H:Hp}{b:Ev}{o:Obj}(e:(K_ h H).get? b=some o):h.get? b=some o/\H b=none:=by
 have e':h.get? b=some o:=PySem.W.of_hideAll (X3 h H) e;refine⟨e',?_⟩;cases q:H b with
 | none=>rfl
 | some x =>
  have hm:b∈X3 h H:=ax.mpr ⟨bM.mpr (ZU e'),by simp [q]⟩;have z:(K_ h H).get? b=none:=PySem.W.hideAll_none (X3 h H) hm;rw [z] at e; cases e
structure Mod (K:Frag) (mg:Str->Option FM) (base:Zk):Prop where
 kin:K.In base
 glob:base.Ns mainGlobals mg
 blt:∃mb,base.Ns builtinsNs mb/\∀x:Str,x ≠ "__name__"->mb x=bootBuiltins x
 nolimit:base.NoLimit
/-- the context: a def's body (or a comprehension's block) running. base: fixed through the whole law; s₀, H₀: the entry; outer: the frames whose slots others may change (a def's callers); stack: all frames that run;
   ex: iterators that were made ahead of the entry and are walked here (a comprehension's); fn: the names whose cells were made at the entry (a def: all; a comprehension's block: its own); calm: not within an except suite; pn: pins that every state bears; xe: what is wanted of an exception that leaves the code -/
structure Cx where
 prog:Zs
 w:Zz
 K:Frag
 mg:Str->Option FM
 base:Zk
 A:aB
 N:List Str
 s₀:Rs
 H₀:Hp
 env:Env
 outer:List Env
 stack:List Env
 ex:List Ev
 fn:Str->Bool
 calm:Bool
 pn:List (Ev×Obj)
 xe:FM->Rs->Prop
noncomputable def Oa(l:List Env):List Ev:=l.filterMap (·.frame)
noncomputable abbrev Cx.fs(X:Cx):List Ev:=Oa X.outer
noncomputable def WX(sc:bQ)(x:Str):Prop:=sc.names.lookup x=some .local\/sc.names.lookup x=some .cell\/sc.names.lookup x=some .free
noncomputable def Loc(sc:bQ)(x:Str):Prop:=sc.names.lookup x=some .local\/sc.names.lookup x=some .cell
noncomputable def Look(env:Env)(h:Zk)(m:Str->Option FM)(x:Str)(u:FM):Prop :=
 (env.kindOf x=some .local/\m x=some u)\/((env.kindOf x=some .cell\/env.kindOf x=some .free)/\∃c,env.cells.lookup x=some c/\h.IsCell c (some u))
structure Cx.Ok (X:Cx):Prop where
 mod:Mod X.K X.mg X.base
 kind:X.env.scope.kind=.function
 glob:X.env.globals=mainGlobals
 blt:X.env.builtins=builtinsNs
 above:X.s₀.heap.objs.size<=X.env.locals
 inj:∀x y c,X.env.cells.lookup x=some c->X.env.cells.lookup y=some c->x=y
 has:∀x,(X.env.kindOf x=some .cell\/X.env.kindOf x=some .free)->∃c,X.env.cells.lookup x=some c
 cab:∀x c,X.fn x=true->X.env.cells.lookup x=some c->X.s₀.heap.objs.size<=c
 hd:X.calm=true->X.A.handled=none
 frames:X.A.frames=some X.stack
 stk:X.stack=X.outer\/(X.stack=X.env::X.outer/\X.env.frame=some X.env.locals)
 exf:∀b∈X.ex,b≠X.env.locals/\∀x c,X.env.cells.lookup x=some c->c≠b
 bs:∀b o,X.base.get? b=some o->X.s₀.heap.get? b=some o/\X.H₀ b=none
 bsz:X.base.objs.size<=X.s₀.heap.objs.size
 noex:∀b o,X.base.get? b=some o->b∉X.ex
 exfs:∀b∈X.ex,b∉X.fs
 funs:X.s₀.heap.FunFrames X.base X.outer
 frf:∀b∈X.fs,X.H₀ b=none
structure Inv (X:Cx) (pins:List (Ev×Obj)) (σ:List (Option V)) (H:Hp) (s:Rs):Prop where
 ok:X.Ok
 os:s.os=X.s₀.os
 bare:cq s.gens
 base:Un X.fs X.ex X.H₀ H X.s₀.heap s.heap
 loc:∃m,s.heap.Ns X.env.locals m/\∀(i:Nat) (x:Str) (v:V),X.N[i]?=some x->σ[i]?=some (some v)->WX X.env.scope x->∃u,RelV v u/\Look X.env s.heap m x u
 cell:∀x c,X.env.cells.lookup x=some c->∃v,s.heap.IsCell c v
 free:H X.env.locals=none
 freeC:∀x c,X.env.cells.lookup x=some c->H c=none
 pin:∀p∈X.pn++pins,s.heap.get? p.1=some p.2/\H p.1=none/\p.1≠X.env.locals/\p.1∉X.fs/\∀v,p.2.data≠.cell v
 hok:HOk X.prog X.w H s.heap
 len:σ.length=X.N.length
section
variable {X:Cx}{pins:List (Addr×Obj)}{σ:List (Option V)}{H H':Hp}{s:Shared}{h':Heap}
theorem Cx.Ok.nofr(ok:X.Ok){b:Ev}{o:Obj}(e:X.base.get? b=some o):b∉X.fs:=λhb=>by
 have:=(ok.funs.mem hb).1
 rw [e] at this; cases this
theorem Inv.bs(I:Inv X pins σ H s):∀b o,X.base.get? b=some o->s.heap.get? b=some o/\H b=none:=λb o e =>
 ⟨I.base.keep b o (I.ok.bs b o e).1 (I.ok.bs b o e).2 (I.ok.nofr e) (I.ok.noex b o e),I.base.free b o (I.ok.bs b o e).1 (I.ok.bs b o e).2 (I.ok.noex b o e)⟩
theorem Inv.bk(I:Inv X pins σ H s):∀b o,X.base.get? b=some o->s.heap.get? b=some o:=λb o e=>(I.bs b o e).1
theorem Inv.mod(I:Inv X pins σ H s):Mod X.K X.mg X.base:=I.ok.mod
theorem Inv.kIn(I:Inv X pins σ H s):X.K.In s.heap:=I.ok.mod.kin.keeps I.bk
theorem Inv.lt(I:Inv X pins σ H s):X.env.locals<s.heap.objs.size:=let ⟨_,hn,_⟩:=I.loc; hn.lt
theorem Inv.sz(I:Inv X pins σ H s):X.s₀.heap.objs.size<=s.heap.objs.size:=Zu I.ok.above (eV I.lt)
theorem Inv.nofs(I:Inv X pins σ H s){a:Ev}(h:s.heap.objs.size<=a):a∉X.fs:=λhb=>by
 obtain⟨_,o,ho,_⟩:=I.ok.funs.mem hb;exact absurd (Zv (ZU ho) (Zu I.sz h)) (aM _)
theorem Inv.cne(I:Inv X pins σ H s):∀x c,X.env.cells.lookup x=some c->c≠X.env.locals:=λx c e z=>by
 obtain⟨v,o,ho,hd⟩:=I.cell x c e;obtain⟨m,⟨o',es,ep,ho',hd',_⟩,_⟩:=I.loc;rw [z,ho'] at ho; cases ho; rw [hd'] at hd; cases hd
theorem Inv.funs(I:Inv X pins σ H s):s.heap.FunFrames X.base X.outer:=by
 have all:∀(l:List Env),(∀b∈Oa l,b∈X.fs)->X.s₀.heap.FunFrames X.base l->s.heap.FunFrames X.base l:=by
  intro l
  induction l with
  | nil=>intro _ _; trivial
  | cons env r ih =>
   intro hs hl;obtain⟨hk,⟨L,o,hf,hn,ho,hd⟩,hr⟩:=hl;have hL:L∈X.fs:=hs L (by unfold Oa; rw [bu,hf]; exact Re);obtain⟨sl,e⟩:=I.base.slot L o ho (I.ok.frf L hL) hL λz=>I.ok.exfs L z hL;exact⟨hk,⟨L,_,hf,hn,e,hd⟩,ih (λb hb=>hs b (by unfold Oa; rw [bu,hf]; exact Sc _ hb)) hr⟩
 exact all X.outer (λ_ hb=>hb) I.ok.funs
theorem Inv.stack(I:Inv X pins σ H s):s.heap.FunFrames X.base X.stack:=by
 rcases I.ok.stk with e | ⟨e,hf⟩
 ·rw [e]; exact I.funs
 ·rw [e]
  obtain⟨m,hn,_⟩:=I.loc;refine .cons (by rw [I.ok.kind]; decide) hf hn ?_ I.funs;exact Heap.get?_none_of_le (Zu I.ok.bsz I.ok.above)
theorem Inv.stkSub(I:Inv X pins σ H s):∀b∈Oa X.stack,b∈X.env.locals::X.fs:=λb hb=>by
 rcases I.ok.stk with e | ⟨e,hf⟩
 ·rw [e] at hb; exact Sc _ hb
 ·rw [e] at hb
  unfold Oa at hb;rw [bu,hf] at hb;exact hb
theorem Inv.stkFree(I:Inv X pins σ H s):∀b∈Oa X.stack,H b=none:=λb hb=>by
 rcases XV.mp (I.stkSub b hb) with e | hb
 ·rw [e]; exact I.free
 ·obtain⟨_,o,ho,_⟩:=I.ok.funs.mem hb
  exact I.base.free b o ho (I.ok.frf b hb) λz=>I.ok.exfs b z hb
theorem Inv.step{g':Array GenState}{t':Nat}{d':Drawn}{ch:List Ev}(I:Inv X pins σ H s)
  (hch:∀b∈ch,(b∈X.ex\/X.s₀.heap.objs.size<=b)/\b≠X.env.locals/\(∀x c,X.env.cells.lookup x=some c->c≠b)/\∀p∈X.pn++pins,p.1≠b)
  (keep:∀b o,b≠X.env.locals->b∉X.fs->b∉ch->s.heap.get? b=some o->H b=none->h'.get? b=some o)
  (slot:∀b o,b≠X.env.locals->b∈X.fs->b∉ch->s.heap.get? b=some o->H b=none->∃sl,h'.get? b=some { o with slots:=sl }) (free:∀b o,b∉ch->s.heap.get? b=some o->H b=none->H' b=none)
  (there:∀b o,b∉ch->s.heap.get? b=some o->∃o',h'.get? b=some o')
  (tups:∀b xs,H b=some (.tup xs)->H' b=some (.tup xs)) (frzs:∀b o u,H b=some (.frz o u)->H' b=some (.frz o u)) (tbls:∀b ps,H b=some (.tbl ps)->∃more,H' b=some (.tbl (ps++more)))
  (ns:∀m,s.heap.Ns X.env.locals m->h'.Ns X.env.locals m) (hok:HOk X.prog X.w H' h') (hg:cq g') :
  Inv X pins σ H' { s with heap:=h',gens:=g',drawn:=d',toks:=t' }:=by
 have neL:∀b o,X.s₀.heap.get? b=some o->b≠X.env.locals:=λb o e=>Zo (Zv (ZU e) I.ok.above)
 have neC:∀b o,X.s₀.heap.get? b=some o->b∉X.ex->b∉ch:=λb o e hx hb=>by
  rcases (hch b hb).1 with z | z
  ·exact hx z
  ·exact absurd (Zv (ZU e) z) (aM _)
 have cellK:∀x c,X.env.cells.lookup x=some c->∀v,s.heap.IsCell c v->h'.IsCell c v:=λx c e v ⟨o,ho,hd⟩=>by
  have nch:c∉ch:=λz=>(hch c z).2.2.1 x c e rfl
  by_cases hc:c∈X.fs
  ·obtain⟨sl,q⟩:=slot c o (I.cne x c e) hc nch ho (I.freeC x c e)
   exact⟨_,q,hd⟩
  ·exact⟨o,keep c o (I.cne x c e) hc nch ho (I.freeC x c e),hd⟩
 refine⟨I.ok,I.os,hg,⟨λb o e n hb hx=>?_,λb o e n hb hx=>?_,λb o e n hx=>?_,λb o e hx=>?_,λb xs e=>tups b xs (I.base.tups b xs e),λb o xs e=>frzs b o xs (I.base.frzs b o xs e),λb ps e=>?_⟩,?_,λx c e=>?_,?_,λx c e=>?_,λp hp=>?_,hok,I.len⟩
 ·exact keep b o (neL b o e) hb (neC b o e hx) (I.base.keep b o e n hb hx) (I.base.free b o e n hx)
 ·obtain⟨sl,e1⟩:=I.base.slot b o e n hb hx
  obtain⟨sl',e2⟩:=slot b _ (neL b o e) hb (neC b o e hx) e1 (I.base.free b o e n hx);exact⟨sl',e2⟩
 ·obtain⟨o',e1⟩:=I.base.there b o e hx
  exact free b o' (neC b o e hx) e1 (I.base.free b o e n hx)
 ·obtain⟨o',e1⟩:=I.base.there b o e hx
  exact there b o' (neC b o e hx) e1
 ·obtain⟨m1,e1⟩:=I.base.tbls b ps e
  obtain⟨m2,e2⟩:=tbls b _ e1;exact⟨m1++m2,by rw [e2,Array.append_assoc]⟩
 ·obtain⟨m,hn,hl⟩:=I.loc
  refine⟨m,ns m hn,λi x v e1 e2 e3=>?_⟩;obtain⟨u,r,l⟩:=hl i x v e1 e2 e3;refine⟨u,r,?_⟩
  rcases l with l | ⟨k,c,e,z⟩
  ·exact .inl l
  ·exact .inr ⟨k,c,e,cellK x c e _ z⟩
 ·obtain⟨v,z⟩:=I.cell x c e
  exact⟨v,cellK x c e v z⟩
 ·obtain⟨m,⟨o,_,_,ho,_⟩,_⟩:=I.loc
  exact free _ o (λz=>(hch _ z).2.1 rfl) ho I.free
 ·obtain⟨v,o,ho,hd⟩:=I.cell x c e
  exact free c o (λz=>(hch c z).2.2.1 x c e rfl) ho (I.freeC x c e)
 ·obtain⟨e,n,ne,nf,d⟩:=I.pin p hp
  have nch:p.1∉ch:=λz=>(hch p.1 z).2.2.2 p hp rfl;exact⟨keep p.1 p.2 ne nf nch e n,free p.1 p.2 nch e n,ne,nf,d⟩
theorem Inv.un{t':Nat}(I:Inv X pins σ H s)(u:Un X.fs [] H H' s.heap h')(hok:HOk X.prog X.w H' h'):Inv X pins σ H' { s with heap:=h',toks:=t' }:=by
 obtain⟨m,⟨o,es,ep,ho,r⟩,_⟩:=id I.loc;obtain⟨sl,hL⟩:=u.any ho I.free (by simp)
 exact I.step (g':=s.gens) (d':=s.drawn) (ch:=[]) (λ_ z=>nomatch z) (λb o _ hb _ e n=>u.keep b o e n hb (by simp)) (λb o _ hb _ e n=>u.slot b o e n hb (by simp)) (λb o _ e n=>u.free b o e n (by simp)) (λb o _ e=>u.there b o e (by simp)) u.tups u.frzs u.tbls (λm' hm=>by
  obtain⟨o',es',ep',ho',r'⟩:=hm;rw [ho] at ho'; cases ho'
  exact⟨_,es',ep',hL,r'⟩) hok I.bare
theorem Inv.call{g':Array GenState}{t':Nat}{d':Drawn}{ch:List Ev}(I:Inv X pins σ H s)(u:Un (Oa X.stack) ch H H' s.heap h')(hok:HOk X.prog X.w H' h')(hg:cq g')
  (hch:∀b∈ch,(b∈X.ex\/X.s₀.heap.objs.size<=b)/\b≠X.env.locals/\(∀x c,X.env.cells.lookup x=some c->c≠b)/\∀p∈X.pn++pins,p.1≠b) :
  Inv X pins σ H' { s with heap:=h',gens:=g',drawn:=d',toks:=t' }:=by
 obtain⟨m,⟨o,es,ep,ho,r⟩,_⟩:=id I.loc;obtain⟨sl,hL⟩:=u.any ho I.free λz=>(hch _ z).2.1 rfl
 exact I.step (ch:=ch) hch (λb o hL hb hc e n=>u.keep b o e n (λz=>(XV.mp (I.stkSub b z)).elim hL hb) hc) (λb o _ _ hc e n=>u.any e n hc) (λb o hc e n=>u.free b o e n hc) (λb o hc e=>u.there b o e hc) u.tups u.frzs u.tbls (λm' hm=>by
  obtain⟨o',es',ep',ho',r'⟩:=hm;rw [ho] at ho'; cases ho'
  exact⟨_,es',ep',hL,r'⟩) hok hg
theorem Inv.turned{t':Nat}{it:Ev}(I:Inv X pins σ H s)(k:∀b o,b≠it->s.heap.get? b=some o->h'.get? b=some o)(hn:H it=none)(hL:it≠X.env.locals)
  (h1:it∈X.ex\/X.s₀.heap.objs.size<=it) (h2:∀x c,X.env.cells.lookup x=some c->c≠it) (h3:∀p∈X.pn++pins,p.1≠it):Inv X pins σ H { s with heap:=h',toks:=t' }:=by
 have nit:∀b u,H b=some u->b≠it:=λb u e z=>by rw [z,hn] at e; cases e
 refine I.step (g':=s.gens) (d':=s.drawn) (ch:=[it]) (λb hb=>?_) (λb o _ _ hc e _=>k b o (λz=>hc (by simp [z])) e) (λb o _ _ hc e _=>⟨o.slots,k b o (λz=>hc (by simp [z])) e⟩) (λ_ _ _ _ n=>n)
  (λb o hc e=>⟨o,k b o (λz=>hc (by simp [z])) e⟩) (λ_ _ e=>e) (λ_ _ _ e=>e) (λb ps e=>⟨#[],by rw [e]; simp⟩) (λm hm=>?_) (λb u e=>?_) I.bare
 ·have e:b=it:=by simpa using hb
  subst e;exact⟨h1,hL,h2,h3⟩
 ·obtain⟨o,es,ep,ho,r⟩:=hm
  exact⟨o,es,ep,k _ o (aI hL) ho,r⟩
 ·refine(I.hok b u e).stay (λc v hc q=>k c v ?_ q) (λ_ q=>q) λ_ _ q=>q
  rcases hc with z | z
  ·rw [z]; exact nit b u e
  ·exact nit c _ z
theorem Inv.tok(I:Inv X pins σ H s)(t:Nat):Inv X pins σ H { s with toks:=t }:=I.un (h':=s.heap) (t':=t) Un.refl I.hok
theorem Inv.kept{t':Nat}(I:Inv X pins σ H s)(k:∀b u,s.heap.get? b=some u->h'.get? b=some u):Inv X pins σ H { s with heap:=h',toks:=t' }:=I.un (Un.kept k) (I.hok.kept k)
theorem Inv.laid{a:Ev}{o:HO}{t':Nat}(I:Inv X pins σ H s)(k:∀b u,s.heap.get? b=some u->h'.get? b=some u)(hp:s.heap.objs.size<=a)(new:ObjOk X.prog X.w (Aw H a o) h' a o) :
  Inv X pins σ (Aw H a o) { s with heap:=h',toks:=t' }:=I.un (Un.laid k hp (I.hok.fresh hp)) (I.hok.laid k hp new)
theorem Inv.write{x e:Ev}{o:HO}{t':Nat}(I:Inv X pins σ H s)(mu:Xy (H x))(he:e=x\/H e=some (.own x))(k:∀b u,b≠e->s.heap.get? b=some u->h'.get? b=some u)(heo:∃u,h'.get? e=some u)
  (new:ObjOk X.prog X.w (Aw H x o) h' x o):Inv X pins σ (Aw H x o) { s with heap:=h',toks:=t' }:=I.un (Un.write mu he k heo) (I.hok.write mu he k heo new)
theorem Inv.pins_of{pins':List (Ev×Obj)}(I:Inv X pins σ H s)(h:∀p∈pins',s.heap.get? p.1=some p.2/\H p.1=none/\p.1≠X.env.locals/\p.1∉X.fs/\∀v,p.2.data≠.cell v):Inv X pins' σ H s :=
 ⟨I.ok,I.os,I.bare,I.base,I.loc,I.cell,I.free,I.freeC,λp hp=>(Zb.mp hp).elim (λz=>I.pin p (Zt _ z)) (h p),I.hok,I.len⟩
theorem MA{N:List Str}(hN:N.Nodup){i j:Nat}{x:Str}(a:N[i]?=some x)(b:N[j]?=some x):i=j:=by
 obtain⟨h1,e1⟩:=ZB.mp a;obtain⟨h2,e2⟩:=ZB.mp b;exact(eX hN).mp (e1.trans e2.symm)
theorem PC{M:Model}{A:aB}{E:FM->Rs->Prop}{i:Nat}{x:Str}{v:V}{u:FM}{Q:Unit->Rs->Prop}(I:Inv X pins σ H s)(hN:X.N.Nodup)(hi:X.N[i]?=some x)(hx:Loc X.env.scope x)(r:RelV v u)
  (h:∀s',Inv X pins (σ.set i (some v)) H s'->(∃a,dO a s.heap s'.heap/\(a=X.env.locals\/X.env.cells.lookup x=some a))->Q () s') (hf:autoParam (X.fn x=true\/X.env.scope.names.lookup x=some .local) zau0._auto_1):wpAny M A (storeName X.env x u) Q E s:=by
 obtain⟨m,hn,hl⟩:=id I.loc;have hcls:(X.env.scope.kind==.class||(X.env.scope.kind==.module&&X.env.locals != X.env.globals))=false:=by rw [I.ok.kind]; rfl
 have hiσ:i<σ.length:=by rw [I.len]; exact(ZB.mp hi).1
 have cne:=I.cne
 have tracked:∀{a:Ev} {h':Zk},(∃o,s.heap.get? a=some o/\H a=none)->dO a s.heap h'->HOk X.prog X.w H h':=λ{a h'} ha hs b ob e=>by
  obtain⟨_,_,hfree⟩:=ha;refine(I.hok b ob e).stay (λc w' hc q=>(hs.2 c ?_).trans q) (λ_ q=>q) λ_ _ q=>q;rintro rfl
  rcases hc with rfl | hc
  ·rw [hfree] at e; cases e
  ·rw [hfree] at hc; cases hc
 rcases hx with hk | hk
 ·refine wpAny_storeName_local hk hn (λh' hn' hs=>?_) hcls
  obtain⟨oL,_,_,hoL,_⟩:=id hn;refine h _ ⟨I.ok,I.os,I.bare,⟨λb o e n hb hx=>?_,λb o e n hb hx=>?_,I.base.free,λb o e hx=>?_,I.base.tups,I.base.frzs,I.base.tbls⟩,⟨_,hn',λj y v' e1 e2 e3=>?_⟩,λy c e=>?_,I.free,I.freeC,λp hp=>?_,tracked ⟨oL,hoL,I.free⟩ hs,by simpa using I.len⟩ ⟨_,hs,.inl rfl⟩
  ·exact(hs.2 b (Zo (Zv (ZU e) I.ok.above))).trans (I.base.keep b o e n hb hx)
  ·obtain⟨sl,e1⟩:=I.base.slot b o e n hb hx
   exact⟨sl,(hs.2 b (Zo (Zv (ZU e) I.ok.above))).trans e1⟩
  ·obtain⟨o',e1⟩:=I.base.there b o e hx
   exact⟨o',(hs.2 b (Zo (Zv (ZU e) I.ok.above))).trans e1⟩
  ·by_cases hj:j=i
   ·subst hj
    rw [hi] at e1; cases e1
    rw [fG hiσ] at e2;cases e2;exact⟨u,r,.inl ⟨hk,by simp⟩⟩
   ·rw [List.getElem?_set_ne (aI hj)] at e2
    obtain⟨u',r',q⟩:=hl j y v' e1 e2 e3;refine⟨u',r',?_⟩
    rcases q with ⟨k,e⟩ | ⟨k,c,e,z⟩
    ·refine .inl ⟨k,?_⟩
     have:y≠x:=λe=>hj (MA hN e1 (e▸hi))
     simp [this,e]
    ·exact .inr ⟨k,c,e,z.sameBut hs (cne y c e)⟩
  ·obtain⟨w',z⟩:=I.cell y c e
   exact⟨w',z.sameBut hs (cne y c e)⟩
  ·obtain⟨e,n,ne,nf,d⟩:=I.pin p hp
   exact⟨(hs.2 p.1 ne).trans e,n,ne,nf,d⟩
 ·have hfn:X.fn x=true:=by
   rcases hf with z | z
   ·exact z
   ·rw [z] at hk; cases hk
  obtain⟨c,hc⟩:=I.ok.has x (.inl hk);obtain⟨w',z⟩:=I.cell x c hc;refine wpAny_storeName_cell I.ok.kind hk hc z (λh' hc' hs=>?_);obtain⟨oc,hoc,hocd⟩:=id z;refine h { s with heap:=h' } ⟨I.ok,I.os,I.bare,⟨λb o e n hb hx=>?_,λb o e n hb hx=>?_,I.base.free,λb o e hx=>?_,I.base.tups,I.base.frzs,I.base.tbls⟩,⟨m,hn.sameBut hs (aI (cne x c hc)),λj y v' e1 e2 e3=>?_⟩,λy c' e=>?_,I.free,I.freeC,λp hp=>?_,tracked ⟨oc,hoc,I.freeC x c hc⟩ hs,by simpa using I.len⟩ ⟨c,hs,.inr hc⟩
  ·exact(hs.2 b (Zo (Zv (ZU e) (I.ok.cab x c hfn hc)))).trans (I.base.keep b o e n hb hx)
  ·obtain⟨sl,e1⟩:=I.base.slot b o e n hb hx
   exact⟨sl,(hs.2 b (Zo (Zv (ZU e) (I.ok.cab x c hfn hc)))).trans e1⟩
  ·obtain⟨o',e1⟩:=I.base.there b o e hx
   exact⟨o',(hs.2 b (Zo (Zv (ZU e) (I.ok.cab x c hfn hc)))).trans e1⟩
  ·by_cases hj:j=i
   ·subst hj
    rw [hi] at e1; cases e1
    rw [fG hiσ] at e2;cases e2;exact⟨u,r,.inr ⟨.inl hk,c,hc,hc'⟩⟩
   ·rw [List.getElem?_set_ne (aI hj)] at e2
    obtain⟨u',r',q⟩:=hl j y v' e1 e2 e3;refine⟨u',r',?_⟩
    rcases q with q | ⟨k,c',e,z'⟩
    ·exact .inl q
    ·refine .inr ⟨k,c',e,z'.sameBut hs ?_⟩
     rintro rfl;exact hj (MA hN e1 (I.ok.inj _ _ _ e hc▸hi))
  ·by_cases hcc:c'=c
   ·subst hcc; exact⟨_,hc'⟩
   ·obtain⟨w2,z2⟩:=I.cell y c' e
    exact⟨w2,z2.sameBut hs hcc⟩
  ·obtain⟨e,n,ne,nf,d⟩:=I.pin p hp
   refine⟨(hs.2 p.1 ?_).trans e,n,ne,nf,d⟩;intro q;rw [q,hoc] at e;have q':oc=p.2:=ZS e;exact d w' (by rw [← q']; exact hocd)
theorem Ln{M:Model}{A:aB}{E:FM->Rs->Prop}{i:Nat}{x:Str}{v:V}{u:FM}{Q:Unit->Rs->Prop}(I:Inv X pins σ H s)(hN:X.N.Nodup)(hi:X.N[i]?=some x)(hx:Loc X.env.scope x)(r:RelV v u)
  (h:∀s',Inv X pins (σ.set i (some v)) H s'->Q () s') (hf:autoParam (X.fn x=true\/X.env.scope.names.lookup x=some .local) zau0._auto_1):wpAny M A (storeName X.env x u) Q E s :=
 PC I hN hi hx r (λs' I' _=>h s' I') hf
theorem Inv.call'{s':Rs}{ch:List Ev}(I:Inv X pins σ H s)(ho:s'.os=s.os)(u:Un (Oa X.stack) ch H H' s.heap s'.heap)(hok:HOk X.prog X.w H' s'.heap)(hg:cq s'.gens)
  (hch:∀b∈ch,(b∈X.ex\/X.s₀.heap.objs.size<=b)/\b≠X.env.locals/\(∀x c,X.env.cells.lookup x=some c->c≠b)/\∀p∈X.pn++pins,p.1≠b):Inv X pins σ H' s':=by
 obtain⟨h',g',d',t',o'⟩:=s';have e:o'=s.os:=ho;subst e;exact I.call (g':=g') (t':=t') (d':=d') u hok hg hch
end
noncomputable abbrev XK:=FM->Option Ev->Hp->Prop
noncomputable abbrev St:=List (Option V)
noncomputable abbrev VK:=V->Hp->Prop
noncomputable abbrev TE:=St->Hp->VK->Prop
noncomputable abbrev TT:=St->Hp->(Bool->Hp->Prop)->Prop
noncomputable abbrev TA:=St->Hp->(List V->Hp->Prop)->Prop
structure Ends where
 nx:St->Hp->Prop
 rt:VK
 bk:St->Hp->Prop:=λ_ _=>False
 ct:St->Hp->Prop:=λ_ _=>False
noncomputable abbrev TS:=Ends->St->Hp->Prop
noncomputable def EP(X:Cx)(pins:List (Ev×Obj))(σ:St)(Q:VK)(u:FM)(s':Rs):Prop:=∃v H',Inv X pins σ H' s'/\RelV v u/\Q v H'
noncomputable def TP(X:Cx)(pins:List (Ev×Obj))(σ:St)(Q:Bool->Hp->Prop)(b:Bool)(s':Rs):Prop:=∃H',Inv X pins σ H' s'/\Q b H'
noncomputable def AP(X:Cx)(pins:List (Ev×Obj))(σ:St)(Q:List V->Hp->Prop)(us:List FM)(s':Rs):Prop:=∃vs H',Inv X pins σ H' s'/\Vals vs us/\Q vs H'
noncomputable def SP(X:Cx)(pins:List (Ev×Obj))(D:Ends)(f:Flow)(s':Rs):Prop :=
 match f with
 | .next=>∃σ' H',Inv X pins σ' H' s'/\D.nx σ' H'
 | .brk=>∃σ' H',Inv X pins σ' H' s'/\D.bk σ' H'
 | .cont=>∃σ' H',Inv X pins σ' H' s'/\D.ct σ' H'
 | .ret u=>∃v σ' H',Inv X pins σ' H' s'/\RelV v u/\D.rt v H'
noncomputable def PE(X:Cx)(e:Zq)(t:TE):Prop :=
 ∀(pins:List (Ev×Obj)) (s:Rs) (σ:St) (H:Hp) (Q:VK),Inv X pins σ H s->t σ H Q->wpAny (model X.prog X.w) X.A (eval e X.env) (EP X pins σ Q) X.xe s
noncomputable def PT(X:Cx)(e:Zq)(t:TT):Prop :=
 ∀(pins:List (Ev×Obj)) (s:Rs) (σ:St) (H:Hp) (Q:Bool->Hp->Prop),Inv X pins σ H s->t σ H Q->wpAny (model X.prog X.w) X.A (isTrue e X.env (eval e X.env)) (TP X pins σ Q) X.xe s
noncomputable def PW(X:Cx)(e:Zq)(t:TT):Prop :=
 ∀(whole:Sem FM) (pins:List (Ev×Obj)) (s:Rs) (σ:St) (H:Hp) (Q:Bool->Hp->Prop),Inv X pins σ H s->t σ H Q->wpAny (model X.prog X.w) X.A (isTrue e X.env whole) (TP X pins σ Q) X.xe s
theorem PW.pt{X:Cx}{e:Zq}{t:TT}(h:PW X e t):PT X e t:=h _
noncomputable def PA(X:Cx)(es:List Zq)(t:TA):Prop :=
 ∀(pos:Pos) (pins:List (Ev×Obj)) (s:Rs) (σ:St) (H:Hp) (Q:List V->Hp->Prop),Inv X pins σ H s->t σ H Q->wpAny (model X.prog X.w) X.A (spliced (backTo pos (starEach es X.env))) (AP X pins σ Q) X.xe s
noncomputable def PS(X:Cx)(st:Z9)(t:TS):Prop :=
 ∀(pins:List (Ev×Obj)) (s:Rs) (σ:St) (H:Hp) (D:Ends),Inv X pins σ H s->t D σ H->wpAny (model X.prog X.w) X.A (exec st X.env) (SP X pins D) X.xe s
noncomputable def PSs(X:Cx)(st:List Z9)(t:TS):Prop :=
 ∀(pins:List (Ev×Obj)) (s:Rs) (σ:St) (H:Hp) (D:Ends),Inv X pins σ H s->t D σ H->wpAny (model X.prog X.w) X.A (execs st X.env) (SP X pins D) X.xe s
theorem BV{α:Type}{t:Sem α}{Q Q':α->Rs->Prop}{M:Model}{A:aB}{E:FM->Rs->Prop}{s:Rs}(h:wpAny M A t Q E s)(hQ:∀a s,Q a s->Q' a s):wpAny M A t Q' E s:=aJ h hQ λ_ _ x=>x
section
variable {X:Cx}
noncomputable def BU(i:Nat):TE:=λσ H Q=>∃v,σ[i]?=some (some v)/\Q v H
noncomputable def tC(v:V):TE:=λ_ H Q=>Q v H
theorem Kx{i:Nat}{x:Str}{pos:Pos}(hN:X.N[i]?=some x)(hv:WX X.env.scope x)(hd:autoParam ((x==("__debug__":Str))=false) zau1._auto_1)(hcd:autoParam ((x==("__classdict__":Str))=false) zau1._auto_1):PE X (.Name x pos) (BU i):=by
 intro pins s σ H Q I h;obtain⟨v,e,h⟩:=h;obtain⟨m,hn,hl⟩:=I.loc;obtain⟨u,r,l⟩:=hl i x v hN e hv;have fin:EP X pins σ Q u s:=⟨v,H,I,r,h⟩
 rcases l with ⟨hk,hm⟩ | ⟨hk,c,hc,hcell⟩
 ·exact wpAny_Name (wpAny_loadName_local I.ok.kind hk hn hm fin) hd
 ·rcases hk with hk | hk
  ·exact wpAny_Name (wpAny_loadName_cell I.ok.kind hk hc hcell fin) hd
  ·exact wpAny_Name (wpAny_loadName_free I.ok.kind hk hc hcell fin hcd) hd
theorem As{i j pos}:PE X (.Constant (.int i) j pos) (tC (.int i)):=λ_ _ _ H _ I h=>wpAny_Constant_int ⟨.int i,H,I.tok _,⟨_,rfl⟩,h⟩
theorem XD{b j pos}:PE X (.Constant (.bool b) j pos) (tC (.bl b)):=λ_ _ _ H _ I h=>Constant_bool ⟨.bl b,H,I,rfl,h⟩
theorem Vg{j pos}:PE X (.Constant .none j pos) (tC .non):=λ_ _ _ H _ I h=>Constant_none ⟨.non,H,I,rfl,h⟩
theorem Vd{x j pos}:PE X (.Constant (.str x) j pos) (tC (.str x)):=λ_ _ _ H _ I h=>Calls.Constant_str ⟨.str x,H,I.tok _,⟨_,rfl⟩,h⟩
noncomputable def Gl(X:Cx)(x:Str):Prop:=X.env.kindOf x=some .globalImplicit
theorem OX{E:FM->Rs->Prop}{pins:List (Ev×Obj)}{s:Rs}{σ:St}{H:Hp}{x:Str}{u:FM}{pos:Pos}{Q:FM->Rs->Prop}(I:Inv X pins σ H s)(hg:Gl X x)(hm:X.mg x=some u)(h:Q u s)
  (hd:autoParam ((x==("__debug__":Str))=false) zau1._auto_1):wpAny (model X.prog X.w) X.A (eval (.Name x pos) X.env) Q E s :=
 eE I.ok.kind hg (Calls.loadGlobal_global (by rw [I.ok.glob]; exact I.mod.glob.keeps I.bk) hm h) hd
theorem Dr{E:FM->Rs->Prop}{pins:List (Ev×Obj)}{s:Rs}{σ:St}{H:Hp}{x:Str}{u:FM}{pos:Pos}{Q:FM->Rs->Prop}(I:Inv X pins σ H s)(hg:Gl X x)(hm:X.mg x=none)(hv:bootBuiltins x=some u)(h:Q u s)
  (hn:autoParam (x ≠ "__name__") zau1._auto_1) (hd:autoParam ((x==("__debug__":Str))=false) zau1._auto_1):wpAny (model X.prog X.w) X.A (eval (.Name x pos) X.env) Q E s:=by
 obtain⟨mb,h1,h2⟩:=I.mod.blt;exact eE I.ok.kind hg (Calls.loadGlobal_builtin (by rw [I.ok.glob]; exact I.mod.glob.keeps I.bk) hm (by rw [I.ok.blt]; exact h1.keeps I.bk) ((h2 x hn).trans hv) h) hd
theorem Ta{x:Str}{v:V}{u:FM}{pos:Pos}(hg:Gl X x)(hm:X.mg x=none)(hv:bootBuiltins x=some u)(r:RelV v u)(hn:autoParam (x ≠ "__name__") zau1._auto_1)(hd:autoParam ((x==("__debug__":Str))=false) zau1._auto_1):PE X (.Name x pos) (tC v) :=
 λ_ _ _ H _ I h=>Dr I hg hm hv ⟨v,H,I,r,h⟩ hn hd
variable {a b:Expr}{ta tb:TE}{pos:Pos}
noncomputable def tB(t:TE):TT:=λσ H Q=>t σ H λx H1=>∃c,x=.bl c/\Q c H1
theorem VZ{e:Zq}{t:TE}(h:PE X e t)(he:autoParam (∀whole,isTrue e X.env whole=(do let v ← whole; standAt e.pos; holding [v] (truthy v))) zau2._auto_1):PT X e (tB t):=by
 intro pins s σ H Q I hw;refine isTrue_plain (BV (h pins s σ H _ I hw) λv s1 ⟨x,H1,I1,r1,q1⟩=>?_) (he _);obtain⟨d,rfl,q⟩:=q1;cases r1;exact bH ⟨H1,I1,q⟩
variable {tA tB':TT}{rest:List Expr}
noncomputable def Ws(t u:TT):TT:=λσ H Q=>t σ H λc H1=>if c=true then u σ H1 Q else Q false H1
noncomputable def ZF(t u:TT):TT:=λσ H Q=>t σ H λc H1=>if c=true then Q true H1 else u σ H1 Q
noncomputable def YL(t:TT):TT:=λσ H Q=>t σ H λc H1=>Q (!c) H1
theorem OM(ha:PT X a tA):PW X (.BoolOp .And [a] pos) tA:=by
 intro wh pins s σ H Q I h;refine isTrue_and (BV (ha pins s σ H Q I h) λc s1 e=>?_);cases c with
 | true=>exact isTrue_and_nil e
 | false=>exact e
theorem VY(ha:PT X a tA):PW X (.BoolOp .Or [a] pos) tA:=by
 intro wh pins s σ H Q I h;refine isTrue_or (BV (ha pins s σ H Q I h) λc s1 e=>?_);cases c with
 | false=>exact isTrue_or_nil e
 | true=>exact e
theorem RB(ha:PT X a tA)(hb:PW X (.BoolOp .And (b::rest) pos) tB'):PW X (.BoolOp .And (a::b::rest) pos) (Ws tA tB'):=by
 intro wh pins s σ H Q I h;refine isTrue_and (BV (ha pins s σ H _ I h) λc s1 ⟨H1,I1,q1⟩=>?_);cases c with
 | true=>exact hb wh pins s1 σ H1 Q I1 q1
 | false=>exact⟨H1,I1,q1⟩
theorem XB(ha:PT X a tA)(hb:PW X (.BoolOp .Or (b::rest) pos) tB'):PW X (.BoolOp .Or (a::b::rest) pos) (ZF tA tB'):=by
 intro wh pins s σ H Q I h;refine isTrue_or (BV (ha pins s σ H _ I h) λc s1 ⟨H1,I1,q1⟩=>?_);cases c with
 | true=>exact⟨H1,I1,q1⟩
 | false=>exact hb wh pins s1 σ H1 Q I1 q1
theorem Va(ha:PT X a tA):PT X (.UnaryOp .Not a pos) (YL tA):=by
 intro pins s σ H Q I h;exact isTrue_not (ha pins s σ H (λc H1=>Q (!c) H1) I h)
noncomputable def Wq(ta tb:TE):TE:=λσ H Q=>ta σ H λx H1=>∃c,x=.bl c/\if c=true then tb σ H1 Q else Q (.bl false) H1
noncomputable def Wi(ta:TE):TE:=λσ H Q=>ta σ H λx H1=>∃c,x=.bl c/\Q (.bl (!c)) H1
theorem Ve{op}{t:TE}(h:PE X a t):PE X (.BoolOp op [a] pos) t:=λpins s σ H Q I hw=>BoolOp_one (h pins s σ H Q I hw)
theorem Vh(ha:PE X a ta)(hb:PE X (.BoolOp .And (b::rest) pos) tb):PE X (.BoolOp .And (a::b::rest) pos) (Wq ta tb):=by
 intro pins s σ H Q I h;refine BoolOp_and (BV (ha pins s σ H _ I h) λv s1 ⟨x,H1,I1,r1,q1⟩=>?_);obtain⟨c,rfl,q1⟩:=q1;cases r1;refine bH ?_;cases c with
 | true=>exact hb pins s1 σ H1 Q I1 q1
 | false=>exact⟨.bl false,H1,I1,rfl,q1⟩
theorem Vf(ha:PE X a ta):PE X (.UnaryOp .Not a pos) (Wi ta):=by
 intro pins s σ H Q I h;refine UnaryOp_ (BV (ha pins s σ H _ I h) λv s1 ⟨x,H1,I1,r1,q1⟩=>?_);obtain⟨c,rfl,q1⟩:=q1;cases r1;exact not_of (bH ⟨.bl (!c),H1,I1,rfl,q1⟩)
noncomputable def ZG(t:TT)(ta tb:TE):TE:=λσ H Q=>t σ H λc H1=>if c=true then ta σ H1 Q else tb σ H1 Q
theorem L5{c:Zq}(hc:PT X c tA)(ha:PE X a ta)(hb:PE X b tb):PE X (.IfExp c a b pos) (ZG tA ta tb):=by
 intro pins s σ H Q I h;refine wpAny_IfExp (BV (hc pins s σ H _ I h) λd s1 ⟨H1,I1,q1⟩=>?_);cases d with
 | true=>exact ha pins s1 σ H1 Q I1 q1
 | false=>exact hb pins s1 σ H1 Q I1 q1
end
noncomputable def SqL(K:Frag)(H:Hp)(a:Ev)(xs:List V):Prop :=
 Rd H a (.lst xs) \/
  ∃(o:Obj) (its:Array FM) (n:Nat),K.lookup a=some o/\o.cls=.type "list"/\o.dict=none/\o.data=.seq its n/\its.size<=sizeLine/\Vals xs its.toList
noncomputable def SqT(K:Frag)(H:Hp)(a:Ev)(xs:List V):Prop :=
 Rd H a (.tup xs) \/
  ∃(o:Obj) (its:Array FM) (n:Nat),K.lookup a=some o/\o.cls=.type "tuple"/\o.data=.seq its n/\its.size<=sizeLine/\Vals xs its.toList
noncomputable def Yn:FM->Option V
 | .none=>some .non
 | .bool b=>some (.bl b)
 | .int i _=>some (.int i)
 | .str x _=>some (.str x)
 | .bytes b _=>some (.byt b)
 | .float b _=>some (.flt b)
 | .ref a=>some (.ref a)
 | .type n=>some (.ty n)
 | _=>none
theorem RelV.abs{x:V}{u:FM}(r:RelV x u):Yn u=some x:=by
 cases x with
 | non=>cases r; rfl
 | bl _=>cases r; rfl
 | int _=>obtain⟨t,rfl⟩:=r; rfl
 | str _=>obtain⟨t,rfl⟩:=r; rfl
 | byt _=>obtain⟨t,rfl⟩:=r; rfl
 | flt _=>obtain⟨t,rfl⟩:=r; rfl
 | ref _=>cases r; rfl
 | ty _=>cases r; rfl
theorem RelV.inj{x y:V}{u:FM}(r:RelV x u)(q:RelV y u):x=y:=ZS (r.abs.symm.trans q.abs)
theorem Vals.inj:∀{xs ys:List V} {us:List FM},Vals xs us->Vals ys us->xs=ys
 | _,_,_,.nil,.nil=>rfl
 | _,_,_,.cons r t,.cons r' t'=>by rw [r.inj r',Vals.inj t t']
section
variable {X:Cx}{pins:List (Addr×Obj)}{σ:St}{H:Hp}{s:Shared}{a:Addr}{xs ys:List V}
theorem SqL.of{K:Frag}(h:H a=some (.lst xs)):SqL K H a xs:=.inl (.inl h)
theorem SqT.of{K:Frag}(h:H a=some (.tup xs)):SqT K H a xs:=.inl (.inl h)
theorem Inv.list(I:Inv X pins σ H s)(h:SqL X.K H a xs):∃its:List FM,Vals xs its/\PlainL s.heap a its.toArray/\xs.length<=sizeLine:=by
 rcases h with h | ⟨o,its,n,hk,hc,hd,hs,hz,r⟩
 ·obtain⟨z,its,n,r,e⟩:=h.ok I.hok
  exact⟨its,r,⟨_,n,e,rfl,rfl,rfl⟩,z⟩
 ·refine⟨its.toList,r,⟨o,n,I.kIn a o hk,hc,hd,by simpa using hs⟩,?_⟩
  have e:=r.length;simp only [Z5] at e;omega
theorem Inv.tuple(I:Inv X pins σ H s)(h:SqT X.K H a xs):∃its:List FM,Vals xs its/\IsTup s.heap a its.toArray/\xs.length<=sizeLine:=by
 rcases h with h | ⟨o,its,n,hk,hc,hs,hz,r⟩
 ·obtain⟨z,its,r,p⟩:=h.ok I.hok
  exact⟨its,r,p.tup,z⟩
 ·refine⟨its.toList,r,⟨o,I.kIn a o hk,hc,n,by simpa using hs⟩,?_⟩
  have e:=r.length;simp only [Z5] at e;omega
theorem Inv.list_inj(I:Inv X pins σ H s)(h:SqL X.K H a xs)(h':SqL X.K H a ys):xs=ys:=by
 obtain⟨its,r,⟨o,n,e,_,_,d⟩,_⟩:=I.list h;obtain⟨its',r',⟨o',n',e',_,_,d'⟩,_⟩:=I.list h';rw [e] at e'; cases e'
 rw [d] at d';injection d' with d1 _
 have:its=its':=by simpa using congrArg Array.toList d1
 subst this;exact r.inj r'
theorem Inv.tuple_inj(I:Inv X pins σ H s)(h:SqT X.K H a xs)(h':SqT X.K H a ys):xs=ys:=by
 obtain⟨its,r,⟨o,e,_,n,d⟩,_⟩:=I.tuple h;obtain⟨its',r',⟨o',e',_,n',d'⟩,_⟩:=I.tuple h';rw [e] at e'; cases e'
 rw [d] at d';injection d' with d1 _
 have:its=its':=by simpa using congrArg Array.toList d1
 subst this;exact r.inj r'
end
noncomputable abbrev Cx.wish(X:Cx)(E:FM->Rs->Prop):Cx:={ X with xe:=E }
noncomputable abbrev Cx.nox(X:Cx):Cx:=X.wish λ_ _=>False
theorem Cx.Ok.wish{X:Cx}(ok:X.Ok)(E:FM->Rs->Prop):(X.wish E).Ok :=
 ⟨ok.mod,ok.kind,ok.glob,ok.blt,ok.above,ok.inj,ok.has,ok.cab,ok.hd,ok.frames,ok.stk,ok.exf,ok.bs,ok.bsz,ok.noex,ok.exfs,ok.funs,ok.frf⟩
theorem Cx.Ok.unwish{X:Cx}{E:FM->Rs->Prop}(ok:(X.wish E).Ok):X.Ok :=
 ⟨ok.mod,ok.kind,ok.glob,ok.blt,ok.above,ok.inj,ok.has,ok.cab,ok.hd,ok.frames,ok.stk,ok.exf,ok.bs,ok.bsz,ok.noex,ok.exfs,ok.funs,ok.frf⟩
section
variable {X:Cx}{pins:List (Addr×Obj)}{σ:St}{H:Hp}{s:Shared}{E:Value->Shared->Prop}
theorem Inv.wish(I:Inv X pins σ H s)(E:FM->Rs->Prop):Inv (X.wish E) pins σ H s:=⟨I.ok.wish E,I.os,I.bare,I.base,I.loc,I.cell,I.free,I.freeC,I.pin,I.hok,I.len⟩
theorem Inv.unwish(I:Inv (X.wish E) pins σ H s):Inv X pins σ H s:=⟨I.ok.unwish,I.os,I.bare,I.base,I.loc,I.cell,I.free,I.freeC,I.pin,I.hok,I.len⟩
theorem SP.unwish{D:Ends}{f:Flow}{s':Rs}(h:SP (X.wish E) pins D f s'):SP X pins D f s':=by
 cases f with
 | next=>obtain⟨σ',H',I,q⟩:=h; exact⟨σ',H',I.unwish,q⟩
 | brk=>obtain⟨σ',H',I,q⟩:=h; exact⟨σ',H',I.unwish,q⟩
 | cont=>obtain⟨σ',H',I,q⟩:=h; exact⟨σ',H',I.unwish,q⟩
 | ret u=>obtain⟨v,σ',H',I,r,q⟩:=h; exact⟨v,σ',H',I.unwish,r,q⟩
theorem PSs.nox{st:List Z9}{t:TS}(h:PSs X.nox st t):PSs X st t:=λpins s σ H D I hw =>
 aJ (h pins s σ H D (I.wish _) hw) (λ_ _ q=>q.unwish) λ_ _ z=>aq z
end
section
variable {X:Cx}{st:Stmt}{rest:List Stmt}{t u:TS}{e:Expr}{te:TE}{pos:Pos}
noncomputable def UT:TS:=λD σ H=>D.nx σ H
noncomputable def PB(t u:TS):TS:=λD σ H=>t { D with nx:=u D } σ H
theorem Ku:PSs X [] UT:=λ_ _ σ H _ I h=>dP ⟨σ,H,I,h⟩
theorem BJ(h1:PS X st t)(h2:PSs X rest u):PSs X (st::rest) (PB t u):=by
 intro pins s σ H D I h;refine wpAny_execs_cons (BV (h1 pins s σ H { D with nx:=u D } I h) λf s1 q=>?_);cases f with
 | next =>
  obtain⟨σ',H',I',q⟩:=q;exact h2 pins s1 σ' H' D I' q
 | ret v=>exact q
 | brk=>exact q
 | cont=>exact q
theorem C0(h1:PS X st t):PSs X [st] t:=by
 intro pins s σ H D I h;refine wpAny_execs_cons (BV (h1 pins s σ H D I h) λf s1 q=>?_);cases f with
 | next=>exact dP q
 | ret v=>exact q
 | brk=>exact q
 | cont=>exact q
theorem Inv.quiet{pins:List (Ev×Obj)}{σ:St}{H:Hp}{s:Rs}(I:Inv X pins σ H s):interactive X.env=false:=by simp [interactive,I.ok.kind]
noncomputable def Wm(te:TE):TS:=λD σ H=>te σ H λ_ H1=>D.nx σ H1
theorem OP(he:PE X e te)(hs:autoParam (swapsWith e none pos.line X.env=pure false) zau3._auto_1):PS X (.Expr e pos) (Wm te):=by
 intro pins s σ H D I h;exact wpAny_Expr_any (BV (he pins s σ H _ I h) λv s1 ⟨x,H1,I1,r1,q1⟩=>⟨σ,H1,I1,q1⟩) I.quiet hs
noncomputable def S_(te:TE):TS:=λD σ H=>te σ H D.rt
theorem FS(he:PE X e te):PS X (.Return (some e) pos) (S_ te):=by
 intro pins s σ H D I h;exact wpAny_Return_some (BV (he pins s σ H _ I h) λv s1 ⟨x,H1,I1,r1,q1⟩=>⟨x,σ,H1,I1,r1,q1⟩)
noncomputable def Wj(c:TT)(t u:TS):TS:=λD σ H=>c σ H λb H1=>if b=true then t D σ H1 else u D σ H1
theorem RF{c:Zq}{a b:List Z9}{tc:TT}(hc:PT X c tc)(ha:PSs X a t)(hb:PSs X b u):PS X (.If c a b pos) (Wj tc t u):=by
 intro pins s σ H D I h;refine wpAny_If (BV (hc pins s σ H _ I h) λd s1 ⟨H1,I1,q1⟩=>?_);cases d with
 | true=>exact ha pins s1 σ H1 D I1 q1
 | false=>exact hb pins s1 σ H1 D I1 q1
end
noncomputable abbrev TG:=V->St->Hp->(St->Hp->Prop)->Prop
noncomputable abbrev WP:=List V->St->Hp->(St->Hp->Prop)->Prop
noncomputable def PG(X:Cx)(target:Zq)(t:TG):Prop :=
 ∀(pins:List (Ev×Obj)) (s:Rs) (σ:St) (H:Hp) (v:V) (u:FM) (Q:St->Hp->Prop),Inv X pins σ H s->RelV v u->t v σ H Q ->
  wpAny (model X.prog X.w) X.A (assign target X.env u) (λ_ s'=>∃σ' H',Inv X pins σ' H' s'/\Q σ' H') X.xe s
noncomputable def Xw(X:Cx)(ts:List Zq)(t:WP):Prop :=
 ∀(pins:List (Ev×Obj)) (s:Rs) (σ:St) (H:Hp) (vs:List V) (us:List FM) (Q:St->Hp->Prop),Inv X pins σ H s->Vals vs us->t vs σ H Q ->
  wpAny (model X.prog X.w) X.A (assignInOrder ((assignEach ts X.env).map (·.2)) us) (λ_ s'=>∃σ' H',Inv X pins σ' H' s'/\Q σ' H') X.xe s
noncomputable abbrev WO:=V->V->V->Hp->(Hp->Prop)->Prop
noncomputable def Xu(X:Cx)(t:WO):Prop :=
 ∀(pins:List (Ev×Obj)) (s:Rs) (σ:St) (H:Hp) (o i v:V) (ov iv u:FM) (Q:Hp->Prop),Inv X pins σ H s->RelV o ov->RelV i iv->RelV v u->t o i v H Q ->
  wpAny (model X.prog X.w) X.A (setItem ov iv u) (λ_ s'=>∃H',Inv X pins σ H' s'/\Q H') X.xe s
section
variable {X:Cx}{pos:Pos}
noncomputable def J8(i:Nat):TG:=λv σ H Q=>Q (σ.set i (some v)) H
theorem Fl{i:Nat}{x:Str}(hN:X.N.Nodup)(hi:X.N[i]?=some x)(hx:Loc X.env.scope x)(hf:autoParam (X.fn x=true\/X.env.scope.names.lookup x=some .local) zau0._auto_1):PG X (.Name x pos) (J8 i):=by
 intro pins s σ H v u Q I r h;exact wpAny_assign_Name (Ln I hN hi hx r (λs' I'=>⟨_,H,I',h⟩) hf)
noncomputable def Yd:WP:=λvs σ H Q=>vs=[]/\Q σ H
noncomputable def XX(t:TG)(u:WP):WP:=λvs σ H Q=>∃v r,vs=v::r/\t v σ H λσ' H'=>u r σ' H' Q
theorem OS:Xw X [] Yd:=by
 intro pins s σ H vs us Q I r h;obtain⟨e,h⟩:=h;subst e;cases r;exact assignInOrder_nil ⟨σ,H,I,h⟩
theorem Fk{e:Zq}{es:List Zq}{t:TG}{u:WP}(h1:PG X e t)(h2:Xw X es u)
  (hs:autoParam ((assignEach (e::es) X.env).map (·.2)=assign e X.env::(assignEach es X.env).map (·.2)) zau3._auto_1):Xw X (e::es) (XX t u):=by
 intro pins s σ H vs us Q I r h;obtain⟨v,vr,e1,h⟩:=h;subst e1;cases r with
 | cons r rr =>
  rw [hs];refine assignInOrder_cons (BV (h1 pins s σ H _ _ _ I r h) λ_ s1 ⟨σ1,H1,I1,q1⟩=>?_);exact h2 pins s1 σ1 H1 _ _ Q I1 rr q1
noncomputable def Yc(K:Frag)(n:Nat)(t:WP):TG:=λv σ H Q=>∃a xs,v=.ref a/\SqT K H a xs/\xs.length=n/\t xs σ H Q
theorem RL{es:List Zq}{k:Nat}{t:WP}{n:Nat}(hc:X.calm=true)(h:Xw X es t)
  (hn:autoParam ((assignEach es X.env).length=n) zau3._auto_1) (hst:autoParam ((assignEach es X.env).findIdx? (·.1)=none) zau3._auto_1):PG X (.Tuple es k pos) (Yc X.K n t):=by
 intro pins s σ H v u Q I r hw;obtain⟨a,xs,e1,hq,hl,hw⟩:=hw;subst e1;cases r;obtain⟨its,rv,ht,hz⟩:=I.tuple hq;refine assign_Tuple_tuple (I.ok.hd hc) ht (by simp [hn,← hl,rv.length]) hst λh' hx=>?_;have I1:Inv X pins σ H { s with heap:=h' }:=I.kept (t':=s.toks) λb o e=>hx b o (Zo (ZU e)) e;exact h pins _ σ H xs _ Q I1 (by simpa using rv) hw
noncomputable def XW(to ti:TE)(t:WO):TG:=λv σ H Q=>to σ H λo H1=>ti σ H1 λi H2=>t o i v H2 λH3=>Q σ H3
theorem NM{o i:Zq}{to ti:TE}{t:WO}(ho:PE X o to)(hi:PE X i ti)(hs:Xu X t)
  (ha:autoParam (∀v,assign (.Subscript o i pos) X.env v=(do
   let ov ← holding [v] (eval o X.env)
   let iv ← holding [v,ov] (eval i X.env)
   standAt pos
   holding [v,ov,iv] (setItem ov iv v)
   release [v,ov,iv] [])) zau2._auto_1):PG X (.Subscript o i pos) (XW to ti t):=by
 intro pins s σ H v u Q I r h;rw [ha];refine Db (aN (BV (ho pins s σ H _ I h) λov s1 ⟨x,H1,I1,r1,q1⟩=>?_));refine Db (aN (BV (hi pins s1 σ H1 _ I1 q1) λiv s2 ⟨y,H2,I2,r2,q2⟩=>?_));refine Db (wpAny_standAt (Db (aN (BV (hs pins s2 σ H2 x y v ov iv u _ I2 r1 r2 r q2) λ_ s3 ⟨H3,I3,q3⟩=>?_))));exact wpAny_release ⟨σ,H3,I3,q3⟩
noncomputable def M_(te:TE)(g:TG):TS:=λD σ H=>te σ H λx H1=>g x σ H1 D.nx
theorem Kv{tg e:Zq}{te:TE}{g:TG}(he:PE X e te)(hg:PG X tg g)(hs:autoParam (swapsWithSole [tg] e pos.line X.env=pure false) zau3._auto_1)(hw:autoParam (swappedStores [tg] e X.env=pure none) zau3._auto_1)
  (h1:autoParam ((assignEach [tg] X.env).map (·.2)=[assign tg X.env]) zau3._auto_1):PS X (.Assign [tg] e pos) (M_ te g):=by
 intro pins s σ H D I h;refine wpAny_Assign_stores (BV (he pins s σ H _ I h) λv s1 ⟨x,H1,I1,r1,q1⟩=>?_) hs hw;rw [h1];exact BV (hg pins s1 σ H1 x v _ I1 r1 q1) λ_ s2 q=>q
theorem EH{i:Nat}{x:Str}{e:Zq}{te:TE}{pos':Pos}(hN:X.N.Nodup)(hi:X.N[i]?=some x)(hx:Loc X.env.scope x)(he:PE X e te)(hs:autoParam (swapsWith e (some (.Name x pos')) pos.line X.env=pure false) zau3._auto_1)(hf:autoParam (X.fn x=true\/X.env.scope.names.lookup x=some .local) zau0._auto_1) :
  PS X (.Assign [.Name x pos'] e pos) (M_ te (J8 i)):=by
 intro pins s σ H D I h;refine wpAny_Assign_Name (BV (he pins s σ H _ I h) λv s1 ⟨y,H1,I1,r1,q1⟩=>?_) hs;exact Ln I1 hN hi hx r1 (λs2 I2=>⟨_,H1,I2,q1⟩) hf
end
section
variable {X:Cx}{pos:Pos}
noncomputable def VH(c:TT)(tb:TS):TS:=λD σ H=>∃W:Nat->St->Hp->Prop,(∃m,W m σ H)/\∀m σ H,W m σ H ->
 c σ H λb H1=>if b=true then ∃N:St->Hp->Prop,(∀σ' H',N σ' H'->∃m',m'<m/\W m' σ' H')/\tb { D with nx:=N,ct:=N,bk:=D.nx } σ H1 else D.nx σ H1
theorem RE{c:Zq}{body:List Z9}{tc:TT}{tb:TS}(hp:d9 (model X.prog X.w) X.A X.env X.xe)(hc:PT X c tc)(hb:PSs X body tb):PS X (.While c body [] pos) (VH tc tb):=by
 intro pins s σ H D I h;obtain⟨W,⟨m0,w0⟩,turn⟩:=h;refine wpAny_While (codeAny_whileLoop (λn s'=>∃σ' H',Inv X pins σ' H' s'/\W n σ' H') ?_ m0 ⟨σ,H,I,w0⟩);rintro n s1 ⟨σ1,H1,I1,w1⟩;refine bX hp (BV (hc pins s1 σ1 H1 _ I1 (turn n σ1 H1 w1)) λb s2 ⟨H2,I2,q2⟩=>?_);cases b with
 | true =>
  obtain⟨N,hN,q2⟩:=q2;rw [if_pos rfl];refine bX hp (BV (hb pins s2 σ1 H2 _ I2 q2) λf s3 q3=>?_);cases f with
  | next =>
   obtain⟨σ3,H3,I3,n3⟩:=q3;obtain⟨m',hm,w3⟩:=hN σ3 H3 n3;exact⟨m',hm,σ3,H3,I3,w3⟩
  | cont =>
   obtain⟨σ3,H3,I3,n3⟩:=q3;obtain⟨m',hm,w3⟩:=hN σ3 H3 n3;exact⟨m',hm,σ3,H3,I3,w3⟩
  | brk=>exact q3
  | ret v=>exact q3
 | false =>
  rw [if_neg Ze];exact dP ⟨σ1,H2,I2,q2⟩
end
structure It where
 go:Nat->Hp->Prop
 yld:Nat->Hp->V->Hp->Prop
 stop:Nat->Hp->Prop
noncomputable def GN(X:Cx)(pins:List (Ev×Obj))(H:Hp)(b:Ev):Prop :=
 H b=none/\b≠X.env.locals/\b∉X.fs/\(b∈X.ex\/X.s₀.heap.objs.size<=b)/\(∀x c,X.env.cells.lookup x=some c->c≠b)/\∀p∈X.pn++pins,p.1≠b
theorem Inv.fpOk{X:Cx}{pins:List (Ev×Obj)}{σ:St}{H H':Hp}{s:Rs}{b:Ev}(I:Inv X pins σ H s)(hb:s.heap.objs.size<=b)(hn:H' b=none):GN X pins H' b:=by
 refine⟨hn,dQ (Zv I.lt hb),I.nofs hb,.inr (Zu I.sz hb),λx c e z=>?_,λp hp z=>?_⟩
 ·obtain⟨v,q⟩:=I.cell x c e
  exact absurd (Zv q.lt (by rw [z]; exact hb)) (aM _)
 ·exact absurd (Zv (ZU (I.pin p hp).1) (by rw [z]; exact hb)) (aM _)
structure Turn (P:Zs) (w:Zz) (K:Frag) (tg:Zq) (J:It) (fp:List Ev) (it:Ev) (tn:Nat->Zk->Prop):Prop where
 mem:it∈fp
 obj:∀i h,tn i h->∀b∈fp,∃o,h.get? b=some o/\∀v,o.data≠.cell v
 keep:∀i h h',tn i h->(∀b∈fp,∀o,h.get? b=some o->h'.get? b=some o)->tn i h'
 item:∀(X:Cx),X.prog=P->X.w=w->X.K=K->X.calm=true->∀(i:Nat) (pins:List (Ev×Obj)) (s:Rs) (σ:St) (H:Hp) (E:FM->Rs->Prop),Inv X pins σ H s->(∀b∈fp,GN X pins H b)->tn i s.heap->J.go i H ->
  wpAny (model P w) X.A (pyNext (.ref it)) (λr s1=>∃u,r=some u /\
   wpAny (model P w) X.A (letOwnedTupleGo tg (.ref it) u) (λ_ s2=>∃x H',Inv X pins σ H' s2/\RelV x u/\J.yld i H x H'/\tn (i+1) s2.heap/\∀b∈fp,H' b=none) E s1) E s
 done:∀(X:Cx),X.prog=P->X.w=w->X.K=K->X.calm=true->∀(i:Nat) (pins:List (Ev×Obj)) (s:Rs) (σ:St) (H:Hp) (E:FM->Rs->Prop),Inv X pins σ H s->(∀b∈fp,GN X pins H b)->tn i s.heap->J.stop i H ->
  wpAny (model P w) X.A (pyNext (.ref it)) (λr s1=>r=none/\Inv X pins σ H s1) E s
 self:∀(A:aB) (i:Nat) (s:Rs) (Q:FM->Rs->Prop) (E:FM->Rs->Prop),tn i s.heap->Q (.ref it) s->wpAny (model P w) A (pyIter (.ref it)) Q E s
noncomputable abbrev TI:=St->Hp->(It->Hp->Prop)->Prop
noncomputable def ZC(X:Cx)(pins:List (Ev×Obj))(σ:St)(tg:Zq)(R:It->Hp->Prop)(itv:FM)(s2:Rs):Prop :=
 ∃(it:Ev) (fp:List Ev) (tn:Nat->Zk->Prop) (J:It) (H':Hp),itv=.ref it/\Inv X pins σ H' s2/\Turn X.prog X.w X.K tg J fp it tn/\tn 0 s2.heap/\(∀b∈fp,GN X pins H' b)/\R J H'
noncomputable def PI(X:Cx)(tg iter:Zq)(wi:TI):Prop :=
 ∀(pins:List (Ev×Obj)) (s:Rs) (σ:St) (H:Hp) (R:It->Hp->Prop),Inv X pins σ H s->wi σ H R ->
  wpAny (model X.prog X.w) X.A (eval iter X.env) (λv s1=>wpAny (model X.prog X.w) X.A (pyIter v) (ZC X pins σ tg R) X.xe s1) X.xe s
theorem J7 {M : Model} {A : aB} {E : FM → Rs → Prop} {s : Rs} {tg : Zq} {it : Ev} {u : FM} {o : Obj} {n : String} {vs : Array FM} {Q : Unit → Rs → Prop} (ho : s.heap.get? it = some o) (hc : o.cls = .type n) (hd : o.data = .fields vs)
    (hn : ["enumerate", "zip", "dict_itemiterator", "dict_reverseitemiterator", "odict_iterator", "itertools.zip_longest", "itertools.pairwise"].contains n = false) (hQ : Q () s) : wpAny M A (letOwnedTupleGo tg (.ref it) u) Q E s := by
  unfold letOwnedTupleGo
  cases tg <;> first
    | exact TM hQ
    | (cases u <;> first
        | exact TM hQ
        | (refine Db (wpAny_load ho ?_)
           rw [hc, hd];show wpAny M A (if (["enumerate", "zip", "dict_itemiterator", "dict_reverseitemiterator", "odict_iterator", "itertools.zip_longest", "itertools.pairwise"].contains n && vs[0]? == some (rawInt _)) = true then _ else _) Q E s;rw [if_neg (by intro h; rw [hn, Bool.false_and] at h; cases h)];exact TM hQ))
noncomputable def Yu(K:Frag)(a:Ev):It :=
 ⟨λi H=>∃xs x,SqL K H a xs/\xs[i]?=some x,λi H x H'=>H'=H/\∀xs,SqL K H a xs->xs[i]?=some x,λi H=>∃xs,SqL K H a xs/\xs.length<=i⟩
noncomputable def WT(K:Frag)(a:Ev):It :=
 ⟨λi H=>∃xs x,SqT K H a xs/\xs[i]?=some x,λi H x H'=>H'=H/\∀xs,SqT K H a xs->xs[i]?=some x,λi H=>∃xs,SqT K H a xs/\xs.length<=i⟩
noncomputable def Xz(lo:Int)(n:Nat):It:=⟨λi _=>i<n,λi H x H'=>H'=H/\x=.int (lo+i),λi _=>n<=i⟩
theorem O9{P:Zs}{w:Zz}{K:Frag}{tg:Zq}(a it:Ev):Turn P w K tg (Yu K a) [it] it (λi h=>h.IsListIter it a i) where
 mem:=by simp
 obj:=λi h st b hb=>by
  have e:b=it:=by simpa using hb
  subst e;obtain⟨o,e,c,d⟩:=st;exact⟨o,e,λv z=>by rw [d] at z; cases z⟩
 keep:=λi h h' st k=>st.at λo e=>k it (by simp) o e
 item:=by
  intro X hP hw hK hc i pins s σ H E I hf st hg;subst hP hw hK;obtain⟨xs,x,hq,hx⟩:=hg;obtain⟨its,rv,p,hz⟩:=I.list hq;obtain⟨u,hu,ru⟩:=rv.get hx;obtain⟨f0,f1,f2,f3,f4,f5⟩:=hf it (by simp);refine wpAny_pyNext_list_item st p.isList (x:=u) (by simpa using hu) λh' st' sb=>?_;have I1:Inv X pins σ H { s with heap:=h' }:=I.turned (t':=s.toks) (λb o hb e=>(sb.2 b hb).trans e) f0 f1 f3 f4 f5;obtain⟨o,e,c,d⟩:=id st';exact⟨u,rfl,J7 (s:={ s with heap:=h' }) e c d (by decide) ⟨x,H,I1,ru,⟨rfl,λys hy=>by rw [I.list_inj hy hq]; exact hx⟩,st',λb hb=>(hf b hb).1⟩⟩
 done:=by
  intro X hP hw hK hc i pins s σ H E I hf st hg;subst hP hw hK;obtain⟨xs,hq,hx⟩:=hg;obtain⟨its,rv,p,hz⟩:=I.list hq;obtain⟨f0,f1,f2,f3,f4,f5⟩:=hf it (by simp);have hl:=rv.length;exact wpAny_pyNext_list_end (I.ok.hd hc) st p.isList (by simp; omega) λh' eb=>⟨rfl,I.turned (t':=s.toks) (λb o hb e=>eb b o hb e) f0 f1 f3 f4 f5⟩
 self:=λ_ _ _ _ _ st h=>wpAny_pyIter_listiter st h
theorem Hm{P:Zs}{w:Zz}{K:Frag}{tg:Zq}(a it:Ev):Turn P w K tg (WT K a) [it] it (λi h=>h.IsTupleIter it a i) where
 mem:=by simp
 obj:=λi h st b hb=>by
  have e:b=it:=by simpa using hb
  subst e;obtain⟨o,e,c,d⟩:=st;exact⟨o,e,λv z=>by rw [d] at z; cases z⟩
 keep:=λi h h' st k=>st.at λo e=>k it (by simp) o e
 item:=by
  intro X hP hw hK hc i pins s σ H E I hf st hg;subst hP hw hK;obtain⟨xs,x,hq,hx⟩:=hg;obtain⟨its,rv,p,hz⟩:=I.tuple hq;obtain⟨u,hu,ru⟩:=rv.get hx;obtain⟨f0,f1,f2,f3,f4,f5⟩:=hf it (by simp);refine wpAny_pyNext_tuple_item st (show s.heap.IsTuple a its.toArray from p) (x:=u) (by simpa using hu) λh' st' sb=>?_;have I1:Inv X pins σ H { s with heap:=h' }:=I.turned (t':=s.toks) (λb o hb e=>(sb.2 b hb).trans e) f0 f1 f3 f4 f5;obtain⟨o,e,c,d⟩:=id st';exact⟨u,rfl,J7 (s:={ s with heap:=h' }) e c d (by decide) ⟨x,H,I1,ru,⟨rfl,λys hy=>by rw [I.tuple_inj hy hq]; exact hx⟩,st',λb hb=>(hf b hb).1⟩⟩
 done:=by
  intro X hP hw hK hc i pins s σ H E I hf st hg;subst hP hw hK;obtain⟨xs,hq,hx⟩:=hg;obtain⟨its,rv,p,hz⟩:=I.tuple hq;obtain⟨f0,f1,f2,f3,f4,f5⟩:=hf it (by simp);have hl:=rv.length;exact wpAny_pyNext_tuple_end (I.ok.hd hc) st (show s.heap.IsTuple a its.toArray from p) (by simp; omega) λh' eb=>⟨rfl,I.turned (t':=s.toks) (λb o hb e=>eb b o hb e) f0 f1 f3 f4 f5⟩
 self:=λ_ _ _ _ _ st h=>wpAny_pyIter_tupleiter st h
theorem Mz{P:Zs}{w:Zz}{K:Frag}{tg:Zq}(it:Ev)(lo:Int)(n:Nat):Turn P w K tg (Xz lo n) [it] it (λi h=>IsRangeIter h it (lo+(i:Nat)*1) ((n:Int) - (i:Nat)) 1) where
 mem:=by simp
 obj:=λi h st b hb=>by
  have e:b=it:=by simpa using hb
  subst e
  exact⟨_,st,λv z=>by
   have z':Data.fields _=Data.cell v:=z;cases z'⟩
 keep:=λi h h' st k=>k it (by simp) _ st
 item:=by
  intro X hP hw hK hc i pins s σ H E I hf st hg;subst hP hw hK;obtain⟨f0,f1,f2,f3,f4,f5⟩:=hf it (by simp);have W:=Walks.range (prog:=X.prog) (w:=X.w) (I.ok.hd hc) it lo 1 n;refine W.item i s _ _ hg st λv h' tk hv st' kk=>?_;obtain⟨t,rfl⟩:=hv;have I1:Inv X pins σ H { s with heap:=h',toks:=tk }:=I.turned (λb o hb e=>kk b o (by simpa using hb) e) f0 f1 f3 f4 f5;refine⟨_,rfl,J7 (s:={ s with heap:=h',toks:=tk }) (n := "range_iterator") st' rfl rfl (by decide) ⟨.int (lo+i),H,I1,⟨t,?_⟩,⟨rfl,rfl⟩,st',λb hb=>(hf b hb).1⟩⟩;rw [Int.mul_one]
 done:=by
  intro X hP hw hK hc i pins s σ H E I hf st hg;subst hP hw hK;obtain⟨f0,f1,f2,f3,f4,f5⟩:=hf it (by simp);exact wpAny_pyNext_range_end (I.ok.hd hc) st (by have:n<=i:=hg; omega) λh' eb=>⟨rfl,I.turned (t':=s.toks) (λb o hb e=>eb b o hb e) f0 f1 f3 f4 f5⟩
 self:=λ_ _ _ _ _ st h=>wpAny_pyIter_rangeiter st h
section
variable {X:Cx}{tg:Expr}
noncomputable def Ya(K:Frag)(tl:TE):TI:=λσ H R=>tl σ H λx H1=>∃a,x=.ref a/\(∃xs,SqT K H1 a xs)/\R (WT K a) H1
theorem RI{l:Zq}{tl:TE}(hl:PE X l tl):PI X tg l (Ya X.K tl):=by
 intro pins s σ H R I h;refine BV (hl pins s σ H _ I h) λv s1 ⟨x,H1,I1,r1,q1⟩=>?_;obtain⟨a,e,⟨xs,hq⟩,q⟩:=q1;subst e;cases r1;obtain⟨its,rv,p,hz⟩:=I1.tuple hq;refine ah (show s1.heap.IsTuple a its.toArray from p) ?_;refine⟨s1.heap.objs.size,[s1.heap.objs.size],_,_,H1,rfl,I1.kept (t':=s1.toks) λb o e=>Op _ e,Hm a _,⟨_,Uf _ rfl,rfl,rfl⟩,λb hb=>?_,q⟩;have e:b=s1.heap.objs.size:=by simpa using hb
 subst e;exact I1.fpOk (Tk _) (I1.hok.fresh (Tk _))
theorem Lw{pins:List (Ev×Obj)}{σ:St}{H:Hp}{s:Rs}{R:It->Hp->Prop}{E:FM->Rs->Prop}{lo hi:Int}{t u v:Tok}{tk:Nat}(I:Inv X pins σ H s)(h1:-(2 ^ 62)<=lo)(h2:lo<2 ^ 62)(h3:-(2 ^ 62)<=hi)(h4:hi<2 ^ 62)
  (q:R (Xz lo (hi - lo).toNat) H):wpAny (model X.prog X.w) X.A (pyIter (.ref s.heap.objs.size)) (ZC X pins σ tg R) E { s with heap:=s.heap.push { cls:=.type "range",data:=.fields #[.int lo t,.int hi u,.int 1 v] },toks:=tk }:=by
 refine wpAny_pyIter_range (IsRange.new ..) (small_one h1 h2 h3 h4) ?_;have I1:Inv X pins σ H { s with heap:=s.heap.push { cls:=.type "range",data:=.fields #[.int lo t,.int hi u,.int 1 v] },toks:=tk }:=I.kept λb o e=>Op _ e
 refine⟨(s.heap.push { cls:=.type "range",data:=.fields #[.int lo t,.int hi u,.int 1 v] }).objs.size,[(s.heap.push { cls:=.type "range",data:=.fields #[.int lo t,.int hi u,.int 1 v] }).objs.size],_,_,H,rfl,
  I1.kept (t':=tk) λb o e=>Op _ e,Mz _ lo (hi - lo).toNat,?_,λb hb=>?_,q⟩
 ·have e1:lo+((0:Nat):Int)*1=lo:=by simp
  have e2:(((hi - lo).toNat:Nat):Int) - ((0:Nat):Int)=Builtin.Range.rangeSize lo hi 1:=by rw [rangeSize_one]; split <;> omega
  show IsRangeIter _ _ (lo+((0:Nat):Int)*1) ((((hi - lo).toNat:Nat):Int) - ((0:Nat):Int)) 1;rw [e1,e2];exact Uf _ rfl
 ·have e:b=(s.heap.push { cls:=.type "range",data:=.fields #[.int lo t,.int hi u,.int 1 v] }).objs.size:=by simpa using hb
  subst e;exact I1.fpOk (Tk _) (I1.hok.fresh (Tk _))
noncomputable def XS(ta:TA):TI:=λσ H R=>ta σ H λvs H1=>∃j:Int,vs=[.int j]/\-(2 ^ 62)<=j/\j<2 ^ 62/\R (Xz 0 j.toNat) H1
noncomputable def XR(ta:TA):TI:=λσ H R=>ta σ H λvs H1=>∃i j:Int,vs=[.int i,.int j]/\(-(2 ^ 62)<=i/\i<2 ^ 62/\-(2 ^ 62)<=j/\j<2 ^ 62)/\R (Xz i (j - i).toNat) H1
theorem PX{a:Zq}{ta:TA}{p pos:Pos}(hg:Gl X "range")(hm:X.mg "range"=none)(ha:PA X [a] ta)(hs:autoParam (starEach [a] X.env=[(false,eval a X.env)]) zau3._auto_1):PI X tg (.Call (.Name "range" p) [a] [] pos) (XS ta):=by
 intro pins s σ H R I h;refine Call_ (Dr I hg hm boot_range (aR (BV (ha pos pins s σ H _ I h) λus s1 ⟨vs,H1,I1,r1,q1⟩=>?_) hs rfl));obtain⟨j,e,q1,q2,q⟩:=q1;subst e;cases r1 with
 | cons r rr =>
  cases rr;obtain⟨t,rfl⟩:=r;exact call_range_1 (Lw I1 (by omega) (by omega) q1 q2 (by simpa using q))
theorem PV{a b:Zq}{ta:TA}{p pos:Pos}(hg:Gl X "range")(hm:X.mg "range"=none)(ha:PA X [a,b] ta)(hs:autoParam (starEach [a,b] X.env=[(false,eval a X.env),(false,eval b X.env)]) zau3._auto_1)(hs2:autoParam (starEach [b] X.env=[(false,eval b X.env)]) zau3._auto_1) :
  PI X tg (.Call (.Name "range" p) [a,b] [] pos) (XR ta):=by
 intro pins s σ H R I h;refine Call_ (Dr I hg hm boot_range (aR (BV (ha pos pins s σ H _ I h) λus s1 ⟨vs,H1,I1,r1,q1⟩=>?_) (by rw [hs,hs2]) (by rw [hs2]; rfl)));obtain⟨i,j,e,⟨q1,q2,q3,q4⟩,q⟩:=q1;subst e;cases r1 with
 | cons r rr =>
  cases rr with
  | cons r' rr =>
   cases rr;obtain⟨t,rfl⟩:=r;obtain⟨t',rfl⟩:=r';exact call_range_2 (Lw I1 q1 q2 q3 q4 q)
noncomputable def YO(wi:TI)(g:TG)(tb:TS):TS:=λD σ H=>wi σ H λJ H1=>∃W:Nat->Nat->St->Hp->Prop,(∃m,W 0 m σ H1)/\∀i m σ H,W i m σ H ->
 (J.stop i H/\D.nx σ H)\/(J.go i H/\∃N:St->Hp->Prop,(∀σ' H',N σ' H'->∃m',m'<m/\W (i+1) m' σ' H')/\∀x H',J.yld i H x H'->g x σ H' λσ2 H2=>tb { D with nx:=N,ct:=N,bk:=D.nx } σ2 H2)
noncomputable def IJ(fp:List Ev)(h:Zk):List (Ev×Obj):=fp.filterMap λb=>(h.get? b).map λo=>(b,o)
theorem Dq{fp:List Ev}{h:Zk}{b:Ev}{o:Obj}(hb:b∈fp)(e:h.get? b=some o):(b,o)∈IJ fp h:=b8.mpr ⟨b,hb,by rw [e]; rfl⟩
theorem Ph{fp:List Ev}{h:Zk}{p:Ev×Obj}(hp:p∈IJ fp h):p.1∈fp/\h.get? p.1=some p.2:=by
 obtain⟨b,hb,e⟩:=b8.mp hp;cases q:h.get? b with
 | none=>rw [q] at e; cases e
 | some o =>
  rw [q] at e;have e':(b,o)=p:=ZS e;subst e';exact⟨hb,q⟩
theorem Inv.pinned{pins:List (Ev×Obj)}{σ:St}{H:Hp}{s:Rs}{fp:List Ev}(I:Inv X pins σ H s)(hf:∀b∈fp,GN X pins H b)(ho:∀b∈fp,∃o,s.heap.get? b=some o/\∀v,o.data≠.cell v):Inv X (pins++IJ fp s.heap) σ H s :=
 I.pins_of λp hp=>(Zb.mp hp).elim (λz=>I.pin p (ZW _ z)) λz=>by
  obtain⟨hb,e⟩:=Ph z;obtain⟨f0,f1,f2,_⟩:=hf p.1 hb;obtain⟨o,e',d⟩:=ho p.1 hb;rw [e] at e'; cases e'
  exact⟨e,f0,f1,f2,d⟩
theorem Inv.unpinned{pins pl:List (Ev×Obj)}{σ:St}{H:Hp}{s:Rs}(I:Inv X (pins++pl) σ H s):Inv X pins σ H s:=I.pins_of λp hp=>I.pin p (ZW _ (Zt _ hp))
theorem IH{iter:Zq}{body:List Z9}{wi:TI}{g:TG}{tb:TS}{pos:Pos}(hp:d9 (model X.prog X.w) X.A X.env X.xe)(hc:X.calm=true)(hi:PI X tg iter wi)(hg:PG X tg g)(hb:PSs X body tb)
  (hs:autoParam (∀x,foldedSetIterable iter X.env x=pure x) zau2._auto_1):PS X (.For tg iter body [] pos) (YO wi g tb):=by
 intro pins s σ H D I h;refine wpAny_For (BV (hi pins s σ H _ I h) λv s1 h1=>BV h1 λitv s2 h2=>?_) hs;obtain⟨it,fp,tn,J,H2,e,I2,T,st2,f2,W,⟨m0,w0⟩,turn⟩:=h2;subst e;have stat:∀{H':Hp},(∀b∈fp,H' b=none)->∀b∈fp,GN X pins H' b:=λhn b hb=>⟨hn b hb,(f2 b hb).2⟩;refine codeAny_forLoop_any (λn s'=>∃i σ' H',Inv X pins σ' H' s'/\tn i s'.heap/\(∀b∈fp,H' b=none)/\W i n σ' H') ?_ m0 ⟨0,σ,H2,I2,st2,λb hb=>(f2 b hb).1,w0⟩;rintro n s3 ⟨i,σ3,H3,I3,st3,fr3,w3⟩
 rcases turn i n σ3 H3 w3 with ⟨stop,qn⟩ | ⟨go,N,hN,step⟩
 ·refine bX hp (BV (T.done X rfl rfl rfl hc i pins s3 σ3 H3 X.xe I3 (stat fr3) st3 stop) λr s4 ⟨hr,I4⟩=>?_)
  subst hr;exact dP ⟨σ3,H3,I4,qn⟩
 ·refine bX hp (BV (T.item X rfl rfl rfl hc i pins s3 σ3 H3 X.xe I3 (stat fr3) st3 go) λr s4 ⟨u,hr,h4⟩=>?_)
  subst hr;refine bX hp (BV h4 λ_ s5 ⟨x,H5,I5,r5,y5,st5,fr5⟩=>?_);have I5':=I5.pinned (stat fr5) (T.obj _ _ st5);refine bX hp (BV (hg _ s5 σ3 H5 x u _ I5' r5 (step x H5 y5)) λ_ s6 ⟨σ6,H6,I6,q6⟩=>?_);refine bX hp (BV (hb _ s6 σ6 H6 _ I6 q6) λf s7 q7=>?_)
  have again:∀{σ7:St} {H7:Hp},Inv X (pins++IJ fp s5.heap) σ7 H7 s7->N σ7 H7->∃m,m<n/\∃i σ' H',Inv X pins σ' H' s7/\tn i s7.heap/\(∀b∈fp,H' b=none)/\W i m σ' H':=λ{σ7 H7} I7 n7=>by
   obtain⟨m',hm,w7⟩:=hN σ7 H7 n7;refine⟨m',hm,i+1,σ7,H7,I7.unpinned,T.keep _ _ _ st5 λb hb o e=>(I7.pin (b,o) (ZW _ (ZW _ (Dq hb e)))).1,λb hb=>?_,w7⟩;obtain⟨o,e,d⟩:=T.obj _ _ st5 b hb;exact(I7.pin (b,o) (ZW _ (ZW _ (Dq hb e)))).2.1
  cases f with
  | next=>obtain⟨σ7,H7,I7,n7⟩:=q7; exact again I7 n7
  | cont=>obtain⟨σ7,H7,I7,n7⟩:=q7; exact again I7 n7
  | brk=>obtain⟨σ7,H7,I7,q7⟩:=q7; exact⟨σ7,H7,I7.unpinned,q7⟩
  | ret v=>obtain⟨x7,σ7,H7,I7,r7,q7⟩:=q7; exact⟨x7,σ7,H7,I7.unpinned,r7,q7⟩
end
theorem Ob{K:Frag}{a:Ev}{xs:List V}{g:TG}{tb:TS}{D:Ends}{σ:St}{H:Hp}(Pv:Nat->St->Hp->Prop)(h0:Pv 0 σ H)(hl:∀i σ H,i<=xs.length->Pv i σ H->SqT K H a xs)
  (hs:∀i x σ H,xs[i]?=some x->Pv i σ H->g x σ H λσ2 H2=>tb { D with nx:=Pv (i+1),ct:=Pv (i+1),bk:=D.nx } σ2 H2) (hd:∀σ H,Pv xs.length σ H->D.nx σ H) :
  ∃W:Nat->Nat->St->Hp->Prop,(∃m,W 0 m σ H)/\∀i m σ H,W i m σ H ->
   ((WT K a).stop i H/\D.nx σ H)\/((WT K a).go i H/\∃N:St->Hp->Prop,(∀σ' H',N σ' H'->∃m',m'<m/\W (i+1) m' σ' H')/\∀x H',(WT K a).yld i H x H'->g x σ H' λσ2 H2=>tb { D with nx:=N,ct:=N,bk:=D.nx } σ2 H2):=by
 refine⟨λi m σ H=>m=xs.length - i/\i<=xs.length/\Pv i σ H,⟨xs.length,by simp,Zi _,h0⟩,?_⟩;rintro i m σ H ⟨rfl,hi,p⟩;have q:=hl i σ H hi p
 by_cases hlt:i<xs.length
 ·refine .inr ⟨⟨xs,xs[i],q,by simp [hlt]⟩,Pv (i+1),λσ' H' p'=>⟨xs.length - (i+1),by omega,rfl,hlt,p'⟩,λx H' y=>?_⟩
  obtain⟨e,y⟩:=y;subst e;exact hs i x σ _ (y xs q) p
 ·have e:i=xs.length:=by omega
  subst e;exact .inl ⟨⟨xs,q,Tk _⟩,hd σ H p⟩
noncomputable abbrev R2:=V->V->Hp->VK->Prop
noncomputable def OpR(X:Cx)(f:FM->FM->Sem FM)(r:R2):Prop :=
 ∀(pins:List (Ev×Obj)) (s:Rs) (σ:St) (H:Hp) (x y:V) (v u:FM) (Q:VK),Inv X pins σ H s->RelV x v->RelV y u->r x y H Q ->
  wpAny (model X.prog X.w) X.A (f v u) (EP X pins σ Q) X.xe s
noncomputable def By(X:Cx)(f:FM)(r:List V->Hp->VK->Prop):Prop :=
 ∀(pins:List (Ev×Obj)) (s:Rs) (σ:St) (H:Hp) (xs:List V) (us:List FM) (Q:VK),Inv X pins σ H s->Vals xs us->r xs H Q ->
  wpAny (model X.prog X.w) X.A (call f us) (EP X pins σ Q) X.xe s
noncomputable def Yp(X:Cx)(r:V->Hp->(Bool->Hp->Prop)->Prop):Prop :=
 ∀(pins:List (Ev×Obj)) (s:Rs) (σ:St) (H:Hp) (x:V) (v:FM) (Q:Bool->Hp->Prop),Inv X pins σ H s->RelV x v->r x H Q ->
  wpAny (model X.prog X.w) X.A (truthy v) (TP X pins σ Q) X.xe s
noncomputable def C9(r:R2)(ta tb:TE):TE:=λσ H Q=>ta σ H λx H1=>tb σ H1 λy H2=>r x y H2 Q
noncomputable def rI(C:Int->Int->Prop)(g:Int->Int->V):R2:=λx y H Q=>∃i j,x=.int i/\y=.int j/\C i j/\Q (g i j) H
noncomputable def HC(g:Int->Int->V):R2:=λx y H Q=>∃i j,x=.int i/\y=.int j/\Q (g i j) H
section
variable {X:Cx}{a b c:Expr}{ta tb tc:TE}{pos:Pos}
theorem WE(ha:PE X a ta)(hb:PE X b tb){pins:List (Ev×Obj)}{s:Rs}{σ:St}{H:Hp}{R:V->V->Hp->Prop}(I:Inv X pins σ H s)
  (h:ta σ H λx H1=>tb σ H1 λy H2=>R x y H2) {Q:FM->Rs->Prop} {f:FM->FM->Sem FM}
  (hf:∀v u s2 x y H2,Inv X pins σ H2 s2->RelV x v->RelV y u->R x y H2->wpAny (model X.prog X.w) X.A (f v u) Q X.xe s2) :
  wpAny (model X.prog X.w) X.A (eval a X.env) (λv s₁=>wpAny (model X.prog X.w) X.A (eval b X.env) (λu s₂=>wpAny (model X.prog X.w) X.A (f v u) Q X.xe s₂) X.xe s₁) X.xe s:=by
 refine BV (ha pins s σ H _ I h) λv s1 ⟨x,H1,I1,r1,q1⟩=>?_;refine BV (hb pins s1 σ H1 _ I1 q1) λu s2 ⟨y,H2,I2,r2,q2⟩=>?_;exact hf v u s2 x y H2 I2 r1 r2 q2
theorem Bh{op:Operator}{r:R2}(ho:OpR X (binaryOp op) r)(ha:PE X a ta)(hb:PE X b tb):PE X (.BinOp a op b pos) (C9 r ta tb):=by
 intro pins s σ H Q I h;exact wpAny_BinOp (WE ha hb I h λv u s2 x y H2 I2 rx ry q=>ho pins s2 σ H2 x y v u Q I2 rx ry q)
theorem X7{f:FM->FM->Sem FM}{C:Int->Int->Prop}{g:Int->Int->Int}
  (rule:∀(i j:Int) (t u:Tok) (s:Rs) (Q:FM->Rs->Prop) (E:FM->Rs->Prop),C i j->Q (.int (g i j) s.toks) { s with toks:=s.toks+1 }->wpAny (model X.prog X.w) X.A (f (.int i t) (.int j u)) Q E s) :
  OpR X f (rI C λi j=>.int (g i j)):=by
 intro pins s σ H x y v u Q I rx ry h;obtain⟨i,j,rfl,rfl,hc,q⟩:=h;obtain⟨t,rfl⟩:=rx;obtain⟨t',rfl⟩:=ry;exact rule i j t t' s _ _ hc ⟨.int (g i j),H,I.tok _,⟨_,rfl⟩,q⟩
theorem XH{f:FM->FM->Sem FM}{g:Int->Int->Int}
  (rule:∀(i j:Int) (t u:Tok) (s:Rs) (Q:FM->Rs->Prop) (E:FM->Rs->Prop),Q (.int (g i j) s.toks) { s with toks:=s.toks+1 }->wpAny (model X.prog X.w) X.A (f (.int i t) (.int j u)) Q E s) :
  OpR X f (HC λi j=>.int (g i j)):=by
 intro pins s σ H x y v u Q I rx ry h;obtain⟨i,j,rfl,rfl,q⟩:=h;obtain⟨t,rfl⟩:=rx;obtain⟨t',rfl⟩:=ry;exact rule i j t t' s _ _ ⟨.int (g i j),H,I.tok _,⟨_,rfl⟩,q⟩
theorem Td{f:FM->FM->Sem FM}{g:Int->Int->Bool}
  (rule:∀(i j:Int) (t u:Tok) (s:Rs) (Q:FM->Rs->Prop) (E:FM->Rs->Prop),Q (.bool (g i j)) s->wpAny (model X.prog X.w) X.A (f (.int i t) (.int j u)) Q E s) :
  OpR X f (HC λi j=>.bl (g i j)):=by
 intro pins s σ H x y v u Q I rx ry h;obtain⟨i,j,rfl,rfl,q⟩:=h;obtain⟨t,rfl⟩:=rx;obtain⟨t',rfl⟩:=ry;exact rule i j t t' s _ _ ⟨.bl (g i j),H,I,rfl,q⟩
noncomputable def Sz(i j:Int):Prop:=0<j/\j<1073741824
noncomputable def N7(i j:Int):Prop:=0<=j/\j<=1000000/\i.natAbs<2 ^ 64
noncomputable def CMul(i j:Int):Prop:=(-(2 ^ 64)<i/\i<2 ^ 64)\/(-(2 ^ 64)<j/\j<2 ^ 64)
theorem CMul.ok{i j:Int}(h:CMul i j):IntMulOk i j:=by
 rcases h with ⟨h1,h2⟩ | ⟨h1,h2⟩
 ·exact .of_left (intBits_le_64 h1 h2)
 ·exact .of_right (intBits_le_64 h1 h2)
theorem op_add:OpR X (binaryOp .Add) (HC λi j=>.int (i+j)):=XH λ_ _ _ _ _ _ _ q=>add_int q
theorem op_sub:OpR X (binaryOp .Sub) (HC λi j=>.int (i - j)):=XH λ_ _ _ _ _ _ _ q=>sub_int q
theorem op_mul:OpR X (binaryOp .Mult) (rI CMul λi j=>.int (i*j)):=X7 λ_ _ _ _ _ _ _ hc q=>mul_int q hc.ok
theorem HL:OpR X (binaryOp .FloorDiv) (rI Sz λi j=>.int (i / j)):=X7 λi j _ _ _ _ _ hc q=>by
 have h1:(0:Int)<j:=hc.1;have h2:j<1073741824:=hc.2;exact floordiv_int (by omega) (by rw [Int.fdiv_eq_ediv_of_nonneg i (by omega)]; exact q) (.inl (PyProof.noPylong_small (by omega)))
theorem EK:OpR X (binaryOp .Mod) (rI (λ_ j=>0<j) λi j=>.int (i % j)):=X7 λi j _ _ _ _ _ hc q=>by
 have h1:(0:Int)<j:=hc;exact mod_int' (by omega) (by rw [Int.fmod_eq_emod_of_nonneg i (by omega)]; exact q)
theorem K0:OpR X (binaryOp .Pow) (rI N7 λi j=>.int (i ^ j.toNat)):=X7 λ_ _ _ _ _ _ _ hc q=>pow_int_small hc.1 hc.2.1 hc.2.2 q
end
noncomputable def Wv:V->V->Bool
 | .non,.non=>true | .non,.int _=>true | .int _,.non=>true | .non,.bl _=>true | .bl _,.non=>true | .non,.str _=>true | .str _,.non=>true
 | .int _,.int _=>true | .bl _,.bl _=>true | .str _,.str _=>true | .byt _,.byt _=>true
 | .int _,.str _=>true | .str _,.int _=>true | .bl _,.str _=>true | .str _,.bl _=>true
 | _,_=>false
noncomputable def Y6:R2:=λx y H Q=>Wv x y=true/\Q (.bl (decide (x=y))) H
noncomputable def Y3:R2:=λx y H Q=>Wv x y=true/\Q (.bl (!decide (x=y))) H
theorem HX{i j:Int}:decide (V.int i=V.int j)=(i==j):=by
 rw [ay];simp
theorem LN{i j:Bool}:decide (V.bl i=V.bl j)=(i==j):=by
 rw [ay];simp
theorem HW{i j:Str}:decide (V.str i=V.str j)=(i==j):=by
 rw [ay];simp
theorem Ol{i j:Array UInt8}:decide (V.byt i=V.byt j)=(i.toList==j.toList):=by
 rw [ay];cases i;cases j;simp
section
variable {X:Cx}{a b c:Expr}{ta tb tc:TE}{pos:Pos}
theorem Aq{pins:List (Ev×Obj)}{σ:St}{H:Hp}{s:Rs}{Q:VK}{k k':Bool}(I:Inv X pins σ H s)(q:Q (.bl k) H)(e:k=k'):EP X pins σ Q (.bool k') s:=by
 subst e;exact⟨.bl k,H,I,rfl,q⟩
theorem IL:OpR X (compareOp .Eq) Y6:=by
 intro pins s σ H x y v u Q I rx ry h;obtain⟨hs,q⟩:=h;cases x with
 | non =>
  cases rx;cases y with
  | non=>cases ry; exact PySem.EqNone.eq_none_none (Aq I q (by simp))
  | bl j=>cases ry; exact PySem.EqNone.eq_none_bool (Aq I q (by simp))
  | int j=>obtain⟨t',rfl⟩:=ry; exact PySem.EqNone.eq_none_int (Aq I q (by simp))
  | str j=>obtain⟨t',rfl⟩:=ry; exact PySem.EqNone.eq_none_str (Aq I q (by simp))
  | _=>exact absurd (show false=true from hs) Ze
 | bl i =>
  cases rx;cases y with
  | non=>cases ry; exact PySem.EqNone.eq_bool_none (Aq I q (by simp))
  | bl j=>cases ry; exact eq_bool (Aq I q LN)
  | str j=>obtain⟨t',rfl⟩:=ry; exact PySem.EqMixed.eq_bool_str (Aq I q (by simp))
  | _=>exact absurd (show false=true from hs) Ze
 | int i =>
  obtain⟨t,rfl⟩:=rx;cases y with
  | non=>cases ry; exact PySem.EqNone.eq_int_none (Aq I q (by simp))
  | int j=>obtain⟨t',rfl⟩:=ry; exact eq_int (Aq I q HX)
  | str j=>obtain⟨t',rfl⟩:=ry; exact PySem.EqMixed.eq_int_str (Aq I q (by simp))
  | _=>exact absurd (show false=true from hs) Ze
 | str i =>
  obtain⟨t,rfl⟩:=rx;cases y with
  | non=>cases ry; exact PySem.EqNone.eq_str_none (Aq I q (by simp))
  | bl j=>cases ry; exact PySem.EqMixed.eq_str_bool (Aq I q (by simp))
  | int j=>obtain⟨t',rfl⟩:=ry; exact PySem.EqMixed.eq_str_int (Aq I q (by simp))
  | str j=>obtain⟨t',rfl⟩:=ry; exact eq_str (Aq I q HW)
  | _=>exact absurd (show false=true from hs) Ze
 | byt i =>
  obtain⟨t,rfl⟩:=rx;cases y with
  | byt j=>obtain⟨t',rfl⟩:=ry; exact PySem.W.eq_bytes (Aq I q Ol)
  | _=>exact absurd (show false=true from hs) Ze
 | _=>cases y <;> exact absurd (show false=true from hs) Ze
theorem XE:OpR X (compareOp .NotEq) Y3:=by
 intro pins s σ H x y v u Q I rx ry h;obtain⟨hs,q⟩:=h;cases x with
 | non =>
  cases rx;cases y with
  | non=>cases ry; exact PySem.EqNone.ne_none_none (Aq I q (by simp))
  | bl j=>cases ry; exact PySem.EqNone.ne_none_bool (Aq I q (by simp))
  | int j=>obtain⟨t',rfl⟩:=ry; exact PySem.EqNone.ne_none_int (Aq I q (by simp))
  | str j=>obtain⟨t',rfl⟩:=ry; exact PySem.EqNone.ne_none_str (Aq I q (by simp))
  | _=>exact absurd (show false=true from hs) Ze
 | bl i =>
  cases rx;cases y with
  | non=>cases ry; exact PySem.EqNone.ne_bool_none (Aq I q (by simp))
  | bl j=>cases ry; exact ne_bool (Aq I q (congrArg not LN))
  | str j=>obtain⟨t',rfl⟩:=ry; exact PySem.EqMixed.ne_bool_str (Aq I q (by simp))
  | _=>exact absurd (show false=true from hs) Ze
 | int i =>
  obtain⟨t,rfl⟩:=rx;cases y with
  | non=>cases ry; exact PySem.EqNone.ne_int_none (Aq I q (by simp))
  | int j=>obtain⟨t',rfl⟩:=ry; exact ne_int (Aq I q (congrArg not HX))
  | str j=>obtain⟨t',rfl⟩:=ry; exact PySem.EqMixed.ne_int_str (Aq I q (by simp))
  | _=>exact absurd (show false=true from hs) Ze
 | str i =>
  obtain⟨t,rfl⟩:=rx;cases y with
  | non=>cases ry; exact PySem.EqNone.ne_str_none (Aq I q (by simp))
  | bl j=>cases ry; exact PySem.EqMixed.ne_str_bool (Aq I q (by simp))
  | int j=>obtain⟨t',rfl⟩:=ry; exact PySem.EqMixed.ne_str_int (Aq I q (by simp))
  | str j=>obtain⟨t',rfl⟩:=ry; exact ne_str (Aq I q (congrArg not HW))
  | _=>exact absurd (show false=true from hs) Ze
 | byt i =>
  obtain⟨t,rfl⟩:=rx;cases y with
  | byt j=>obtain⟨t',rfl⟩:=ry; exact PySem.W.ne_bytes (Aq I q (congrArg not Ol))
  | _=>exact absurd (show false=true from hs) Ze
 | _=>cases y <;> exact absurd (show false=true from hs) Ze
theorem op_lt:OpR X (compareOp .Lt) (HC λi j=>.bl (decide (i<j))):=Td λ_ _ _ _ _ _ _ q=>fH q
theorem op_le:OpR X (compareOp .LtE) (HC λi j=>.bl (decide (i<=j))):=Td λ_ _ _ _ _ _ _ q=>le_int q
theorem Uk:OpR X (compareOp .Gt) (HC λi j=>.bl (decide (j<i))):=Td λ_ _ _ _ _ _ _ q=>gt_int q
theorem XG:OpR X (compareOp .GtE) (HC λi j=>.bl (decide (j<=i))):=Td λ_ _ _ _ _ _ _ q=>ge_int q
theorem Pe:OpR X (compareOp .Lt) (λx y H Q=>∃i j,x=.str i/\y=.str j/\Q (.bl (decide (i.cps.toList<j.cps.toList))) H):=by
 intro pins s σ H x y v u Q I rx ry h;obtain⟨i,j,rfl,rfl,q⟩:=h;obtain⟨t,rfl⟩:=rx;obtain⟨t',rfl⟩:=ry;exact lt_str (Aq I q rfl)
theorem Vj:OpR X (compareOp .Is) (λx y H Q=>y=.non/\Q (.bl (decide (x=.non))) H):=by
 intro pins s σ H x y v u Q I rx ry h;obtain⟨rfl,q⟩:=h;cases ry;refine is_none_gen (Aq I q ?_)
 cases x <;> first
  | (cases rx; rfl)
  | (obtain⟨t,rfl⟩:=rx; rfl)
theorem OV:OpR X (compareOp .IsNot) (λx y H Q=>y=.non/\Q (.bl (!decide (x=.non))) H):=by
 intro pins s σ H x y v u Q I rx ry h;obtain⟨rfl,q⟩:=h;cases ry;refine isnot_none_gen (Aq I q ?_)
 cases x <;> first
  | (cases rx; rfl)
  | (obtain⟨t,rfl⟩:=rx; rfl)
theorem OpR.or{f:FM->FM->Sem FM}{r r':R2}(h:OpR X f r)(h':OpR X f r'):OpR X f (λx y H Q=>r x y H Q\/r' x y H Q):=by
 intro pins s σ H x y v u Q I rx ry q
 rcases q with q | q
 ·exact h pins s σ H x y v u Q I rx ry q
 ·exact h' pins s σ H x y v u Q I rx ry q
theorem An(b:Zq){op:CmpOp}(h:autoParam (op≠.In) zau1._auto_1)(h2:autoParam (op≠.NotIn) zau1._auto_1):behindInMarks op b=false:=by
 have e1:(op==CmpOp.In)=false:=by cases op <;> first | rfl | exact absurd rfl h
 have e2:(op==CmpOp.NotIn)=false:=by cases op <;> first | rfl | exact absurd rfl h2
 cases b <;> simp [behindInMarks,e1,e2]
theorem TZ{op:CmpOp}{r:R2}(ho:OpR X (compareOp op) r)(ha:PE X a ta)(hb:PE X b tb)(hm:behindInMarks op b=false):PE X (.Compare a [op] [b] pos) (C9 r ta tb):=by
 intro pins s σ H Q I h;exact wpAny_Compare1 (WE ha hb I h λv u s2 x y H2 I2 rx ry q=>ho pins s2 σ H2 x y v u Q I2 rx ry q) hm
noncomputable def Qq(t:TE):TT:=λσ H Q=>t σ H λx H'=>∃k,x=.bl k/\Q k H'
theorem Ex{op:CmpOp}{r:R2}(ho:OpR X (compareOp op) r)(ha:PE X a ta)(hb:PE X b tb)(hm:behindInMarks op b=false):PT X (.Compare a [op] [b] pos) (Qq (C9 r ta tb)):=by
 intro pins s σ H Q I h
 refine wpAny_isTrue_Compare1 (BV (ha pins s σ H _ I h) λv s1 ⟨x,H1,I1,r1,q1⟩=>BV (hb pins s1 σ H1 _ I1 q1) λu s2 ⟨y,H2,I2,r2,q2⟩ =>
  BV (ho pins s2 σ H2 x y v u _ I2 r1 r2 q2) λc s3 ⟨z,H3,I3,r3,k,e,q3⟩=>?_) hm
 subst e;cases r3;exact bH ⟨H3,I3,q3⟩
noncomputable def WN(K:Frag)(x:V)(H:Hp)(k:Bool):Prop :=
 match x with
 | .non=>k=false
 | .bl b=>k=b
 | .int i=>k=(i != 0)
 | .str y=>y.length<=sizeLine/\k=((y.length:Int) != 0)
 | .byt y=>y.size<=sizeLine/\k=((y.size:Int) != 0)
 | .ref p=>(∃xs,SqL K H p xs/\k=!xs.isEmpty)\/(∃xs,SqT K H p xs/\k=!xs.isEmpty)\/∃kvs,H p=some (.dK kvs)/\k=!kvs.isEmpty
 | _=>False
theorem Nd{κ:Type}{kvs:List (κ×V)}{vs:List (κ×FM)}(r:KV kvs vs):(!vs.isEmpty)=!kvs.isEmpty:=by
 cases r <;> rfl
theorem IW{xs:List V}{its:List FM}(r:Vals xs its):(!its.toArray.isEmpty)=!xs.isEmpty:=by
 cases r <;> simp
theorem Gb:(sizeLine:Nat)<2 ^ 63:=by rw [Z2]; decide
theorem VF:Yp X (λx H Q=>∃k,WN X.K x H k/\Q k H):=by
 intro pins s σ H x v Q I rx h;obtain⟨k,e,q⟩:=h;have hl:=Gb;have hs:sizeLine=16777216:=Z2;cases x with
 | non =>
  cases rx;have e':k=false:=e;subst e';exact truthy_none ⟨H,I,q⟩
 | bl b =>
  cases rx;have e':k=b:=e;subst e';exact bH ⟨H,I,q⟩
 | int i =>
  obtain⟨t,rfl⟩:=rx;have e':k=(i != 0):=e;subst e';exact PySem.P.truthy_int ⟨H,I,q⟩
 | str y =>
  obtain⟨t,rfl⟩:=rx;obtain⟨hy,e'⟩:y.length<=sizeLine/\k=((y.length:Int) != 0):=e;subst e';exact PySem.P.truthy_str (by omega) ⟨H,I.tok _,q⟩
 | byt y =>
  obtain⟨t,rfl⟩:=rx;obtain⟨hy,e'⟩:y.size<=sizeLine/\k=((y.size:Int) != 0):=e;subst e';exact PySem.W.truthy_bytes (by omega) ⟨H,I.tok _,q⟩
 | ref p =>
  cases rx;have e':(∃xs,SqL X.K H p xs/\k=!xs.isEmpty)\/(∃xs,SqT X.K H p xs/\k=!xs.isEmpty)\/∃kvs,H p=some (.dK kvs)/\k=!kvs.isEmpty:=e
  rcases e' with ⟨xs,hx,e'⟩ | ⟨xs,hx,e'⟩ | ⟨kvs,hx,e'⟩
  ·subst e'
   obtain⟨its,r,pl,hz⟩:=I.list hx;have hlen:=r.length;exact wpAny_truthy_list pl.isList (by simp only [UF]; omega) ⟨H,I.tok _,by rw [IW r]; exact q⟩
  ·subst e'
   obtain⟨its,r,pl,hz⟩:=I.tuple hx;have hlen:=r.length;exact truthy_tuple pl (by simp only [UF]; omega) ⟨H,I.tok _,by rw [IW r]; exact q⟩
  ·subst e'
   obtain⟨hz,hS,vs,r,m⟩:kvs.length<=sizeLine/\(p==sysModules)=false/\∃vs,KV kvs vs/\s.heap.DictOf (Ay X.prog X.w) p vs:=I.hok p _ hx;have hlen:kvs.length=vs.length:=Paired.length r;exact wpAny_truthy_dict hS m (by omega) ⟨H,I.tok _,by rw [Nd r]; exact q⟩
 | _=>exact(show False from e).elim
theorem RD(ha:PE X a ta)(he:∀whole,isTrue a X.env whole=(do let v ← whole; standAt a.pos; holding [v] (truthy v))) :
  PT X a (λσ H Q=>ta σ H λx H'=>∃k,WN X.K x H' k/\Q k H'):=by
 intro pins s σ H Q I h;exact isTrue_plain (BV (ha pins s σ H _ I h) λv s1 ⟨x,H1,I1,r1,q1⟩=>VF pins s1 σ H1 x v Q I1 r1 q1) (he _)
theorem NR:OpR X (binaryOp .Add) (λx y H Q=>∃i j,x=.str i/\y=.str j/\i.length+j.length<=sizeLine/\Q (.str (i++j)) H):=by
 intro pins s σ H x y v u Q I rx ry h;obtain⟨i,j,rfl,rfl,hz,q⟩:=h;obtain⟨t,rfl⟩:=rx;obtain⟨t',rfl⟩:=ry;exact add_str (λt' tk=>⟨.str (i++j),H,I.tok _,⟨_,rfl⟩,q⟩) hz
theorem vals1{x:V}{us:List FM}(r:Vals [x] us):∃u,us=[u]/\RelV x u:=by
 cases r with
 | cons r1 r2=>cases r2; exact⟨_,rfl,r1⟩
theorem vals2{x y:V}{us:List FM}(r:Vals [x,y] us):∃u w',us=[u,w']/\RelV x u/\RelV y w':=by
 cases r with
 | cons r1 r2 =>
  cases r2 with
  | cons r3 r4=>cases r4; exact⟨_,_,rfl,r1,r3⟩
theorem KG(hc:X.calm=true):By X (.builtin "min") (λxs H Q=>∃i j,xs=[.int i,.int j]/\Q (.int (if j<i then j else i)) H):=by
 intro pins s σ H xs us Q I r h;obtain⟨i,j,rfl,q⟩:=h;obtain⟨u,w',rfl,⟨t,rfl⟩,⟨t',rfl⟩⟩:=vals2 r;refine min_two_ints (I.ok.hd hc) λh' tk k=>⟨_,H,I.kept k,?_,q⟩
 by_cases hj:j<i
 ·rw [if_pos hj,if_pos hj]; exact⟨_,rfl⟩
 ·rw [if_neg hj,if_neg hj]; exact⟨_,rfl⟩
theorem QP:By X (.type "int") (λxs H Q=>(∃i,xs=[.int i]/\Q (.int i) H)\/∃k,xs=[.bl k]/\Q (.int (if k then 1 else 0)) H):=by
 intro pins s σ H xs us Q I r h
 rcases h with ⟨i,rfl,q⟩ | ⟨k,rfl,q⟩
 ·obtain⟨u,rfl,t,rfl⟩:=vals1 r
  exact call_int_int ⟨.int i,H,I,⟨_,rfl⟩,q⟩
 ·obtain⟨u,rfl,r1⟩:=vals1 r
  cases r1;exact call_int_bool ⟨.int (if k then 1 else 0),H,I.tok _,⟨_,rfl⟩,q⟩
noncomputable def WS(K:Frag)(x:V)(H:Hp)(n:Nat):Prop :=
 match x with
 | .str y=>y.length<=sizeLine/\n=y.length
 | .byt y=>y.size<=sizeLine/\n=y.size
 | .ref p=>(∃xs,SqL K H p xs/\n=xs.length)\/∃xs,SqT K H p xs/\n=xs.length
 | _=>False
theorem BF:By X (.builtin "len") (λxs H Q=>∃x n,xs=[x]/\WS X.K x H n/\Q (.int n) H):=by
 intro pins s σ H xs us Q I r h;obtain⟨x,n,rfl,e,q⟩:=h;obtain⟨u,rfl,rx⟩:=vals1 r;have hl:=Gb;have hs:sizeLine=16777216:=Z2;cases x with
 | str y =>
  obtain⟨t,rfl⟩:=rx;obtain⟨hy,e'⟩:y.length<=sizeLine/\n=y.length:=e;subst e';exact len_str (by omega) ⟨.int _,H,I.tok _,⟨_,rfl⟩,q⟩
 | byt y =>
  obtain⟨t,rfl⟩:=rx;obtain⟨hy,e'⟩:y.size<=sizeLine/\n=y.size:=e;subst e';exact PySem.W.len_bytes (by omega) ⟨.int _,H,I.tok _,⟨_,rfl⟩,q⟩
 | ref p =>
  cases rx;have e':(∃xs,SqL X.K H p xs/\n=xs.length)\/∃xs,SqT X.K H p xs/\n=xs.length:=e
  rcases e' with ⟨xs,hx,e'⟩ | ⟨xs,hx,e'⟩
  ·subst e'
   obtain⟨its,r',pl,hz⟩:=I.list hx;have hlen:=r'.length;exact Calls.call_len_list pl.isList (by simp only [UF]; omega) ⟨.int xs.length,H,I.tok _,⟨_,by simp only [UF]; rw [hlen]⟩,q⟩
  ·subst e'
   obtain⟨its,r',pl,hz⟩:=I.tuple hx;have hlen:=r'.length;exact len_tuple pl (by simp only [UF]; omega) ⟨.int xs.length,H,I.tok _,⟨_,by simp only [UF]; rw [hlen]⟩,q⟩
 | _=>exact(show False from e).elim
end
structure ObjM (h:Zk) (x dx C:Ev) (mA:Str->Option FM):Prop where
 obj:h.get? x=some (PySem.W.instObj C dx)
 ns:h.Ns1 dx mA
 ne:dx≠x
theorem Px{h:Zk}{dx:Ev}{mA:Str->Option FM}(n:h.Ns1 dx mA):∃od,h.get? dx=some od/\∀name,PySem.W.lookIn name od=some (mA name):=by
 obtain⟨o,es,ep,ho,hd,hk,_,hm⟩:=n;refine⟨o,ho,λname=>?_⟩;have e:=hm name;unfold nsFind findBy at e;rw [← Array.find?_toList] at e;unfold PySem.W.lookIn;rw [hd]
 dsimp only
 split
 ·rename_i y q
  rw [q] at e;exact congrArg some e
 ·rename_i q
  rw [q] at e
  have a:es.toList.any (·.refKey)=false:=by
   rw [List.any_eq_false];intro y hy;obtain⟨z,t,hkey⟩:=hk y (Array.mem_toList_iff.mp hy);simp [DictEntry.refKey,hkey]
  have a':¬es.toList.any (·.refKey)=true:=by rw [a]; exact Ze
  rw [if_neg a'];exact congrArg some e
theorem ObjM.look{h:Zk}{x dx C:Ev}{mA:Str->Option FM}(I:ObjM h x dx C mA):∃od,PySem.W.InstAt h x (PySem.W.instObj C dx) C (some od)/\∀name,PySem.W.lookIn name od=some (mA name) :=
 let ⟨od,ho,hl⟩:=Px I.ns
 ⟨od,⟨I.obj,rfl,rfl,ho⟩,hl⟩
section
variable {prog:Program}{w:World}{A:Around}{E:Value->Shared->Prop}{s:Shared}{K:Frag}{x dx C f:Addr}{mA:Str->Option Value}{name:Str}{v:Value}
end
theorem RelO.some_of{v:V}{o:Option FM}(r:RelO (some v) o):∃u,o=some u/\RelV v u:=by
 cases o with
 | none=>exact(show False from r).elim
 | some u=>exact⟨u,rfl,r⟩
section
variable {P:Program}{w:World}{H H':Hp}{h h':Heap}{a C dx:Addr}{fs fs':List (Str×V)}
theorem Ts(hok:HOk P w H h)(e:H a=some (.ins C dx fs)):∃mA,ObjM h a dx C mA/\(∀f,RelO (fs.lookup f) (mA f))/\PySem.Within mA (fs.map (·.1))/\fs.length<=1000/\H dx=some (.own a):=by
 obtain⟨d,z,ne,ob,mA,n,r,q⟩:=(show ObjOk P w H h a (.ins C dx fs) from hok a _ e);exact⟨mA,⟨ob,n,ne⟩,r,q,z,d⟩
end
structure Cls (K:Frag) (C:Ev):Prop where
 pg:PySem.W.plainGet K C Str.empty=true
 hd:PySem.W.hasDictIn K C=true
 po:PySem.W.plainOver K C=true
 sa:PySem.W.findIn K (.ref C) "__setattr__"=some (some (.builtin "object.__setattr__"))
theorem Cls.get{K:Frag}{C:Ev}(c:Cls K C)(f:Str):PySem.W.plainGet K C f=true:=c.pg
structure ZQ (K:Frag) (C:Ev) (f:Str) (v:V) (u:FM):Prop where
 at_:PySem.W.findIn K (.ref C) f=some (some u)
 rel:RelV v u
 get:PySem.W.specialIn K u "__get__"=some none
 cp:PySem.W.copiedNames.contains f=false
structure ZO (K:Frag) (C:Ev) (m:Str) (f:Ev):Prop where
 at_:PySem.W.findIn K (.ref C) m=some (some (.ref f))
 fn:PySem.W.isFn K (.ref f)=true
 kp:keepIn K (.ref f)=true
section
variable {X:Cx}{pins:List (Addr×Obj)}{σ:St}{H:Hp}{s:Shared}{a C dx:Addr}{fs:List (Str×V)}{f:Str}{v:V}{A:Around}{E:Value->Shared->Prop}
end
section
variable {X:Cx}{o e value:Expr}{f:Str}{pos pos' tpos:Pos}{ta tv:TE}
end
section
variable {X:Cx}{pins:List (Addr×Obj)}{σ:St}{H:Hp}{s:Shared}{A:Around}{E:Value->Shared->Prop}{Q:Value->Shared->Prop}{c:Value}{b:Bool}
inductive FZ (K:Frag) (H:Hp):V->FM->Prop where
 | non:FZ K H .non (.type "NoneType")
 | bl (x:Bool):FZ K H (.bl x) (.type "bool")
 | int (i:Int):FZ K H (.int i) (.type "int")
 | str (x:Str):FZ K H (.str x) (.type "str")
 | flt (x:UInt64):FZ K H (.flt x) (.type "float")
 | lst {a:Ev} {xs:List V} (e:H a=some (.lst xs)):FZ K H (.ref a) (.type "list")
 | frz {a:Ev} {o:Obj} {xs:List V} (e:H a=some (.frz o (.lst xs))):FZ K H (.ref a) (.type "list")
 | tup {a:Ev} {xs:List V} (e:H a=some (.tup xs)):FZ K H (.ref a) (.type "tuple")
 | dF {a:Ev} {o:Obj} {kvs:List (Key×V)} (e:H a=some (.frz o (.dK kvs))):FZ K H (.ref a) (.type "dict")
 | dK {a:Ev} {kvs:List (Key×V)} (e:H a=some (.dK kvs)):FZ K H (.ref a) (.type "dict")
 | dT {a:Ev} {kvs:List (List Key×V)} (e:Rd H a (.dT kvs)):FZ K H (.ref a) (.type "dict")
 | ins {a C dx:Ev} {fs:List (Str×V)} (e:H a=some (.ins C dx fs)) (cl:Cls K C) (ha:PySem.W.findIn K (.ref C) "__class__"=some (some (.builtin "object.__class__")))
   (hn:PySem.W.specialIn K (.builtin "object.__class__") "__get__"=some (some (.builtin "getset_descriptor.__get__"))) (htk:PySem.W.takesIn K (.builtin "object.__class__")=some true)
   (hm:PySem.W.mroIn K C (.type "object")=some true):FZ K H (.ref a) (.ref C)
theorem P2{x:V}{u t:FM}(I:Inv X pins σ H s)(rx:RelV x u)(ty:FZ X.K H x t)(e:PySem.W.kitOne X.K t c=some b)(h:∀tk,Q (.bool b) { s with toks:=tk }) :
  wpAny (model X.prog X.w) A (call (.builtin "isinstance") [u,c]) Q E s:=by
 cases ty with
 | non=>cases (show u=Z0 from rx); exact PySem.W.kia_one PySem.W.kitx_none I.kIn bR e (λz=>nomatch z) h
 | bl y=>cases (show u=dN y from rx); exact PySem.W.kia_one PySem.W.kitx_bool I.kIn bR e (λz=>nomatch z) h
 | int i=>obtain⟨t,q⟩:=(show ∃t,u=fC i t from rx); cases q; exact PySem.W.kia_one PySem.W.kitx_int I.kIn bR e (λz=>nomatch z) h
 | str y=>obtain⟨t,q⟩:=(show ∃t,u=bT y t from rx); cases q; exact PySem.W.kia_one PySem.W.kitx_str I.kIn bR e (λz=>nomatch z) h
 | flt y=>obtain⟨t,q⟩:=(show ∃t,u=Value.float y t from rx); cases q; exact PySem.W.kia_one PySem.W.kitx_float I.kIn bR e (λz=>nomatch z) h
 | @lst a xs ea =>
  cases (show u=Z4 a from rx);obtain⟨_,_,n,_,h1⟩:=(show ObjOk X.prog X.w H s.heap a (.lst xs) from I.hok a _ ea);exact PySem.W.kia_one PySem.W.kitx_list I.kIn ⟨_,h1,rfl⟩ e (λz=>nomatch z) h
 | @frz a ob xs ea =>
  cases (show u=Z4 a from rx);obtain⟨_,_,_,n,_,h1⟩:=(show ObjOk X.prog X.w H s.heap a (.frz ob (.lst xs)) from I.hok a _ ea);exact PySem.W.kia_one PySem.W.kitx_list I.kIn ⟨_,h1,rfl⟩ e (λz=>nomatch z) h
 | @tup a xs ea =>
  cases (show u=Z4 a from rx);obtain⟨_,_,_,p⟩:=(show ObjOk X.prog X.w H s.heap a (.tup xs) from I.hok a _ ea);obtain⟨o,h1,h2,_⟩:=p;exact PySem.W.kia_one PySem.W.kitx_tuple I.kIn ⟨o,h1,h2⟩ e (λz=>nomatch z) h
 | @dF a ob kvs ea =>
  cases (show u=Z4 a from rx);obtain⟨_,_,_,vs,_,p⟩:=(show ObjOk X.prog X.w H s.heap a (.frz ob (.dK kvs)) from I.hok a _ ea);obtain⟨o,es,ep,h1,h2,_⟩:=p;exact PySem.W.kia_one PySem.W.kitx_dict I.kIn ⟨o,h1,h2.1⟩ e (λz=>nomatch z) h
 | @dK a kvs ea =>
  cases (show u=Z4 a from rx);obtain⟨_,_,vs,_,p⟩:=(show ObjOk X.prog X.w H s.heap a (.dK kvs) from I.hok a _ ea);obtain⟨o,es,ep,h1,h2,_⟩:=p;exact PySem.W.kia_one PySem.W.kitx_dict I.kIn ⟨o,h1,h2.1⟩ e (λz=>nomatch z) h
 | @dT a kvs ea =>
  cases (show u=Z4 a from rx);obtain⟨_,_,xs,_,o,es,ep,h1,h2,_⟩:=(show ObjOk X.prog X.w H s.heap a (.dT kvs) from ea.ok I.hok);exact PySem.W.kia_one PySem.W.kitx_dict I.kIn ⟨o,h1,h2.1⟩ e (λz=>nomatch z) h
 | @ins a C dx fs ea cl ha hn htk hm =>
  cases (show u=Z4 a from rx);obtain⟨mA,O,_⟩:=Ts I.hok ea;obtain⟨od,J,_⟩:=O.look;exact PySem.W.kia_one (PySem.W.kitx_own (cl.get _) cl.hd ha hn htk hm) I.kIn J e (λz=>nomatch z) h
end
structure Room (k:Nat) (A:aB):Prop where
 hd:A.handled=none
 dp:A.depth+3*k+5<recursionLimit
 un:A.units+16*k+200<cLine
 gd:A.guards=some []
theorem Room.mono{j k:Nat}{A:aB}(r:Room k A)(h:j<=k):Room j A:=⟨r.hd,by have:=r.dp; omega,by have:=r.un; omega,by first | exact r.gd | (show pushGuards _ _=_; rw [r.gd]; rfl) | (simp [fj,pushGuards,Code.guards,fk,r.gd])⟩
theorem Room.deeper{k:Nat}{A:aB}(r:Room (k+1) A)(env:Env):Room k (A.deeper env) :=
 ⟨r.hd,by have:=r.dp; show A.depth+1+3*k+5<_; omega,by have:=r.un; show A.units+3+16*k+200<_; omega,by first | exact r.gd | (show pushGuards _ _=_; rw [r.gd]; rfl) | (simp [fj,pushGuards,Code.guards,fk,r.gd])⟩
theorem Room.in1{k:Nat}{A:aB}(r:Room (k+1) A):Room k A.in1 :=
 ⟨r.hd,by have:=r.dp; show A.depth+3*k+5<_; omega,by have:=r.un; show A.units+1+16*k+200<_; omega,by first | exact r.gd | (show pushGuards _ _=_; rw [r.gd]; rfl) | (simp [fj,pushGuards,Code.guards,fk,r.gd])⟩
theorem Room.depth{k:Nat}{A:aB}(r:Room k A):A.depth<recursionLimit:=by have:=r.dp; omega
theorem Room.units{k:Nat}{A:aB}(r:Room k A):A.units+64<cLine:=by have:=r.un; omega
theorem Room.units0{k:Nat}{A:aB}(r:Room k A):A.units<cLine:=by have:=r.un; omega
noncomputable def TC:TA:=λ_ H Q=>Q [] H
noncomputable def OE(ta:TE)(tr:TA):TA:=λσ H Q=>ta σ H λx H1=>tr σ H1 λxs H2=>Q (x::xs) H2
section
variable {X:Cx}{e:Expr}{es:List Expr}{te:TE}{t:TA}{pos:Pos}
theorem CG:PA X [] TC:=λ_ _ _ _ H Q I h=>c5 ⟨[],H,I,.nil,h⟩
theorem BM(ha:PE X e te)(hr:PA X es t)(hs:autoParam (starEach (e::es) X.env=(false,eval e X.env)::starEach es X.env) zau3._auto_1):PA X (e::es) (OE te t):=by
 intro pos pins s σ H Q I h;rw [hs];show wpAny _ _ (spliced ((false,eval e X.env)::backTo pos (starEach es X.env))) _ _ s;refine b9 (BV (ha pins s σ H _ I h) λu s1 ⟨x,H1,I1,r1,q1⟩=>?_);exact BV (hr pos pins s1 σ H1 _ I1 q1) λus s2 ⟨xs,H2,I2,r2,q2⟩=>⟨x::xs,H2,I2,.cons r1 r2,q2⟩
noncomputable def YK(t:TA):TE:=λσ H Q=>t σ H λxs H1=>xs.length<=sizeLine/\∀p,H1 p=none->Q (.ref p) (Aw H1 p (.tup xs))
noncomputable def YM(t:TA):TE:=λσ H Q=>t σ H λxs H1=>xs.length<=sizeLine/\∀p,H1 p=none->Q (.ref p) (Aw H1 p (.lst xs))
theorem Vc{x1}(h:PA X es t):PE X (.Tuple es x1 pos) (YK t):=by
 intro pins s σ H Q I hq;refine wpAny_Tuple_spliced (BV (h pos pins s σ H _ I hq) λus s1 ⟨xs,H1,I1,r,z,q⟩=>⟨by rw [← r.length]; exact z,?_⟩);have hf:H1 s1.heap.objs.size=none:=I1.hok.fresh (Tk _);refine⟨.ref s1.heap.objs.size,Aw H1 s1.heap.objs.size (.tup xs),I1.laid (t':=s1.toks) (λb u e=>Op _ e) (Tk _) ?_,rfl,q _ hf⟩;exact⟨z,us,r,IsTupN.new _ _⟩
theorem NN(h:PA X es t):PE X (.List es pos) (YM t):=by
 intro pins s σ H Q I hq;refine wpAny_List_spliced (BV (h pos pins s σ H _ I hq) λus s1 ⟨xs,H1,I1,r,z,q⟩=>⟨by rw [← r.length]; exact z,?_⟩);have hf:H1 s1.heap.objs.size=none:=I1.hok.fresh (Tk _);refine⟨.ref s1.heap.objs.size,Aw H1 s1.heap.objs.size (.lst xs),I1.laid (t':=s1.toks) (λb u e=>Op _ e) (Tk _) ?_,rfl,q _ hf⟩;exact⟨z,us,0,r,Uf _ rfl⟩
end
noncomputable abbrev Sp:=List V->Hp->VK->XK->Prop
noncomputable abbrev Sy:=List Env->Hp->Rs->XK->FM->Rs->Prop
structure Env0 (P:Zs) (w:Zz) (K:Frag) (mg:Str->Option FM) (base:Zk) (A:aB) (outer:List Env) (s:Rs) (H:Hp):Prop where
 frames:A.frames=some outer
 mod:Mod K mg base
 bs:∀b o,base.get? b=some o->s.heap.get? b=some o/\H b=none
 bsz:base.objs.size<=s.heap.objs.size
 funs:s.heap.FunFrames base outer
 frf:∀b∈Oa outer,H b=none
 hok:HOk P w H s.heap
 bare:cq s.gens
noncomputable def CE(outer:List Env)(P:Zs)(w:Zz)(H:Hp)(s:Rs)(Q:VK)(u:FM)(s':Rs):Prop :=
 ∃v H',s'.os=s.os/\cq s'.gens/\Un (Oa outer) [] H H' s.heap s'.heap/\HOk P w H' s'.heap/\RelV v u/\Q v H'
noncomputable def CR(CX:Sy)(outer:List Env)(P:Zs)(w:Zz)(H:Hp)(s:Rs)(Q:VK)(E:XK)(r:Result)(s':Rs):Prop :=
 match r with
 | .ok (.ret u)=>CE outer P w H s Q u s'
 | .ok _=>False
 | .error e=>CX outer H s E e s'
structure BK (P:Zs) (w:Zz) (K:Frag) (mg:Str->Option FM) (base:Zk) (CX:Sy) (k:Nat) (f:Ev) (fd:aE) (ps:List Str) (sp:Sp):Prop where
 len:∀vs H Q E,sp vs H Q E->vs.length=ps.length
 run:∀(A:aB) (outer:List Env) (s:Rs) (H:Hp) (args:Args) (us:List FM) (vs:List V) (Q:VK) (E:XK),Room k A->Env0 P w K mg base A outer s H->eU s fd args (ps.zip us)->Vals vs us->sp vs H Q E ->
  codeAny (model P w) A (.call (.ref f) args) (CR CX outer P w H s Q E) s
theorem Env0.in1{P:Zs}{w:Zz}{K:Frag}{mg:Str->Option FM}{base:Zk}{A:aB}{outer:List Env}{s:Rs}{H:Hp}(e:Env0 P w K mg base A outer s H) :
  Env0 P w K mg base A.in1 outer s H:=⟨e.frames,e.mod,e.bs,e.bsz,e.funs,e.frf,e.hok,e.bare⟩
section
variable {X:Cx}{pins:List (Addr×Obj)}{σ:St}{H:Hp}{s s':Shared}
theorem Inv.env0(I:Inv X pins σ H s):Env0 X.prog X.w X.K X.mg X.base X.A X.stack s H :=
 ⟨I.ok.frames,I.ok.mod,I.bs,Zu I.ok.bsz I.sz,I.stack,I.stkFree,I.hok,I.bare⟩
theorem Inv.after{Q:VK}{u:FM}(I:Inv X pins σ H s)(h:CE X.stack X.prog X.w H s Q u s'):EP X pins σ Q u s':=by
 obtain⟨v,H',os,bare,un,hok,r,q⟩:=h;obtain⟨hh,g,d,t,os'⟩:=s';obtain rfl:os'=s.os:=os;exact⟨v,H',I.call (h':=hh) (g':=g) (d':=d) (t':=t) (ch:=[]) un hok bare (λb z=>absurd z (by simp)),r,q⟩
end
noncomputable def Qr(sp:Sp)(dvs:List V)(E:XK)(t:TA):TE:=λσ H Q=>t σ H λvs H1=>sp (vs++dvs) H1 Q E
noncomputable def Binds(K:Frag)(fd:aE)(ps:List Str)(ds:List FM):Prop :=
 ∀(s:Rs) (us:List FM),K.In s.heap->(us++ds).length=ps.length->eU s fd ⟨us,[]⟩ (ps.zip (us++ds))
theorem Binds.all{K:Frag}{fd:aE}{ps:List Str}(h:∀us:List FM,us.length=ps.length->bindArgs fd ⟨us,[]⟩=pure (ps.zip us)):Binds K fd ps []:=λs us _ hl=>by
 rw [Zn] at hl ⊢;exact .of_eq (h us hl)
noncomputable def N6(CX:Sy)(X:Cx)(E:XK):Prop:=∀(pins:List (Ev×Obj)) (σ:St) (H:Hp) (s:Rs) (e:FM) (s':Rs),Inv X pins σ H s->CX X.stack H s E e s'->X.xe e s'
section
variable {X:Cx}{CX:Sy}{k:Nat}{f C:Addr}{fd:FuncData}{ps:List Str}{sp:Sp}{dvs:List V}{ds:List Value}{E:XK}{x m:Str}{p pos apos:Pos}{e o:Expr}{es:List Expr}{ta:TE}{t:TA}
theorem VQ{pins:List (Ev×Obj)}{σ:St}{H:Hp}{s:Rs}{Q:VK}{us:List FM}{vs:List V}(F:BK X.prog X.w X.K X.mg X.base CX k f fd ps sp)(hr:Room k X.A)(hb:Binds X.K fd ps ds)(hd:Vals dvs ds)(hx:N6 CX X E)
  (I:Inv X pins σ H s) (r:Vals vs us) (h:sp (vs++dvs) H Q E):wpAny (model X.prog X.w) X.A (call (.ref f) us) (EP X pins σ Q) X.xe s:=by
 have r2:Vals (vs++dvs) (us++ds):=r.append hd;have hl:(us++ds).length=ps.length:=by rw [← r2.length]; exact F.len _ _ _ _ h
 refine wpAny_call (eY (F.run X.A X.stack s H ⟨us,[]⟩ (us++ds) (vs++dvs) Q E hr I.env0 (hb s us I.kIn hl) r2 h) λr s' hq=>?_);cases r with
 | error e=>exact hx pins σ H s e s' I hq
 | ok fl =>
  cases fl with
  | ret u=>exact I.after hq
  | next=>exact aq hq
  | brk=>exact aq hq
  | cont=>exact aq hq
theorem Ky(F:BK X.prog X.w X.K X.mg X.base CX k f fd ps sp)(hr:Room k X.A)(hg:Gl X x)(hm:X.mg x=some (.ref f))(hk:keepIn X.K (.ref f)=true)(hb:Binds X.K fd ps ds)(hd:Vals dvs ds)(hx:N6 CX X E)
  (ha:PA X (e::es) t) (hdb:autoParam ((x==("__debug__":Str))=false) zau1._auto_1) (he:autoParam (starEach (e::es) X.env=(false,eval e X.env)::starEach es X.env) zau3._auto_1) (hpl:autoParam ((backTo pos (starEach es X.env)).any (·.1)=false) zau3._auto_1) :
  PE X (.Call (.Name x p) (e::es) [] pos) (Qr sp dvs E t):=by
 intro pins s σ H Q I h;refine bU (OX I hg hm ?_ hdb);refine PySem.W.callWith_K (h₀:=X.base) I.ok.mod.kin hk (BV (ha pos pins s σ H _ I h) λus s1 ⟨vs,H1,I1,r,q⟩=>⟨I1.kIn,?_⟩) he hpl;exact VQ F hr hb hd hx I1 r q
structure Mk (K:Frag) (C f:Ev):Prop where
 makes:PySem.W.makesIn K C=true
 init:PySem.W.findIn K (.ref C) "__init__"=some (some (.ref f))
 fn:PySem.W.isFn K (.ref f)=true
 kp:keepIn K (.ref C)=true
end
section
variable {X:Cx}{CX:Sy}{k:Nat}{f C:Addr}{fd:FuncData}{ps ks:List Str}{sp:Sp}{E:XK}{x m:Str}{p pos apos kpos:Pos}{e o:Expr}{es:List Expr}{kws:List Keyword}{te ta:TE}{t tk:TA}{nm:Option Str}
structure Ys (K:Frag) (fd:aE) (ps ks:List Str) (g:List FM->List FM->List FM) (gV:List V->List V->List V):Prop where
 to:∀(s:Rs) (us ws:List FM),K.In s.heap->(g us ws).length=ps.length->eU s fd ⟨us,ks.zip ws⟩ (ps.zip (g us ws))
 rel:∀{vs:List V} {us:List FM} {zs:List V} {ws:List FM},Vals vs us->Vals zs ws->Vals (gV vs zs) (g us ws)
variable {g:List Value->List Value->List Value}{gV:List V->List V->List V}
end
structure Af (N P:List Str) (sc:bQ):Prop where
 kind:sc.kind=.function
 co:sc.isCoroutine=false
 gen:sc.isGenerator=false
 nd:N.Nodup
 pre:N.take P.length=P
 par:∀x∈P,sc.names.lookup x=some .local\/sc.names.lookup x=some .cell
 nofree:∀y∈sc.names,y.2≠.free
theorem KH{kindOf:Str->Option bE}{x:Str}:∀{binds:List (Str×FM)} {m:Str->Option FM},(∀v,(x,v)∉binds)->bindL kindOf binds m x=m x
 | [],_,_=>rfl
 | (n,v)::r,m,h=>by
  unfold bindL;rw [KH λw hw=>h w (Sc _ hw)]
  split
  ·have:x≠n:=by rintro rfl; exact h v Re
   simp [this]
  ·rfl
theorem KJ{kindOf:Str->Option bE}{x:Str}:∀{binds:List (Str×FM)} {m:Str->Option FM},(∀v,(x,v)∉binds)->bindC kindOf binds m x=m x
 | [],_,_=>rfl
 | (n,v)::r,m,h=>by
  unfold bindC;rw [KJ λw hw=>h w (Sc _ hw)]
  split
  ·rfl
  ·have:x≠n:=by rintro rfl; exact h v Re
   simp [this]
theorem KI{kindOf:Str->Option bE}{x:Str}{v:FM}:∀{P:List Str} {vs:List FM} {i:Nat} {m:Str->Option FM},P.Nodup->P[i]?=some x->vs[i]?=some v->kindOf x=some .local ->
  bindL kindOf (P.zip vs) m x=some v
 | [],_,_,_,_,h,_,_=>by simp at h
 | _::_,[],_,_,_,_,h,_=>by simp at h
 | p::P,w::vs,0,m,nd,h1,h2,hk=>by
  simp at h1 h2; subst h1; subst h2
  show bindL kindOf ((p,w)::P.zip vs) m p=_;unfold bindL;rw [KH λv hv=>(ZY.mp nd).1 (cW hv).1,if_pos hk];simp
 | p::P,w::vs,i+1,m,nd,h1,h2,hk=>by
  show bindL kindOf ((p,w)::P.zip vs) m x=_;unfold bindL;exact KI (i:=i) (ZY.mp nd).2 (by simpa using h1) (by simpa using h2) hk
theorem KL{kindOf:Str->Option bE}{x:Str}{v:FM}:∀{P:List Str} {vs:List FM} {i:Nat} {m:Str->Option FM},P.Nodup->P[i]?=some x->vs[i]?=some v->kindOf x≠some .local ->
  bindC kindOf (P.zip vs) m x=some v
 | [],_,_,_,_,h,_,_=>by simp at h
 | _::_,[],_,_,_,_,h,_=>by simp at h
 | p::P,w::vs,0,m,nd,h1,h2,hk=>by
  simp at h1 h2; subst h1; subst h2
  show bindC kindOf ((p,w)::P.zip vs) m p=_;unfold bindC;rw [KJ λv hv=>(ZY.mp nd).1 (cW hv).1,if_neg hk];simp
 | p::P,w::vs,i+1,m,nd,h1,h2,hk=>by
  show bindC kindOf ((p,w)::P.zip vs) m x=_;unfold bindC;exact KL (i:=i) (ZY.mp nd).2 (by simpa using h1) (by simpa using h2) hk
noncomputable def start(N:List Str)(vs:List V):St:=vs.map some++Zd (N.length - vs.length) none
noncomputable def Jc(CX:Sy)(P:Zs)(w:Zz)(K:Frag)(mg:Str->Option FM)(base:Zk)(N:List Str)(qual:Str)(scope:bQ)(f:Ev)(cd:FM)(A:aB)(outer:List Env)(s:Rs)(H:Hp)(E:XK):Cx where
 prog:=P
 w:=w
 K:=K
 mg:=mg
 base:=base
 A:=A.deeper (envOfC qual scope s.heap.objs.size f cd)
 N:=N
 s₀:=s
 H₀:=H
 env:=envOfC qual scope s.heap.objs.size f cd
 outer:=outer
 stack:=envOfC qual scope s.heap.objs.size f cd::outer
 ex:=[]
 calm:=true
 fn:=λ_=>true
 pn:=[]
 xe:=λe s'=>wpAny (model P w) (A.deeper (envOfC qual scope s.heap.objs.size f cd)) (leaving (envOfC qual scope s.heap.objs.size f cd) e) (λ_ s''=>CX outer H s E e s'') (λe' s''=>CX outer H s E e' s'') s'
theorem Md{sc:bQ}{n:Nat}{x:Str}(h:sc.names.lookup x=some .cell):∃c,(cellsFrom n sc.names []).lookup x=some c:=by
 have q:=PySem.W.cellsFrom_some sc.names n [] (.inl h);exact Option.isSome_iff_exists.mp q
theorem P5{CX:Sy}{P:Zs}{w:Zz}{K:Frag}{mg:Str->Option FM}{base:Zk}{N ps:List Str}{qual:Str}{scope:bQ}{f:Ev}{cd:FM}{A:aB}{outer:List Env}{s s1:Rs}{H:Hp}{E:XK}{us:List FM}{vs:List V}
  (S:Af N ps scope) (hd:A.handled=none) (e0:Env0 P w K mg base A outer s H) (hl:vs.length=ps.length) (r:Vals vs us)
  (x:InCallC s s.heap.objs.size (bindL (envOfC qual scope s.heap.objs.size f cd).kindOf (ps.zip us) λ_=>none) (cellsFrom (s.heap.objs.size+1) scope.names []) (bindC (envOfC qual scope s.heap.objs.size f cd).kindOf (ps.zip us) λ_=>none) s1) :
  Inv (Jc CX P w K mg base N qual scope f cd A outer s H E) [] (start N vs) H s1:=by
 have hpl:ps.length<=N.length:=by have:=congrArg dA S.pre; rw [cK] at this; omega
 obtain⟨h1,tk,rfl,hk⟩:=x.done;have noA:∀b:Ev,b∉(Jc CX P w K mg base N qual scope f cd A outer s H E).ex:=λb z=>absurd (show b∈([]:List Ev) from z) (by simp)
 refine⟨⟨e0.mod,S.kind,rfl,rfl,Tk _,λy z c h1 h2=>?_,λy hy=>?_,λy c _ h=>?_,λ_=>hd,Around.frames_deeper e0.frames,.inr ⟨rfl,rfl⟩,λb z=>absurd z (noA b),e0.bs,e0.bsz,λb _ _=>noA b,λb z=>absurd z (noA b),e0.funs,e0.frf⟩,
  rfl,e0.bare,Un.kept hk,⟨_,x.toInCall.ns,λi y v h1 h2 h3=>?_⟩,λy c h=>⟨_,x.cell y c h⟩,e0.hok.fresh (Tk _),λy c h=>?_,λp hp=>absurd (show p∈([]:List (Ev×Obj)) from hp) (by simp),e0.hok.kept hk,?_⟩
 ·exact name_of_addr x.apart (PySem.mem_of_lookup h1) (PySem.mem_of_lookup h2)
 ·have hy:scope.names.lookup y=some .cell\/scope.names.lookup y=some .free:=hy
  rcases hy with hy | hy
  ·exact Md hy
  ·exact absurd rfl (S.nofree _ (PySem.mem_of_lookup hy))
 ·exact eV (x.above y c (PySem.mem_of_lookup h))
 ·have hi:i<vs.length:=by
   unfold start at h2
   by_cases hi:i<vs.length
   ·exact hi
   ·rw [bZ (by simpa using hi)] at h2
    rw [c0] at h2
    split at h2 <;> cases h2
  have ha:vs[i]?=some v:=by
   unfold start at h2;rw [be (by simpa using hi),ZZ] at h2;cases e:vs[i]? with
   | none=>rw [e] at h2; cases h2
   | some a=>rw [e] at h2; cases h2; rfl
  obtain⟨u,hu,rv⟩:=r.get ha
  have hp:ps[i]?=some y:=by
   rw [← S.pre,List.getElem?_take_of_lt (by omega)]; exact h1
  have ndP:ps.Nodup:=by rw [← S.pre]; exact S.nd.sublist (List.take_sublist _ _)
  refine⟨u,rv,?_⟩
  rcases S.par y (aT hp) with k | k
  ·exact .inl ⟨k,KI ndP hp hu k⟩
  ·obtain⟨c,e⟩:=Md (n:=s.heap.objs.size+1) k
   refine .inr ⟨.inl k,c,e,?_⟩;have q:=x.cell y c e;rw [KL ndP hp hu (by show scope.names.lookup y≠_; rw [k]; decide)] at q;exact q
 ·exact e0.hok.fresh (eV (x.above y c (PySem.mem_of_lookup h)))
 ·unfold start
  show _=N.length;rw [ZT,On,fL];omega
theorem XY{CX:Sy}{P:Zs}{w:Zz}{K:Frag}{mg:Str->Option FM}{base:Zk}{k:Nat}{f:Ev}{name qual:Str}{params:Arguments}{body:List Z9}{scope:bQ}{dV kV doc pm cdv ct oc:FM}{an od:Option Ev}
  {osl:Array (Option FM)} {N ps:List Str} {sp:Sp} (lk:K.lookup f=some ⟨oc,od,.func (fnOf name qual params body scope dV kV doc pm an cdv ct),osl⟩) (hcd:codeIn K cdv qual=true) (S:Af N ps scope)
  (len:∀vs H Q E,sp vs H Q E->vs.length=ps.length)
  (hbody:∀(A:aB) (outer:List Env) (s:Rs) (H:Hp) (vs:List V) (Q:VK) (E:XK),Room k (A.deeper (envOfC qual scope s.heap.objs.size f cdv))->sp vs H Q E ->
   ∃t,PSs (Jc CX P w K mg base N qual scope f cdv A outer s H E) body t/\t { nx:=λ_ H'=>Q .non H',rt:=Q } (start N vs) H) :
  BK P w K mg base CX (k+1) f (fnOf name qual params body scope dV kV doc pm an cdv ct) ps sp:=by
 refine⟨len,λA outer s H args us vs Q E hr e0 hb r hsp=>?_⟩;have hl:=len _ _ _ _ hsp;have KX:K.In s.heap:=e0.mod.kin.keeps λb o e=>(e0.bs b o e).1;have lim:s.heap.NoLimit:=e0.mod.nolimit.keeps λb o e=>(e0.bs b o e).1
 have hkind:∀y∈ps.zip us,scope.names.lookup y.1=some .local\/(scope.names.lookup y.1=some .cell/\((cellsFrom (s.heap.objs.size+1) scope.names []).lookup y.1).isSome=true):=fun⟨n,v⟩ hy=>by
  rcases S.par n (cW hy).1 with q | q
  ·exact .inl q
  ·exact .inr ⟨q,PySem.W.cellsFrom_some _ _ _ (.inl q)⟩
 refine codeAny_call_function hr.depth (KX _ _ lk) rfl S.co S.gen rfl (PySem.W.codeRec_of KX hcd) (hb _ _ _ _ ?_);refine wpAny_newFunctionEnv_cells S.kind hkind λenv he s1 x=>?_;subst he;refine⟨lim.keeps x.toInCall.keep,codeAny_func ?_⟩;obtain⟨t,ht,hq⟩:=hbody A outer s H vs Q E (hr.deeper _) hsp;have I:Inv (Jc CX P w K mg base N qual scope f cdv A outer s H E) [] (start N vs) H s1:=P5 S hr.hd e0 hl r x;refine aJ (ht [] s1 (start N vs) H _ I hq) (λfl s' hs=>?_) λe s' hs=>hs
 have fin:∀{σ':St} {H':Hp} {v:V} {u:FM},Inv (Jc CX P w K mg base N qual scope f cdv A outer s H E) [] σ' H' s'->RelV v u->Q v H'->CE outer P w H s Q u s' :=
  λ{σ' H' v u} J rv q=>⟨v,H',J.os,J.bare,J.base,J.hok,rv,q⟩
 cases fl with
 | ret u =>
  obtain⟨v,σ',H',J,rv,q⟩:=hs;exact fin J rv q
 | next =>
  obtain⟨σ',H',J,q⟩:=hs;exact fin (v:=V.non) (u:=Z0) J rfl q
 | brk =>
  obtain⟨_,_,_,q⟩:=hs;exact aq q
 | cont =>
  obtain⟨_,_,_,q⟩:=hs;exact aq q
section
variable {X:Cx}{x:Str}{p pos:Pos}{e:Expr}{es:List Expr}{t:TA}{id T:String}{r:List V->Hp->VK->Prop}
noncomputable def X4(r:List V->Hp->VK->Prop)(t:TA):TE:=λσ H Q=>t σ H λvs H1=>r vs H1 Q
theorem Fo(hc:By X (.builtin id) r)(hg:Gl X x)(hm:X.mg x=none)(hv:bootBuiltins x=some (.builtin id))(ha:PA X (e::es) t)(hn:autoParam (x ≠ "__name__") zau1._auto_1)(hdb:autoParam ((x==("__debug__":Str))=false) zau1._auto_1)
  (he:autoParam (starEach (e::es) X.env=(false,eval e X.env)::starEach es X.env) zau3._auto_1) (hpl:autoParam ((backTo pos (starEach es X.env)).any (·.1)=false) zau3._auto_1):PE X (.Call (.Name x p) (e::es) [] pos) (X4 r t):=by
 intro pins s σ H Q I h;refine bU (Dr I hg hm hv ?_ hn hdb);exact PyProof.Rows.callWith_builtin1 (BV (ha pos pins s σ H _ I h) λus s1 ⟨vs,H1,I1,r1,q1⟩=>hc pins s1 σ H1 vs us Q I1 r1 q1) he hpl
theorem Js(hc:By X (.type T) r)(hg:Gl X x)(hm:X.mg x=none)(hv:bootBuiltins x=some (.type T))(ha:PA X (e::es) t)(hn:autoParam (x ≠ "__name__") zau1._auto_1)(hdb:autoParam ((x==("__debug__":Str))=false) zau1._auto_1)
  (he:autoParam (starEach (e::es) X.env=(false,eval e X.env)::starEach es X.env) zau3._auto_1) (hpl:autoParam ((backTo pos (starEach es X.env)).any (·.1)=false) zau3._auto_1):PE X (.Call (.Name x p) (e::es) [] pos) (X4 r t):=by
 intro pins s σ H Q I h;refine bU (Dr I hg hm hv ?_ hn hdb);exact aR (BV (ha pos pins s σ H _ I h) λus s1 ⟨vs,H1,I1,r1,q1⟩=>hc pins s1 σ H1 vs us Q I1 r1 q1) he hpl
end
end L2
namespace HT
open PySem PyProof.Rows
section
open PySem.SeqAt
open PySem.AutoSeq1 (wpAny_loadPart')
open PySem.MeetsSeq PySem.MeetsSeq2 PySem.MeetsSeq3
end
section
variable {prog:Program}{w:World}{A:Around}{E:Value->Shared->Prop}{s:Shared}
theorem cat_tup{t b:Ev}{vs ws:List FM}{Q:FM->Rs->Prop}(ht:IsTup s.heap t vs.toArray)(hb:IsTup s.heap b ws.toArray)(hv:vs≠[])
  (h1:ws=[]->Q (.ref t) s) (h2:ws≠[]->Q (.ref s.heap.objs.size) { s with heap:=s.heap.push { cls:=.type "tuple",data:=.seq (vs++ws).toArray } })
  (hsz:vs.length+ws.length<=sizeLine):wpAny (model prog w) A (binaryOp .Add (.ref t) (.ref b)) Q E s:=by
 obtain⟨⟨cls,dd,data,sl⟩,ho,hc,n,hd⟩:=id ht;obtain⟨⟨cls2,dd2,data2,sl2⟩,ho2,hc2,n2,hd2⟩:=id hb;simp only at hc hd hc2 hd2;subst hc hd hc2 hd2;have e:vs.toArray++ws.toArray=(vs++ws).toArray:=by simp
 by_cases hw:ws=[]
 ·exact concat_meets ⟨_,ho,rfl⟩ ⟨_,ho2,rfl⟩ eZ seq_tuple_add PySem.F.slot_tuple_add PySem.F.entry_tuple_add (PySem.F.args_tuple_add_2 _ _)
   (tuple_addW1 t b vs.toArray ws.toArray n n2 dd dd2 sl sl2 (by simpa using hv) (by simp [hw])) ⟨ho,ho2,h1 hw⟩
 ·refine concat_meets ⟨_,ho,rfl⟩ ⟨_,ho2,rfl⟩ eZ seq_tuple_add PySem.F.slot_tuple_add PySem.F.entry_tuple_add (PySem.F.args_tuple_add_2 _ _)
   (tuple_addW2 t b vs.toArray ws.toArray n n2 dd dd2 sl sl2 (by simpa using hv) (by simpa using hw) (by rw [UF,UF]; exact hsz)) ⟨ho,ho2,?_⟩
  rw [e];exact h2 hw
noncomputable def sIx(n d:Nat):Option Int->Nat
 | none=>d
 | some v=>if v<0 then (v+(n:Int)).toNat else min v.toNat n
theorem sIx_none(n d:Nat):sIx n d none=d:=rfl
theorem sIx_nat(n d k:Nat):sIx n d (some (k:Int))=min k n:=by
 show (if (k:Int)<0 then ((k:Int)+(n:Int)).toNat else min (k:Int).toNat n)=min k n;rw [if_neg (by omega),av]
theorem VP(n d:Nat)(hd:d<=n)(o:Option Int):sIx n d o<=n:=by
 cases o with
 | none=>exact hd
 | some v =>
  show (if v<0 then (v+(n:Int)).toNat else min v.toNat n)<=n
  by_cases hv:v<0
  ·rw [if_pos hv]; omega
  ·rw [if_neg hv]; exact eg _ _
theorem Ot(v:Int)(n d:Nat):(if v<0 then max (v+(n:Int)) 0 else min v (n:Int))=((sIx n d (some v):Nat):Int):=by
 show (if v<0 then max (v+(n:Int)) 0 else min v (n:Int))=(((if v<0 then (v+(n:Int)).toNat else min v.toNat n):Nat):Int)
 by_cases hv:v<0
 ·simp only [if_pos hv]; omega
 ·simp only [if_neg hv]; omega
theorem Ny(lo hi:Option Int)(n:Nat):cX lo hi 1 (n:Int)=(((sIx n 0 lo:Nat):Int),((sIx n n hi:Nat):Int)):=by
 have h1:¬((1:Int)<0):=by omega
 unfold cX;simp only [h1,if_false];refine Prod.ext ?_ ?_
 ·cases lo with
  | none=>rfl
  | some v=>exact Ot v n 0
 ·cases hi with
  | none=>rfl
  | some v=>exact Ot v n n
theorem NL(i j:Nat):bg (i:Int) (j:Int) 1=j - i:=by
 unfold bg;have h1:(1:Int) > 0:=by omega
 simp only [h1,if_true,Int.ediv_one]
 split <;> omega
theorem Hs{v:FM}{o:Option Int}{Q:Option Int->Rs->Prop}(p:dR v o)(h:Q o s):wpAny (model prog w) A (Builtin.Slice.slicePartIndex v) Q E s:=by
 cases p with
 | none=>exact slicePart_none h
 | int i t=>exact slicePart_int h
theorem sliceApplied_gen{sl:Ev}{vl vu:FM}{lo hi:Option Int}{n:Nat}{Q:Int×Int×Nat->Rs->Prop}(hs:s.heap.IsSliceOf sl vl vu .none)(pl:dR vl lo)(pu:dR vu hi)
  (h:Q (((sIx n 0 lo:Nat):Int),1,sIx n n hi - sIx n 0 lo) s):wpAny (model prog w) A (eG (.ref sl) (pure (n:Int))) Q E s:=by
 obtain⟨os,hos,hcs,hds⟩:=id hs;unfold eG Builtin.Slice.sliceFields;refine Db (Db (aP hos hds (x:=vl) rfl (Db (aP hos hds (x:=vu) rfl (Db (aP hos hds (x:=.none) rfl (TM ?_)))))));refine Db (slicePart_none ?_);show wpAny _ _ (if ((1:Int)==0)=true then _ else _) _ _ s;rw [if_neg (by decide)];refine Db (Hs pl (Db (Hs pu (Db (TM ?_)))));show wpAny _ _ (match cX lo hi 1 (n:Int) with | (lo,hi)=>pure (lo,(1:Int),bg lo hi 1)) _ _ s;rw [Ny lo hi n];show wpAny _ _ (pure (((sIx n 0 lo:Nat):Int),(1:Int),bg ((sIx n 0 lo:Nat):Int) ((sIx n n hi:Nat):Int) 1)) _ _ s;rw [NL];exact TM h
theorem RH(xs:Array FM)(i k:Nat):((Z7 k).filterMap fun(m:Nat)=>xs[((i:Int)+(m:Int)*1).toNat]?).toArray=((xs.toList.drop i).take k).toArray:=by
 have e:(fun(m:Nat)=>xs[((i:Int)+(m:Int)*1).toNat]?)=λm=>xs[i+m]?:=by
  funext m
  have:((i:Int)+(m:Int)*1).toNat=i+m:=by omega
  rw [this]
 rw [e]
 have:=pick_run xs i k
 rw [List.filterMap_map] at this;have e2:((λx=>xs[x]?)∘λx=>i+x)=λm=>xs[i+m]?:=rfl;rw [e2] at this;rw [this]
theorem getItem_tuple_cut{t sl:Ev}{items:Array FM}{vl vu:FM}{lo hi:Option Int}{Q:FM->Rs->Prop}(ht:IsTup s.heap t items)(hs:s.heap.IsSliceOf sl vl vu .none)(pl:dR vl lo)(pu:dR vu hi)
  (hw:¬(sIx items.size 0 lo=0/\sIx items.size items.size hi=items.size))
  (h:Q (.ref s.heap.objs.size) { s with heap:=s.heap.push { cls:=.type "tuple",data:=.seq ((items.toList.drop (sIx items.size 0 lo)).take (sIx items.size items.size hi - sIx items.size 0 lo)).toArray } })
  (hsz:items.size<=sizeLine):wpAny (model prog w) A (getItem (.ref t) (.ref sl)) Q E s:=by
 have htake:sizeOk (.seq ((items.toList.drop (sIx items.size 0 lo)).take (sIx items.size items.size hi - sIx items.size 0 lo)).toArray):=by
  show ((items.toList.drop (sIx items.size 0 lo)).take (sIx items.size items.size hi - sIx items.size 0 lo)).toArray.size<=sizeLine;rw [UF,cK,eh,Z5];omega
 have hj:sIx items.size items.size hi<=items.size:=VP _ _ (Tk _) hi;obtain⟨os,hos,hcs,hds⟩:=id hs;have hTs:s.TypeIs (.ref sl) "slice":=⟨os,hos,hcs⟩;unfold getItem
 try with_reducible refine aN ?_
 first | refine Db (TM ?_) | skip
 refine Db (wpAny_sequenceKey ht.typeIs (by decide) ?_)
 refine Db (aF (name:=aV "__getitem__") ht.typeIs aG
  (ai aG ht.typeIs entry_tuple_getitem ?_ (args_tuple_getitem _ _)))
 show wpAny _ _ (eI (.ref t) >>= _) _ _ s;refine Db (tupleItemsOf_ ht ?_);refine Db (cZ hTs ?_);rw [if_pos (by decide)];refine Db (sliceApplied_gen hs pl pu ?_)
 have hno:¬((((sIx items.size 0 lo:Nat):Int)==0&&(1:Int)==1&&(sIx items.size items.size hi - sIx items.size 0 lo)==items.size)=true):=by
  intro q;rw [Zl,Zl] at q;have q1:((sIx items.size 0 lo:Nat):Int)=0:=eq_of_beq q.1.1;have q2:sIx items.size items.size hi - sIx items.size 0 lo=items.size:=eq_of_beq q.2;exact hw ⟨by omega,by omega⟩
 show wpAny _ _ (if (((sIx items.size 0 lo:Nat):Int)==0&&(1:Int)==1&&(sIx items.size items.size hi - sIx items.size 0 lo)==items.size)=true then _ else _) _ _ s;rw [if_neg hno,RH]
 first
  | exact Db (m:=aj _) (aC (TM ⟨_,rfl,TM h⟩) htake)
  | exact Db (m:=aj _) (aC (Db (TM (TM ⟨_,rfl,TM h⟩))) htake)
  | exact Db (Db (m:=aj _) (aC (TM (TM ⟨_,rfl,TM h⟩)) htake))
  | exact Db (Db (m:=aj _) (aC (TM ⟨_,rfl,TM h⟩) htake))
end
end HT
namespace L2
open PySem PySem.Spec PyProof.Rows
noncomputable abbrev TO:=St->Hp->(Option Int->Hp->Prop)->Prop
noncomputable def PO(X:Cx)(e:Option Zq)(t:TO):Prop :=
 ∀(pins:List (Ev×Obj)) (s:Rs) (σ:St) (H:Hp) (Q:Option Int->Hp->Prop),Inv X pins σ H s->t σ H Q ->
  wpAny (model X.prog X.w) X.A (evalPart e X.env) (λu s'=>∃o H',Inv X pins σ H' s'/\dR u o/\Q o H') X.xe s
noncomputable def TB:TO:=λ_ H Q=>Q none H
noncomputable def Wh(t:TE):TO:=λσ H Q=>t σ H λx H1=>∃i,x=.int i/\Q (some i) H1
section
variable {X:Cx}{e:Expr}{te:TE}{lo hi:Option Expr}{tl th:TO}{pos p2:Pos}
theorem OR:PO X none TB:=by
 intro pins s σ H Q I h;rw [evalPart_none];exact TM ⟨none,H,I,.none,h⟩
theorem OQ(h:PE X e te):PO X (some e) (Wh te):=by
 intro pins s σ H Q I hw;rw [evalPart_some];refine BV (h pins s σ H _ I hw) λu s1 ⟨x,H1,I1,r1,q1⟩=>?_;obtain⟨i,rfl,q⟩:=q1;obtain⟨t,rfl⟩:=r1;exact⟨some i,H1,I1,.int i t,q⟩
noncomputable def SlR(X:Cx)(r:V->Option Int->Option Int->Hp->VK->Prop):Prop :=
 ∀(pins:List (Ev×Obj)) (s:Rs) (σ:St) (H:Hp) (x:V) (v vl vu:FM) (lo hi:Option Int) (sl:Ev) (Q:VK),Inv X pins σ H s->RelV x v->s.heap.IsSliceOf sl vl vu .none->dR vl lo->dR vu hi->r x lo hi H Q ->
  ∃T id,typeLookup (.type T) "__getitem__"=pure (some (.builtin id))/\s.TypeIs v T/\wpAny (model X.prog X.w) X.A (getItem v (.ref sl)) (EP X pins σ Q) X.xe s
theorem SlR.or{r r':V->Option Int->Option Int->Hp->VK->Prop}(h:SlR X r)(h':SlR X r'):SlR X (λx lo hi H Q=>r x lo hi H Q\/r' x lo hi H Q):=by
 intro pins s σ H x v vl vu lo hi sl Q I rx hs pl pu q
 rcases q with q | q
 ·exact h pins s σ H x v vl vu lo hi sl Q I rx hs pl pu q
 ·exact h' pins s σ H x v vl vu lo hi sl Q I rx hs pl pu q
noncomputable def ZE(r:V->Option Int->Option Int->Hp->VK->Prop)(te:TE)(tl th:TO):TE:=λσ H Q=>te σ H λx H1=>tl σ H1 λl H2=>th σ H2 λu H3=>r x l u H3 Q
theorem L4{r:V->Option Int->Option Int->Hp->VK->Prop}(hr:SlR X r)(he:PE X e te)(hl:PO X lo tl)(hu:PO X hi th):PE X (.Subscript e (.Slice lo hi none p2) pos) (ZE r te tl th):=by
 intro pins s σ H Q I h;refine Subscript_ (BV (he pins s σ H _ I h) λv s1 ⟨x,H1,I1,r1,q1⟩=>?_);refine wpAny_Slice (BV (hl pins s1 σ H1 _ I1 q1) λvl s2 ⟨l,H2,I2,pl,q2⟩=>BV (hu pins s2 σ H2 _ I2 q2) λvu s3 ⟨u,H3,I3,pu,q3⟩=>?_);rw [evalPart_none];refine TM ?_;have I4:Inv X pins σ H3 { s3 with heap:=s3.heap.push { cls:=.type "slice",data:=.fields #[vl,vu,.none] } }:=I3.kept (t':=s3.toks) λb ob q=>Op _ q;obtain⟨T,id,hT,ht,hg⟩:=hr pins { s3 with heap:=s3.heap.push { cls:=.type "slice",data:=.fields #[vl,vu,.none] } } σ H3 x v vl vu l u s3.heap.objs.size Q I4 r1 (Heap.IsSliceOf.new ..) pl pu q3;show wpAny (model X.prog X.w) X.A (subscriptTail e (.Slice lo hi none p2) v (.ref s3.heap.objs.size)) (EP X pins σ Q) X.xe { s3 with heap:=s3.heap.push { cls:=.type "slice",data:=.fields #[vl,vu,.none] } };exact tail_any (ops:=[.ref s3.heap.objs.size,v]) ht hT hg (by with_unfolding_all rfl)
noncomputable def Jd(xs:List V)(lo hi:Option Int):List V:=(xs.drop (HT.sIx xs.length 0 lo)).take (HT.sIx xs.length xs.length hi - HT.sIx xs.length 0 lo)
theorem G3(xs:List V)(lo hi:Option Int):(Jd xs lo hi).length<=xs.length:=by
 unfold Jd;rw [cK,eh];omega
noncomputable def Wy(K:Frag):V->Option Int->Option Int->Hp->VK->Prop:=λx lo hi H Q=>∃a xs,x=.ref a/\SqT K H a xs /\
 ¬(HT.sIx xs.length 0 lo=0/\HT.sIx xs.length xs.length hi=xs.length)/\∀p,H p=none->Q (.ref p) (Aw H p (.tup (Jd xs lo hi)))
theorem sl_tup:SlR X (Wy X.K):=by
 intro pins s σ H x v vl vu lo hi sl Q I rx hs pl pu h;obtain⟨a,xs,rfl,hx,hw,q⟩:=h;cases rx;obtain⟨its,r,ht,hz⟩:=I.tuple hx;have hlen:its.toArray.size=xs.length:=by rw [UF]; exact r.length.symm
 refine⟨"tuple",_,aG.lookup,ht.typeIs,?_⟩;refine HT.getItem_tuple_cut ht hs pl pu (by rw [hlen]; exact hw) ?_ (by rw [hlen]; exact hz);rw [hlen];refine⟨.ref s.heap.objs.size,_,I.laid (t':=s.toks) (o:=.tup (Jd xs lo hi)) (λb ob q=>Op _ q) (Tk _) ?_,rfl,q _ (I.hok.fresh (Tk _))⟩;exact⟨Zu (G3 xs lo hi) hz,_,(r.drop (HT.sIx xs.length 0 lo)).take (HT.sIx xs.length xs.length hi - HT.sIx xs.length 0 lo),IsTupN.new _ _⟩
noncomputable def Q_(K:Frag):R2:=λx y H Q=>∃a b xs ys,x=.ref a/\y=.ref b/\SqT K H a xs/\SqT K H b ys/\xs≠[]/\xs.length+ys.length<=sizeLine /\
 (ys=[]->Q (.ref a) H)/\(ys≠[]->∀p,H p=none->Q (.ref p) (Aw H p (.tup (xs++ys))))
theorem Vals.nil_iff{xs:List V}{us:List FM}(r:Vals xs us):us=[]↔xs=[]:=by
 cases r with
 | nil=>simp
 | cons _ _=>simp
theorem op_catT:OpR X (binaryOp .Add) (Q_ X.K):=by
 intro pins s σ H x y v u Q I rx ry h;obtain⟨a,b,xs,ys,rfl,rfl,ha,hb,hx,hz,q1,q2⟩:=h;cases rx;cases ry;obtain⟨its,r1,p1,_⟩:=I.tuple ha;obtain⟨its2,r2,p2,_⟩:=I.tuple hb;refine HT.cat_tup p1 p2 (λz=>hx (r1.nil_iff.mp z)) (λz=>⟨.ref a,H,I,rfl,q1 (r2.nil_iff.mp z)⟩) (λz=>?_) (by rw [← r1.length,← r2.length]; exact hz);refine⟨.ref s.heap.objs.size,_,I.laid (t':=s.toks) (o:=.tup (xs++ys)) (λb ob q=>Op _ q) (Tk _) ?_,rfl,q2 (λw=>z (r2.nil_iff.mpr w)) _ (I.hok.fresh (Tk _))⟩;exact⟨by rw [ZT]; exact hz,_,r1.append r2,IsTupN.new _ _⟩
end
noncomputable def Tq(n:Nat)(i:Int):Option Nat:=if 0<=i then (if i<n then some i.toNat else none) else if -(n:Int)<=i then some (i+n).toNat else none
noncomputable def atI{α:Type}(xs:List α)(i:Int):Option α:=(Tq xs.length i).bind λj=>xs[j]?
theorem K9{n:Nat}{i:Int}{j:Nat}(h:Tq n i=some j):seqIndex? i n=some j/\j<n/\-(n:Int)<=i/\i<n:=by
 unfold Tq at h
 by_cases h0:0<=i
 ·rw [if_pos h0] at h
  by_cases h1:i<n
  ·rw [if_pos h1] at h
   have e:i.toNat=j:=ZS h;exact⟨by rw [seqIndex_of h0 h1,e],by omega,by omega,h1⟩
  ·rw [if_neg h1] at h; cases h
 ·rw [if_neg h0] at h
  by_cases h1:-(n:Int)<=i
  ·rw [if_pos h1] at h
   have e:(i+n).toNat=j:=ZS h;exact⟨by rw [seqIndex_neg (by omega) h1,e],by omega,h1,by omega⟩
  ·rw [if_neg h1] at h; cases h
theorem LU{α:Type}{xs:List α}{i:Int}{v:α}(h:atI xs i=some v):∃j,seqIndex? i xs.length=some j/\xs[j]?=some v/\j<xs.length/\-(xs.length:Int)<=i/\i<xs.length:=by
 unfold atI at h;cases e:Tq xs.length i with
 | none=>rw [e] at h; cases h
 | some j =>
  rw [e] at h;obtain⟨h1,h2,h3,h4⟩:=K9 e;exact⟨j,h1,h,h2,h3,h4⟩
theorem AJ{α:Type}{xs:List α}{j:Nat}{v:α}(h:xs[j]?=some v):atI xs (j:Int)=some v:=by
 have hj:j<xs.length:=(ZB.mp h).1
 have e:Tq xs.length (j:Int)=some j:=by
  unfold Tq;rw [if_pos (by omega),if_pos (by omega)]; simp
 unfold atI; rw [e]; exact h
noncomputable def O5(b:Zq):Prop:=∀o i,subscripted b false o i=operate [o,i] (getItem o i)
noncomputable def IxR(X:Cx)(r:R2):Prop :=
 ∀(value slice:Zq) (pins:List (Ev×Obj)) (s:Rs) (σ:St) (H:Hp) (x y:V) (v u:FM) (Q:VK),Inv X pins σ H s->RelV x v->RelV y u->r x y H Q ->
  subscripted slice false v u=operate [v,u] (getItem v u)->wpAny (model X.prog X.w) X.A (subscriptTail value slice v u) (EP X pins σ Q) X.xe s
noncomputable def Yq(X:Cx)(id:String)(r:V->List V->Hp->VK->Prop):Prop :=
 ∀(pins:List (Ev×Obj)) (s:Rs) (σ:St) (H:Hp) (x:V) (xs:List V) (v:FM) (us:List FM) (Q:VK),Inv X pins σ H s->RelV x v->Vals xs us->r x xs H Q ->
  wpAny (model X.prog X.w) X.A (call (.builtin id) (v::us)) (EP X pins σ Q) X.xe s
section
variable {X:Cx}{a b:Expr}{ta tb:TE}{pos:Pos}
theorem IxR.or{r r':R2}(h:IxR X r)(h':IxR X r'):IxR X (λx y H Q=>r x y H Q\/r' x y H Q):=by
 intro value slice pins s σ H x y v u Q I rx ry q hs
 rcases q with q | q
 ·exact h value slice pins s σ H x y v u Q I rx ry q hs
 ·exact h' value slice pins s σ H x y v u Q I rx ry q hs
theorem D6{r:R2}(hr:IxR X r)(ha:PE X a ta)(hb:PE X b tb)(hs:O5 b):PE X (.Subscript a b pos) (C9 r ta tb):=by
 intro pins s σ H Q I h;exact Subscript_ (WE ha hb I h λv u s2 x y H2 I2 rx ry q=>hr a b pins s2 σ H2 x y v u Q I2 rx ry q (hs _ _))
noncomputable def VX(K:Frag):R2:=λx y H Q=>∃p xs i v,x=.ref p/\y=.int i/\SqL K H p xs/\atI xs i=some v/\Q v H
noncomputable def W7(K:Frag):R2:=λx y H Q=>∃p xs i v,x=.ref p/\y=.int i/\SqT K H p xs/\atI xs i=some v/\Q v H
noncomputable def W8:R2:=λx y H Q=>∃z i c,x=.str z/\y=.int i/\z.length<=sizeLine/\atI z.cps.toList i=some c/\Q (.str ⟨#[c]⟩) H
theorem ix_list:IxR X (VX X.K):=by
 intro value slice pins s σ H x y v u Q I rx ry h hs;obtain⟨p,xs,i,z,rfl,rfl,hq,he,q⟩:=h;cases rx;obtain⟨t,rfl⟩:=ry;obtain⟨its,r,pl,hz⟩:=I.list hq;obtain⟨j,h1,h2,h3,h4,h5⟩:=LU he;obtain⟨w,ew,rw'⟩:=r.get h2;have hl:=r.length;have hn:=Gb;have fin:EP X pins σ Q w s:=⟨z,H,I,rw',q⟩
 by_cases h0:0<=i
 ·have hj:i.toNat=j:=by
   rw [seqIndex_of h0 h5] at h1;exact ZS h1
  exact item_listR pl.isList h0 (by omega) (by rw [hj]; simpa using ew) fin hs
 ·have hj:(i+(its.toArray.size:Int)).toNat=j:=by
   rw [seqIndex_neg (by omega) h4] at h1;rw [UF,← hl];exact ZS h1
  exact subscriptTail_builtinR (x:=w) pl.isList.typeIs slot_list_getitem.lookup
   (wpAny_getItem_list_neg (Q:=λr s'=>r=w/\EP X pins σ Q r s') pl.isList (by omega) (by rw [UF] <;> omega) (by omega) (by rw [hj]; simpa using ew) ⟨rfl,fin⟩) hs
theorem ix_tup:IxR X (W7 X.K):=by
 intro value slice pins s σ H x y v u Q I rx ry h hs;obtain⟨p,xs,i,z,rfl,rfl,hq,he,q⟩:=h;cases rx;obtain⟨t,rfl⟩:=ry;obtain⟨its,r,pl,hz⟩:=I.tuple hq;obtain⟨j,h1,h2,h3,h4,h5⟩:=LU he;obtain⟨w,ew,rw'⟩:=r.get h2;have hl:=r.length;have hn:=Gb;have fin:EP X pins σ Q w s:=⟨z,H,I,rw',q⟩
 exact subscriptTail_builtinR (x:=w) pl.typeIs aG.lookup
  (getItem_tuple (j:=j) (Q:=λr s'=>r=w/\EP X pins σ Q r s') pl (by omega) (by omega) (by rw [UF,← hl]; exact h1) (by simpa using ew) ⟨rfl,fin⟩) hs
theorem Vu:IxR X W8:=by
 intro value slice pins s σ H x y v u Q I rx ry h hs;obtain⟨z,i,c,rfl,rfl,hz,he,q⟩:=h;obtain⟨t,rfl⟩:=rx;obtain⟨t',rfl⟩:=ry;obtain⟨j,h1,h2,h3,h4,h5⟩:=LU he;have hl:z.cps.toList.length=z.length:=by simp [Str.length]
 rw [hl] at h1 h4 h5;have hn:=Gb
 exact tail_any (cr s z t) slot_str_getitem.lookup (getItem_str (c:=c) (by
  have e1:decide (i < -(2 ^ 63:Int))=false:=decide_eq_false (by omega);have e2:decide (i≥2 ^ 63)=false:=decide_eq_false (by omega);rw [e1,e2,Bool.or_false]) (by rw [h1]; simpa using h2) ⟨.str ⟨#[c]⟩,H,I.tok _,⟨_,rfl⟩,q⟩) hs
noncomputable def Y4(K:Frag):R2:=λx y H Q=>VX K x y H Q\/W7 K x y H Q\/W8 x y H Q
theorem AL:IxR X (Y4 X.K):=ix_list.or (ix_tup.or Vu)
theorem NZ(its:List FM)(n j:Nat)(u:FM):Z_ (·.setIfInBounds j u) { cls:=.type "list",data:=.seq its.toArray n }={ cls:=.type "list",data:=.seq (its.set j u).toArray n }:=by
 simp [Z_]
theorem Inv.lst{pins:List (Ev×Obj)}{σ:St}{H:Hp}{s:Rs}{p:Ev}{xs:List V}(I:Inv X pins σ H s)(h:H p=some (.lst xs)) :
  ∃(its:List FM) (n:Nat),Vals xs its/\s.heap.get? p=some { cls:=.type "list",data:=.seq its.toArray n }/\xs.length<=sizeLine:=by
 obtain⟨z,its,n,r,e⟩:=I.hok p _ h;exact⟨its,n,r,e,z⟩
theorem Inv.lstUpd{pins:List (Ev×Obj)}{σ:St}{H:Hp}{s:Rs}{p:Ev}{xs ys:List V}{its its':List FM}{n n':Nat}{f:Obj->Obj}(I:Inv X pins σ H s)(h:H p=some (.lst xs))
  (ho:s.heap.get? p=some { cls:=.type "list",data:=.seq its.toArray n }) (hf:f { cls:=.type "list",data:=.seq its.toArray n }={ cls:=.type "list",data:=.seq its'.toArray n' }) (r:Vals ys its') (hz:ys.length<=sizeLine) (t:Nat) :
  Inv X pins σ (Aw H p (.lst ys)) { s with heap:=s.heap.update p f,toks:=t }:=by
 have e:(s.heap.update p f).get? p=some { cls:=.type "list",data:=.seq its'.toArray n' }:=by
  rw [bY f ho (by rw [hf] <;> rfl),hf]
 refine I.write (x:=p) (e:=p) (by rw [h]; trivial) (.inl rfl) (λb u hb q=>(Zm _ _ (aI hb)).trans q) ⟨_,e⟩ ?_;exact⟨hz,its',n',r,e⟩
noncomputable def UY:V->V->V->Hp->(Hp->Prop)->Prop:=λo i v H Q=>∃p xs k j,o=.ref p/\i=.int k/\H p=some (.lst xs)/\Tq xs.length k=some j/\Q (Aw H p (.lst (xs.set j v)))
theorem set_list:Xu X UY:=by
 intro pins s σ H o i v ov iv u Q I ro ri rv h;obtain⟨p,xs,k,j,rfl,rfl,hp,hj,q⟩:=h;cases ro;obtain⟨t,rfl⟩:=ri;obtain⟨its,n,r,ho,hz⟩:=I.lst hp;obtain⟨h1,h2,h3,h4⟩:=K9 hj;have hl:=r.length;have hn:=Gb
 have I':Inv X pins σ (Aw H p (.lst (xs.set j v))) { s with heap:=s.heap.update p (Z_ (·.setIfInBounds j u)) } :=
  I.lstUpd hp ho (NZ its n j u) (r.set rv j) (by rw [az]; exact hz) s.toks
 by_cases h0:0<=k
 ·have hk:k.toNat=j:=by
   rw [seqIndex_of h0 h4] at h1;exact ZS h1
  exact PySem.W.ki_setAt ho h0 (by omega) (by rw [UF,← hl]; exact h4) (by rw [hk]; exact⟨_,I',q⟩)
 ·have hk:(k+(its.toArray.size:Int)).toNat=j:=by
   rw [seqIndex_neg (by omega) h3] at h1;rw [UF,← hl];exact ZS h1
  exact PySem.W.ki_setBack ho (by omega) (by rw [UF,← hl]; exact h3) (by omega) (by rw [hk]; exact⟨_,I',q⟩)
theorem Ki(lo hi:Option Int)(n:Nat):(sliceBounds lo hi none n).1=((HT.sIx n 0 lo:Nat):Int)/\(sliceBounds lo hi none n).2.1=((HT.sIx n n hi:Nat):Int)/\(sliceBounds lo hi none n).2.2=1:=by
 refine⟨?_,?_,rfl⟩
 ·cases lo with
  | none=>simp [sliceBounds,HT.sIx]
  | some i =>
   simp only [sliceBounds,HT.sIx,Option.getD_none,show (1:Int) > 0 by decide,if_true]
   by_cases h:i<0
   ·simp only [h,if_true] <;> omega
   ·simp only [h,if_false] <;> omega
 ·cases hi with
  | none=>simp [sliceBounds,HT.sIx]
  | some i =>
   simp only [sliceBounds,HT.sIx,Option.getD_none,show (1:Int) > 0 by decide,if_true]
   by_cases h:i<0
   ·simp only [h,if_true] <;> omega
   ·simp only [h,if_false] <;> omega
theorem JI(its:List FM)(lo hi:Option Int):slicePick its.toArray lo hi none=((its.drop (HT.sIx its.length 0 lo)).take (HT.sIx its.length its.length hi - HT.sIx its.length 0 lo)).toArray:=by
 obtain⟨h1,h2,h3⟩:=Ki lo hi its.toArray.size;unfold slicePick;rw [h1,h2,h3];simp only [sliceRange_one,pick_run,UF] <;> rfl
noncomputable def Wz(K:Frag):V->Option Int->Option Int->Hp->VK->Prop:=λx lo hi H Q=>∃a xs,x=.ref a/\SqL K H a xs/\∀p,H p=none->Q (.ref p) (Aw H p (.lst (Jd xs lo hi)))
theorem sl_list:SlR X (Wz X.K):=by
 intro pins s σ H x v vl vu lo hi sl Q I rx hs pl pu h;obtain⟨a,xs,rfl,hx,q⟩:=h;cases rx;obtain⟨its,r,ht,hz⟩:=I.list hx;have hlen:=r.length;refine⟨"list",_,slot_list_getitem.lookup,ht.isList.typeIs,?_⟩;refine wpAny_getItem_list_slice ht.isList hs pl pu .none (by simp) ?_ (by rw [UF] <;> omega);rw [JI,← hlen];refine⟨.ref s.heap.objs.size,_,I.laid (t':=s.toks) (o:=.lst (Jd xs lo hi)) (λb ob q=>Op _ q) (Tk _) ?_,rfl,q _ (I.hok.fresh (Tk _))⟩;exact⟨Zu (G3 xs lo hi) hz,_,0,(r.drop (HT.sIx xs.length 0 lo)).take (HT.sIx xs.length xs.length hi - HT.sIx xs.length 0 lo),Uf _ rfl⟩
noncomputable def Um:V->Bool
 | .non=>true
 | .bl _=>true
 | .int _=>true
 | .str _=>true
 | _=>false
noncomputable def Xe:V->V->Bool
 | .non,.non=>true
 | .bl a,.bl b=>a==b
 | .bl a,.int b=>(if a then 1 else 0)==b
 | .int a,.bl b=>a==(if b then 1 else 0)
 | .int a,.int b=>a==b
 | .str a,.str b=>a==b
 | _,_=>false
theorem LG{A:aB}{s:Rs}{y x:V}{u v:FM}(ry:RelV y u)(rx:RelV x v)(fy:Um y=true)(fx:Um x=true):SeqAt.EqAt A s u v (Xe y x):=by
 cases y with
 | non =>
  cases ry;cases x with
  | non=>cases rx; exact SeqAt.EqAt.same _
  | bl b=>cases rx; exact SeqAt.EqAt.none_bool b
  | int b=>obtain⟨t,rfl⟩:=rx; exact SeqAt.EqAt.none_int b t
  | str b=>obtain⟨t,rfl⟩:=rx; exact SeqAt.EqAt.none_str b t
  | _=>exact absurd (show false=true from fx) Ze
 | bl a =>
  cases ry;cases x with
  | non=>cases rx; exact SeqAt.EqAt.bool_none a
  | bl b=>cases rx; exact SeqAt.EqAt.bool_bool a b
  | int b=>obtain⟨t,rfl⟩:=rx; exact SeqAt.EqAt.bool_int a b t
  | str b=>obtain⟨t,rfl⟩:=rx; exact SeqAt.EqAt.bool_str a b t
  | _=>exact absurd (show false=true from fx) Ze
 | int a =>
  obtain⟨t',rfl⟩:=ry;cases x with
  | non=>cases rx; exact SeqAt.EqAt.int_none a t'
  | bl b=>cases rx; exact SeqAt.EqAt.int_bool a t' b
  | int b=>obtain⟨t,rfl⟩:=rx; exact SeqAt.EqAt.int_int a t' b t
  | str b=>obtain⟨t,rfl⟩:=rx; exact fh a t' b t
  | _=>exact absurd (show false=true from fx) Ze
 | str a =>
  obtain⟨t',rfl⟩:=ry;cases x with
  | non=>cases rx; exact SeqAt.EqAt.str_none a t'
  | bl b=>cases rx; exact SeqAt.EqAt.str_bool a t' b
  | int b=>obtain⟨t,rfl⟩:=rx; exact fi a t' b t
  | str b=>obtain⟨t,rfl⟩:=rx; exact SeqAt.EqAt.str_str a t' b t
  | _=>exact absurd (show false=true from fx) Ze
 | _=>exact absurd (show false=true from fy) Ze
theorem LS:By X (.type "list") (λxs H Q=>∃p ys,xs=[.ref p]/\(SqL X.K H p ys\/SqT X.K H p ys)/\∀l,H l=none->Q (.ref l) (Aw H l (.lst ys))):=by
 intro pins s σ H xs us Q I r h;obtain⟨p,ys,rfl,hq,q⟩:=h;obtain⟨u,rfl,rx⟩:=vals1 r;cases rx
 have fin:∀(its:List FM),Vals ys its->ys.length<=sizeLine->∀(h':Zk) (c':Nat),(∀b o',s.heap.get? b=some o'->h'.get? b=some o') ->
   h'.get? s.heap.objs.size=some { cls:=.type "list",dict:=none,data:=.seq its.toArray c',slots:=#[] }->EP X pins σ Q (.ref s.heap.objs.size) { s with heap:=h' }:=λits r' hz h' c' kp e =>
  ⟨.ref s.heap.objs.size,_,I.laid (t':=s.toks) kp (Tk _) (show ObjOk X.prog X.w _ h' _ (.lst ys) from⟨hz,its,c',r',e⟩),rfl,q _ (I.hok.fresh (Tk _))⟩
 rcases hq with hq | hq
 ·obtain⟨its,r',pl,hz⟩:=I.list hq
  have hlen:=r'.length;obtain⟨o,ho,hc,n,hd⟩:=pl.isList;exact call_list_seq p (.inl rfl) ho hc hd (λh' c' kp e=>fin its r' hz h' c' kp e) (by simp only [UF] <;> omega)
 ·obtain⟨its,r',pl,hz⟩:=I.tuple hq
  have hlen:=r'.length;obtain⟨o,ho,hc,n,hd⟩:=pl;exact call_list_seq p (.inr rfl) ho hc hd (λh' c' kp e=>fin its r' hz h' c' kp e) (by simp only [UF] <;> omega)
theorem Bc:By X (.type "tuple") (λxs H Q=>∃p ys,xs=[.ref p]/\((SqL X.K H p ys/\∀l,H l=none->Q (.ref l) (Aw H l (.tup ys)))\/(SqT X.K H p ys/\Q (.ref p) H))):=by
 intro pins s σ H xs us Q I r h;obtain⟨p,ys,rfl,h⟩:=h;obtain⟨u,rfl,rx⟩:=vals1 r;cases rx
 rcases h with ⟨hq,q⟩ | ⟨hq,q⟩
 ·obtain⟨its,r',pl,hz⟩:=I.list hq
  have hlen:=r'.length;refine call_tuple_list pl.isList (λh' kp=>?_) (by simp only [UF] <;> omega);have I1:Inv X pins σ H { s with heap:=h' }:=I.kept (t':=s.toks) kp
  have I2:Inv X pins σ (Aw H h'.objs.size (.tup ys)) { s with heap:=h'.push { cls:=.type "tuple",data:=.seq its.toArray } } :=
   I1.laid (t':=s.toks) (λb o e=>Op _ e) (Tk _) (show ObjOk X.prog X.w _ _ _ (.tup ys) from⟨hz,its,r',IsTupN.new _ _⟩)
  exact⟨.ref h'.objs.size,_,I2,rfl,q _ (I1.hok.fresh (Tk _))⟩
 ·obtain⟨its,r',pl,hz⟩:=I.tuple hq
  exact call_tuple_same pl ⟨.ref p,H,I,rfl,q⟩
noncomputable def YI(K:Frag)(T:String)(x:V)(H:Hp):Prop:=match x with
 | .str _=>T = "str"
 | .int _=>T = "int"
 | .ref p=>(T = "list"/\∃xs,SqL K H p xs)\/(T = "tuple"/\∃o,K.lookup p=some o/\o.cls=.type "tuple"/\o.dict=none) \/
   (T = "dict"/\((∃kvs,H p=some (.dK kvs))\/∃kvs,H p=some (.dT kvs)))\/(T = "set"/\∃S n,H p=some (.set S n))
 | _=>False
theorem VE{pins:List (Ev×Obj)}{σ:St}{H:Hp}{s:Rs}{T:String}{x:V}{v:FM}(I:Inv X pins σ H s)(r:RelV x v)(ty:YI X.K T x H) :
  s.TypeIs v T/\∀a,v=.ref a->∃ob,s.heap.get? a=some ob/\ob.dict=none:=by
 cases x with
 | str z =>
  obtain⟨t,rfl⟩:=r;cases (show T = "str" from ty);exact⟨cr s z t,λ_ e=>nomatch e⟩
 | int i =>
  obtain⟨t,rfl⟩:=r;cases (show T = "int" from ty);exact⟨typeIs_int s i t,λ_ e=>nomatch e⟩
 | ref p =>
  cases r
  rcases ty with ⟨rfl,xs,hq⟩ | ⟨rfl,o,hk,hc,hd⟩ | ⟨rfl,hk⟩ | ⟨rfl,S,n,hk⟩
  ·obtain⟨its,_,pl,_⟩:=I.list hq
   refine⟨pl.isList.typeIs,λa e=>?_⟩;cases e;obtain⟨o,n,e,c,hd,_⟩:=pl;exact⟨o,e,hd⟩
  ·refine⟨⟨o,I.kIn p o hk,hc⟩,λa e=>?_⟩
   cases e;exact⟨o,I.kIn _ o hk,hd⟩
  ·have z:∃o,s.heap.get? p=some o/\o.ExactDict:=by
    rcases hk with ⟨kvs,hk⟩ | ⟨kvs,hk⟩
    ·obtain⟨_,_,_,_,o,_,_,e,ex,_⟩:=I.hok p _ hk
     exact⟨o,e,ex⟩
    ·obtain⟨_,_,_,_,o,_,_,e,ex,_⟩:=I.hok p _ hk
     exact⟨o,e,ex⟩
   obtain⟨o,e,ex⟩:=z;refine⟨⟨o,e,ex.1⟩,λa e2=>?_⟩;cases e2;exact⟨o,e,ex.2.1⟩
  ·obtain⟨o,_,_,_,e,ex,_⟩:=I.hok p _ hk
   refine⟨⟨o,e,ex.1⟩,λa e2=>?_⟩;cases e2;exact⟨o,e,ex.2.1⟩
 | _=>exact aq ty
noncomputable def ZH(K:Frag)(T:String)(r:V->List V->Hp->VK->Prop)(to:TE)(t:TA):TE:=λσ H Q=>to σ H λx H1=>YI K T x H1/\t σ H1 λxs H2=>r x xs H2 Q
variable {o e:Expr}{es:List Expr}{to:TE}{t:TA}{name:Str}{apos cpos:Pos}{T id:String}{r:V->List V->Hp->VK->Prop}
theorem Uj(pa:PlainAttrs T)(slot:Slot T name id)(hty:typeOf (.builtin id)=pure (.type "method_descriptor"))(hm:Yq X id r)(ho:PE X o to)(ha:PA X (e::es) t)
  (hbase:autoParam (attributeBase o name X.env (eval o X.env)=eval o X.env) zau3._auto_1)
  (hfew:autoParam (((backTo cpos (starEach (e::es) X.env)).all (λx=>!x.1)&&(backToKw cpos (keywordEach [] X.env)).all (λx=>x.1.isSome)
   && decide ((e::es).length+([]:List cu).length+(if ([]:List cu).isEmpty then 0 else 1)<30))=true) zau3._auto_1)
  (hline:autoParam ((apos.endLine==cpos.line)=true) zau3._auto_1) (hs:autoParam (starEach (e::es) X.env=(false,eval e X.env)::starEach es X.env) zau3._auto_1) (hplain:autoParam ((backTo cpos (starEach es X.env)).any (·.1)=false) zau3._auto_1) :
  PE X (.Call (.Attribute o name apos) (e::es) [] cpos) (ZH X.K T r to t):=by
 intro pins s σ H Q I h;refine wpAny_Call_method_late hbase hfew hline rfl (BV (ho pins s σ H _ I h) λv s1 ⟨x,H1,I1,r1,ty,q1⟩=>?_);obtain⟨h1,h2⟩:=VE I1 r1 ty;refine⟨T,id,pa,slot,hty,h1,h2,?_⟩;have hA:=ha cpos pins s1 σ H1 _ I1 q1;rw [hs] at hA ⊢;refine dB (by show (false||(backTo cpos (starEach es X.env)).any (·.1))=false; rw [hplain] <;> rfl) (fT ?_);exact BV hA λus s2 ⟨vs,H2,I2,r2,q2⟩=>hm pins s2 σ H2 x vs v us Q I2 r1 r2 q2
end
noncomputable def Yr(X:Cx)(id:String)(r:V->List V->Hp->VK->Prop):Prop :=
 ∀(pins:List (Ev×Obj)) (s:Rs) (σ:St) (H:Hp) (x:V) (xs:List V) (v:FM) (us:List FM) (Q:VK),Inv X pins σ H s->RelV x v->Vals xs us->r x xs H Q ->
  wpAny (model X.prog X.w) X.A (call (.builtin id) (v::us)) (EP X pins σ Q) X.xe s
theorem Vals.one:∀{x:V} {us:List FM},Vals [x] us->∃u,us=[u]/\RelV x u
 | _,_,.cons r .nil=>⟨_,rfl,r⟩
theorem Vals.eraseIdx:∀{xs:List V} {us:List FM} (i:Nat),Vals xs us->Vals (xs.eraseIdx i) (us.eraseIdx i)
 | _,_,_,.nil=>.nil
 | _,_,0,.cons _ t=>t
 | _,_,i+1,.cons r t=>.cons r (Vals.eraseIdx i t)
theorem Vals.reverse{xs:List V}{us:List FM}(h:Vals xs us):Vals xs.reverse us.reverse:=by
 induction h with
 | nil=>exact .nil
 | cons r t ih=>rw [bc,bc]; exact Vals.append ih (.cons r .nil)
theorem Gc{α:Type}:∀(l:List α) (i:Nat),(l.eraseIdx i).length<=l.length
 | [],_=>Tk _
 | _::_,0=>a_ _
 | _::r,i+1=>Nat.succ_le_succ (Gc r i)
section
variable {X:Cx}{pins:List (Addr×Obj)}{σ:St}{H:Hp}{s:Shared}{l b:Addr}{xs ys zs:List V}
theorem Inv.lset{its its':List FM}{n:Nat}{f:Array FM->Array FM}{t':Nat}(I:Inv X pins σ H s)(hH:H l=some (.lst xs))
  (e:s.heap.get? l=some { cls:=.type "list",data:=.seq its.toArray n }) (hf:f its.toArray=its'.toArray) (hv:Vals ys its') (hz:ys.length<=sizeLine) :
  Inv X pins σ (Aw H l (.lst ys)) { s with heap:=s.heap.update l (Z_ f),toks:=t' }:=by
 have q:=PySem.IsL.update e f;rw [hf] at q;refine I.write (x:=l) (e:=l) (by rw [hH]; exact trivial) (.inl rfl) (λb' u hb hu=>(Zm s.heap (Z_ f) (aI hb)).trans hu) ⟨_,q⟩ ?_;exact⟨hz,its',_,hv,q⟩
theorem Inv.lnew{its:List FM}{t':Nat}(I:Inv X pins σ H s)(hv:Vals ys its)(hz:ys.length<=sizeLine) :
  Inv X pins σ (Aw H s.heap.objs.size (.lst ys)) { s with heap:=s.heap.push { cls:=.type "list",data:=.seq its.toArray },toks:=t' } :=
 I.laid (λ_ _ q=>Op _ q) (Tk _) ⟨hz,its,0,hv,Uf _ rfl⟩
theorem Inv.fresh(I:Inv X pins σ H s):H s.heap.objs.size=none:=I.hok.fresh (Tk _)
theorem Inv.lstM(I:Inv X pins σ H s)(hH:H l=some (.lst xs)):xs.length<=sizeLine/\∃(its:List FM) (n:Nat),Vals xs its/\xs.length=its.length/\s.heap.get? l=some { cls:=.type "list",data:=.seq its.toArray n }:=by
 obtain⟨z,its,n,r,e⟩:=I.hok l _ hH;exact⟨z,its,n,r,r.length,e⟩
theorem RU{n:Nat}(h:n<=sizeLine):cb n=false:=by
 unfold cb;exact decide_eq_false (by omega)
end
section
variable {X:Cx}
noncomputable def OL:V->List V->Hp->VK->Prop:=λx vs H Q=>∃l xs y,x=.ref l/\vs=[y]/\H l=some (.lst xs)/\xs.length<sizeLine/\Q .non (Aw H l (.lst (xs++[y])))
theorem BB:Yr X "list.append" OL:=by
 intro pins s σ H x vs v us Q I rx rv h;obtain⟨l,xs,y,rfl,rfl,hH,hz,q⟩:=h;cases rx;obtain⟨u,rfl,ru⟩:=rv.one;obtain⟨z,its,n,r,hl,e⟩:=I.lstM hH;refine call_meets F.slot_list_append ⟨_,e,rfl⟩ F.entry_list_append (F.args_list_append_2 _ _) (PySem.list_append l its.toArray n u (by rw [UF]; omega)) ⟨e,?_⟩;refine⟨.non,_,I.lset (its':=its++[u]) hH e (by simp) (r.append (.cons ru .nil)) ?_,rfl,q⟩;rw [ZT,Zc];omega
noncomputable def OJ:V->List V->Hp->VK->Prop:=λx vs H Q=>∃l b xs zs,x=.ref l/\vs=[.ref b]/\H l=some (.lst xs)/\H b=some (.lst zs)/\xs.length+zs.length<=sizeLine/\Q .non (Aw H l (.lst (xs++zs)))
theorem GZ:Yr X "list.extend" OJ:=by
 intro pins s σ H x vs v us Q I rx rv h;obtain⟨l,b,xs,zs,rfl,rfl,hH,hB,hz,q⟩:=h;cases rx;obtain⟨u,rfl,ru⟩:=rv.one;cases ru;obtain⟨z,its,n,r,hl,e⟩:=I.lstM hH;obtain⟨z2,its2,n2,r2,hl2,e2⟩:=I.lstM hB;have hsz:its.toArray.size+its2.toArray.size<=sizeLine:=by rw [UF,UF]; omega
 have hlong:¬(!its.toArray.isEmpty&&cb (its.toArray.size+its2.toArray.size))=true:=by
  rw [RU hsz,Bool.and_false];exact Ze
 refine call_meets F.slot_list_extend ⟨_,e,rfl⟩ F.entry_list_extend (F.args_list_extend_2 _ _)
  (AutoSeq1.list_extend_list_list_0 l its.toArray n b its2.toArray n2 hlong (by rw [UF]; omega) (by omega)) ⟨e,e2,?_⟩
 refine⟨.non,_,I.lset (its':=its++its2) hH e (by simp) (r.append r2) ?_,rfl,q⟩;rw [ZT];omega
noncomputable def VU:V->List V->Hp->VK->Prop:=λx vs H Q=>∃l xs i k y,x=.ref l/\vs=[.int i]/\H l=some (.lst xs)/\-(2 ^ 63)<=i/\i<2 ^ 63/\seqIndex? i xs.length=some k/\xs[k]?=some y/\Q y (Aw H l (.lst (xs.eraseIdx k)))
theorem RW:Yr X "list.pop" VU:=by
 intro pins s σ H x vs v us Q I rx rv h;obtain⟨l,xs,i,k,y,rfl,rfl,hH,h1,h2,hk,hy,q⟩:=h;cases rx;obtain⟨u,rfl,ru⟩:=rv.one;obtain⟨t,rfl⟩:=ru;obtain⟨z,its,n,r,hl,e⟩:=I.lstM hH;obtain⟨w,hw,rw'⟩:=r.get hy
 refine call_meets F.slot_list_pop ⟨_,e,rfl⟩ F.entry_list_pop (F.args_list_pop_2 _ _)
  (MeetsSeq.list_pop_at l its.toArray n i t k w (fitsIndex_both h1 h2) (by rw [UF,← hl]; exact hk) (by rw [← cH]; exact hw) (by rw [UF]; omega)) ⟨e,?_⟩
 refine⟨y,_,I.lset (its':=its.eraseIdx k) hH e ?_ (r.eraseIdx k) ?_,rw',q⟩
 ·show its.toArray.eraseIdxIfInBounds k=(its.eraseIdx k).toArray
  rw [dM]
 ·have:=Gc xs k
  omega
end
section
variable {prog:Program}{w:World}{A:Around}{E:Value->Shared->Prop}{s:Shared}
end
section
variable {X:Cx}
end
end L2
namespace Att
open PySem PySem.W PySem.Calls PyProof.Rows
theorem HF{P:Params}{h:Zk}:∀(ns:List Int) (vs:List FM),WellAll P h vs (ns.map WData.int)->IntsAre vs ns:=by
 intro ns
 induction ns with
 | nil =>
  intro vs w;rw [ce] at w;cases w;exact .nil
 | cons n ns ih =>
  intro vs w;rw [ZX] at w;cases w with
  | cons a b =>
   cases a;exact .cons _ _ (ih _ b)
theorem PH{l:OpenLaw}{n:Nat}(hn:l.most=some n){P:Params}{h:Zk}{args:List WData}{vals:List FM}
  (hpre:l.row.toRowW.claim.pre args=true) (hwl:WellAll P h vals args) :
  ∃a vs ns,vals=[Z4 a]/\args=[WData.list (ns.map WData.int)]/\h.get? a=some { cls:=.type "list",data:=.seq vs.toArray }/\IntsAre vs ns/\ns.length<=n:=by
 have hsh:WShape.hasAll [] args [.list .int]=true:=(pre_splitW hpre).1;have hc:l.pre.holds [] { args:=args }=true:=(pre_splitW hpre).2;obtain⟨d,r,rfl,h1,h2⟩:=hasAllW_cons hsh;obtain rfl:=hasAllW_nil h2;obtain⟨xs,rfl,h3⟩:=hasW_list h1;obtain⟨ns,rfl⟩:=items_int h3
 have hlen:ns.length<=n:=by
  unfold OpenLaw.pre at hc
  have h4:(WTm.not (.lt (.lit (.int (n:Int))) (.len (.arg 0)))).holds [] { args:=[.list (ns.map .int)] }=true:=by
   have h4:=(holds_andW hc).1;rw [hn] at h4;exact h4
  have h5:=condW_of h4 (w_not (w_lt w_lit (w_len_list (w_arg rfl))));rw [On] at h5;refine Nat.le_of_not_lt λq=>?_;have q':(n:Int)<((ns.length:Nat):Int):=by omega
  first
   | (rw [decide_eq_true q'] at h5; exact absurd h5 (by decide))
   | (simp at h5; omega)
 cases hwl with
 | cons w1 w2 =>
  cases w2;cases w1 with
  | list ho hall=>exact⟨_,_,ns,rfl,rfl,ho,HF ns _ hall,hlen⟩
theorem PU(l:OpenLaw)(args:List WData):l.row.toRowW.claim.post args (.bool true) args=true :=
 postW_of (r:=l.row.toRowW) (X:=(true==true))
  (show WShape.has [] (.bool true) .bool=true by first | rfl | decide | simp [WShape.has,WShape.arms,WShape.armsAll])
  (show (WTm.eq .res (.lit (.bool true))).value [] { args:=args,res:=some (.bool true),after:=args }=some (.bool (true==true)) from w_eq_bool (w_res rfl) w_lit) rfl
theorem attach_call{l:OpenLaw}{n:Nat}{q:Zs}{loose:List Str}{XP:(Str->Option FM)->Zk->Prop}{YP:Zz->Zk->Prop}{d:DefRec}
  (hn:l.most=some n) (hdf:d.params.defaults=[])
  (call:∀(w:Zz) (s₀ s₁:Rs) (mg mb:Str->Option FM) (fa:Ev) (o:Obj) (pm cd doc:FM) (a:Ev) (vs:List FM) (ns:List Int),
   Ground q loose [] XP w s₀ mg mb s₁.heap->YP w s₁.heap ->
   s₁.heap.get? fa=some o->o.data=.func (docDef d.name d.params d.body d.scope pm cd doc)->s₁.heap.CodeRec cd d.name->mg d.name=some (.ref fa) ->
   s₁.heap.get? a=some { cls:=.type "list",data:=.seq vs.toArray }->IntsAre vs ns->ns.length<=n->s₁.gens=#[] ->
   codeAny (model l.prog w) callerA (.call (.ref fa) ⟨[.ref a],[]⟩) (λr s'=>r=.ok (.ret (.bool true))/\OldK s₁.heap s'.heap/\s'.os=s₁.os/\cq s'.gens) s₁) :
  WalkO q loose XP YP l.row.toRowW d [] (λf vs=>PySem.call f vs):=by
 intro w s₀ s₁ mg mb G Y fa o pm cd doc dV kV ho hd hcd hD hmg hg args vals as hpre hlay hrd hwl hlo;obtain rfl:dV=.none:=Dflts.none hD hdf;obtain rfl:kV=.none:=Dflts.noKw hD;obtain⟨a,vs,ns,rfl,rfl,hobj,hints,hlen⟩:=PH hn hpre hwl;refine enter_call (eY (call w s₀ s₁ mg mb fa o pm cd doc a vs ns G Y ho (fd_plain hd) hcd hmg hobj hints hlen hg) λr s' hq=>?_);obtain⟨rfl,h2,h3,h4⟩:=hq;exact⟨.inl ⟨.bool true,.bool true,[],rfl,λ_=>rfl,.bool true,PU l _,λ_=>⟨ft,λ_ hm=>(nomatch hm)⟩⟩,h2,h3,h4⟩
section
variable {prog:Program}{w:World}{A:Around}{E:Value->Shared->Prop}{s:Shared}{K:Frag}
end
end Att
namespace L2
open PySem PySem.Spec PyProof.Rows
theorem Jh:∀{vs:List FM} {ns:List Int},IntsAre vs ns->Vals (ns.map V.int) vs
 | _,_,.nil=>.nil
 | _,_,.cons n t h=>.cons ⟨t,rfl⟩ (Jh h)
noncomputable def WQ(H:Hp):Prop:=∀b,H b=none\/∃o xs,H b=some (.frz o (.lst xs))
theorem Rf{P:Zs}{w:Zz}{K:Frag}{mg mb:Str->Option FM}{CX:Sy}{k:Nat}{fa a:Ev}{fd:aE}{x:Str}{sp:Sp}{s₁:Rs}{vs:List FM}{ns:List Int}
  (KX:K.In s₁.heap) (hns:s₁.heap.Ns mainGlobals mg) (hb:s₁.heap.Ns builtinsNs mb) (hbb:∀x:Str,x ≠ "__name__"->mb x=bootBuiltins x) (hlim:s₁.heap.NoLimit) (hg:s₁.gens=#[])
  (ha:s₁.heap.get? a=some { cls:=.type "list",data:=.seq vs.toArray }) (hi:IntsAre vs ns) (hl:ns.length<=sizeLine) (hr:Room k callerA)
  (F:∀base:Zk,K.In base->base.Ns mainGlobals mg->BK P w K mg base CX k fa fd [x] sp) (hbind:∀(s:Rs) (u:FM),eU s fd ⟨[u],[]⟩ [(x,u)])
  (hsp:∀H:Hp,WQ H->SqL K H a (ns.map V.int)->sp [.ref a] H (λv _=>v=.bl true) λ_ _ _=>False)
  (hCX:∀H e s',CX [] H s₁ (λ_ _ _=>False) e s'->False) :
  codeAny (model P w) callerA (.call (.ref fa) ⟨[.ref a],[]⟩) (λr s'=>r=.ok (.ret (.bool true))/\OldK s₁.heap s'.heap/\s'.os=s₁.os/\cq s'.gens) s₁:=by
 have rv:=Jh hi;have lenV:=hi.length
 have core:∀H:Hp,WQ H->SqL K H a (ns.map V.int)->HOk P w H s₁.heap->(∀b,H b≠none->b=a)->(H a≠none->K.lookup a=none) ->
   codeAny (model P w) callerA (.call (.ref fa) ⟨[.ref a],[]⟩) (λr s'=>r=.ok (.ret (.bool true))/\OldK s₁.heap s'.heap/\s'.os=s₁.os/\cq s'.gens) s₁:=by
  intro H hO hS hok hA hK;have base_of:∀{b:Ev} {o:Obj},s₁.heap.get? b=some o->H b=none->(K_ s₁.heap H).get? b=some o:=λe n=>Rx e n
  have noA:∀{b:Ev} {o:Obj} {es:Array bn} {ep:Nat},s₁.heap.get? b=some o->o.data=.dict es ep->H b=none:=λ{b o es ep} e d=>by
   cases q:H b with
   | none=>rfl
   | some u =>
    have e':b=a:=hA b (by rw [q]; simp);subst e';rw [ha] at e; cases e
    have d':Data.seq vs.toArray _=Data.dict es ep:=d;cases d'
  have nsK:∀{b:Ev} {m:Str->Option FM},s₁.heap.Ns b m->(K_ s₁.heap H).Ns b m:=λ{b m} ⟨o,es,ep,e,d,r⟩=>⟨o,es,ep,base_of e (noA e d),d,r⟩
  have hKb:K.In (K_ s₁.heap H):=λb o e=>base_of (KX b o e) (by
   cases q:H b with
   | none=>rfl
   | some u =>
    have e':b=a:=hA b (by rw [q]; simp);subst e';rw [hK (by rw [q]; simp)] at e; cases e)
  have hM:Mod K mg (K_ s₁.heap H):=⟨hKb,nsK hns,⟨mb,nsK hb,hbb⟩,let ⟨mc,h1,h2⟩:=hlim; ⟨mc,nsK h1,h2⟩⟩;have e0:Env0 P w K mg (K_ s₁.heap H) callerA [] s₁ H:=⟨rfl,hM,λb o e=>Tg e,ei (P6 _ _),trivial,λb hb=>absurd (show b∈([]:List Ev) from hb) (by simp),hok,.of_eq hg⟩;refine eY ((F _ hKb (nsK hns)).run callerA [] s₁ H ⟨[.ref a],[]⟩ [.ref a] [.ref a] _ _ hr e0 (hbind s₁ (.ref a)) (.cons rfl .nil) (hsp H hO hS)) λr s' h=>?_;cases r with
  | error e=>exact(hCX H e s' h).elim
  | ok fl =>
   cases fl with
   | next=>exact aq h
   | brk=>exact aq h
   | cont=>exact aq h
   | ret u =>
    obtain⟨v,H',os,bare,un,hok',r',q⟩:=h;have q':v=.bl true:=q;subst q';obtain rfl:u=dN true:=r';refine⟨rfl,OldK.of_keep λb o e=>?_,os,bare⟩;cases q:H b with
    | none=>exact un.keep b o e q (by intro z; exact absurd (show b∈([]:List Ev) from z) (by simp)) (by simp)
    | some u =>
     rcases hO b with z | ⟨ob,xs,z⟩
     ·rw [q] at z; cases z
     ·have z2:=un.frzs b ob _ z
      obtain⟨e1,_⟩:=hok b _ z;obtain⟨e2,_⟩:=hok' b _ z2;rw [e] at e1; cases e1
      exact e2
 cases hk:K.lookup a with
 | some o =>
  have e:=KX a o hk;rw [ha] at e;cases e;refine core (λ_=>none) (λ_=>.inl rfl) (.inr ⟨_,vs.toArray,_,hk,rfl,rfl,rfl,by rw [UF,lenV]; exact hl,by simpa using rv⟩) (λb u z=>by have z':(none:Option HO)=some u:=z; cases z') (λb z=>absurd rfl z) λz=>absurd rfl z
 | none =>
  refine core (λb=>if b=a then some (.frz { cls:=.type "list",data:=.seq vs.toArray } (.lst (ns.map V.int))) else none) (λb=>?_) (.inl (.inr ⟨{ cls:=.type "list",data:=.seq vs.toArray },if_pos rfl⟩)) (λb u z=>?_) (λb z=>?_) λ_=>hk
  ·by_cases hb:b=a
   ·exact .inr ⟨_,_,if_pos hb⟩
   ·exact .inl (if_neg hb)
  ·by_cases hb:b=a
   ·have z':=(if_pos hb).symm.trans z
    cases z';subst hb;exact⟨ha,by rw [On]; exact hl,vs,_,rv,ha⟩
   ·have z':=(if_neg hb).symm.trans z
    cases z'
  ·by_cases hb:b=a
   ·exact hb
   ·exact absurd (if_neg hb) z
theorem N8{l:PySem.W.OpenLaw}{n k:Nat}{q:Zs}{loose:List Str}{XP:(Str->Option FM)->Zk->Prop}{YP:Zz->Zk->Prop}{d:DefRec}{K:Params->Frag}{CX:Zz->Sy}{sp:Zz->Sp}{x:Str}
  (hn:l.most=some n) (hn2:n<=sizeLine) (hdf:d.params.defaults=[]) (hr:Room k callerA)
  (hY:∀(w:Zz) (h:Zk),YP w h->(K w.params).In h)
  (F:∀(w:Zz) (mg:Str->Option FM) (fa:Ev) (h:Zk),(K w.params).In h->h.Ns mainGlobals mg->mg d.name=some (.ref fa) ->
   ∃fd:aE,(∀(s:Rs) (u:FM),eU s fd ⟨[u],[]⟩ [(x,u)]) /\
    ∀base:Zk,(K w.params).In base->base.Ns mainGlobals mg->BK l.prog w (K w.params) mg base (CX w) k fa fd [x] (sp w))
  (hsp:∀(w:Zz) (H:Hp) (a:Ev) (ns:List Int),ns.length<=n->WQ H->SqL (K w.params) H a (ns.map V.int)->sp w [.ref a] H (λv _=>v=.bl true) λ_ _ _=>False)
  (hCX:∀(w:Zz) (H:Hp) (s:Rs) (e:FM) (s':Rs),CX w [] H s (λ_ _ _=>False) e s'->False) :
  PySem.W.WalkO q loose XP YP l.row.toRowW d [] (λf vs=>PySem.call f vs):=by
 refine Att.attach_call hn hdf λw s₀ s₁ mg mb fa o pm cd doc a vs ns G Y ho hd hcd hmg hobj hints hlen hg=>?_;have KX:=hY w _ Y;obtain⟨fd,hb,hF⟩:=F w mg fa _ KX G.T.g hmg;exact Rf KX G.T.g G.T.b G.T.builtins G.T.nolimit hg hobj hints (Zu hlen hn2) hr hF hb (λH hO hS=>hsp w H a ns hlen hO hS) λH e s'=>hCX w H s₁ e s'
end L2
/- THE LAST THEOREM (shape; LID, My.* are yours):
   My.Adr: a structure of the addresses that your layer names (classes, functions); My.Txt K t: a structure (Prop) of the equations over K;
   My.txt_mk : {K} {implicit addresses ..} (e1 : nsIn K mainGlobals "law" = some (some (.ref f))) (e2 : K.lookup f = some ⟨oc, od, .func (fnOf "law" "law" params body scope dV kV doc pm an cdv ct), sl⟩) (e3 : codeIn K cdv "law" = true) .. : ∃ t, My.Txt K t
set_option maxRecDepth 100000 in
set_option maxHeartbeats 0 in
theorem PySem.Challenge.cw_LID_holds : PySem.Challenge.rw_LID.Holds := by
 w_on; o_law; k_head; (case hw=>w_witness2)
 k_fill
 refine L2.N8 (l:=PySem.Challenge.rw_LID) (n:=63) (k:=40) (x := "script") (CX:=λw=>..) (sp:=λ_=>My.sp_law) rfl (by decide) rfl ⟨rfl,by decide,by decide⟩ (λw h Y=>PySem.W.kIn_of Y) ?F ?S ?C
 case F =>
  intro w mg fa h KX G hmg
  have T:∃t,My.Txt (L2.KOf KX) t:=by
   dsimp only [L2.KOf]                          -- K must stand as «<heap const> w.params» for k_is
   refine' My.txt_mk ?e1 ?e2 ?e3 ..
   (case e1=>PySem.W.k_is)                    -- in the order: a name -> its address -> its object -> its parts
   (case e2=>PySem.W.k_is)
   ..
  obtain⟨t,T⟩:=T;have e0:=hmg.symm.trans (mg_of KX G T.law);cases e0                                       -- fa is the law's own address;exact⟨_,λs u=>.of_eq rfl,λbase kb nb=>My.law_fn T kb nb⟩     -- if «.of_eq rfl» comes too early: refine' ⟨_,?b,λbase kb nb=>My.law_fn T kb nb⟩; exact λs u=>.of_eq rfl
 case S=>exact λw H a ns hl hO hS=>..
 case C=>exact ..
(the tactic k_is has no namespace: write k_is) -/
namespace L2
open PySem PySem.Spec PyProof.Rows
noncomputable def C4(s:Z9):Arguments:=match s with
 | .FunctionDef _ a _ _ _ _ _ _ _ _=>a
 | _=>{ posonlyargs:=[],args:=[],vararg:=none,kwonlyargs:=[],kw_defaults:=[],kwarg:=none,defaults:=[] }
noncomputable def Br(s:Z9):List Z9:=match s with
 | .FunctionDef _ _ b _ _ _ _ _ _ _=>b
 | _=>[]
noncomputable def AO(s:Z9):bQ:=match s with
 | .FunctionDef _ _ _ _ _ _ sc _ _ _=>sc
 | _=>{ kind:=.function,names:=[],isGenerator:=false,isCoroutine:=false }
noncomputable abbrev Cc:Sy:=λ_ _ _ _ _ _=>False
noncomputable abbrev E0:XK:=λ_ _ _=>False
theorem RQ{X:Cx}:N6 Cc X E0:=λ_ _ _ _ _ _ _ h=>h.elim
structure Fun (K:Frag) (x qual:Str) (st:Z9) (f:Ev) (fd:aE):Prop where
 ex:∃(oc:FM) (od:Option Ev) (kV doc pm:FM) (an:Option Ev) (cdv ct:FM) (osl:Array (Option FM)),
  fd=fnOf x qual (C4 st) (Br st) (AO st) .none kV doc pm an cdv ct/\K.lookup f=some ⟨oc,od,.func fd,osl⟩/\codeIn K cdv qual=true
 kp:keepIn K (.ref f)=true
section
variable {P:Program}{w:World}{K:Frag}{mg:Str->Option Value}{base:Heap}
theorem Fun.ok{x qual:Str}{st:Z9}{f:Ev}{fd:aE}{N ps:List Str}{k:Nat}{sp:Sp}(F:Fun K x qual st f fd)(S:Af N ps (AO st))(len:∀vs H Q E,sp vs H Q E->vs.length=ps.length)
  (hbody:∀(cdv:FM) (A:aB) (outer:List Env) (s:Rs) (H:Hp) (vs:List V) (Q:VK) (E:XK),Room k (A.deeper (envOfC qual (AO st) s.heap.objs.size f cdv))->sp vs H Q E ->
   ∃t,PSs (Jc Cc P w K mg base N qual (AO st) f cdv A outer s H E).nox (Br st) t/\t { nx:=λ_ H'=>Q .non H',rt:=Q } (start N vs) H):BK P w K mg base Cc (k+1) f fd ps sp:=by
 obtain⟨oc,od,kV,doc,pm,an,cdv,ct,osl,rfl,lk,hcd⟩:=F.ex;refine XY lk hcd S len λA outer s H vs Q E hr hsp=>?_;obtain⟨t,h,q⟩:=hbody cdv A outer s H vs Q E hr hsp;exact⟨t,h.nox,q⟩
theorem Fun.binds{x qual:Str}{st:Z9}{f:Ev}{fd:aE}{ps:List Str}(F:Fun K x qual st f fd)
  (h:∀(kV doc pm:FM) (an:Option Ev) (cdv ct:FM) (us:List FM),us.length=ps.length->bindArgs (fnOf x qual (C4 st) (Br st) (AO st) .none kV doc pm an cdv ct) ⟨us,[]⟩=pure (ps.zip us)):Binds K fd ps []:=by
 obtain⟨oc,od,kV,doc,pm,an,cdv,ct,osl,rfl,lk,hcd⟩:=F.ex;exact .all (h kV doc pm an cdv ct)
theorem Ry{x qual:Str}{st:Z9}{f:Ev}{oc:FM}{od an:Option Ev}{osl:Array (Option FM)}{kV doc pm cdv ct:FM}(l:K.lookup f=some ⟨oc,od,.func (fnOf x qual (C4 st) (Br st) (AO st) .none kV doc pm an cdv ct),osl⟩)
  (c:codeIn K cdv qual=true) (k:keepIn K (.ref f)=true):Fun K x qual st f (fnOf x qual (C4 st) (Br st) (AO st) .none kV doc pm an cdv ct):=⟨⟨oc,od,kV,doc,pm,an,cdv,ct,osl,rfl,l,c⟩,k⟩
end
theorem FF{A:aB}{k:Nat}(hr:Room k A):A.units+1<cLine:=b_ (Nat.add_le_add_left (by decide:1<=64) _) hr.units
section
variable {X:Cx}
theorem pv(i:Nat){x:Str}{pos:Pos}(hN:autoParam (X.N[i]?=some x) zau3._auto_1)(hv:autoParam (WX X.env.scope x) zau4._auto_1)(hd:autoParam ((x==("__debug__":Str))=false) zau1._auto_1)
  (hcd:autoParam ((x==("__classdict__":Str))=false) zau1._auto_1):PE X (.Name x pos) (BU i):=Kx hN hv hd hcd
end
theorem EA{A B:Prop}(h:B):if false=true then A else B:=by
 rw [if_neg Ze];exact h
theorem Fw{A B:Prop}(h:A):if true=true then A else B:=by
 rw [if_pos rfl];exact h
theorem Cv{c A B:Prop}[Decidable c](h1:c->A)(h2:¬c->B):if c then A else B:=by
 by_cases h:c
 ·rw [if_pos h]
  exact h1 h
 ·rw [if_neg h]
  exact h2 h
section
variable {κ:Type}[DecidableEq κ]
noncomputable def Bg(kvs:List (κ×V))(k:κ):Option V:=(kvs.find? λkv=>decide (kv.1=k)).map (·.2)
noncomputable def putK(kvs:List (κ×V))(k:κ)(v:V):List (κ×V) :=
 if (kvs.any λkv=>decide (kv.1=k))=true then kvs.map (λkv=>if kv.1=k then (kv.1,v) else kv) else kvs++[(k,v)]
theorem DH{p:κ×V}{r:List (κ×V)}{k:κ}(e:p.1=k):Bg (p::r) k=some p.2:=by simp [Bg,cA,e]
theorem DJ{p:κ×V}{r:List (κ×V)}{k:κ}(e:¬p.1=k):Bg (p::r) k=Bg r k:=by simp [Bg,cA,e]
theorem Ld(k:κ):∀kvs:List (κ×V),(kvs.any λkv=>decide (kv.1=k))=(Bg kvs k).isSome
 | []=>rfl
 | p::r=>by
  rw [fX]
  by_cases e:p.1=k
  ·simp only [DH e,decide_eq_true e,Bool.true_or,Option.isSome_some]
  ·rw [DJ e,decide_eq_false e,Bool.false_or]; exact Ld k r
theorem EO(kvs:List (κ×V))(k:κ)(v:V):(putK kvs k v).length<=kvs.length+1:=by
 unfold putK
 split
 ·rw [On]; omega
 ·rw [ZT,Za,aQ]; omega
theorem RelO.isSome_eq{o:Option V}{u:Option FM}(r:RelO o u):o.isSome=u.isSome:=by
 cases o with
 | none=>cases u with
  | none=>rfl
  | some _=>exact(show False from r).elim
 | some _=>cases u with
  | none=>exact(show False from r).elim
  | some _=>rfl
theorem RelO.getD{o:Option V}{u:Option FM}{d:V}{d':FM}(r:RelO o u)(rd:RelV d d'):RelV (o.getD d) (u.getD d'):=by
 cases o with
 | none=>cases u with
  | none=>exact rd
  | some _=>exact(show False from r).elim
 | some _=>cases u with
  | none=>exact(show False from r).elim
  | some _=>exact r
theorem KV.val{kvs:List (κ×V)}{vs:List (κ×FM)}(r:KV kvs vs)(k:κ):RelO (Bg kvs k) (valueAt vs k):=by
 unfold KV at r
 induction r with
 | nil=>exact bR
 | @cons p q ps qs h t ih =>
  obtain⟨h1,h2⟩:=h
  by_cases e:p.1=k
  ·have e':q.1=k:=h1.symm.trans e
   have b:valueAt (q::qs) k=some q.2:=by simp [valueAt,cA,e']
   rw [DH e,b]; exact h2
  ·have e':¬q.1=k:=λz=>e (h1.trans z)
   have b:valueAt (q::qs) k=valueAt qs k:=by simp [valueAt,cA,e']
   rw [DJ e,b]; exact ih
theorem KV.any{kvs:List (κ×V)}{vs:List (κ×FM)}(r:KV kvs vs)(k:κ):(kvs.any λkv=>decide (kv.1=k))=vs.any λkv=>decide (kv.1=k):=by
 unfold KV at r
 induction r with
 | nil=>rfl
 | cons h t ih=>rw [fX,fX,ih,h.1]
theorem KV.repl{kvs:List (κ×V)}{vs:List (κ×FM)}(r:KV kvs vs)(k:κ){y:V}{u:FM}(ry:RelV y u) :
  KV (kvs.map λkv=>if kv.1=k then (kv.1,y) else kv) (vs.map λkv=>if kv.1=k then (kv.1,u) else kv):=by
 unfold KV at r ⊢
 induction r with
 | nil=>exact .nil
 | @cons p q ps qs h t ih =>
  rw [ZX,ZX];refine .cons ?_ ih;obtain⟨h1,h2⟩:=h
  by_cases e:p.1=k
  ·rw [if_pos e,if_pos (h1.symm.trans e)]; exact⟨h1,ry⟩
  ·rw [if_neg e,if_neg (λz=>e (h1.trans z))]; exact⟨h1,h2⟩
theorem KV.put{kvs:List (κ×V)}{vs:List (κ×FM)}(r:KV kvs vs)(k:κ){y:V}{u:FM}(ry:RelV y u):KV (putK kvs k y) (stored vs k u):=by
 unfold putK stored;rw [r.any k]
 by_cases e:(vs.any λkv=>decide (kv.1=k))=true
 ·rw [if_pos e,if_pos e]; exact r.repl k ry
 ·rw [if_neg e,if_neg e]; exact Paired.snoc r ⟨rfl,ry⟩
theorem KV.length{kvs:List (κ×V)}{vs:List (κ×FM)}(r:KV kvs vs):kvs.length=vs.length:=Paired.length r
end
theorem IV{P:Zs}{w:Zz}{k:Key}{u:FM}(r:RelV (kV k) u):(Ay P w).is k u=true:=by
 cases k with
 | inl i=>obtain⟨t,e⟩:=(show ∃t,u=fC i t from r); subst e; exact MD P w i t
 | inr x=>obtain⟨t,e⟩:=(show ∃t,u=bT x t from r); subst e; exact MC P w x t
theorem J3{P:Zs}{w:Zz}:∀{ks:List Key} {us:List FM},Vals (ks.map kV) us->ItemsAre (Ay P w) ks us
 | [],_,r=>by rw [ce] at r; cases r; exact .nil
 | k::ks,_,r=>by
  rw [ZX] at r;cases r with
  | cons h t=>exact .cons (IV h) (J3 t)
noncomputable abbrev KT(H:Hp):List (List Key×V)->List (List Key×Ev×FM)->Prop:=Paired λp q=>p.1=q.1/\H q.2.1=some (.tup (p.1.map kV))/\RelV p.2 q.2.2
theorem KT.val{H:Hp}{kvs:List (List Key×V)}{xs:List (List Key×Ev×FM)}(r:KT H kvs xs)(k:List Key):RelO (Bg kvs k) ((atKey xs k).map (·.2)):=by
 induction r with
 | nil=>exact bR
 | @cons p q ps qs h t ih =>
  obtain⟨h1,_,h2⟩:=h
  by_cases e:p.1=k
  ·have e':q.1=k:=h1.symm.trans e
   have b:atKey (q::qs) k=some q.2:=by simp [atKey,cA,e']
   rw [DH e,b]; exact h2
  ·have e':¬q.1=k:=λz=>e (h1.trans z)
   have b:atKey (q::qs) k=atKey qs k:=by simp [atKey,cA,e']
   rw [DJ e,b]; exact ih
theorem KT.repl{H:Hp}{kvs:List (List Key×V)}{xs:List (List Key×Ev×FM)}(r:KT H kvs xs)(k:List Key){y:V}{u:FM}(ry:RelV y u) :
  KT H (kvs.map λkv=>if kv.1=k then (kv.1,y) else kv) (xs.map (putAt k u)):=by
 induction r with
 | nil=>exact .nil
 | @cons p q ps qs h t ih =>
  rw [ZX,ZX];refine .cons ?_ ih;obtain⟨h1,h2,h3⟩:=h;unfold putAt
  by_cases e:p.1=k
  ·rw [if_pos e,if_pos (h1.symm.trans e)]; exact⟨h1,h2,ry⟩
  ·rw [if_neg e,if_neg (λz=>e (h1.trans z))]; exact⟨h1,h2,h3⟩
theorem KT.put{H:Hp}{kvs:List (List Key×V)}{xs:List (List Key×Ev×FM)}(r:KT H kvs xs)(k:List Key){b:Ev}{y:V}{u:FM}(hb:H b=some (.tup (k.map kV)))(ry:RelV y u) :
  KT H (putK kvs k y) (storedH xs k b u):=by
 have e:(kvs.any λkv=>decide (kv.1=k))=(atKey xs k).isSome:=by
  rw [Ld,(r.val k).isSome_eq,eP]
 unfold putK storedH;rw [e]
 by_cases q:(atKey xs k).isSome=true
 ·rw [if_pos q,if_pos q]; exact r.repl k ry
 ·rw [if_neg q,if_neg q]; exact Paired.snoc r ⟨rfl,hb,ry⟩
theorem KT.keeps{H H':Hp}{kvs:List (List Key×V)}{xs:List (List Key×Ev×FM)}(r:KT H kvs xs)(ht:∀b ys,H b=some (.tup ys)->H' b=some (.tup ys)):KT H' kvs xs :=
 Paired.mapP r λ_ _ z=>⟨z.1,ht _ _ z.2.1,z.2.2⟩
section
variable {P:Program}{w:World}{H:Hp}{h:Heap}{a:Addr}
theorem UU{u:HO}(ok:HOk P w H h)(e:Rd H a u):ObjOk P w H h a u:=e.ok ok
theorem EW{kvs:List (Key×V)}(ok:HOk P w H h)(e:Rd H a (.dK kvs)):kvs.length<=sizeLine/\(a==sysModules)=false/\∃vs,KV kvs vs/\h.DictOf (Ay P w) a vs :=
 show ObjOk P w H h a (.dK kvs) from UU ok e
theorem Ut{kvs:List (Key×V)}(ok:HOk P w H h)(e:H a=some (.dK kvs)):kvs.length<=sizeLine/\(a==sysModules)=false/\∃vs,KV kvs vs/\h.DictOf (Ay P w) a vs:=EW ok (.inl e)
theorem Gh{ks:List Key}(ok:HOk P w H h)(e:H a=some (.tup (ks.map kV))):(tupleKind (Ay P w)).is h ks a:=by
 obtain⟨_,its,r,o,h1,h2,n,h3,_⟩:=(show ObjOk P w H h a (.tup (ks.map kV)) from ok a _ e);exact⟨o,its.toArray,n,h1,h2,h3,by simpa using J3 r⟩
theorem FH{kvs:List (List Key×V)}(ok:HOk P w H h)(e:Rd H a (.dT kvs)):kvs.length<=sizeLine/\(a==sysModules)=false /\
  ∃xs,KT H kvs xs/\h.DictOfH (tupleKind (Ay P w)) a xs:=by
 obtain⟨z,y,xs,r,o,es,ep,h1,h2,h3,h4,h5⟩:=(show ObjOk P w H h a (.dT kvs) from UU ok e);refine⟨z,y,xs,r,o,es,ep,h1,h2,h3,h4,λx hx=>?_,h5⟩
 have all:∀{l:List (List Key×V)} {m:List (List Key×Ev×FM)},KT H l m->∀x∈m,(tupleKind (Ay P w)).is h x.1 x.2.1:=by
  intro l m q
  induction q with
  | nil=>intro x hx; exact nomatch hx
  | @cons p q ps qs hq t ih =>
   intro x hx
   rcases XV.mp hx with e | hx
   ·subst e
    exact Gh ok (by rw [← hq.1]; exact hq.2.1)
   ·exact ih x hx
 exact all r x hx
theorem Xg{kvs:List (List Key×V)}(ok:HOk P w H h)(e:H a=some (.dT kvs)):kvs.length<=sizeLine/\(a==sysModules)=false /\
  ∃xs,KT H kvs xs/\h.DictOfH (tupleKind (Ay P w)) a xs:=FH ok (.inl e)
end
noncomputable def DGet(H:Hp)(a:Ev)(y:V)(r:Option V):Prop :=
 (∃kvs k,Rd H a (.dK kvs)/\y=kV k/\r=Bg kvs k)\/∃kvs k b,Rd H a (.dT kvs)/\y=.ref b/\H b=some (.tup (k.map kV))/\r=Bg kvs k
noncomputable def DPut(H:Hp)(a:Ev)(y v:V)(H':Hp):Prop :=
 (∃kvs k,H a=some (.dK kvs)/\y=kV k/\kvs.length<sizeLine/\H'=Aw H a (.dK (putK kvs k v))) \/
 ∃kvs k b,H a=some (.dT kvs)/\y=.ref b/\H b=some (.tup (k.map kV))/\kvs.length<sizeLine/\H'=Aw H a (.dT (putK kvs k v))
theorem DGet.k{H:Hp}{a:Ev}{kvs:List (Key×V)}{k:Key}(e:H a=some (.dK kvs)):DGet H a (kV k) (Bg kvs k):=.inl ⟨kvs,k,.inl e,rfl,rfl⟩
theorem DPut.k{H:Hp}{a:Ev}{kvs:List (Key×V)}{k:Key}{v:V}(e:H a=some (.dK kvs))(hl:kvs.length<sizeLine):DPut H a (kV k) v (Aw H a (.dK (putK kvs k v))):=.inl ⟨kvs,k,e,rfl,hl,rfl⟩
theorem DPut.t{H:Hp}{a b:Ev}{kvs:List (List Key×V)}{k:List Key}{v:V}(e:H a=some (.dT kvs))(eb:H b=some (.tup (k.map kV)))(hl:kvs.length<sizeLine) :
  DPut H a (.ref b) v (Aw H a (.dT (putK kvs k v))):=.inr ⟨kvs,k,b,e,rfl,eb,hl,rfl⟩
section
variable {X:Cx}{pins:List (Addr×Obj)}{σ:St}{H:Hp}{s:Shared}{a:Addr}{y v:V}{u r:Value}{o:Option V}{A:Around}{E:Value->Shared->Prop}
theorem Inv.big(I:Inv X pins σ H s):sysModules<s.heap.objs.size:=by
 have h:mainGlobals<s.heap.objs.size:=(I.mod.glob.keeps I.bk).lt;exact Nat.lt_trans (by decide) h
theorem QG{Q:FM->Rs->Prop}(hu:A.units+1<cLine)(I:Inv X pins σ H s)(g:DGet H a y (some v))(ry:RelV y u)(h:∀w' s',Inv X pins σ H s'->RelV v w'->Q w' s') :
  wpAny (model X.prog X.w) A (getItem (.ref a) u) Q E s:=by
 rcases g with ⟨kvs,k,e,ey,l⟩ | ⟨kvs,k,b,e,ey,eb,l⟩
 ·subst ey
  obtain⟨z,hd,vs,rel,dd⟩:=EW I.hok e;obtain⟨w',hw,rw'⟩:=RelO.some_of (v:=v) (o:=valueAt vs k) (by rw [l]; exact rel.val k);exact wpAny_getItem_of (IV ry) dd.mapOf hw (h w' _ (I.tok _) rw')
 ·subst ey
  cases (show u=Z4 b from ry);obtain⟨z,hd,xs,rel,dd⟩:=FH I.hok e;obtain⟨w',hw,rw'⟩:=RelO.some_of (v:=v) (o:=(atKey xs k).map (·.2)) (by rw [l]; exact rel.val k);obtain⟨p,hp,hp2⟩:=Zy.mp hw;refine wpAny_getItem_heap (cB hu) (Gh I.hok eb) dd hp ?_;rw [hp2];exact h w' _ (I.tok _) rw'
theorem Yk{Q:FM->Rs->Prop}(hu:A.units+1<cLine)(I:Inv X pins σ H s)(g:DGet H a y o)(ry:RelV y u)(h:∀s',Inv X pins σ H s'->Q (.bool o.isSome) s') :
  wpAny (model X.prog X.w) A (compareOp .In u (.ref a)) Q E s:=by
 rcases g with ⟨kvs,k,e,ey,l⟩ | ⟨kvs,k,b,e,ey,eb,l⟩
 ·subst ey
  obtain⟨z,hd,vs,rel,dd⟩:=EW I.hok e;refine wpAny_in_of (IV ry) hd dd.mapOf ?_;rw [← (rel.val k).isSome_eq,← l];exact h _ (I.tok _)
 ·subst ey
  cases (show u=Z4 b from ry);obtain⟨z,hd,xs,rel,dd⟩:=FH I.hok e;refine wpAny_in_heap (cB hu) (Gh I.hok eb) hd dd ?_;have q:=(rel.val k).isSome_eq;rw [eP] at q;rw [← q,← l];exact h _ (I.tok _)
theorem UE{Q:FM->Rs->Prop}(hu:A.units+1<cLine)(I:Inv X pins σ H s)(g:DGet H a y o)(ry:RelV y u)(h:∀s',Inv X pins σ H s'->Q (.bool (!o.isSome)) s') :
  wpAny (model X.prog X.w) A (compareOp .NotIn u (.ref a)) Q E s:=by
 rcases g with ⟨kvs,k,e,ey,l⟩ | ⟨kvs,k,b,e,ey,eb,l⟩
 ·subst ey
  obtain⟨z,hd,vs,rel,dd⟩:=EW I.hok e;refine wpAny_notIn_of (IV ry) hd dd.mapOf ?_;rw [← (rel.val k).isSome_eq,← l];exact h _ (I.tok _)
 ·subst ey
  cases (show u=Z4 b from ry);obtain⟨z,hd,xs,rel,dd⟩:=FH I.hok e;refine wpAny_notIn_heap (cB hu) (Gh I.hok eb) hd dd ?_;have q:=(rel.val k).isSome_eq;rw [eP] at q;rw [← q,← l];exact h _ (I.tok _)
theorem LO{h':Zk}{t':Nat}{ob:HO}(I:Inv X pins σ H s)(mu:Xy (H a))(hs:dO a s.heap h')(he:∃q,h'.get? a=some q)(new:ObjOk X.prog X.w (Aw H a ob) h' a ob) :
  Inv X pins σ (Aw H a ob) { s with heap:=h',toks:=t' } :=
 I.write (x:=a) (e:=a) mu (.inl rfl) (λb q hb z=>(hs.2 b hb).trans z) he new
theorem SJ{P:Zs}{w:Zz}{H':Hp}{h':Zk}{kvs:List (Key×V)}{vs:List (Key×FM)}(z:kvs.length<=sizeLine)(hd:(a==sysModules)=false)(rel:KV kvs vs)(dd:h'.DictOf (Ay P w) a vs) :
  ObjOk P w H' h' a (.dK kvs):=⟨z,hd,vs,rel,dd⟩
theorem QF{H':Hp}{Q:Unit->Rs->Prop}(hu:A.units+1<cLine)(I:Inv X pins σ H s)(g:DPut H a y v H')(ry:RelV y u)(rv:RelV v r)(h:∀s',Inv X pins σ H' s'->Q () s') :
  wpAny (model X.prog X.w) A (setItem (.ref a) u r) Q E s:=by
 rcases g with ⟨kvs,k,e,ey,l,eH⟩ | ⟨kvs,k,b,e,ey,eb,l,eH⟩
 ·subst ey eH
  obtain⟨z,hd,vs,rel,dd⟩:=Ut I.hok e;have hz:vs.length<=sizeLine:=by rw [← rel.length]; exact z
  have hl:(putK kvs k v).length<=sizeLine:=by have:=EO kvs k v; omega
  refine wpAny_setItem_pairs (hsz:=hz) (IV ry) dd λh' dd' hs=>h _ ?_;have he:∃q,h'.get? a=some q:=let ⟨q,_,_,hq,_⟩:=dd'; ⟨q,hq⟩
  exact LO I (by rw [e]; exact bR) hs he (SJ hl hd (rel.put k rv) dd')
 ·subst ey eH
  cases (show u=Z4 b from ry);obtain⟨z,hd,xs,rel,dd⟩:=Xg I.hok e;have hz:xs.length<=sizeLine:=by rw [← Paired.length rel]; exact z
  have hl:(putK kvs k v).length<=sizeLine:=by have:=EO kvs k v; omega
  refine wpAny_setItem_heap (hsz:=hz) (cB hu) (Gh I.hok eb) dd λh' dd' hs=>h _ ?_;obtain⟨q,es,ep,hq,h2,h3,h4,_,h5⟩:=dd';refine LO I (by rw [e]; exact bR) hs ⟨q,hq⟩ ⟨hl,hd,_,(rel.put k eb rv).keeps λc ys ec=>?_,q,es,ep,hq,h2,h3,h4,h5⟩;rw [AK (XJ ec e (λz=>nomatch z))];exact ec
end
section
variable {X:Cx}{pins:List (Addr×Obj)}{σ:St}{H:Hp}{s:Shared}{a:Addr}{kvs:List (Key×V)}{k:Key}{u:Value}{A:Around}{E:Value->Shared->Prop}
theorem Xj{Q:FM->Rs->Prop}(I:Inv X pins σ H s)(e:Rd H a (.dK kvs))(h:∀t s',Inv X pins σ H s'->Q (.int kvs.length t) s'):wpAny (model X.prog X.w) A (call (.builtin "len") [.ref a]) Q E s:=by
 obtain⟨z,hd,vs,rel,dd⟩:=EW I.hok e;refine call_len_dict hd dd (by rw [← rel.length]; rw [Z2] at z; omega) ?_;rw [← rel.length];exact h _ _ (I.tok _)
end
noncomputable def Sw(i:Zq):Prop:=∀ov iv,subscripted i false ov iv=operate [ov,iv] (getItem ov iv)
theorem TD{prog:Zs}{w:Zz}{A:aB}{E:FM->Rs->Prop}{s:Rs}{env:Env}{value slice:Zq}{pos:Pos}{T id:String}{Q:FM->Rs->Prop}
  (hl:typeLookup (.type T) "__getitem__"=pure (some (.builtin id))) (hs:Sw slice)
  (h:wpAny (model prog w) A (eval value env) (λo s₁=>wpAny (model prog w) A (eval slice env) (λi s₂=>s₂.TypeIs o T/\wpAny (model prog w) A (getItem o i) Q E s₂) E s₁) E s) :
  wpAny (model prog w) A (eval (.Subscript value slice pos) env) Q E s:=by
 refine Subscript_ (aJ h (λo s₁ h₁=>aJ h₁ (λi s₂ h₂=>?_) λ_ _ x=>x) λ_ _ x=>x);obtain⟨hT,h₂⟩:=h₂;unfold subscriptTail;refine Db ?_;rw [getitemInPython_of_ne hT.not_modules];refine Db (fD hT hl ?_)
 have fin:wpAny (model prog w) A (subscripted slice false o i) (λr s₃=>wpAny (model prog w) A (letTemporaryGo value o r >>= λ_=>pure r) Q E s₃) E s₂:=by
  rw [hs o i];exact wpAny_operating (aJ h₂ (λr s₃ h₃=>Db (wpAny_letTemporaryGo (TM h₃))) λ_ _ x=>x)
 first
  | exact TM (Db fin)
  | exact Db (TM (Db fin))
  | exact Db fin
theorem MX{X:Cx}{pins:List (Ev×Obj)}{σ:St}{H:Hp}{s:Rs}{a:Ev}{y:V}{o:Option V}(I:Inv X pins σ H s)(g:DGet H a y o):s.TypeIs (.ref a) "dict":=by
 rcases g with ⟨kvs,k,e,_,_⟩ | ⟨kvs,k,b,e,_,_,_⟩
 ·obtain⟨_,_,vs,_,dd⟩:=EW I.hok e
  exact dd.typeIs
 ·obtain⟨_,_,xs,_,dd⟩:=FH I.hok e
  exact dd.typeIs
noncomputable def Wo(td ty:TE):TE:=λσ H Q=>td σ H λx H1=>ty σ H1 λy H2=>∃a v,x=.ref a/\DGet H2 a y (some v)/\Q v H2
noncomputable def Ww(td ty tv:TE):TS:=λD σ H=>tv σ H λv H1=>td σ H1 λx H2=>ty σ H2 λy H3=>∃a H4,x=.ref a/\DPut H3 a y v H4/\D.nx σ H4
section
variable {X:Cx}{o i e value:Expr}{pos pos' tpos:Pos}{td ty tv:TE}
theorem Fn(hu:X.A.units+1<cLine)(ho:PE X o td)(hi:PE X i ty)(hs:Sw i):PE X (.Subscript o i pos) (Wo td ty):=by
 intro pins s σ H Q I h;refine TD PySem.F.slot_dict_getitem.lookup hs (BV (ho pins s σ H _ I h) λu s1 ⟨x,H1,I1,rx,q1⟩=>BV (hi pins s1 σ H1 _ I1 q1) λiv s2 ⟨y,H2,I2,ry,a,v,ex,g,q2⟩=>?_);subst ex;obtain rfl:u=Z4 a:=rx;exact⟨MX I2 g,QG hu I2 g ry λw' s3 I3 rw'=>⟨v,H2,I3,rw',q2⟩⟩
theorem Ey(hu:X.A.units+1<cLine)(ho:PE X o td)(hi:PE X i ty)(hv:PE X value tv)(hs:swapsWith value (some (.Subscript o i pos')) pos.line X.env=pure false) :
  PS X (.Assign [.Subscript o i pos'] value pos) (Ww td ty tv):=by
 intro pins s σ H D I h;refine wpAny_Assign_Subscript (BV (hv pins s σ H _ I h) λr s1 ⟨v,H1,I1,rv,q1⟩=>BV (ho pins s1 σ H1 _ I1 q1) λu s2 ⟨x,H2,I2,rx,q2⟩=>BV (hi pins s2 σ H2 _ I2 q2) λiv s3 ⟨y,H3,I3,ry,a,H4,ex,g,q3⟩=>?_) hs;subst ex;obtain rfl:u=Z4 a:=rx;exact QF hu I3 g ry rv λs4 I4=>⟨σ,H4,I4,q3⟩
end
theorem MW{P:Zs}{w:Zz}{H:Hp}(h:Zk)(hb:sysModules<h.objs.size):ObjOk P w H (h.push { cls:=.type "dict",data:=.dict #[] }) h.objs.size (.dK []) :=
 ⟨Zi _,beq_eq_false_iff_ne.mpr (aI (Zo hb)),[],.nil,Heap.DictOf.new h⟩
theorem SH{P:Zs}{w:Zz}{H:Hp}(h:Zk)(hb:sysModules<h.objs.size):ObjOk P w H (h.push { cls:=.type "dict",data:=.dict #[] }) h.objs.size (.dT []) :=
 ⟨Zi _,beq_eq_false_iff_ne.mpr (aI (Zo hb)),[],.nil,_,#[],0,Uf _ rfl,⟨rfl,rfl,rfl⟩,rfl,rfl,Zp⟩
noncomputable def VL:TE:=λ_ H Q=>∀p,H p=none->Q (.ref p) (Aw H p (.dK []))
noncomputable def VJ:TE:=λ_ H Q=>∀p,H p=none->Q (.ref p) (Aw H p (.dT []))
section
variable {X:Cx}{pos:Pos}
theorem IK:PE X (.Dict [] [] pos) VL:=λpins s σ H Q I h =>
 wpAny_Dict_empty ⟨.ref s.heap.objs.size,_,I.laid (a:=s.heap.objs.size) (o:=.dK []) (t':=s.toks) (λ_ _ q=>Op _ q) (Tk _) (MW s.heap I.big),rfl,h _ (I.hok.fresh (Tk _))⟩
theorem RO:PE X (.Dict [] [] pos) VJ:=λpins s σ H Q I h =>
 wpAny_Dict_empty ⟨.ref s.heap.objs.size,_,I.laid (a:=s.heap.objs.size) (o:=.dT []) (t':=s.toks) (λ_ _ q=>Op _ q) (Tk _) (SH s.heap I.big),rfl,h _ (I.hok.fresh (Tk _))⟩
end
noncomputable def M9:List (TE×TE)->St->Hp->(List (V×V)->Hp->Prop)->Prop
 | [],_,H,Q=>Q [] H
 | (tk,tv)::r,σ,H,Q=>tk σ H λx H1=>tv σ H1 λy H2=>M9 r σ H2 λps H3=>Q ((x,y)::ps) H3
noncomputable abbrev VV:List (V×V)->List (FM×FM)->Prop:=Paired λp q=>RelV p.1 q.1/\RelV p.2 q.2
noncomputable def YD(X:Cx)(pos:Pos)(keys:List (Option Zq))(values:List Zq)(trs:List (TE×TE)):Prop :=
 ∀(pins:List (Ev×Obj)) (s:Rs) (σ:St) (H:Hp) (Q:List (V×V)->Hp->Prop),Inv X pins σ H s->M9 trs σ H Q ->
  wpAny (model X.prog X.w) X.A (evalPairs (pairTrees keys values X.env pos)) (λvs s'=>∃ps H',Inv X pins σ H' s'/\VV ps vs/\Q ps H') X.xe s
theorem TQ{X:Cx}{pos:Pos}:YD X pos [] [] []:=λpins s σ H Q I h=>pairTrees_nil_walk ⟨[],H,I,.nil,h⟩
theorem RG{X:Cx}{pos:Pos}{k v:Zq}{ks:List (Option Zq)}{vs:List Zq}{tk tv:TE}{trs:List (TE×TE)}(hk:PE X k tk)(hv:PE X v tv)(hr:YD X pos ks vs trs) :
  YD X pos (some k::ks) (v::vs) ((tk,tv)::trs):=λpins s σ H Q I h =>
 pairTrees_cons_walk (BV (hk pins s σ H _ I h) λu s1 ⟨x,H1,I1,rx,q1⟩=>BV (hv pins s1 σ H1 _ I1 q1) λw2 s2 ⟨y,H2,I2,ry,q2⟩ =>
  BV (hr pins s2 σ H2 _ I2 q2) λws s3 ⟨ps,H3,I3,rel,q3⟩=>⟨(x,y)::ps,H3,I3,.cons ⟨rx,ry⟩ rel,q3⟩)
noncomputable def IR(kvs more:List (Key×V)):List (Key×V):=more.foldl (λacc kv=>putK acc kv.1 kv.2) kvs
theorem KV.merge:∀{more:List (Key×V)} {rs:List (Key×FM)} {kvs:List (Key×V)} {vs:List (Key×FM)},KV more rs->KV kvs vs->KV (IR kvs more) (merged vs rs):=by
 intro more rs kvs vs r;unfold KV at r
 induction r generalizing kvs vs with
 | nil=>intro q; exact q
 | @cons p q ps qs h t ih =>
  intro r0
  have e:KV (putK kvs p.1 p.2) (stored vs q.1 q.2):=by
   have:=r0.put p.1 h.2
   rw [← h.1]; exact this
  exact ih e
theorem FE:∀(more kvs:List (Key×V)),(IR kvs more).length<=kvs.length+more.length
 | [],kvs=>by show kvs.length<=kvs.length+0; omega
 | p::r,kvs=>by
  have h1:=FE r (putK kvs p.1 p.2);have h2:=EO kvs p.1 p.2;show (IR (putK kvs p.1 p.2) r).length<=_;rw [Za]; omega
theorem Ip{P:Zs}{w:Zz}:∀{kvs:List (Key×V)} {ws:List (FM×FM)},VV (kvs.map λkv=>(kV kv.1,kv.2)) ws->∃rs,Carries (Ay P w) ws rs/\KV kvs rs
 | [],_,r=>by rw [ce] at r; cases r; exact⟨[],bR,.nil⟩
 | p::kvs,_,r=>by
  rw [ZX] at r;cases r with
  | @cons a b as bs h t =>
   obtain⟨rs,c,q⟩:=Ip (P:=P) (w:=w) t;obtain⟨b1,b2⟩:=b;exact⟨(p.1,b2)::rs,⟨IV h.1,rfl,c⟩,.cons ⟨rfl,h.2⟩ q⟩
noncomputable def Wn(trs:List (TE×TE)):TE:=λσ H Q=>∀p,H p=none->M9 trs σ (Aw H p (.dK [])) λps H2=>H2 p=some (.dK [])/\∃kvs:List (Key×V),ps=kvs.map (λkv=>(kV kv.1,kv.2))/\kvs.length<=15/\Q (.ref p) (Aw H2 p (.dK (IR [] kvs)))
theorem TX{X:Cx}{pos:Pos}{keys:List (Option Zq)}{values:List Zq}{trs:List (TE×TE)}(h:YD X pos keys values trs)(hall:keys.all (·.isSome)=true)(hl:keys.length=values.length)(h0:keys≠[])
  (h15:keys.length<=15):PE X (.Dict keys values pos) (Wn trs):=by
 intro pins s σ H Q I q;have hn:=I.hok.fresh (Tk s.heap.objs.size);have I1:=I.laid (a:=s.heap.objs.size) (o:=.dK []) (h':=s.heap.push { cls:=.type "dict",data:=.dict #[] }) (t':=s.toks) (λ_ _ q=>Op _ q) (Tk _) (MW s.heap I.big);refine wpAny_Dict_walk (knd:=Ay X.prog X.w) hall hl h0 h15 (BV (h pins _ σ _ _ I1 (q _ hn)) λws s2 ⟨ps,H2,I2,rel,e,kvs,ep,lk,q2⟩=>?_);subst ep;obtain⟨rs,c,rk⟩:=Ip (P:=X.prog) (w:=X.w) rel;obtain⟨z,hd,vs0,r0,dd⟩:=Ut I2.hok e;cases r0;refine⟨rs,c,dd,λh' dd' hs=>⟨.ref s.heap.objs.size,_,?_,rfl,q2⟩⟩
 have hz:(IR [] kvs).length<=sizeLine:=by
  have h1:=FE kvs [];rw [aQ] at h1;rw [Z2]; omega
 have he:∃q,h'.get? s.heap.objs.size=some q:=let ⟨q,_,_,hq,_⟩:=dd'; ⟨q,hq⟩
 exact LO I2 (by rw [e]; exact bR) hs he (SJ hz hd (rk.merge .nil) dd')
structure M1 (X:Cx) (o:Zq) (m:Str) (apos:Pos) (e:Zq) (cpos:Pos):Prop where
 base:attributeBase o m X.env (eval o X.env)=eval o X.env
 few:((backTo cpos (starEach [e] X.env)).all (λx=>!x.1)&&(backToKw cpos (keywordEach [] X.env)).all (λx=>x.1.isSome)
  && decide (([e]:List Zq).length+([]:List cu).length+(if ([]:List cu).isEmpty then 0 else 1)<30))=true
 line:(apos.endLine==cpos.line)=true
 trees:backTo cpos (starEach [e] X.env)=[(false,eval e X.env)]
structure M2 (X:Cx) (o:Zq) (m:Str) (apos:Pos) (e f:Zq) (cpos:Pos):Prop where
 base:attributeBase o m X.env (eval o X.env)=eval o X.env
 few:((backTo cpos (starEach [e,f] X.env)).all (λx=>!x.1)&&(backToKw cpos (keywordEach [] X.env)).all (λx=>x.1.isSome)
  && decide (([e,f]:List Zq).length+([]:List cu).length+(if ([]:List cu).isEmpty then 0 else 1)<30))=true
 line:(apos.endLine==cpos.line)=true
 trees:backTo cpos (starEach [e,f] X.env)=[(false,eval e X.env),(false,eval f X.env)]
noncomputable def Yx(H:Hp)(a:Ev):Prop:=(∃kvs,Rd H a (.dK kvs))\/∃kvs,Rd H a (.dT kvs)
theorem Rt{X:Cx}{pins:List (Ev×Obj)}{σ:St}{H:Hp}{s:Rs}{a:Ev}(I:Inv X pins σ H s)(d:Yx H a) :
  s.TypeIs (.ref a) "dict"/\(∀b,Z4 a=.ref b->∃ob,s.heap.get? b=some ob/\ob.dict=none)/\(a==sysModules)=false:=by
 rcases d with ⟨kvs,e⟩ | ⟨kvs,e⟩
 ·obtain⟨_,hd,vs,_,dd⟩:=EW I.hok e
  refine⟨dd.typeIs,λb q=>?_,hd⟩;cases q;obtain⟨ob,_,_,h1,h2,_⟩:=dd;exact⟨ob,h1,h2.2.1⟩
 ·obtain⟨_,hd,xs,_,dd⟩:=FH I.hok e
  refine⟨dd.typeIs,λb q=>?_,hd⟩;cases q;obtain⟨ob,_,_,h1,h2,_⟩:=dd;exact⟨ob,h1,h2.2.1⟩
section
variable {X:Cx}{pins:List (Addr×Obj)}{σ:St}{H:Hp}{s:Shared}{a:Addr}{y d:V}{u r:Value}{o:Option V}{A:Around}{E:Value->Shared->Prop}
theorem WC{Q:FM->Rs->Prop}(hu:A.units+1<cLine)(I:Inv X pins σ H s)(g:DGet H a y o)(ry:RelV y u)(rd:RelV d r)(h:∀w' s',Inv X pins σ H s'->RelV (o.getD d) w'->Q w' s') :
  wpAny (model X.prog X.w) A (call (.builtin "dict.get") [.ref a,u,r]) Q E s:=by
 rcases g with ⟨kvs,k,e,ey,l⟩ | ⟨kvs,k,b,e,ey,eb,l⟩
 ·subst ey
  obtain⟨z,hd,vs,rel,dd⟩:=EW I.hok e;refine en PySem.F.slot_dict_get dd.typeIs PySem.F.entry_dict_get (PySem.F.args_dict_get_3 _ _ _) (meets_dict_get_default (Ay X.prog X.w) a (IV ry) hd r) ⟨_,dd.mapOf,h _ _ (I.tok _) ?_⟩;rw [l];exact(rel.val k).getD rd
 ·subst ey
  cases (show u=Z4 b from ry);obtain⟨z,hd,xs,rel,dd⟩:=FH I.hok e;refine en PySem.F.slot_dict_get dd.typeIs PySem.F.entry_dict_get (PySem.F.args_dict_get_3 _ _ _) (meetsH_dict_get_default (tupleKind (Ay X.prog X.w)) a b hd r) ⟨cB hu,k,xs,Gh I.hok eb,dd,h _ _ (I.tok _) ?_⟩;rw [l];exact(rel.val k).getD rd
end
noncomputable def VM(td ty tx:TE):TE:=λσ H Q=>td σ H λx H1=>∃a,x=.ref a/\Yx H1 a/\ty σ H1 λy H2=>tx σ H2 λz H3=>∃o,DGet H3 a y o/\Q (o.getD z) H3
section
variable {X:Cx}{o e f:Expr}{apos cpos:Pos}{td ty tx:TE}
theorem RP(hu:X.A.units+1<cLine)(ho:PE X o td)(he:PE X e ty)(hf:PE X f tx)(m:M2 X o "get" apos e f cpos):PE X (.Call (.Attribute o "get" apos) [e,f] [] cpos) (VM td ty tx):=by
 intro pins s σ H Q I h;refine wpAny_Call_method m.base m.few m.line PySem.F.plainAttrs_dict PySem.F.slot_dict_get PySem.F.type_dict_get (BV (ho pins s σ H _ I h) λu s1 ⟨x,H1,I1,rx,a,ex,d,q1⟩=>?_);subst ex;obtain rfl:u=Z4 a:=rx;obtain⟨t1,t2,_⟩:=Rt I1 d;refine⟨t1,t2,?_⟩;rw [m.trees]
 refine dB rfl (fT (b9 (BV (he pins s1 σ H1 _ I1 q1) λiv s2 ⟨y,H2,I2,ry,q2⟩ =>
  b9 (BV (hf pins s2 σ H2 _ I2 q2) λfv s3 ⟨z,H3,I3,rz,ov,g,q3⟩=>c5 ?_))))
 exact WC hu I3 g ry rz λw' s4 I4 rw'=>⟨_,H3,I4,rw',q3⟩
end
section
variable {X:Cx}{pins:List (Addr×Obj)}{σ:St}{H:Hp}{s:Shared}{a:Addr}{kvs:List (Key×V)}{A:Around}{E:Value->Shared->Prop}
end
section
variable {X:Cx}{pins:List (Addr×Obj)}{σ:St}{H:Hp}{s:Shared}{a:Addr}{y:V}{u:Value}{A:Around}{E:Value->Shared->Prop}
end
end L2
set_option maxHeartbeats 4000000
namespace L2
open PySem PySem.Spec PyProof.Rows
section
theorem Nq{env:Env}:∀(names:List (Str×bE)) (cs:List (Str×Ev)),(∀x,(x,Z8)∈names->∃c,env.cells.lookup x=some c)->(∀x c,cs.lookup x=some c->env.cells.lookup x=some c) ->
  ∃cl,(forIn names cs fun(x:Str×bE) (r:List (Str×Ev))=>(if (x.2==Z8)=true then do let a ← cellOf env x.1; pure (cC ((x.1,a)::r)) else pure (cC r):Sem (ForInStep (List (Str×Ev)))))=(pure cl:Sem _) /\
   (∀x c,cl.lookup x=some c->env.cells.lookup x=some c)/\(∀x,((x,Z8)∈names\/∃c,cs.lookup x=some c)->∃c,cl.lookup x=some c):=by
 intro names
 induction names with
 | nil =>
  intro cs _ h2;exact⟨cs,rfl,h2,λx hx=>hx.elim (λz=>absurd z (by simp)) λz=>z⟩
 | cons p r ih =>
  intro cs h1 h2;obtain⟨n,k⟩:=p
  by_cases hk:k=Z8
  ·subst hk
   obtain⟨c,hc⟩:=h1 n Re;have hcell:cellOf env n=pure c:=by simp only [cellOf,hc]
   obtain⟨cl,e,a,b⟩:=ih ((n,c)::cs) (λx hx=>h1 x (Sc _ hx)) (λx c' hx=>by
    rw [bN] at hx;cases hb:x==n with
    | true =>
     rw [hb] at hx;have hx':some c=some c':=hx;cases hx'
     have:x=n:=by simpa using hb
     rw [this]; exact hc
    | false=>rw [hb] at hx; exact h2 x c' hx)
   refine⟨cl,?_,a,λx hx=>b x ?_⟩
   ·rw [dS]
    simp only [beq_self_eq_true,if_true,hcell,pure_bind];exact e
   ·by_cases hxn:x=n
    ·subst hxn
     exact .inr ⟨c,by simp [bN]⟩
    ·rcases hx with hx | ⟨c',hx⟩
     ·rcases XV.mp hx with hx | hx
      ·cases hx; exact absurd rfl hxn
      ·exact .inl hx
     ·refine .inr ⟨c',?_⟩
      have:(x==n)=false:=by simpa using hxn
      rw [bN,this];exact hx
  ·have hk':(k==Z8)=false:=by simpa using hk
   obtain⟨cl,e,a,b⟩:=ih cs (λx hx=>h1 x (Sc _ hx)) h2;refine⟨cl,?_,a,λx hx=>b x ?_⟩
   ·rw [dS]
    simp only [hk',aS,if_false,pure_bind];exact e
   ·rcases hx with hx | hx
    ·rcases XV.mp hx with hx | hx
     ·cases hx; exact absurd rfl hk
     ·exact .inl hx
    ·exact .inr hx
theorem Np{scope:bQ}{env:Env}(h:∀x,(x,Z8)∈scope.names->∃c,env.cells.lookup x=some c) :
  ∃cl,closureFor scope env=pure cl/\(∀x c,cl.lookup x=some c->env.cells.lookup x=some c)/\(∀x,(x,Z8)∈scope.names->∃c,cl.lookup x=some c):=by
 obtain⟨cl,e,a,b⟩:=Nq scope.names [] h (λx c hx=>by simp at hx);refine⟨cl,?_,a,λx hx=>b x (.inl hx)⟩;simp only [closureFor];rw [e,pure_bind]
variable {prog:Program}{w:World}{A:Around}{E:Value->Shared->Prop}{R:Result->Shared->Prop}{s:Shared}
theorem LP{elt target iter:Zq}{ifs:List Zq}{scope:bQ}{pos:Pos}{it acc:FM}{env:Env}(I:Nat->Rs->Prop)
  (turn:∀n s,I n s->wpAny (model prog w) A (pyNext it) (λr s₁=>match r with
   | none=>R (.ok .next) s₁
   | some v=>wpAny (model prog w) A (letOwnedTupleGo target it v) (λ_ s₁'=>wpAny (model prog w) A (assign target env v) (λ_ s₂ =>
     wpAny (model prog w) A (forIn ifs true λc r=>if r=true then do let ok ← isTrue c env (eval c env); pure (cC ok) else pure (cC r)) (λok s₃ =>
      if ok=true then wpAny (model prog w) A (eval elt env) (λx s₄ =>
       wpAny (model prog w) A (call (.builtin "list.append") [acc,x]) (λ_ s₅=>∃m,m<n/\I m s₅) (λ_ _=>False) s₄) (λ_ _=>False) s₃
      else ∃m,m<n/\I m s₃) (λ_ _=>False) s₂) (λ_ _=>False) s₁') (λ_ _=>False) s₁) (λ_ _=>False) s)
  (n:Nat) (h:I n s) :
  codeAny (model prog w) A (.compLoop (.ListComp elt [⟨target,iter,ifs,0⟩] scope pos) 0 it acc env) R s:=by
 refine codeAny_loop rfl I (λn s hI=>?_) n h;show wpAny _ A ((compTurn (.ListComp elt [⟨target,iter,ifs,0⟩] scope pos) 0 it acc env).onRaise (λx=>do noteFrame x env; theTreesLotGoes x)) _ _ s;refine wpAny_noted ?_;rw [compTurn_list];refine Db (wpAny_standAt (Db (aJ (turn n s hI) (λr s₁ h₁=>?_) λ_ _ h'=>h'.elim)));cases r with
 | none=>exact TM h₁
 | some v =>
  refine Db (aJ h₁ (λ_ s₁' h₁'=>?_) λ_ _ h'=>h'.elim);refine Db (aJ h₁' (λ_ s₂ h₂=>Db (aJ h₂ (λok s₃ h₃=>?_) λ_ _ h'=>h'.elim)) λ_ _ h'=>h'.elim);cases ok with
  | false=>exact TM ⟨rfl,h₃⟩
  | true =>
   exact Db (Db (aJ h₃ (λx s₄ h₄=>Db (aJ h₄ (λ_ s₅ h₅=>TM (TM ⟨rfl,h₅⟩)) λ_ _ h'=>h'.elim)) λ_ _ h'=>h'.elim))
end
noncomputable def BD(X:Cx)(sc:bQ)(N':List Str)(cl:List (Str×Ev))(C:Ev)(s:Rs)(H:Hp)(ex:List Ev):Cx where
 prog:=X.prog
 w:=X.w
 K:=X.K
 mg:=X.mg
 base:=X.base
 A:=X.A
 N:=N'
 s₀:=s
 H₀:=H
 env:=compEnvC sc cl C X.env
 outer:=X.stack
 stack:=X.stack
 ex:=ex
 fn:=λ_=>false
 calm:=true
 pn:=[]
 xe:=λ_ _=>False
noncomputable def Cp(js:List (Option Nat))(σ:St):St:=js.map λo=>match o with
 | some i=>(σ[i]?).getD none
 | none=>none
noncomputable def Tr(o:Option bE):Bool:=match o with
 | some .cell=>true
 | some .free=>true
 | _=>false
theorem OY{o:Option bE}(h:Tr o=true):o=some .cell\/o=some .free:=by
 unfold Tr at h
 split at h
 ·exact .inl rfl
 ·exact .inr rfl
 ·cases h
noncomputable def isFree(o:Option bE):Bool:=match o with
 | some .free=>true
 | _=>false
theorem P4{o:Option bE}(h:isFree o=true):o=some .free:=by
 unfold isFree at h
 split at h
 ·rfl
 ·cases h
noncomputable def Ro(o:Option bE):Bool:=match o with
 | some .local=>true
 | _=>false
theorem Rn{o:Option bE}(h:Ro o=true):o=some .local:=by
 unfold Ro at h
 split at h
 ·rfl
 ·cases h
noncomputable def Rq(k:ScopeKind):Bool:=match k with
 | .function=>true
 | _=>false
theorem Rp{k:ScopeKind}(h:Rq k=true):k=.function:=by
 unfold Rq at h
 split at h
 ·rfl
 ·cases h
noncomputable def YT(sc esc:bQ)(p:Str×bE):Bool:=match p.2 with
 | .cell=>false
 | .free=>Tr (esc.names.lookup p.1)
 | .local=>Ro (sc.names.lookup p.1)
 | _=>true
noncomputable def Yj(x:Option Str)(y:Str):Bool:=match x with
 | some z=>z==y
 | none=>false
theorem V5{x:Option Str}{y:Str}(h:Yj x y=true):x=some y:=by
 unfold Yj at h
 split at h
 ·exact congrArg some (by simpa using h)
 ·cases h
noncomputable def F5(sc esc:bQ)(N:List Str):List Str->List (Option Nat)->Bool
 | [],[]=>true
 | x::xs,some j::js=>isFree (sc.names.lookup x)&&Yj (N[j]?) x&&Tr (esc.names.lookup x)&&F5 sc esc N xs js
 | _::xs,none::js=>F5 sc esc N xs js
 | _,_=>false
noncomputable def MY(sc esc:bQ)(N N':List Str)(js:List (Option Nat)):Bool:=Rq sc.kind&&sc.names.all (YT sc esc)&&F5 sc esc N N' js
theorem F4{sc esc:bQ}{N:List Str}:∀{N':List Str} {js:List (Option Nat)},F5 sc esc N N' js=true->js.length=N'.length
 | [],[],_=>rfl
 | x::xs,some j::js,h=>by
  unfold F5 at h;rw [Zl] at h;rw [Za,Za,F4 h.2]
 | x::xs,none::js,h=>by
  unfold F5 at h;rw [Za,Za,F4 h]
 | [],some _::_,h=>by unfold F5 at h; cases h
 | [],none::_,h=>by unfold F5 at h; cases h
 | _::_,[],h=>by unfold F5 at h; cases h
theorem LQ{sc esc:bQ}{N:List Str}:∀{N':List Str} {js:List (Option Nat)},F5 sc esc N N' js=true->∀{k:Nat} {x:Str} {j:Nat},N'[k]?=some x->js[k]?=some (some j) ->
  sc.names.lookup x=some .free/\N[j]?=some x/\(esc.names.lookup x=some .cell\/esc.names.lookup x=some .free)
 | [],_,_,k,x,j,h1,_=>by simp at h1
 | _::_,[],h,_,_,_,_,_=>by unfold F5 at h; cases h
 | y::ys,some i::js,h,k,x,j,h1,h2=>by
  unfold F5 at h;rw [Zl,Zl,Zl] at h;cases k with
  | zero =>
   simp at h1 h2;subst h1 h2;exact⟨P4 h.1.1.1,V5 h.1.1.2,OY h.1.2⟩
  | succ k=>exact LQ h.2 (k:=k) (by simpa using h1) (by simpa using h2)
 | y::ys,none::js,h,k,x,j,h1,h2=>by
  unfold F5 at h;cases k with
  | zero=>simp at h2
  | succ k=>exact LQ h (k:=k) (by simpa using h1) (by simpa using h2)
theorem Py{js:List (Option Nat)}{σ:St}{k:Nat}{v:V}(h:(Cp js σ)[k]?=some (some v)):∃j,js[k]?=some (some j)/\σ[j]?=some (some v):=by
 unfold Cp at h;rw [ZZ] at h;cases e:js[k]? with
 | none=>rw [e] at h; cases h
 | some o =>
  rw [e] at h;cases o with
  | none=>cases h
  | some j =>
   refine⟨j,rfl,?_⟩;have h':some ((σ[j]?).getD none)=some (some v):=h;have h2:=ZS h';cases q:σ[j]? with
   | none=>rw [q] at h2; cases h2
   | some w=>rw [q] at h2; exact congrArg some h2
theorem CT{env:Env}:∀{names:List (Str×bE)} {x:Str},names.lookup x=some .free ->
  (names.map fun(n,k)=>if (k==Z8&&env.scope.kind==.function&&env.kindOf n==some .cell) then (n,cR) else (n,k)).lookup x=some .cell \/
  (names.map fun(n,k)=>if (k==Z8&&env.scope.kind==.function&&env.kindOf n==some .cell) then (n,cR) else (n,k)).lookup x=some .free
 | [],_,h=>by simp at h
 | (n,k)::r,x,h=>by
  have ih:=@CT env r x;show List.lookup x ((if (k==Z8&&env.scope.kind==.function&&env.kindOf n==some .cell)=true then (n,cR) else (n,k))::_)=_\/List.lookup x ((if (k==Z8&&env.scope.kind==.function&&env.kindOf n==some .cell)=true then (n,cR) else (n,k))::_)=_
  by_cases hc:(k==Z8&&env.scope.kind==.function&&env.kindOf n==some .cell)=true
  ·rw [if_pos hc]
   cases hx:x==n with
   | true=>exact .inl (by simp only [bN,hx])
   | false =>
    simp only [bN,hx] at h ⊢;exact ih h
  ·rw [if_neg hc]
   cases hx:x==n with
   | true =>
    simp only [bN,hx] at h ⊢;exact .inr h
   | false =>
    simp only [bN,hx] at h ⊢;exact ih h
theorem NF{env:Env}{sc:bQ}(hcell:∀y∈sc.names,y.2≠.cell){x:Str}(h:(relabel sc env).names.lookup x=some .cell\/(relabel sc env).names.lookup x=some .free):(x,Z8)∈sc.names:=by
 have hm:(x,cR)∈(relabel sc env).names\/(x,Z8)∈(relabel sc env).names:=h.elim (λz=>.inl (PySem.mem_of_lookup z)) λz=>.inr (PySem.mem_of_lookup z)
 have go:∀k:bE,(k=.cell\/k=.free)->(x,k)∈(relabel sc env).names->(x,Z8)∈sc.names:=by
  intro k hk hmem;unfold relabel at hmem;obtain⟨⟨n,k0⟩,hn,e⟩:=TW.mp hmem
  by_cases hc:(k0==Z8&&env.scope.kind==.function&&env.kindOf n==some .cell)=true
  ·have e':(n,cR)=(x,k):=by
    have:=e
    simp only [hc,if_true] at this;exact this
   have hk0:k0=.free:=by
    rw [Zl,Zl] at hc
    simpa using hc.1.1
   cases e';subst hk0;exact hn
  ·have e':(n,k0)=(x,k):=by
    have:=e
    simp only [hc,if_false] at this;exact this
   cases e'
   rcases hk with rfl | rfl
   ·exact absurd rfl (hcell _ hn)
   ·exact hn
 exact hm.elim (go _ (.inl rfl)) (go _ (.inr rfl))
section
variable {X:Cx}{pins:List (Addr×Obj)}{σ:St}{H:Hp}{s:Shared}
structure CompOk (X:Cx) (sc:bQ) (N':List Str) (js:List (Option Nat)):Prop where
 kind:sc.kind=.function
 cell:∀y∈sc.names,y.2≠.cell
 free:∀x,(x,Z8)∈sc.names->X.env.scope.names.lookup x=some .cell\/X.env.scope.names.lookup x=some .free
 names:∀y∈sc.names,y.2=.local->sc.names.lookup y.1=some .local
 cap:F5 sc X.env.scope X.N N' js=true
theorem CompOk.of{sc:bQ}{N':List Str}{js:List (Option Nat)}(h:MY sc X.env.scope X.N N' js=true):CompOk X sc N' js:=by
 unfold MY at h;rw [Zl,Zl,bO] at h;obtain⟨⟨h1,h2⟩,h3⟩:=h;refine⟨Rp h1,λy hy e=>?_,λx hx=>?_,λy hy e=>?_,h3⟩
 ·have q:=h2 y hy
  unfold YT at q;rw [e] at q;cases q
 ·have q:=h2 _ hx
  exact OY q
 ·have q:=h2 y hy
  unfold YT at q;rw [e] at q;exact Rn q
theorem Ru{sc:bQ}{N':List Str}{js:List (Option Nat)}{cl:List (Str×Ev)}{fp:List Ev}{h₁:Zk}{tk:Nat}(I:Inv X pins σ H s)(hc:X.calm=true)(O:CompOk X sc N' js)
  (hcl:∀x c,cl.lookup x=some c->X.env.cells.lookup x=some c) (hcl2:∀x,(x,Z8)∈sc.names->∃c,cl.lookup x=some c)
  (hf:∀b∈fp,GN X pins H b) (ho:∀b∈fp,∃o,s.heap.get? b=some o)
  (hns:h₁.Ns (s.heap.objs.size+1) (λ_=>none)) (hk:∀b o,s.heap.get? b=some o->h₁.get? b=some o) (hD:∃n,h₁.get? s.heap.objs.size=some { cls:=.type "list",data:=.seq #[] n }) :
  Inv (BD X sc N' cl (s.heap.objs.size+1) s H fp) [] (Cp js σ) (Aw H s.heap.objs.size (.lst [])) { s with heap:=h₁,toks:=tk }:=by
 have fr:∀a,s.heap.objs.size<=a->H a=none:=λa ha=>I.hok.fresh ha
 have cellLt:∀x c,cl.lookup x=some c->c<s.heap.objs.size:=λx c e=>by
  obtain⟨v,q⟩:=I.cell x c (hcl x c e);exact q.lt
 have ok:(BD X sc N' cl (s.heap.objs.size+1) s H fp).Ok:=by
  refine⟨I.ok.mod,O.kind,I.ok.glob,I.ok.blt,a_ _,λx y c h1 h2=>I.ok.inj x y c (hcl x c h1) (hcl y c h2),λx hx=>?_,λx c hx=>?_,λ_=>I.ok.hd hc,I.ok.frames,.inl rfl,λb hb=>⟨?_,λx c e=>?_⟩,I.bs,Zu I.ok.bsz I.sz,λb o e hb=>?_,λb hb hb2=>?_,I.stack,I.stkFree⟩
  ·exact hcl2 x (NF (env:=X.env) O.cell hx)
  ·exact absurd (show false=true from hx) Ze
  ·obtain⟨o,e⟩:=ho b hb
   exact Zo (bJ (ZU e))
  ·exact(hf b hb).2.2.2.2.1 x c (hcl x c e)
  ·rcases (hf b hb).2.2.2.1 with z | z
   ·exact I.ok.noex b o e z
   ·have h1:b<X.base.objs.size:=ZU e
    exact absurd (Zv h1 (Zu I.ok.bsz z)) (aM _)
  ·rcases XV.mp (I.stkSub b hb2) with z | z
   ·exact(hf b hb).2.1 z
   ·exact(hf b hb).2.2.1 z
 refine⟨ok,rfl,I.bare,?_,⟨_,hns,λi x v h1 h2 h3=>?_⟩,λx c e=>?_,?_,λx c e=>?_,λp hp=>absurd (show p∈([]:List (Ev×Obj)) from hp) (by simp),?_,?_⟩
 ·exact Un.laid hk (Tk _) (fr _ (Tk _))
 ·obtain⟨j,e1,e2⟩:=Py h2
  obtain⟨c1,c2,c3⟩:=LQ O.cap h1 e1;obtain⟨m,_,hl⟩:=I.loc;obtain⟨u,r,l⟩:=hl j x v c2 e2 (.inr c3);refine⟨u,r,.inr ⟨CT c1,?_⟩⟩
  rcases l with ⟨l1,_⟩ | ⟨_,c,l2,l3⟩
  ·have l1':X.env.scope.names.lookup x=some .local:=l1
   rcases c3 with c3 | c3 <;> (rw [l1'] at c3; cases c3)
  ·obtain⟨c',e'⟩:=hcl2 x (PySem.mem_of_lookup c1)
   have:c'=c:=ZS ((hcl x c' e').symm.trans l2)
   subst this;obtain⟨oc,hoc,hocd⟩:=id l3;exact⟨c',e',oc,hk _ _ hoc,hocd⟩
 ·obtain⟨v,oc,hoc,hocd⟩:=I.cell x c (hcl x c e)
  exact⟨v,oc,hk _ _ hoc,hocd⟩
 ·show Aw H s.heap.objs.size (.lst []) (s.heap.objs.size+1)=none
  rw [AK (Nat.succ_ne_self _)];exact fr _ (a_ _)
 ·show Aw H s.heap.objs.size (.lst []) c=none
  rw [AK (Zo (cellLt x c e))];exact I.freeC x c (hcl x c e)
 ·refine I.hok.laid hk (Tk _) ?_
  obtain⟨n,e⟩:=hD;exact⟨Zi _,[],n,.nil,e⟩
 ·unfold Cp
  show (js.map _).length=N'.length;rw [On];exact F4 O.cap
theorem Un.but{fs ex:List Ev}{H H1:Hp}{h h1 h':Zk}{C:Ev}(u:Un fs ex H H1 h h1)(hC:h.get? C=none)(hs:∀b,b≠C->h'.get? b=h1.get? b):Un fs ex H H1 h h':=by
 have ne:∀{b:Ev} {o:Obj},h.get? b=some o->b≠C:=λ{b o} e z=>by rw [z,hC] at e; cases e
 refine⟨λb o e n h1 h2=>(hs b (ne e)).trans (u.keep b o e n h1 h2),λb o e n h1 h2=>?_,u.free,λb o e h1=>?_,u.tups,u.frzs,u.tbls⟩
 ·obtain⟨sl,q⟩:=u.slot b o e n h1 h2
  exact⟨sl,(hs b (ne e)).trans q⟩
 ·obtain⟨o',q⟩:=u.there b o e h1
  exact⟨o',(hs b (ne e)).trans q⟩
theorem Nf{sc:bQ}{N':List Str}{cl:List (Str×Ev)}{C:Ev}{fp:List Ev}{pins':List (Ev×Obj)}{σ':St}{H':Hp}{s':Rs}{h':Zk}(I:Inv X pins σ H s)(hf:∀b∈fp,GN X pins H b)(hC:s.heap.objs.size<=C)
  (J:Inv (BD X sc N' cl C s H fp) pins' σ' H' s') (hs:∀b,b≠C->h'.get? b=s'.heap.get? b):Inv X pins σ H' { s' with heap:=h' }:=by
 have nC:s.heap.get? C=none:=by
  cases e:s.heap.get? C with
  | none=>rfl
  | some o=>exact absurd (ZU e) (cx.mpr hC)
 have hC':H' C=none:=J.free;refine I.call' (s':={ s' with heap:=h' }) (ch:=fp) J.os (Un.but J.base nC hs) (λa o e=>?_) J.bare λb hb=>?_
 ·exact(J.hok a o e).stay (λb u hb q=>(hs b (λz=>by
   rw [z] at hb
   rcases hb with z2 | z2
   ·rw [← z2,hC'] at e; cases e
   ·rw [hC'] at z2; cases z2)).trans q) (λ_ q=>q) λ_ _ q=>q
 ·obtain⟨f0,f1,f2,f3,f4,f5⟩:=hf b hb
  exact⟨f3,f1,f4,f5⟩
end
noncomputable def Xv(X:Cx)(ifs:List Zq)(t:TT):Prop :=
 ∀(pins:List (Ev×Obj)) (s:Rs) (σ:St) (H:Hp) (Q:Bool->Hp->Prop),Inv X pins σ H s->t σ H Q ->
  wpAny (model X.prog X.w) X.A (forIn ifs true λc r=>if r=true then do let ok ← isTrue c X.env (eval c X.env); pure (cC ok) else pure (cC r)) (TP X pins σ Q) X.xe s
noncomputable def YJ:TT:=λ_ H Q=>Q true H
theorem TU{X:Cx}:Xv X [] YJ:=λpins s σ H Q I h=>wpAny_tests_nil ⟨H,I,h⟩
theorem TR{X:Cx}{c:Zq}{t:TT}(h:PT X c t):Xv X [c] t:=λpins s σ H Q I q=>wpAny_tests_one (h pins s σ H Q I q)
noncomputable def Wp(X:Cx)(sc:bQ)(N':List Str)(js:List (Option Nat))(tg elt:Zq)(ifs:List Zq)(wi:TI):TE:=λσ H Q=>wi σ H λJ H1=>∀l,H1 l=none->X.K.lookup l=none->∀cl C s H0 fp,∃(g:TG) (tt:TT) (te:TE) (W:Nat->Nat->St->Hp->Prop),
 PG (BD X sc N' cl C s H0 fp) tg g/\Xv (BD X sc N' cl C s H0 fp) ifs tt/\PE (BD X sc N' cl C s H0 fp) elt te/\(∃m,W 0 m (Cp js σ) (Aw H1 l (.lst [])))/\∀i m σ' H',W i m σ' H' ->
 (J.stop i H'/\Q (.ref l) H')\/(J.go i H'/\∀x H2,J.yld i H' x H2->g x σ' H2 λσ3 H3=>tt σ3 H3 λb H4=>if b=true then te σ3 H4 λy H5=>∃ys,H5 l=some (.lst ys)/\ys.length<sizeLine/\∃m',m'<m/\W (i+1) m' σ3 (Aw H5 l (.lst (ys++[y]))) else ∃m',m'<m/\W (i+1) m' σ3 H4)
section
variable {X:Cx}{tg elt iter:Expr}{ifs:List Expr}{sc:Scope}{pos:Pos}{N':List Str}{js:List (Option Nat)}{wi:TI}{g:TG}{tt:TT}{te:TE}
theorem QH{pins:List (Ev×Obj)}{σ:St}{H:Hp}{s:Rs}{cl:List (Str×Ev)}{C l it:Ev}{fp:List Ev}{tn:Nat->Zk->Prop}{J:It}{s3:Rs}{Q:VK}{R:Result->Rs->Prop}{W:Nat->Nat->St->Hp->Prop}{m0:Nat}{σ0:St}{H0:Hp}
  (I:Inv X pins σ H s) (hf:∀b∈fp,GN X pins H b) (hlt:∀b∈fp,b<s.heap.objs.size) (hC:s.heap.objs.size<=C)
  (T:Turn X.prog X.w X.K tg J fp it tn)
  (hg:PG (BD X sc N' cl C s H fp) tg g) (ht:Xv (BD X sc N' cl C s H fp) ifs tt) (he:PE (BD X sc N' cl C s H fp) elt te)
  (hW:∀i m σ' H',W i m σ' H' ->
   (J.stop i H'/\Q (.ref l) H')\/(J.go i H'/\∀x H2,J.yld i H' x H2->g x σ' H2 λσ3 H3=>tt σ3 H3 λb H4=>if b=true then te σ3 H4 λy H5=>∃ys,H5 l=some (.lst ys)/\ys.length<sizeLine/\∃m',m'<m/\W (i+1) m' σ3 (Aw H5 l (.lst (ys++[y]))) else ∃m',m'<m/\W (i+1) m' σ3 H4))
  (hR:∀σ' H' s',Inv (BD X sc N' cl C s H fp) [] σ' H' s'->Q (.ref l) H'->R (.ok .next) s')
  (I3:Inv (BD X sc N' cl C s H fp) [] σ0 H0 s3) (t3:tn 0 s3.heap) (f3:∀b∈fp,H0 b=none) (w0:W 0 m0 σ0 H0) :
  codeAny (model X.prog X.w) X.A (.compLoop (.ListComp elt [⟨tg,iter,ifs,0⟩] sc pos) 0 (.ref it) (.ref l) (compEnvC sc cl C X.env)) R s3:=by
 have stat:∀{H':Hp},(∀b∈fp,H' b=none)->∀b∈fp,GN (BD X sc N' cl C s H fp) [] H' b:=λhn b hb=>by
  have q:=I3.ok.exf b hb;refine⟨hn b hb,q.1,I3.ok.exfs b hb,.inl hb,q.2,λp hp=>absurd (show p∈([]:List (Ev×Obj)) from hp) (by simp)⟩
 refine LP (λn s'=>∃i σ' H',Inv (BD X sc N' cl C s H fp) [] σ' H' s'/\tn i s'.heap/\(∀b∈fp,H' b=none)/\W i n σ' H') ?_ m0 ⟨0,σ0,H0,I3,t3,f3,w0⟩;rintro n s4 ⟨i,σ4,H4,I4,st4,fr4,w4⟩
 rcases hW i n σ4 H4 w4 with ⟨stop,qn⟩ | ⟨go,step⟩
 ·refine BV (T.done (BD X sc N' cl C s H fp) rfl rfl rfl rfl i [] s4 σ4 H4 (λ_ _=>False) I4 (stat fr4) st4 stop) λr s5 ⟨hr,I5⟩=>?_
  subst hr;exact hR σ4 H4 s5 I5 qn
 ·refine BV (T.item (BD X sc N' cl C s H fp) rfl rfl rfl rfl i [] s4 σ4 H4 (λ_ _=>False) I4 (stat fr4) st4 go) λr s5 ⟨u,hr,h5⟩=>?_
  subst hr;refine BV h5 λ_ s6 ⟨x,H6,I6,r6,y6,st6,fr6⟩=>?_;have I6':=I6.pinned (stat fr6) (T.obj _ _ st6);refine BV (hg _ s6 σ4 H6 x u _ I6' r6 (step x H6 y6)) λ_ s7 ⟨σ7,H7,I7,q7⟩=>?_
  have again:∀{σ9:St} {H9:Hp} {s9:Rs} {m':Nat},Inv (BD X sc N' cl C s H fp) ([]++IJ fp s6.heap) σ9 H9 s9->m'<n->W (i+1) m' σ9 H9->∃m,m<n/\∃i σ' H',Inv (BD X sc N' cl C s H fp) [] σ' H' s9/\tn i s9.heap/\(∀b∈fp,H' b=none)/\W i m σ' H':=λ{σ9 H9 s9 m'} I9 hm w9=>by
   refine⟨m',hm,i+1,σ9,H9,I9.unpinned,T.keep _ _ _ st6 λb hb o e=>(I9.pin (b,o) (ZW _ (ZW _ (Dq hb e)))).1,λb hb=>?_,w9⟩;obtain⟨o,e,d⟩:=T.obj _ _ st6 b hb;exact(I9.pin (b,o) (ZW _ (ZW _ (Dq hb e)))).2.1
  refine BV (ht _ s7 σ7 H7 _ I7 q7) λok s8 ⟨H8,I8,q8⟩=>?_;cases ok with
  | false =>
   have q8':∃m',m'<n/\W (i+1) m' σ7 H8:=q8;obtain⟨m',hm,w8⟩:=q8';show ∃m,m<n/\_;exact again I8 hm w8
  | true =>
   refine BV (he _ s8 σ7 H8 _ I8 q8) λy s9 ⟨yv,H9,I9,ry,q9⟩=>?_;obtain⟨ys,hl,hz,m',hm,w9⟩:=q9;refine BV (BB (X:=BD X sc N' cl C s H fp) _ s9 σ7 H9 (.ref l) [yv] (.ref l) [y] (λv H'=>v=.non/\H'=Aw H9 l (.lst (ys++[yv]))) I9 rfl (.cons ry .nil) ⟨l,ys,yv,rfl,rfl,hl,hz,rfl,rfl⟩) λ_ sa ⟨v,Ha,Ia,_,_,eH⟩=>?_;subst eH;exact again Ia hm w9
theorem TY(hc:X.calm=true)(N':List Str)(js:List (Option Nat))(hi:PI X tg iter wi)
  (hB:MY sc X.env.scope X.N N' js=true)
  (hs:autoParam (∀x,foldedSetIterable iter X.env x=pure x) zau2._auto_1) :
  PE X (.ListComp elt [⟨tg,iter,ifs,0⟩] sc pos) (Wp X sc N' js tg elt ifs wi):=by
 intro pins s σ H Q I h;have O:CompOk X sc N' js:=CompOk.of hB;obtain⟨cl,hclos,hcl,hcl2⟩:=Np (scope:=sc) (env:=X.env) λx hx=>I.ok.has x (O.free x hx);rw [eval_ListComp];refine wpAny_comprehension_free (use:=none) rfl hs hclos O.kind O.names (BV (hi pins s σ H _ I h) λv s1 h1=>BV h1 λitv s2 h2=>?_);obtain⟨it,fp,tn,J,H2,e,I2,T,st2,f2,hq⟩:=h2;subst e
 have kfree:X.K.lookup s2.heap.objs.size=none:=by
  cases q:X.K.lookup s2.heap.objs.size with
  | none=>rfl
  | some o=>exact absurd (ZU (I2.kIn _ _ q)) (aM _)
 obtain⟨g,tt,te,W,hg,ht,he,⟨m0,w0⟩,hW⟩:=hq s2.heap.objs.size (I2.hok.fresh (Tk _)) kfree cl (s2.heap.objs.size+1) s2 H2 fp;refine aC (wpAny_newFunctionEnv O.cell (by intro y hy; simp at hy) (λh₁ hns₁ hsb₁=>?_) O.kind)
 dsimp only at hns₁ hsb₁ ⊢
 generalize hH2:s2.heap.push { cls:=.type "list",dict:=none,data:=.seq ([]:List FM).toArray }=Hh at hns₁ hsb₁ ⊢;have hCe:Hh.objs.size=s2.heap.objs.size+1:=by rw [← hH2,aX]
 have hlt:∀b∈fp,b<s2.heap.objs.size:=λb hb=>by
  obtain⟨o,e,_⟩:=T.obj _ _ st2 b hb;exact ZU e
 have old:∀b o,s2.heap.get? b=some o->h₁.get? b=some o:=λb o e=>hsb₁.extBut b o (by rw [hCe]; exact Zo (bJ (ZU e))) (Op _ (hH2▸Op _ e));have hD:∃n,h₁.get? s2.heap.objs.size=some { cls:=.type "list",data:=.seq #[] n }:=⟨_,hsb₁.extBut _ _ (by rw [hCe]; exact Zo (cL _)) (Op _ (hH2▸Uf _ rfl))⟩
 have I3:∀tk,Inv (BD X sc N' cl (s2.heap.objs.size+1) s2 H2 fp) [] (Cp js σ) (Aw H2 s2.heap.objs.size (.lst [])) { s2 with heap:=h₁,toks:=tk }:=λtk =>
  Ru I2 hc O hcl hcl2 f2 (λb hb=>let ⟨o,e,_⟩:=T.obj _ _ st2 b hb; ⟨o,e⟩) (by rw [← hCe]; exact hns₁) old hD
 have st3:tn 0 h₁:=T.keep _ _ _ st2 λb hb o e=>old b o e
 have fr3:∀b∈fp,Aw H2 s2.heap.objs.size (.lst []) b=none:=λb hb=>by
  rw [AK (Zo (hlt b hb))];exact(f2 b hb).1
 have loop:∀tk,codeAny (model X.prog X.w) X.A (.compLoop (.ListComp elt [⟨tg,iter,ifs,0⟩] sc pos) 0 (.ref it) (.ref s2.heap.objs.size) (compEnvC sc cl (s2.heap.objs.size+1) X.env))
   (compPost (model X.prog X.w) X.A X.xe none (EP X pins σ Q) (.ref s2.heap.objs.size) (s2.heap.objs.size+1)) { s2 with heap:=h₁,toks:=tk }:=λtk=>by
  refine QH (W:=W) (m0:=m0) (Q:=Q) I2 f2 hlt (a_ _) T hg ht he hW (λσ' H' s' J' q'=>?_) (I3 tk) st3 fr3 w0;obtain⟨m,hn,_⟩:=J'.loc;exact⟨m,hn,λh' hs'=>⟨.ref _,H',Nf I2 f2 (a_ _) J' λb hb=>hs'.2 b hb,rfl,q'⟩⟩
 rw [show (newEnv sc Hh.objs.size X.env.globals cl X.env.qual none .none (some X.env) builtinsNs).locals=s2.heap.objs.size+1 from hCe];show codeAny (model X.prog X.w) X.A (.compStart (.ListComp elt [⟨tg,iter,ifs,0⟩] sc pos) 0 (.ref it) (.ref s2.heap.objs.size) (compEnvC sc cl (s2.heap.objs.size+1) X.env)) _ _;exact codeAny_compStart_list (loop _) (T.self _ 0 _ _ _ st3 (loop _))
end
end L2
namespace L2
open PySem
structure ZP (B:Zk) (l:List Env) (a C:Ev) (dx:Option Ev) (h:Zk):Prop where
 stays:B.StaysIn h
 new:B.get? a=none
 frames:h.FunFrames B l
 obj:∃vs sl tb,h.get? a=some ⟨.ref C,dx,.fields vs,sl⟩/\vs[2]?=some .none/\vs[1]?=some tb/\(tb=.none\/∃T oT ts,tb=.ref T/\B.get? T=none/\T≠a/\h.get? T=some oT/\oT.data=.fields ts/\3<ts.size)
section
variable {M:Model}{A:Around}{E:Value->Shared->Prop}{s:Shared}{B:Heap}{env:Env}{outer l:List Env}{L a C:Addr}{dx:Option Addr}{Q:Unit->Shared->Prop}
end
section
variable {prog:Program}{w:World}{A:Around}{E:Value->Shared->Prop}{R:Result->Shared->Prop}{h:Heap}{g:Array GenState}{d:Drawn}{t:Nat}{os:OsState}
variable {nm q:Str}{C N f:Addr}{bs bm bmB:List Value}{hdct:Bool}{sn:List Str}{sub:List Value}{ab:Bool}{col:Option Bool}{dd:Option Addr}{k0 k1 k2 k3 k5:Option Value}{B newId initId:String}{of:Obj}
end
noncomputable def Xl:List FM:=[.type "ValueError",.type "Exception",.type "BaseException",.type "object"]
structure XC (K:Frag) (nm:Str) (C U:Ev):Prop where
 obj:∃q N bs sn sub ab col dd k0 k1 k2 k3 k5,K.lookup C=some (excClassObj nm q C N bs (.ref U::Xl) true sn sub ab col dd k0 k1 k2 k3 k5 "ValueError.__new__")
 up:∃q N bs sn sub ab col dd k0 k1 k2 k3 k5 hd,K.lookup U=some (excClassObj "ThinError" q U N bs Xl hd sn sub ab col dd k0 k1 k2 k3 k5 "ValueError.__new__")
 kp:keepIn K (.ref C)=true
 ga:PySem.W.findIn K (.ref C) "__getattribute__"=some (some (.builtin "BaseException.__getattribute__"))
 gt:PySem.W.findIn K (.ref C) "__getattr__"=some none
 sa:PySem.W.findIn K (.ref C) "__setattr__"=some (some (.builtin "object.__setattr__"))
 at_:nsIn K mainGlobals nm=some (some (.ref C))
 atU:nsIn K mainGlobals "ThinError"=some (some (.ref U))
 ca:PySem.W.findIn K (.ref C) "__class__"=some (some (.builtin "object.__class__"))
 nw:PySem.W.findIn K (.ref C) "word"=some none
 nn:PySem.W.findIn K (.ref C) "number"=some none
 nr:PySem.W.findIn K (.ref C) "row"=some none
section
variable {prog:Program}{w:World}{A:Around}{E:Value->Shared->Prop}{s:Shared}{K:Frag}{nm name:Str}{x C U:Addr}{v:Value}{R:Result->Shared->Prop}
end
section
variable {M:Model}{prog:Program}{w:World}{A:Around}{E:Value->Shared->Prop}{R:Result->Shared->Prop}{h:Heap}{g:Array GenState}{d:Drawn}{t:Nat}{os:OsState}
variable {K:Frag}{nm q:Str}{C U N f:Addr}{bs:List Value}{sn:List Str}{sub:List Value}{ab:Bool}{col:Option Bool}{dd:Option Addr}{k0 k1 k2 k3 k5:Option Value}{rest:List Value}
end
section
variable {prog:Program}{w:World}{A:Around}{E:Value->Shared->Prop}{s:Shared}
end
end L2
namespace L2
open PySem PySem.Spec PyProof.Rows
structure ZR (P:Zs) (w:Zz) (outer:List Env) (H:Hp) (s:Rs) (a C:Ev) (dx:Option Ev) (B:Zk) (H':Hp) (s':Rs):Prop where
 os:s'.os=s.os
 bare:cq s'.gens
 un:Un (Oa outer) [] H H' s.heap s'.heap
 hok:HOk P w H' B
 all:∀b o o',s.heap.get? b=some o->b∉Oa outer->s'.heap.get? b=some o'->B.get? b=some o'
 fly:ZP B outer a C dx s'.heap
 new:s.heap.objs.size<=a
 free:H' a=none
section
variable {P:Program}{w:World}{outer:List Env}{H H':Hp}{s s':Shared}{a C:Addr}{dx:Option Addr}{B h':Heap}
end
section
variable {X:Cx}{pins:List (Addr×Obj)}{σ:St}{H H':Hp}{s s':Shared}{a C:Addr}{dx:Option Addr}{B h':Heap}
end
noncomputable def XF(d:Ev)(fs:List (Str×V))(h:Zk):Prop:=∃mA,h.Ns1 d mA/\(∀f,RelO (fs.lookup f) (mA f))/\PySem.Within mA (fs.map (·.1))/\fs.length<=1000
section
variable {X:Cx}{pins:List (Addr×Obj)}{σ:St}{H:Hp}{s:Shared}{a C U:Addr}{nm f:Str}{A:Around}{E:Value->Shared->Prop}
end
section
variable {X:Cx}{o value:Expr}{nm f:Str}{C U:Addr}{pos pos':Pos}{ta tv:TE}
end
section
variable {X:Cx}{pins:List (Addr×Obj)}{σ:St}{H H1:Hp}{s s1:Shared}{a C U:Addr}{dx:Option Addr}{nm:Str}
end
section
variable {X:Cx}{pins:List (Addr×Obj)}{σ:St}{H:Hp}{s:Shared}{C U:Addr}{nm:Str}{R:XK}
end
section
variable {X:Cx}{pins:List (Addr×Obj)}{σ:St}{H:Hp}{s:Shared}{C U f:Addr}{nm k1 k2 p0 p1 p2:Str}{R:XK}{E:Value->Shared->Prop}{k:Nat}{fd:FuncData}{us:List Value}{v1 v2:V}{vs:List V}
end
section
variable {X:Cx}{st:Stmt}{rest:List Stmt}{t u:TSX}{te:TEX}{e:Expr}{es:List Expr}{ta:TA}{x nm k1 k2 p0 p1 p2:Str}{p pos cpos:Pos}{C U f:Addr}{k:Nat}{fd:FuncData}{ps:List Str}{sp:Sp}
end
section
variable {X:Cx}{A:Around}{pins:List (Addr×Obj)}{σ:St}{H:Hp}{s:Shared}
end
noncomputable def XT(C:Ev)(dx:Option Ev)(a:Ev)(u:HO):Prop:=∃vs sl,u=.frz ⟨.ref C,dx,.fields vs,sl⟩ (.own a)/\vs[2]?=some .none
section
variable {X:Cx}{i:Nat}{n x:Str}{np pos:Pos}{b₀:Stmt}{suite body:List Stmt}{rest:List ExceptHandler}{Dc U:Addr}{nm:Str}{th:TH}{ts:Addr->TS}{tb:TSX}
end
end L2
namespace Dp
open PySem PySem.Spec PyProof.Rows L2
inductive D where
 | non | bl (b:Bool) | int (i:Int) | str (x:Str) | tup (xs:List D) | lst (xs:List D) | dic (ks:List Key) (xs:List D) | fdi (ks:List Key) (xs:List D) | dit (ks:List (List Key)) (xs:List D)
 deriving Inhabited
noncomputable def NdT(M:Ev->Prop)(H:Hp)(a:Ev)(vs:List V):Prop:=H a=some (.tup vs)
noncomputable def NdL(M:Ev->Prop)(H:Hp)(a:Ev)(vs:List V):Prop:=¬M a/\H a=some (.lst vs)
noncomputable def NdD(M:Ev->Prop)(H:Hp)(a:Ev)(ks:List Key)(vs:List V):Prop:=¬M a/\H a=some (.dK (ks.zip vs))
noncomputable def NdF(M:Ev->Prop)(H:Hp)(a:Ev)(ks:List Key)(vs:List V):Prop:=∃o,¬M a/\H a=some (.frz o (.dK (ks.zip vs)))
noncomputable def NdU(M:Ev->Prop)(H:Hp)(a:Ev)(ks:List (List Key))(vs:List V):Prop:=¬M a/\H a=some (.dT (ks.zip vs))
mutual
noncomputable def At(K:Frag)(M:Ev->Prop)(H:Hp):D->V->Prop
 | .non,v=>v=.non
 | .bl b,v=>v=.bl b
 | .int i,v=>v=.int i
 | .str x,v=>v=.str x/\x.length<=sizeLine
 | .tup ds,v=>∃a vs,v=.ref a/\NdT M H a vs/\Ats K M H ds vs
 | .lst ds,v=>∃a vs,v=.ref a/\NdL M H a vs/\Ats K M H ds vs
 | .dic ks ds,v=>∃a vs,v=.ref a/\NdD M H a ks vs/\ks.length=ds.length/\Ats K M H ds vs
 | .fdi ks ds,v=>∃a vs,v=.ref a/\NdF M H a ks vs/\ks.length=ds.length/\Ats K M H ds vs
 | .dit ks ds,v=>∃a vs,v=.ref a/\NdU M H a ks vs/\ks.length=ds.length/\Ats K M H ds vs
noncomputable def Ats(K:Frag)(M:Ev->Prop)(H:Hp):List D->List V->Prop
 | [],vs=>vs=[]
 | d::ds,vs=>∃v r,vs=v::r/\At K M H d v/\Ats K M H ds r
end
section
variable {K:Frag}{M M':Addr->Prop}{H H':Hp}{a:Addr}{vs:List V}{ks:List Key}
theorem NdT.sq(h:NdT M H a vs):SqT K H a vs:=.inl (.inl h)
theorem NdL.sq(h:NdL M H a vs):SqL K H a vs:=.inl (.inl h.2)
noncomputable def Pres(M:Ev->Prop)(H:Hp)(M':Ev->Prop)(H':Hp):Prop:=(∀b o,H b=some o->¬M b->H' b=some o)/\(∀b,M' b->M b\/H b=none)/\∀b vs,H b=some (.tup vs)->H' b=some (.tup vs)
theorem Pres.nd{u:HO}(p:Pres M H M' H')(n:¬M a)(h:H a=some u):¬M' a/\H' a=some u:=by
 refine⟨λz=>?_,p.1 _ _ h n⟩
 rcases p.2.1 a z with z | z
 ·exact n z
 ·rw [z] at h; cases h
theorem NdT.pres(p:Pres M H M' H')(h:NdT M H a vs):NdT M' H' a vs:=p.2.2 _ _ h
theorem NdL.pres(p:Pres M H M' H')(h:NdL M H a vs):NdL M' H' a vs:=p.nd h.1 h.2
theorem NdD.pres(p:Pres M H M' H')(h:NdD M H a ks vs):NdD M' H' a ks vs:=p.nd h.1 h.2
theorem NdU.pres{ks:List (List Key)}(p:Pres M H M' H')(h:NdU M H a ks vs):NdU M' H' a ks vs:=p.nd h.1 h.2
theorem NdF.pres(p:Pres M H M' H')(h:NdF M H a ks vs):NdF M' H' a ks vs:=let ⟨o,h1,h2⟩:=h; ⟨o,p.nd h1 h2⟩
mutual
theorem At.pres(p:Pres M H M' H'):∀{d:D} {v:V},At K M H d v->At K M' H' d v
 | .non,v,h=>h
 | .bl b,v,h=>h
 | .int i,v,h=>h
 | .str x,v,h=>h
 | .tup ds,v,h=>by
  obtain⟨a,vs,e,hn,hs⟩:=h;exact⟨a,vs,e,hn.pres p,Ats.pres p hs⟩
 | .lst ds,v,h=>by
  obtain⟨a,vs,e,hn,hs⟩:=h;exact⟨a,vs,e,hn.pres p,Ats.pres p hs⟩
 | .dic ks ds,v,h=>by
  obtain⟨a,vs,e,hn,hl,hs⟩:=h;exact⟨a,vs,e,hn.pres p,hl,Ats.pres p hs⟩
 | .fdi ks ds,v,h=>by
  obtain⟨a,vs,e,hn,hl,hs⟩:=h;exact⟨a,vs,e,hn.pres p,hl,Ats.pres p hs⟩
 | .dit ks ds,v,h=>by
  obtain⟨a,vs,e,hn,hl,hs⟩:=h;exact⟨a,vs,e,hn.pres p,hl,Ats.pres p hs⟩
theorem Ats.pres(p:Pres M H M' H'):∀{ds:List D} {vs:List V},Ats K M H ds vs->Ats K M' H' ds vs
 | [],vs,h=>h
 | d::ds,vs,h=>by
  obtain⟨v,r,e,h1,h2⟩:=h;exact⟨v,r,e,At.pres p h1,Ats.pres p h2⟩
end
theorem Pres.trans{M1 M2 M3:Ev->Prop}{H1 H2 H3:Hp}(p:Pres M1 H1 M2 H2)(q:Pres M2 H2 M3 H3):Pres M1 H1 M3 H3:=by
 refine⟨λb o e n=>?_,λb z=>?_,λb vs e=>q.2.2 b vs (p.2.2 b vs e)⟩
 ·refine q.1 b o (p.1 b o e n) λz=>?_
  rcases p.2.1 b z with z | z
  ·exact n z
  ·rw [z] at e; cases e
 ·rcases q.2.1 b z with z | z
  ·exact p.2.1 b z
  ·cases e:H1 b with
   | none=>exact .inr rfl
   | some o =>
    by_cases n:M1 b
    ·exact .inl n
    ·rw [p.1 b o e n] at z; cases z
theorem Pres.refl(M:Ev->Prop)(H:Hp):Pres M H M H:=⟨λ_ _ e _=>e,λ_ z=>.inl z,λ_ _ e=>e⟩
theorem Pres.less(h:∀b,M' b->M b):Pres M H M' H:=⟨λ_ _ e _=>e,λb z=>.inl (h b z),λ_ _ e=>e⟩
theorem Ats.length:∀{ds:List D} {vs:List V},Ats K M H ds vs->vs.length=ds.length
 | [],vs,h=>by cases h; rfl
 | d::ds,vs,h=>by
  obtain⟨v,r,e,h1,h2⟩:=h;subst e;rw [Za,Za,Ats.length h2]
theorem Ats.get:∀{ds:List D} {vs:List V} {i:Nat} {d:D},Ats K M H ds vs->ds[i]?=some d->∃v,vs[i]?=some v/\At K M H d v
 | [],vs,i,d,h,e=>by simp at e
 | d0::ds,vs,0,d,h,e=>by
  obtain⟨v,r,e1,h1,h2⟩:=h;simp at e;subst e e1;exact⟨v,rfl,h1⟩
 | d0::ds,vs,i+1,d,h,e=>by
  obtain⟨v,r,e1,h1,h2⟩:=h;subst e1;obtain⟨u,e2,h3⟩:=Ats.get (i:=i) (d:=d) h2 (by simpa using e);exact⟨u,by simpa using e2,h3⟩
theorem Ats.append:∀{ds es:List D} {vs us:List V},Ats K M H ds vs->Ats K M H es us->Ats K M H (ds++es) (vs++us)
 | [],es,vs,us,h,g=>by cases h; exact g
 | d::ds,es,vs,us,h,g=>by
  obtain⟨v,r,e,h1,h2⟩:=h;subst e;exact⟨v,r++us,rfl,h1,Ats.append h2 g⟩
theorem Ats.drop:∀{ds:List D} {vs:List V} (n:Nat),Ats K M H ds vs->Ats K M H (ds.drop n) (vs.drop n)
 | ds,vs,0,h=>h
 | [],vs,n+1,h=>by cases h; exact rfl
 | d::ds,vs,n+1,h=>by
  obtain⟨v,r,e,h1,h2⟩:=h;subst e;exact Ats.drop n h2
theorem Ats.take:∀{ds:List D} {vs:List V} (n:Nat),Ats K M H ds vs->Ats K M H (ds.take n) (vs.take n)
 | ds,vs,0,h=>rfl
 | [],vs,n+1,h=>by cases h; exact rfl
 | d::ds,vs,n+1,h=>by
  obtain⟨v,r,e,h1,h2⟩:=h;subst e;exact⟨v,r.take n,rfl,h1,Ats.take n h2⟩
theorem Ats.one{d:D}{v:V}(h:At K M H d v):Ats K M H [d] [v]:=⟨v,[],rfl,h,rfl⟩
theorem Ats.eraseIdx:∀{ds:List D} {vs:List V} (i:Nat),Ats K M H ds vs->Ats K M H (ds.eraseIdx i) (vs.eraseIdx i)
 | [],vs,i,h=>by cases h; exact rfl
 | d0::ds,vs,0,h=>by
  obtain⟨u,r,e1,h1,h2⟩:=h;subst e1;exact h2
 | d0::ds,vs,i+1,h=>by
  obtain⟨u,r,e1,h1,h2⟩:=h;subst e1;exact⟨u,r.eraseIdx i,rfl,h1,Ats.eraseIdx i h2⟩
theorem Ats.reverse:∀{ds:List D} {vs:List V},Ats K M H ds vs->Ats K M H ds.reverse vs.reverse
 | [],vs,h=>by cases h; exact rfl
 | d::ds,vs,h=>by
  obtain⟨v,r,e,h1,h2⟩:=h;subst e;rw [bc,bc];exact Ats.append (Ats.reverse h2) (Ats.one h1)
end
inductive Kd where
 | sh | tp | fr
noncomputable def Tops(K:Frag)(M:Ev->Prop)(H:Hp)(a:Ev):D->Prop
 | .lst ds=>∃vs,H a=some (.lst vs)/\Ats K M H ds vs
 | .dic ks ds=>∃vs,H a=some (.dK (ks.zip vs))/\ks.length=ds.length/\Ats K M H ds vs
 | .dit ks ds=>∃vs,H a=some (.dT (ks.zip vs))/\ks.length=ds.length/\Ats K M H ds vs
 | _=>False
theorem Tops.notT{K:Frag}{M:Ev->Prop}{H:Hp}{a:Ev}{d:D}(h:Tops K M H a d){vs:List V}:H a≠some (.tup vs):=λq=>by
 cases d with
 | lst ds=>obtain⟨us,e,_⟩:=h; rw [e] at q; cases q
 | dic ks ds=>obtain⟨us,e,_⟩:=h; rw [e] at q; cases q
 | dit ks ds=>obtain⟨us,e,_⟩:=h; rw [e] at q; cases q
 | _=>exact h.elim
theorem Tops.pres{K:Frag}{M M':Ev->Prop}{H H':Hp}{a:Ev}{d:D}(h:Tops K M H a d)(p:Pres M H M' H')(e:∀o,H a=some o->H' a=some o):Tops K M' H' a d:=by
 cases d with
 | lst ds=>obtain⟨vs,h1,h2⟩:=h; exact⟨vs,e _ h1,h2.pres p⟩
 | dic ks ds=>obtain⟨vs,h1,h2,h3⟩:=h; exact⟨vs,e _ h1,h2,h3.pres p⟩
 | dit ks ds=>obtain⟨vs,h1,h2,h3⟩:=h; exact⟨vs,e _ h1,h2,h3.pres p⟩
 | _=>exact(show False from h).elim
theorem Tops.at{K:Frag}{M:Ev->Prop}{H:Hp}{a:Ev}{d:D}(h:Tops K M H a d)(n:¬M a):At K M H d (.ref a):=by
 cases d with
 | lst ds=>obtain⟨vs,h1,h2⟩:=h; exact⟨a,vs,rfl,⟨n,h1⟩,h2⟩
 | dic ks ds=>obtain⟨vs,h1,h2,h3⟩:=h; exact⟨a,vs,rfl,⟨n,h1⟩,h2,h3⟩
 | dit ks ds=>obtain⟨vs,h1,h2,h3⟩:=h; exact⟨a,vs,rfl,⟨n,h1⟩,h2,h3⟩
 | _=>exact(show False from h).elim
noncomputable def AtT(K:Frag)(U:Ev->Prop)(M:Ev->Prop)(H:Hp):D->V->Prop
 | .lst ds,v=>∃a vs,v=.ref a/\¬U a/\Rd H a (.lst vs)/\Ats K M H ds vs
 | .dic ks ds,v=>∃a vs,v=.ref a/\¬U a/\H a=some (.dK (ks.zip vs))/\ks.length=ds.length/\Ats K M H ds vs
 | .dit ks ds,v=>∃a vs,v=.ref a/\¬U a/\Rd H a (.dT (ks.zip vs))/\ks.length=ds.length/\Ats K M H ds vs
 | d,v=>At K M H d v
theorem Tops.att{K:Frag}{U M:Ev->Prop}{H:Hp}{a:Ev}{d:D}(h:Tops K M H a d)(n:¬U a):AtT K U M H d (.ref a):=by
 cases d with
 | lst ds=>obtain⟨vs,h1,h2⟩:=h; exact⟨a,vs,rfl,n,.inl h1,h2⟩
 | dic ks ds=>obtain⟨vs,h1,h2,h3⟩:=h; exact⟨a,vs,rfl,n,h1,h2,h3⟩
 | dit ks ds=>obtain⟨vs,h1,h2,h3⟩:=h; exact⟨a,vs,rfl,n,.inl h1,h2,h3⟩
 | _=>exact(show False from h).elim
noncomputable def TopsF(K:Frag)(M:Ev->Prop)(H:Hp)(a:Ev):D->Prop
 | .dit ks ds=>∃o vs,H a=some (.frz o (.dT (ks.zip vs)))/\ks.length=ds.length/\Ats K M H ds vs
 | d=>Tops K M H a d
noncomputable def J4:D->Bool
 | .dit _ _=>true
 | _=>false
theorem TopsF.of{K:Frag}{M:Ev->Prop}{H:Hp}{a:Ev}{d:D}(h:J4 d=false):TopsF K M H a d=Tops K M H a d:=by
 cases d <;> first | rfl | cases h
theorem TopsF.notT{K:Frag}{M:Ev->Prop}{H:Hp}{a:Ev}{d:D}(h:TopsF K M H a d)(vs:List V):H a≠some (.tup vs):=by
 cases c:J4 d with
 | false=>rw [TopsF.of c] at h; exact h.notT
 | true =>
  cases d with
  | dit ks ds=>obtain⟨o,us,e,_⟩:=h; intro q; rw [e] at q; cases q
  | _=>cases c
theorem TopsF.pres{K:Frag}{M M':Ev->Prop}{H H':Hp}{a:Ev}{d:D}(h:TopsF K M H a d)(p:Pres M H M' H')(e:∀o,H a=some o->H' a=some o):TopsF K M' H' a d:=by
 cases c:J4 d with
 | false=>rw [TopsF.of c] at h ⊢; exact h.pres p e
 | true =>
  cases d with
  | dit ks ds=>obtain⟨o,vs,h1,h2,h3⟩:=h; exact⟨o,vs,e _ h1,h2,h3.pres p⟩
  | _=>cases c
theorem TopsF.att{K:Frag}{U M:Ev->Prop}{H:Hp}{a:Ev}{d:D}(h:TopsF K M H a d)(n:¬U a):AtT K U M H d (.ref a):=by
 cases c:J4 d with
 | false=>rw [TopsF.of c] at h; exact h.att n
 | true =>
  cases d with
  | dit ks ds=>obtain⟨o,vs,h1,h2,h3⟩:=h; exact⟨a,vs,rfl,n,.inr ⟨o,h1⟩,h2,h3⟩
  | _=>cases c
noncomputable def VR(K:Frag)(U:Ev->Prop)(M:Ev->Prop)(H H':Hp):Kd->V->D->Prop
 | .sh,v,d=>At K M H' d v
 | .tp,v,d=>AtT K U M H' d v
 | .fr,v,d=>∃a,v=.ref a/\H a=none/\Tops K (λb=>M b\/b=a) H' a d
mutual
noncomputable def D7:D->Bool
 | .tup ds=>Bi ds
 | .lst ds=>Bi ds
 | .dic _ _=>false
 | .fdi _ _=>false
 | .dit _ _=>false
 | _=>true
noncomputable def Bi:List D->Bool
 | []=>true
 | d::ds=>D7 d&&Bi ds
end
mutual
noncomputable def flat:D->Bool
 | .tup ds=>B7 ds
 | .lst _=>false
 | .dic _ _=>false
 | .fdi _ _=>false
 | .dit _ _=>false
 | _=>true
noncomputable def B7:List D->Bool
 | []=>true
 | d::ds=>flat d&&B7 ds
end
section
variable {K:Frag}{M M':Addr->Prop}{H:Hp}
mutual
theorem Tu:∀(d:D) {v:V},flat d=true->At K M H d v->At K M' H d v
 | .non,_,_,h=>h
 | .bl _,_,_,h=>h
 | .int _,_,_,h=>h
 | .str _,_,_,h=>h
 | .tup ds,_,f,⟨a,vs,e,n,h⟩=>⟨a,vs,e,n,IZ ds f h⟩
 | .lst _,_,f,_=>by cases f
 | .dic _ _,_,f,_=>by cases f
 | .fdi _ _,_,f,_=>by cases f
 | .dit _ _,_,f,_=>by cases f
theorem IZ:∀(ds:List D) {vs:List V},B7 ds=true->Ats K M H ds vs->Ats K M' H ds vs
 | [],_,_,h=>h
 | d::ds,_,f,⟨v,r,e,h,hs⟩=>⟨v,r,e,Tu d (Zl _ _▸f:_/\_).1 h,IZ ds (Zl _ _▸f:_/\_).2 hs⟩
end
end
mutual
theorem Tt:∀(d:D),flat d=true->D7 d=true
 | .non,_=>rfl
 | .bl _,_=>rfl
 | .int _,_=>rfl
 | .str _,_=>rfl
 | .tup ds,f=>IY (ds:=ds) f
 | .lst _,f=>by cases f
 | .dic _ _,f=>by cases f
 | .fdi _ _,f=>by cases f
 | .dit _ _,f=>by cases f
theorem IY:∀{ds:List D},B7 ds=true->Bi ds=true
 | [],_=>rfl
 | d::ds,f=>by
  have f:=(Zl _ _▸f:_/\_);show (D7 d&&Bi ds)=true;rw [Tt d f.1,IY f.2];rfl
end
structure Fd where
 a:Ev
 b:Ev
 t:Option (Nat->List Key->List D->Prop)
noncomputable def X0(M:Ev->Prop)(H:Hp)(f:Fd)(n:Nat):Prop :=
 ∃(at_ rest:Int) (cells:List Int),H f.1=some (.lst [.ref f.2,.int at_,.int rest])/\f.2≠f.1/\NdL M H f.2 (cells.map V.int)/\cells.length<=63/\0<=at_/\at_+n<=2 ^ 60
noncomputable def U2(K:Frag)(M:Ev->Prop)(H:Hp)(a:Ev)(S:Nat->List Key->List D->Prop)(n:Nat):Prop:=∃ks ds vs,H a=some (.dK (ks.zip vs))/\ks.length=ds.length/\Ats K M H ds vs/\S n ks ds/\B7 ds=true
noncomputable def FeedOk(K:Frag)(M:Ev->Prop)(H:Hp)(f:Fd)(n:Nat):Prop:=f.t=none/\X0 M H f n\/∃S,f.t=some S/\U2 K M H f.1 S n
noncomputable def FeedC(K:Frag)(F:Option Fd)(M:Ev->Prop)(H:Hp)(n:Nat):Prop:=∀f,F=some f->FeedOk K M H f n
noncomputable def Ext(U:Ev->Prop)(H H':Hp):Prop:=∀b o,H b=some o->∃o',H' b=some o'/\(¬U b->o'=o)/\∀vs,o=.tup vs->o'=o
theorem Ext.keep{U:Ev->Prop}{H H':Hp}(p:Ext U H H'){b:Ev}{o:HO}(e:H b=some o)(n:¬U b):H' b=some o:=by
 obtain⟨o',q,r,_⟩:=p b o e;rw [q,r n]
theorem Ext.tup{U:Ev->Prop}{H H':Hp}(p:Ext U H H'){b:Ev}{vs:List V}(e:H b=some (.tup vs)):H' b=some (.tup vs):=by
 obtain⟨o',q,_,r⟩:=p b _ e;rw [q,r vs rfl]
theorem Ext.free{U:Ev->Prop}{H H':Hp}(p:Ext U H H'){b:Ev}(e:H' b=none):H b=none:=by
 cases q:H b with
 | none=>rfl
 | some o =>
  obtain⟨o',z,_⟩:=p b o q;rw [e] at z; cases z
theorem Ext.refl(U:Ev->Prop)(H:Hp):Ext U H H:=λ_ o e=>⟨o,e,λ_=>rfl,λ_ _=>rfl⟩
theorem Ext.trans{U:Ev->Prop}{H1 H2 H3:Hp}(p:Ext U H1 H2)(q:Ext U H2 H3):Ext U H1 H3:=λb o e=>by
 obtain⟨o',e1,r1,t1⟩:=p b o e;obtain⟨o2,e2,r2,t2⟩:=q b o' e1;exact⟨o2,e2,λn=>(r2 n).trans (r1 n),λvs z=>(t2 vs ((t1 vs z).trans z)).trans (t1 vs z)⟩
noncomputable def Grow(H H':Hp):Prop:=H'=H\/∃p o,H p=none/\H'=Aw H p o
theorem Grow.all{H H':Hp}(g:Grow H H'):∀b o,H b=some o->H' b=some o:=by
 intro b o e
 rcases g with rfl | ⟨p,u,n,rfl⟩
 ·exact e
 ·rw [AK (Ag e n)]; exact e
theorem Grow.refl{H:Hp}:Grow H H:=.inl rfl
theorem Grow.ext{U:Ev->Prop}{H H':Hp}(g:Grow H H'):Ext U H H':=λb o e=>⟨o,g.all b o e,λ_=>rfl,λ_ _=>rfl⟩
theorem Grow.pres{M:Ev->Prop}{H H':Hp}(g:Grow H H'):Pres M H M H':=⟨λb o e _=>g.all b o e,λ_ z=>.inl z,λb vs e=>g.all b _ e⟩
theorem FeedOk.pres{K:Frag}{M M':Ev->Prop}{H H':Hp}{f:Fd}{n:Nat}(h:FeedOk K M H f n)(p:Pres M H M' H')(e:∀o,H f.1=some o->H' f.1=some o):FeedOk K M' H' f n:=by
 rcases h with ⟨t,a,r,cs,h1,h2,h3,h4⟩ | ⟨S,t,ks,ds,vs,h1,h2,h3,h4⟩
 ·exact .inl ⟨t,a,r,cs,e _ h1,h2,h3.pres p,h4⟩
 ·exact .inr ⟨S,t,ks,ds,vs,e _ h1,h2,h3.pres p,h4⟩
theorem FeedC.pres{K:Frag}{F:Option Fd}{M M':Ev->Prop}{H H':Hp}{n:Nat}(h:FeedC K F M H n)(p:Pres M H M' H')(e:∀f o,F=some f->H f.1=some o->H' f.1=some o):FeedC K F M' H' n:=λf hf=>(h f hf).pres p λo q=>e f o hf q
theorem FeedC.grow{K:Frag}{F:Option Fd}{M:Ev->Prop}{H H':Hp}{n:Nat}(h:FeedC K F M H n)(g:Grow H H'):FeedC K F M H' n:=h.pres g.pres λf o _ e=>g.all f.1 o e
theorem FeedC.more{K:Frag}{F:Option Fd}{M:Ev->Prop}{H:Hp}{n:Nat}(h:FeedC K F M H n)(a:Ev)(ha:∀f,F=some f->f.t=none->f.2≠a):FeedC K F (λb=>M b\/b=a) H n:=λf hf=>by
 rcases h f hf with ⟨t,x,r,cs,h1,h2,h3,h4⟩ | ⟨S,t,ks,ds,vs,h1,h2,h3,h4⟩
 ·exact .inl ⟨t,x,r,cs,h1,h2,⟨λz=>z.elim h3.1 (ha f hf t),h3.2⟩,h4⟩
 ·exact .inr ⟨S,t,ks,ds,vs,h1,h2,IZ ds h4.2 h3,h4⟩
noncomputable def AtX(K:Frag)(M:Ev->Prop)(H:Hp)(a:Ev)(nm:Str)(ks:List Str)(ds:List D):Prop:=∃C U dx u vs,XC K nm C U/\(¬M a/\H a=some u)/\XT C dx a u/\(dx=none/\ks=[]/\vs=[]\/∃d,dx=some d/\¬M d/\H d=some (.ext (XF d (ks.zip vs))))/\ks.length=ds.length/\Ats K M H ds vs
theorem AtX.pres{K:Frag}{M M':Ev->Prop}{H H':Hp}{a:Ev}{nm:Str}{ks:List Str}{ds:List D}(h:AtX K M H a nm ks ds)(p:Pres M H M' H'):AtX K M' H' a nm ks ds:=by
 obtain⟨C,U,dx,u,vs,c,⟨n,ha⟩,x,hd,hl,hs⟩:=h;refine⟨C,U,dx,u,vs,c,p.nd n ha,x,?_,hl,hs.pres p⟩
 rcases hd with z | ⟨d,e1,n1,h1⟩
 ·exact .inl z
 ·exact .inr ⟨d,e1,p.nd n1 h1⟩
inductive Slot where
 | no | sh (d:D) | br (d:D) | fd | ow (d:D) | lt (a:Ev) (d:D) | ex (a:Ev) (nm:Str) (ks:List Str) (ds:List D) | wd (S:Nat->List Key->List D->Prop)
noncomputable def Slot.owns:Slot->Bool
 | .ow _=>true
 | .lt _ _=>true
 | _=>false
noncomputable def SlotOk(K:Frag)(F:Option Fd)(U:Ev->Prop)(M:Ev->Prop)(H:Hp):Slot->Option V->Prop
 | .no,_=>True
 | .sh d,o=>∃v,o=some v/\At K M H d v
 | .br d,o=>∃v,o=some v/\AtT K U M H d v
 | .fd,o=>∃f,o=some (.ref f.1)/\F=some f/\f.t=none
 | .wd S,o=>∃f,o=some (.ref f.1)/\F=some f/\f.t=some S
 | .ow d,o=>∃a,o=some (.ref a)/\M a/\¬U a/\Tops K M H a d
 | .lt a d,o=>o=some (.ref a)/\M a/\¬U a/\TopsF K M H a d
 | .ex a nm ks ds,o=>o=some (.ref a)/\AtX K M H a nm ks ds
structure Fm where
 M0:Ev->Prop
 F:Option Fd
 U:Ev->Prop
 V:Ev->Prop
 H0:Hp
 pins:List ((Ev->Prop)×Hp)
 kp:List (Ev×HO)
noncomputable def Apart(ρ:List Slot)(σ:L2.St):Prop:=∀(i j:Nat) (s t:Slot) (a:Ev),ρ[i]?=some s->s.owns=true->ρ[j]?=some t->t.owns=true->(σ[i]?).getD none=some (.ref a)->(σ[j]?).getD none=some (.ref a)->i=j
structure Rel (K:Frag) (C:Fm) (M:Ev->Prop) (H:Hp) (n:Nat) (ρ:List Slot) (σ:L2.St):Prop where
 len:ρ.length=σ.length
 sub:∀a,C.M0 a->M a
 dom:∀a,M a->∃o,H a=some o
 ext:Ext C.U C.H0 H
 fU:∀f,C.F=some f->C.U f.1
 uV:∀a,C.U a->C.V a
 vM:∀a,C.V a->M a
 feed:FeedC K C.F M H n
 sl:∀(i:Nat) (s:Slot),ρ[i]?=some s->SlotOk K C.F C.V M H s ((σ[i]?).getD none)
 pin:∀p∈C.pins,Pres p.1 p.2 M H
 br0:∀(i:Nat) (d:D) (a:Ev),ρ[i]?=some (.br d)->(σ[i]?).getD none=some (.ref a)->∃o,C.H0 a=some o
 new:∀(i:Nat) (s:Slot) (a:Ev),ρ[i]?=some s->s.owns=true->(σ[i]?).getD none=some (.ref a)->¬C.M0 a/\C.H0 a=none
 two:Apart ρ σ
 kept:∀p∈C.kp,H p.1=some p.2/\M p.1/\¬C.V p.1/\∀(i:Nat) (d:D),ρ[i]?=some (.ow d)->(σ[i]?).getD none≠some (.ref p.1)
section
variable {K:Frag}{C:Fm}{M:Addr->Prop}{H H':Hp}{n n':Nat}{ρ:List Slot}{σ:L2.St}{d:D}{v:V}{κ:Kd}
theorem Rel.pres(R:Rel K C M H n ρ σ)(e:Ext C.U H H'):Pres M H M H':=⟨λb o q nb=>e.keep q λz=>nb (R.vM b (R.uV b z)),λ_ z=>.inl z,λb vs q=>e.tup q⟩
theorem AtT.pres{U V':Ev->Prop}{M':Ev->Prop}(h:AtT K V' M H d v)(p:Pres M H M' H')(e:Ext U H H')(uV:∀a,U a->V' a):AtT K V' M' H' d v:=by
 cases d with
 | lst ds =>
  obtain⟨a,vs,e1,n1,hq,hs⟩:=h;refine⟨a,vs,e1,n1,?_,hs.pres p⟩
  rcases hq with hq | ⟨o,hq⟩
  ·exact .inl (e.keep hq λz=>n1 (uV a z))
  ·exact .inr ⟨o,e.keep hq λz=>n1 (uV a z)⟩
 | dic ks ds =>
  obtain⟨a,vs,e1,n1,hq,hl,hs⟩:=h;exact⟨a,vs,e1,n1,e.keep hq λz=>n1 (uV a z),hl,hs.pres p⟩
 | dit ks ds =>
  obtain⟨a,vs,e1,n1,hq,hl,hs⟩:=h;exact⟨a,vs,e1,n1,hq.imp (λh=>e.keep h λz=>n1 (uV a z)) fun⟨o,h⟩=>⟨o,e.keep h λz=>n1 (uV a z)⟩,hl,hs.pres p⟩
 | non=>exact At.pres (K:=K) p (d:=.non) h
 | bl b=>exact At.pres (K:=K) p (d:=.bl b) h
 | int i=>exact At.pres (K:=K) p (d:=.int i) h
 | str x=>exact At.pres (K:=K) p (d:=.str x) h
 | tup ds=>exact At.pres (K:=K) p (d:=.tup ds) h
 | fdi ks ds=>exact At.pres (K:=K) p (d:=.fdi ks ds) h
theorem AtT.same{U V':Ev->Prop}{M':Ev->Prop}(h:AtT K U M H d v)(p:Pres M H M' H')(e:∀a o,v=.ref a->H a=some o->H' a=some o)(nv:∀a,v=.ref a->¬U a->¬V' a):AtT K V' M' H' d v:=by
 cases d with
 | lst ds =>
  obtain⟨a,vs,e1,n1,hq,hs⟩:=h;refine⟨a,vs,e1,nv a e1 n1,?_,hs.pres p⟩
  rcases hq with hq | ⟨o,hq⟩
  ·exact .inl (e a _ e1 hq)
  ·exact .inr ⟨o,e a _ e1 hq⟩
 | dic ks ds =>
  obtain⟨a,vs,e1,n1,hq,hl,hs⟩:=h;exact⟨a,vs,e1,nv a e1 n1,e a _ e1 hq,hl,hs.pres p⟩
 | dit ks ds =>
  obtain⟨a,vs,e1,n1,hq,hl,hs⟩:=h;exact⟨a,vs,e1,nv a e1 n1,hq.imp (λh=>e a _ e1 h) fun⟨o,h⟩=>⟨o,e a _ e1 h⟩,hl,hs.pres p⟩
 | non=>exact At.pres (K:=K) p (d:=.non) h
 | bl b=>exact At.pres (K:=K) p (d:=.bl b) h
 | int i=>exact At.pres (K:=K) p (d:=.int i) h
 | str x=>exact At.pres (K:=K) p (d:=.str x) h
 | tup ds=>exact At.pres (K:=K) p (d:=.tup ds) h
 | fdi ks ds=>exact At.pres (K:=K) p (d:=.fdi ks ds) h
theorem AtT.lies{U:Ev->Prop}{a:Ev}(h:AtT K U M H d (.ref a)):∃o,H a=some o:=by
 cases d with
 | lst ds =>
  obtain⟨b,vs,e,_,hq,_⟩:=h;cases e
  rcases hq with hq | ⟨o,hq⟩
  ·exact⟨_,hq⟩
  ·exact⟨_,hq⟩
 | dic ks ds =>
  obtain⟨b,vs,e,_,hq,_⟩:=h;cases e;exact⟨_,hq⟩
 | dit ks ds =>
  obtain⟨b,vs,e,_,hq,_⟩:=h;cases e
  rcases hq with hq | ⟨o,hq⟩
  ·exact⟨_,hq⟩
  ·exact⟨_,hq⟩
 | non=>cases (show V.ref a=.non from h)
 | bl b=>cases (show V.ref a=.bl b from h)
 | int i=>cases (show V.ref a=.int i from h)
 | str x=>cases (show V.ref a=.str x/\_ from h).1
 | tup ds =>
  obtain⟨b,vs,e,hq,_⟩:=h;cases e;exact⟨_,hq⟩
 | fdi ks ds =>
  obtain⟨b,vs,e,⟨o,_,hq⟩,_⟩:=h;cases e;exact⟨_,hq⟩
theorem SlotOk.pres{F:Option Fd}{U V' M':Ev->Prop}{s:Slot}{o:Option V}(h:SlotOk K F V' M H s o)(p:Pres M H M' H')(m:∀a,M a->M' a)(e:Ext U H H')(uV:∀a,U a->V' a):SlotOk K F V' M' H' s o:=by
 cases s with
 | no=>trivial
 | sh d=>obtain⟨v,e1,h1⟩:=h; exact⟨v,e1,h1.pres p⟩
 | ex a nm ks ds=>obtain⟨e1,h1⟩:=h; exact⟨e1,h1.pres p⟩
 | br d=>obtain⟨v,e1,h1⟩:=h; exact⟨v,e1,h1.pres p e uV⟩
 | fd=>exact h
 | wd S=>exact h
 | ow d=>obtain⟨a,e1,h1,h2,h3⟩:=h; exact⟨a,e1,m a h1,h2,h3.pres p λo q=>e.keep q λz=>h2 (uV a z)⟩
 | lt a d=>obtain⟨e1,h1,h2,h3⟩:=h; exact⟨e1,m a h1,h2,h3.pres p λo q=>e.keep q λz=>h2 (uV a z)⟩
theorem Rel.step(R:Rel K C M H n ρ σ)(e:Ext C.U H H')(f:FeedC K C.F M H' n'):Rel K C M H' n' ρ σ:=by
 have p:=R.pres e;refine⟨R.len,R.sub,λa z=>?_,R.ext.trans e,R.fU,R.uV,R.vM,f,λi s q=>(R.sl i s q).pres p (λ_ z=>z) e R.uV,λq hq=>(R.pin q hq).trans p,R.br0,R.new,R.two,λq hq=>?_⟩
 ·obtain⟨o,h1⟩:=R.dom a z
  obtain⟨o',h2,_⟩:=e a o h1;exact⟨o',h2⟩
 ·obtain⟨h1,h2,h3,h4⟩:=R.kept q hq
  exact⟨e.keep h1 λz=>h3 (R.uV _ z),h2,h3,h4⟩
theorem Rel.udom(R:Rel K C M H n ρ σ):∀a,C.U a->∃o,H a=some o:=λa z=>R.dom a (R.vM a (R.uV a z))
theorem At.tp{U:Ev->Prop}(uM:∀a,U a->M a)(h:At K M H d v):AtT K U M H d v:=by
 cases d with
 | lst ds =>
  obtain⟨a,vs,e,hn,hs⟩:=h;exact⟨a,vs,e,λz=>hn.1 (uM a z),.inl hn.2,hs⟩
 | dic ks ds =>
  obtain⟨a,vs,e,hn,hl,hs⟩:=h;exact⟨a,vs,e,λz=>hn.1 (uM a z),hn.2,hl,hs⟩
 | dit ks ds =>
  obtain⟨a,vs,e,hn,hl,hs⟩:=h;exact⟨a,vs,e,λz=>hn.1 (uM a z),.inl hn.2,hl,hs⟩
 | non=>exact h
 | bl b=>exact h
 | int i=>exact h
 | str x=>exact h
 | tup ds=>exact h
 | fdi ks ds=>exact h
theorem VR.back{U V':Ev->Prop}{H1:Hp}(e:Ext U H H1)(h:VR K V' M H1 H' κ v d):VR K V' M H H' κ v d:=by
 cases κ with
 | sh=>exact h
 | tp=>exact h
 | fr =>
  obtain⟨a,e1,h1,h2⟩:=h;exact⟨a,e1,e.free h1,h2⟩
theorem VR.shOf{U:Ev->Prop}(dom:∀a,M a->∃o,H a=some o)(h:VR K U M H H' κ v d)(hk:κ≠.tp):At K M H' d v:=by
 cases κ with
 | sh=>exact h
 | tp=>exact absurd rfl hk
 | fr =>
  obtain⟨a,rfl,h1,h2⟩:=h;refine(h2.pres (Pres.less (M':=M) λ_ z=>.inl z) λ_ z=>z).at λz=>?_;obtain⟨o,q⟩:=dom a z;rw [h1] at q; cases q
theorem VR.tpOf{U:Ev->Prop}(dom:∀a,M a->∃o,H a=some o)(uM:∀a,U a->M a)(h:VR K U M H H' κ v d):AtT K U M H' d v:=by
 cases κ with
 | sh=>exact At.tp uM h
 | tp=>exact h
 | fr=>exact At.tp uM (VR.shOf dom h (by intro z; cases z))
theorem EC{α:Type}{l:List α}{i j:Nat}{x y:α}(h:(l.set i x)[j]?=some y):(j=i/\i<l.length/\y=x)\/(j≠i/\l[j]?=some y):=by
 rw [eQ] at h
 by_cases e:i=j
 ·rw [if_pos e] at h
  by_cases hl:i<l.length
  ·rw [if_pos hl] at h
   exact .inl ⟨e.symm,hl,(ZS h).symm⟩
  ·rw [if_neg hl] at h; cases h
 ·rw [if_neg e] at h
  exact .inr ⟨λz=>e z.symm,h⟩
theorem Kj{l:L2.St}{i j:Nat}{x:Option V}(h:j≠i):((l.set i x)[j]?).getD none=(l[j]?).getD none:=by
 rw [eQ,if_neg (λz=>h z.symm)]
theorem Qv{l:L2.St}{i:Nat}{x:Option V}(h:i<l.length):((l.set i x)[i]?).getD none=x:=by
 rw [eQ,if_pos rfl,if_pos h];rfl
theorem Rel.set(R:Rel K C M H n ρ σ){i:Nat}(h:At K M H d v):Rel K C M H n (ρ.set i (.sh d)) (σ.set i (some v)):=by
 have two:∀(j:Nat) (s:Slot),(ρ.set i (.sh d))[j]?=some s->s.owns=true->ρ[j]?=some s/\((σ.set i (some v))[j]?).getD none=(σ[j]?).getD none:=λj s q o=>by
  rcases EC q with ⟨_,_,rfl⟩ | ⟨hj,q⟩
  ·cases o
  ·exact⟨q,Kj hj⟩
 refine⟨by rw [az,az]; exact R.len,R.sub,R.dom,R.ext,R.fU,R.uV,R.vM,R.feed,λj s q=>?_,R.pin,λj e a q q2=>?_,λj s a q o q2=>?_,λj k s t a q1 o1 q2 o2 z1 z2=>?_,λp hp=>?_⟩
 ·rcases EC q with ⟨rfl,hl,rfl⟩ | ⟨hj,q⟩
  ·rw [Qv (by rw [← R.len]; exact hl)]
   exact⟨v,rfl,h⟩
  ·rw [Kj hj]
   exact R.sl j s q
 ·rcases EC q with ⟨_,_,e⟩ | ⟨hj,q⟩
  ·cases e
  ·rw [Kj hj] at q2
   exact R.br0 j e a q q2
 ·obtain⟨q1,e⟩:=two j s q o
  rw [e] at q2;exact R.new j s a q1 o q2
 ·obtain⟨p1,e1⟩:=two j s q1 o1
  obtain⟨p2,e2⟩:=two k t q2 o2;rw [e1] at z1;rw [e2] at z2;exact R.two j k s t a p1 o1 p2 o2 z1 z2
 ·obtain⟨h1,h2,h3,h4⟩:=R.kept p hp
  refine⟨h1,h2,h3,λj e q=>?_⟩;obtain⟨q1,e2⟩:=two j _ q rfl;rw [e2];exact h4 j e q1
theorem Rel.owner(R:Rel K C M H n ρ σ){i:Nat}{s:Slot}(h:ρ[i]?=some s)(o:s.owns=true):∃a,(σ[i]?).getD none=some (.ref a)/\M a/\¬C.V a/\(∀vs,H a≠some (.tup vs))/\¬C.M0 a/\C.H0 a=none:=by
 have q:=R.sl i s h;cases s with
 | ow d=>obtain⟨a,e1,h1,h2,h3⟩:=q; exact⟨a,e1,h1,h2,λ_=>h3.notT,R.new i _ a h o e1⟩
 | lt a d=>obtain⟨e1,h1,h2,h3⟩:=q; exact⟨a,e1,h1,h2,h3.notT,R.new i _ a h o e1⟩
 | _=>cases o
theorem Rel.setOw(R:Rel K C M H n ρ σ){i:Nat}{a:Ev}(e:Ext C.U H H')(f:FeedC K C.F M H' n')(ha:H a=none)(h:Tops K (λb=>M b\/b=a) H' a d) :
  Rel K C (λb=>M b\/b=a) H' n' (ρ.set i (.ow d)) (σ.set i (some (.ref a))):=by
 have R1:=R.step e f
 have ne:∀b,M b->b≠a:=λb z q=>by
  obtain⟨o,w⟩:=R.dom b z;rw [q,ha] at w; cases w
 have a0:¬C.M0 a/\C.H0 a=none:=⟨λz=>ne a (R.sub a z) rfl,R.ext.free ha⟩;have pr:Pres M H (λb=>M b\/b=a) H':=⟨λb o q nb=>e.keep q λz=>nb (R.vM b (R.uV b z)),λb z=>z.elim .inl λz=>.inr (by rw [z]; exact ha),λb vs q=>e.tup q⟩
 have two:∀(j:Nat) (s:Slot),(ρ.set i (.ow d))[j]?=some s->(j=i/\s=.ow d/\((σ.set i (some (.ref a)))[j]?).getD none=some (.ref a))\/(j≠i/\ρ[j]?=some s/\((σ.set i (some (.ref a)))[j]?).getD none=(σ[j]?).getD none):=λj s q=>by
  rcases EC q with ⟨rfl,hl,rfl⟩ | ⟨hj,q⟩
  ·exact .inl ⟨rfl,rfl,Qv (by rw [← R.len]; exact hl)⟩
  ·exact .inr ⟨hj,q,Kj hj⟩
 have old:∀(j:Nat) (s:Slot) (b:Ev),ρ[j]?=some s->s.owns=true->(σ[j]?).getD none=some (.ref b)->b≠a:=λj s b q o z=>by
  obtain⟨c,e1,m,_⟩:=R.owner q o;rw [e1] at z;cases z;exact ne _ m
 have hd:∃o,H' a=some o:=by
  cases d with
  | lst ds=>obtain⟨vs,q,_⟩:=h; exact⟨_,q⟩
  | dic ks ds=>obtain⟨vs,q,_⟩:=h; exact⟨_,q⟩
  | dit ks ds=>obtain⟨vs,q,_⟩:=h; exact⟨_,q⟩
  | _=>exact(show False from h).elim
 refine⟨by rw [az,az]; exact R.len,λb z=>.inl (R.sub b z),λb z=>?_,R1.ext,R.fU,R.uV,λb z=>.inl (R.vM b z),f.more a (λg hg tg q=>?_),λj s q=>?_,λq hq=>(R.pin q hq).trans pr,λj e2 b q q2=>?_,λj s b q o q2=>?_,λj k s t b q1 o1 q2 o2 z1 z2=>?_,λp hp=>?_⟩
 ·rcases z with z | z
  ·exact R1.dom b z
  ·rw [z]; exact hd
 ·rcases R.feed g hg with ⟨_,_,_,_,_,_,h3,_⟩ | ⟨_,t2,_⟩
  ·have:=h3.2
   rw [q,ha] at this; cases this
  ·rw [tg] at t2; cases t2
 ·rcases two j s q with ⟨rfl,rfl,e1⟩ | ⟨hj,q1,e1⟩
  ·rw [e1]
   exact⟨a,rfl,.inr rfl,λz=>ne a (R.vM a z) rfl,h⟩
  ·rw [e1]
   exact(R.sl j s q1).pres pr (λ_ z=>.inl z) e R.uV
 ·rcases two j _ q with ⟨_,e1,_⟩ | ⟨hj,q1,e1⟩
  ·cases e1
  ·rw [e1] at q2
   exact R.br0 j e2 b q1 q2
 ·rcases two j s q with ⟨_,_,e1⟩ | ⟨hj,q1,e1⟩
  ·rw [e1] at q2
   cases q2;exact a0
  ·rw [e1] at q2
   exact R.new j s b q1 o q2
 ·rcases two j s q1 with ⟨rfl,_,e1⟩ | ⟨hj,p1,e1⟩
  ·rw [e1] at z1
   cases z1
   rcases two k t q2 with ⟨rfl,_,_⟩ | ⟨hk,p2,e2⟩
   ·rfl
   ·rw [e2] at z2
    exact absurd rfl (old k t a p2 o2 z2)
  ·rw [e1] at z1
   rcases two k t q2 with ⟨rfl,_,e2⟩ | ⟨hk,p2,e2⟩
   ·rw [e2] at z2
    cases z2;exact absurd rfl (old j s a p1 o1 z1)
   ·rw [e2] at z2
    exact R.two j k s t b p1 o1 p2 o2 z1 z2
 ·obtain⟨h1,h2,h3,h4⟩:=R1.kept p hp
  refine⟨h1,.inl h2,h3,λj e2 q=>?_⟩
  rcases two j _ q with ⟨_,_,e1⟩ | ⟨hj,q1,e1⟩
  ·rw [e1]
   intro z;cases z;exact ne _ h2 rfl
  ·rw [e1]
   exact h4 j e2 q1
theorem Rel.mutG(R:Rel K C M H n ρ σ){i:Nat}{a:Ev}{s0:Slot}{o:HO}(hi:ρ[i]?=some (.ow d))(ha:(σ[i]?).getD none=some (.ref a))(hw:s0.owns=true)(h:SlotOk K C.F C.V M (Aw H a o) s0 (some (.ref a))) :
  Rel K C M (Aw H a o) n (ρ.set i s0) σ:=by
 obtain⟨b,e1,m,nv,t,n0,h0⟩:=R.owner hi rfl;rw [ha] at e1;cases e1;have pr:Pres M H M (Aw H a o):=⟨λb o' q nb=>by rw [AK (λz=>nb (by rw [z]; exact m))]; exact q,λ_ z=>.inl z,λb vs q=>by rw [AK (λz=>t vs (by rw [← z]; exact q))]; exact q⟩
 have old:∀(j:Nat) (s:Slot),(ρ.set i s0)[j]?=some s->(j=i/\s=s0)\/(j≠i/\ρ[j]?=some s):=λj s q=>by
  rcases EC q with ⟨rfl,hl,rfl⟩ | ⟨hj,q⟩
  ·exact .inl ⟨rfl,rfl⟩
  ·exact .inr ⟨hj,q⟩
 have far:∀(j:Nat) (s:Slot) (b:Ev),j≠i->ρ[j]?=some s->s.owns=true->(σ[j]?).getD none=some (.ref b)->b≠a:=λj s b hj q o z w=>by
  subst w;exact hj (R.two j i s _ b q o hi rfl z ha)
 refine⟨by rw [az]; exact R.len,R.sub,λb z=>?_,λb o' q=>?_,R.fU,R.uV,R.vM,R.feed.pres pr λf o' hf q=>?_,λj s q=>?_,λq hq=>(R.pin q hq).trans pr,λj e2 b q q2=>?_,λj s b q o2 q2=>?_,λj k s t b q1 o1 q2 o2 z1 z2=>?_,λp hp=>?_⟩
 ·by_cases hb:b=a
  ·exact⟨o,by rw [hb,AT]⟩
  ·obtain⟨o',q⟩:=R.dom b z
   exact⟨o',by rw [AK hb]; exact q⟩
 ·obtain⟨o2,q2,r⟩:=R.ext b o' q
  have hb:b≠a:=λz=>by rw [z,h0] at q; cases q
  exact⟨o2,by rw [AK hb]; exact q2,r⟩
 ·have hb:f.1≠a:=λz=>nv (by rw [← z]; exact R.uV _ (R.fU f hf))
  rw [AK hb]; exact q
 ·rcases old j s q with ⟨rfl,rfl⟩ | ⟨hj,q1⟩
  ·rw [ha]
   exact h
  ·have q2:=R.sl j s q1
   cases s with
   | no=>trivial
   | sh d=>obtain⟨v,e1,h1⟩:=q2; exact⟨v,e1,h1.pres pr⟩
   | ex a nm ks ds=>obtain⟨e1,h1⟩:=q2; exact⟨e1,h1.pres pr⟩
   | br d =>
    obtain⟨v,e1,h1⟩:=q2;refine⟨v,e1,h1.same pr (λb o' z q=>?_) λ_ _ z=>z⟩;subst z;obtain⟨o3,w⟩:=R.br0 j d b q1 e1;rw [AK (λz=>by rw [z,h0] at w; cases w)];exact q
   | fd=>exact q2
   | wd S=>exact q2
   | ow d =>
    obtain⟨b,e1,h1,h2,h3⟩:=q2;exact⟨b,e1,h1,h2,h3.pres pr λo' w=>by rw [AK (far j _ b hj q1 rfl e1)]; exact w⟩
   | lt b d =>
    obtain⟨e1,h1,h2,h3⟩:=q2;exact⟨e1,h1,h2,h3.pres pr λo' w=>by rw [AK (far j _ b hj q1 rfl e1)]; exact w⟩
 ·rcases old j _ q with ⟨_,e1⟩ | ⟨hj,q1⟩
  ·rw [← e1] at hw; cases hw
  ·exact R.br0 j e2 b q1 q2
 ·rcases old j s q with ⟨rfl,_⟩ | ⟨hj,q1⟩
  ·exact R.new j _ b hi rfl q2
  ·exact R.new j s b q1 o2 q2
 ·rcases old j s q1 with ⟨rfl,rfl⟩ | ⟨hj,p1⟩
  ·rcases old k t q2 with ⟨rfl,_⟩ | ⟨hk,p2⟩
   ·rfl
   ·exact R.two j k _ t b hi rfl p2 o2 z1 z2
  ·rcases old k t q2 with ⟨rfl,rfl⟩ | ⟨hk,p2⟩
   ·exact R.two j k s _ b p1 o1 hi rfl z1 z2
   ·exact R.two j k s t b p1 o1 p2 o2 z1 z2
 ·obtain⟨h1,h2,h3,h4⟩:=R.kept p hp
  have hb:p.1≠a:=λz=>h4 i d hi (by rw [ha,z]);refine⟨by rw [AK hb]; exact h1,h2,h3,λj e2 q=>?_⟩
  rcases old j _ q with ⟨rfl,_⟩ | ⟨hj,q1⟩
  ·exact h4 j d hi
  ·exact h4 j e2 q1
theorem Rel.mut(R:Rel K C M H n ρ σ){i:Nat}{a:Ev}{e:D}{o:HO}(hi:ρ[i]?=some (.ow d))(ha:(σ[i]?).getD none=some (.ref a))(h:Tops K M (Aw H a o) a e):Rel K C M (Aw H a o) n (ρ.set i (.ow e)) σ:=by
 obtain⟨b,e1,m,nv,_⟩:=R.owner hi rfl;rw [ha] at e1;cases e1;exact R.mutG hi ha rfl ⟨a,rfl,m,nv,h⟩
theorem Rel.lend(R:Rel K C M H n ρ σ){i:Nat}{a:Ev}{o:HO}(hi:ρ[i]?=some (.ow d))(ha:(σ[i]?).getD none=some (.ref a))(ho:H a=some o)(hd:J4 d=false):Rel K { C with kp:=(a,o)::C.kp } M H n (ρ.set i (.lt a d)) σ:=by
 obtain⟨b,e1,m,nv,t⟩:=R.sl i _ hi;rw [ha] at e1;cases e1
 have old:∀(j:Nat) (s:Slot),(ρ.set i (.lt a d))[j]?=some s->(j=i/\s=.lt a d)\/(j≠i/\ρ[j]?=some s):=λj s q=>by
  rcases EC q with ⟨rfl,hl,rfl⟩ | ⟨hj,q⟩
  ·exact .inl ⟨rfl,rfl⟩
  ·exact .inr ⟨hj,q⟩
 refine⟨by rw [az]; exact R.len,R.sub,R.dom,R.ext,R.fU,R.uV,R.vM,R.feed,λj s q=>?_,R.pin,λj e2 b q q2=>?_,λj s b q o2 q2=>?_,λj k s t b q1 o1 q2 o2 z1 z2=>?_,λp hp=>?_⟩
 ·rcases old j s q with ⟨rfl,rfl⟩ | ⟨hj,q1⟩
  ·exact⟨ha,m,nv,by rw [TopsF.of hd]; exact t⟩
  ·exact R.sl j s q1
 ·rcases old j _ q with ⟨_,e1⟩ | ⟨hj,q1⟩
  ·cases e1
  ·exact R.br0 j e2 b q1 q2
 ·rcases old j s q with ⟨rfl,_⟩ | ⟨hj,q1⟩
  ·exact R.new j _ b hi rfl q2
  ·exact R.new j s b q1 o2 q2
 ·rcases old j s q1 with ⟨rfl,rfl⟩ | ⟨hj,p1⟩
  ·rcases old k t q2 with ⟨rfl,_⟩ | ⟨hk,p2⟩
   ·rfl
   ·exact R.two j k _ t b hi rfl p2 o2 z1 z2
  ·rcases old k t q2 with ⟨rfl,rfl⟩ | ⟨hk,p2⟩
   ·exact R.two j k s _ b p1 o1 hi rfl z1 z2
   ·exact R.two j k s t b p1 o1 p2 o2 z1 z2
 ·rcases XV.mp hp with rfl | hp
  ·refine⟨ho,m,nv,λj e2 q z=>?_⟩
   rcases old j _ q with ⟨_,e1⟩ | ⟨hj,q1⟩
   ·cases e1
   ·exact hj (R.two j i _ _ a q1 rfl hi rfl z ha)
  ·obtain⟨h1,h2,h3,h4⟩:=R.kept p hp
   refine⟨h1,h2,h3,λj e2 q=>?_⟩
   rcases old j _ q with ⟨_,e1⟩ | ⟨hj,q1⟩
   ·cases e1
   ·exact h4 j e2 q1
theorem Rel.unlend{a:Ev}{o:HO}(R:Rel K { C with kp:=(a,o)::C.kp } M H n ρ σ){i:Nat}(hi:ρ[i]?=some (.lt a d))(hk:∀p∈C.kp,p.1≠a)(hd:J4 d=false):Rel K C M H n (ρ.set i (.ow d)) σ:=by
 obtain⟨ha,m,nv,t⟩:=R.sl i _ hi
 have old:∀(j:Nat) (s:Slot),(ρ.set i (.ow d))[j]?=some s->(j=i/\s=.ow d)\/(j≠i/\ρ[j]?=some s):=λj s q=>by
  rcases EC q with ⟨rfl,hl,rfl⟩ | ⟨hj,q⟩
  ·exact .inl ⟨rfl,rfl⟩
  ·exact .inr ⟨hj,q⟩
 refine⟨by rw [az]; exact R.len,R.sub,R.dom,R.ext,R.fU,R.uV,R.vM,R.feed,λj s q=>?_,R.pin,λj e2 b q q2=>?_,λj s b q o2 q2=>?_,λj k s t b q1 o1 q2 o2 z1 z2=>?_,λp hp=>?_⟩
 ·rcases old j s q with ⟨rfl,rfl⟩ | ⟨hj,q1⟩
  ·exact⟨a,ha,m,nv,by rw [TopsF.of hd] at t; exact t⟩
  ·exact R.sl j s q1
 ·rcases old j _ q with ⟨_,e1⟩ | ⟨hj,q1⟩
  ·cases e1
  ·exact R.br0 j e2 b q1 q2
 ·rcases old j s q with ⟨rfl,_⟩ | ⟨hj,q1⟩
  ·exact R.new j _ b hi rfl q2
  ·exact R.new j s b q1 o2 q2
 ·rcases old j s q1 with ⟨rfl,rfl⟩ | ⟨hj,p1⟩
  ·rcases old k t q2 with ⟨rfl,_⟩ | ⟨hk,p2⟩
   ·rfl
   ·exact R.two j k _ t b hi rfl p2 o2 z1 z2
  ·rcases old k t q2 with ⟨rfl,rfl⟩ | ⟨hk,p2⟩
   ·exact R.two j k s _ b p1 o1 hi rfl z1 z2
   ·exact R.two j k s t b p1 o1 p2 o2 z1 z2
 ·obtain⟨h1,h2,h3,h4⟩:=R.kept p (Sc _ hp)
  refine⟨h1,h2,h3,λj e2 q=>?_⟩
  rcases old j _ q with ⟨rfl,_⟩ | ⟨hj,q1⟩
  ·rw [ha]
   intro z;cases z;exact hk p hp rfl
  ·exact h4 j e2 q1
end
noncomputable abbrev DW:=Nat->List Slot->(D->Nat->Prop)->Prop
noncomputable abbrev Gw:=Nat->List Slot->(Bool->Nat->Prop)->Prop
noncomputable abbrev Er:=Nat->List Slot->(List D->Nat->Prop)->Prop
noncomputable abbrev U3:=Nat->List Slot->(List Slot->Nat->Prop)->Prop
section
variable (X:Cx)
noncomputable def DE(e:Zq)(κ:Kd)(w:DW):Prop:=∃t,PE X e t/\∀(C:Fm) (M:Ev->Prop) (H:Hp) (n:Nat) (ρ:List Slot) (σ:L2.St) (P:D->Nat->Prop) (Q:VK),Rel X.K C M H n ρ σ->w n ρ P ->
 (∀v H' d n',Ext C.U H H'->FeedC X.K C.F M H' n'->VR X.K C.V M H H' κ v d->P d n'->Q v H')->t σ H Q
noncomputable def DT(e:Zq)(w:Gw):Prop:=∃t,PT X e t/\∀(C:Fm) (M:Ev->Prop) (H:Hp) (n:Nat) (ρ:List Slot) (σ:L2.St) (P:Bool->Nat->Prop) (Q:Bool->Hp->Prop),Rel X.K C M H n ρ σ->w n ρ P ->
 (∀b H' n',Ext C.U H H'->FeedC X.K C.F M H' n'->P b n'->Q b H')->t σ H Q
noncomputable def DTW(e:Zq)(w:Gw):Prop:=∃t,PW X e t/\∀(C:Fm) (M:Ev->Prop) (H:Hp) (n:Nat) (ρ:List Slot) (σ:L2.St) (P:Bool->Nat->Prop) (Q:Bool->Hp->Prop),Rel X.K C M H n ρ σ->w n ρ P ->
 (∀b H' n',Ext C.U H H'->FeedC X.K C.F M H' n'->P b n'->Q b H')->t σ H Q
noncomputable def WV(es:List Zq)(w:Er):Prop:=∃t,PA X es t/\∀(C:Fm) (M:Ev->Prop) (H:Hp) (n:Nat) (ρ:List Slot) (σ:L2.St) (P:List D->Nat->Prop) (Q:List V->Hp->Prop),Rel X.K C M H n ρ σ->w n ρ P ->
 (∀vs H' ds n',Ext C.U H H'->FeedC X.K C.F M H' n'->Paired (λv d=>AtT X.K C.V M H' d v) vs ds->P ds n'->Q vs H')->t σ H Q
noncomputable def WU(es:List Zq)(w:Er):Prop:=∃t,PA X es t/\∀(C:Fm) (M:Ev->Prop) (H:Hp) (n:Nat) (ρ:List Slot) (σ:L2.St) (P:List D->Nat->Prop) (Q:List V->Hp->Prop),Rel X.K C M H n ρ σ->w n ρ P ->
 (∀vs H' ds n',Ext C.U H H'->FeedC X.K C.F M H' n'->Ats X.K M H' ds vs->P ds n'->Q vs H')->t σ H Q
noncomputable def Ka(K:Frag)(F:Option Fd)(V' M:Ev->Prop)(H:Hp)(v:V)(s:Slot):Prop:=SlotOk K F V' M H s (some v)/\s.owns=false
noncomputable def YH(e:Zq)(w:Nat->List Slot->(Slot->Nat->Prop)->Prop):Prop:=∃t,PE X e t/\∀(C:Fm) (M:Ev->Prop) (H:Hp) (n:Nat) (ρ:List Slot) (σ:L2.St) (P:Slot->Nat->Prop) (Q:VK),Rel X.K C M H n ρ σ->w n ρ P ->
 (∀v H' s n',Ext C.U H H'->FeedC X.K C.F M H' n'->Ka X.K C.F C.V M H' v s->P s n'->Q v H')->t σ H Q
noncomputable def WZ(es:List Zq)(w:U3):Prop:=∃t,PA X es t/\∀(C:Fm) (M:Ev->Prop) (H:Hp) (n:Nat) (ρ:List Slot) (σ:L2.St) (P:List Slot->Nat->Prop) (Q:List V->Hp->Prop),Rel X.K C M H n ρ σ->w n ρ P ->
 (∀vs H' ss n',Ext C.U H H'->FeedC X.K C.F M H' n'->Paired (Ka X.K C.F C.V M H') vs ss->P ss n'->Q vs H')->t σ H Q
end
noncomputable def AD(i:Nat):DW:=λn ρ P=>match ρ[i]? with
 | some (.sh d)=>P d n
 | _=>False
noncomputable def Al(i:Nat):DW:=λn ρ P=>match ρ[i]? with
 | some (.sh d)=>P d n
 | some (.br d)=>P d n
 | some (.ow d)=>P d n
 | some (.lt _ d)=>P d n
 | _=>False
noncomputable def wC(d:D):DW:=λn _ P=>P d n
section
variable {X:Cx}{a b c e:Expr}{κ κa κb:Kd}{wa wb wc:DW}{pos:Pos}
theorem getD_some{σ:L2.St}{i:Nat}{v:V}(h:(σ[i]?).getD none=some v):σ[i]?=some (some v):=by
 cases q:σ[i]? with
 | none=>rw [q] at h; cases h
 | some o=>rw [q] at h; exact congrArg some h
theorem UA{i:Nat}(h:PE X e (BU i)):DE X e .sh (AD i):=by
 refine⟨_,h,λC M H n ρ σ P Q R w q=>?_⟩;unfold AD at w
 split at w
 ·rename_i d hd
  obtain⟨v,e1,h1⟩:=R.sl i _ hd;exact⟨v,getD_some e1,q v H d n (Ext.refl _ _) R.feed h1 w⟩
 ·exact w.elim
theorem SN{i:Nat}(h:PE X e (BU i)):DE X e .tp (Al i):=by
 refine⟨_,h,λC M H n ρ σ P Q R w q=>?_⟩;unfold Al at w
 split at w
 ·rename_i d hd
  obtain⟨v,e1,h1⟩:=R.sl i _ hd;exact⟨v,getD_some e1,q v H d n (Ext.refl _ _) R.feed (At.tp R.vM h1) w⟩
 ·rename_i d hd
  obtain⟨v,e1,h1⟩:=R.sl i _ hd;exact⟨v,getD_some e1,q v H d n (Ext.refl _ _) R.feed h1 w⟩
 ·rename_i d hd
  obtain⟨a,e1,_,h2,h3⟩:=R.sl i _ hd;exact⟨.ref a,getD_some e1,q _ H d n (Ext.refl _ _) R.feed (h3.att h2) w⟩
 ·rename_i a d hd
  obtain⟨e1,_,h2,h3⟩:=R.sl i _ hd;exact⟨.ref a,getD_some e1,q _ H d n (Ext.refl _ _) R.feed (h3.att h2) w⟩
 ·exact w.elim
theorem dv(i:Nat){x:Str}{pos:Pos}(hN:autoParam (X.N[i]?=some x) zau3._auto_1)(hv:autoParam (WX X.env.scope x) zau4._auto_1)(hd:autoParam ((x==("__debug__":Str))=false) zau1._auto_1)
  (hcd:autoParam ((x==("__classdict__":Str))=false) zau1._auto_1):DE X (.Name x pos) .sh (AD i):=UA (Kx hN hv hd hcd)
theorem Fy(i:Nat){x:Str}{pos:Pos}(hN:autoParam (X.N[i]?=some x) zau3._auto_1)(hv:autoParam (WX X.env.scope x) zau4._auto_1)(hd:autoParam ((x==("__debug__":Str))=false) zau1._auto_1)
  (hcd:autoParam ((x==("__classdict__":Str))=false) zau1._auto_1):DE X (.Name x pos) .tp (Al i):=SN (Kx hN hv hd hcd)
theorem F1{d:D}{v:V}(h:PE X e (tC v))(hd:∀M H,At X.K M H d v):DE X e .sh (wC d) :=
 ⟨_,h,λC M H n ρ σ P Q R w q=>q v H d n (Ext.refl _ _) R.feed (hd M H) w⟩
theorem AE{i:Int}{j pos}:DE X (.Constant (.int i) j pos) .sh (wC (.int i)):=F1 As λ_ _=>rfl
theorem F2{b:Bool}{j pos}:DE X (.Constant (.bool b) j pos) .sh (wC (.bl b)):=F1 XD λ_ _=>rfl
theorem EX{j pos}:DE X (.Constant .none j pos) .sh (wC .non):=F1 Vg λ_ _=>rfl
theorem BH{x:Str}{j pos}(hx:autoParam (decide (x.length<=1000)=true) zau3._auto_1):DE X (.Constant (.str x) j pos) .sh (wC (.str x)) :=
 F1 Vd λ_ _=>⟨rfl,Zu (of_decide_eq_true hx) (by rw [Z2]; decide)⟩
noncomputable def FK(K:Frag)(κ:Kd)(r:R2)(f:D->D->(D->Prop)->Prop):Prop:=∀(U:Ev->Prop) (M:Ev->Prop) (H:Hp) (d e:D) (x y:V) (P:D->Prop) (Q:VK),(∀a,M a->∃o,H a=some o)->(∀a,U a->M a) ->
 AtT K U M H d x->AtT K U M H e y->f d e P->(∀v H' z,Grow H H'->VR K U M H H' κ v z->P z->Q v H')->r x y H Q
noncomputable def AY(f:D->D->(D->Prop)->Prop)(wa wb:DW):DW:=λn ρ P=>wa n ρ λx n1=>wb n1 ρ λy n2=>f x y λz=>P z n2
theorem Dy{r:R2}{f:D->D->(D->Prop)->Prop}(hA:FK X.K κ r f){ta tb:TE}(ha:∀(C:Fm) (M:Ev->Prop) (H:Hp) (n:Nat) (ρ:List Slot) (σ:L2.St) (P:D->Nat->Prop) (Q:VK),Rel X.K C M H n ρ σ->wa n ρ P ->
   (∀v H' d n',Ext C.U H H'->FeedC X.K C.F M H' n'->VR X.K C.V M H H' κa v d->P d n'->Q v H')->ta σ H Q)
  (hb:∀(C:Fm) (M:Ev->Prop) (H:Hp) (n:Nat) (ρ:List Slot) (σ:L2.St) (P:D->Nat->Prop) (Q:VK),Rel X.K C M H n ρ σ->wb n ρ P ->
   (∀v H' d n',Ext C.U H H'->FeedC X.K C.F M H' n'->VR X.K C.V M H H' κb v d->P d n'->Q v H')->tb σ H Q)
  (C:Fm) (M:Ev->Prop) (H:Hp) (n:Nat) (ρ:List Slot) (σ:L2.St) (P:D->Nat->Prop) (Q:VK) (R:Rel X.K C M H n ρ σ) (w:AY f wa wb n ρ P)
  (q:∀v H' d n',Ext C.U H H'->FeedC X.K C.F M H' n'->VR X.K C.V M H H' κ v d->P d n'->Q v H'):C9 r ta tb σ H Q:=by
 refine ha C M H n ρ σ _ _ R w λx H1 d n1 e1 f1 r1 w1=>?_;have R1:=R.step e1 f1;refine hb C M H1 n1 ρ σ _ _ R1 w1 λy H2 e n2 e2 f2 r2 w2=>?_;have R2':=R1.step e2 f2;refine hA C.V M H2 d e x y _ _ R2'.dom R2'.vM ((r1.tpOf R.dom R.vM).pres (R1.pres e2) e2 R.uV) (r2.tpOf R1.dom R1.vM) w2 λv H3 z g vr p=>?_;exact q v H3 z n2 ((e1.trans e2).trans g.ext) (f2.grow g) (VR.back (e1.trans e2) vr) p
theorem Av{op:Operator}{r:R2}{f:D->D->(D->Prop)->Prop}(ho:OpR X (binaryOp op) r)(hA:FK X.K κ r f)(ha:DE X a κa wa)(hb:DE X b κb wb):DE X (.BinOp a op b pos) κ (AY f wa wb):=by
 obtain⟨ta,ha1,ha2⟩:=ha;obtain⟨tb,hb1,hb2⟩:=hb;exact⟨_,Bh ho ha1 hb1,λC M H n ρ σ P Q R w q=>Dy hA ha2 hb2 C M H n ρ σ P Q R w q⟩
theorem AU{r:R2}{f:D->D->(D->Prop)->Prop}(ho:IxR X r)(hA:FK X.K κ r f)(ha:DE X a κa wa)(hb:DE X b κb wb)(hs:autoParam (O5 b) zau5._auto_1):DE X (.Subscript a b pos) κ (AY f wa wb):=by
 obtain⟨ta,ha1,ha2⟩:=ha;obtain⟨tb,hb1,hb2⟩:=hb;exact⟨_,D6 ho ha1 hb1 hs,λC M H n ρ σ P Q R w q=>Dy hA ha2 hb2 C M H n ρ σ P Q R w q⟩
theorem Ik{op:CmpOp}{r:R2}{f:D->D->(D->Prop)->Prop}(ho:OpR X (compareOp op) r)(hA:FK X.K .sh r f)(ha:DE X a κa wa)(hb:DE X b κb wb)(hm:behindInMarks op b=false):DE X (.Compare a [op] [b] pos) .sh (AY f wa wb):=by
 obtain⟨ta,ha1,ha2⟩:=ha;obtain⟨tb,hb1,hb2⟩:=hb;exact⟨_,TZ ho ha1 hb1 hm,λC M H n ρ σ P Q R w q=>Dy hA ha2 hb2 C M H n ρ σ P Q R w q⟩
noncomputable def Aj(w:DW):Gw:=λn ρ P=>w n ρ λd n1=>match d with
 | .bl b=>P b n1
 | _=>False
theorem HJ{U:Ev->Prop}{K:Frag}{M:Ev->Prop}{H H':Hp}{v:V}{b:Bool}(h:VR K U M H H' κ v (.bl b)):v=.bl b:=by
 cases κ with
 | sh=>exact h
 | tp=>exact h
 | fr=>obtain⟨a,_,_,t⟩:=h; exact(show False from t).elim
theorem Ap{op:CmpOp}{r:R2}{f:D->D->(D->Prop)->Prop}(ho:OpR X (compareOp op) r)(hA:FK X.K .sh r f)(ha:DE X a κa wa)(hb:DE X b κb wb)(hm:behindInMarks op b=false):DT X (.Compare a [op] [b] pos) (Aj (AY f wa wb)):=by
 obtain⟨ta,ha1,ha2⟩:=ha;obtain⟨tb,hb1,hb2⟩:=hb;refine⟨_,Ex ho ha1 hb1 hm,λC M H n ρ σ P Q R w q=>?_⟩;refine Dy hA ha2 hb2 C M H n ρ σ _ _ R w λv H' d n' e f r p=>?_;cases d with
 | bl b=>exact⟨b,HJ r,q b H' n' e f p⟩
 | _=>exact p.elim
theorem Du(h:DE X e κ wa)(he:autoParam (∀whole,isTrue e X.env whole=(do let v ← whole; standAt e.pos; holding [v] (truthy v))) zau2._auto_1):DT X e (Aj wa):=by
 obtain⟨t,h1,h2⟩:=h;refine⟨_,VZ h1 he,λC M H n ρ σ P Q R w q=>?_⟩;refine h2 C M H n ρ σ _ _ R w λv H' d n' e f r p=>?_;cases d with
 | bl b=>exact⟨b,HJ r,q b H' n' e f p⟩
 | _=>exact p.elim
noncomputable def Jg(u v:Gw):Gw:=λn ρ P=>u n ρ λc n1=>if c=true then v n1 ρ P else P false n1
noncomputable def JH(u v:Gw):Gw:=λn ρ P=>u n ρ λc n1=>if c=true then P true n1 else v n1 ρ P
noncomputable def Fc(u:Gw):Gw:=λn ρ P=>u n ρ λc n1=>P (!c) n1
variable {wA wB:Gw}{rest:List Expr}
theorem LI(h:DT X a wA):DTW X (.BoolOp .And [a] pos) wA:=by
 obtain⟨t,h1,h2⟩:=h;exact⟨t,OM h1,h2⟩
theorem LH(h:DT X a wA):DTW X (.BoolOp .Or [a] pos) wA:=by
 obtain⟨t,h1,h2⟩:=h;exact⟨t,VY h1,h2⟩
theorem LJ(ha:DT X a wA)(hb:DTW X (.BoolOp .And (b::rest) pos) wB):DTW X (.BoolOp .And (a::b::rest) pos) (Jg wA wB):=by
 obtain⟨t,h1,h2⟩:=ha;obtain⟨u,g1,g2⟩:=hb;refine⟨_,RB h1 g1,λC M H n ρ σ P Q R w q=>?_⟩;refine h2 C M H n ρ σ _ _ R w λc H1 n1 e1 f1 p=>?_;cases c with
 | false=>exact q false H1 n1 e1 f1 p
 | true=>exact g2 C M H1 n1 ρ σ P Q (R.step e1 f1) p λb H2 n2 e2 f2 p2=>q b H2 n2 (e1.trans e2) f2 p2
theorem G0(ha:DT X a wA)(hb:DTW X (.BoolOp .Or (b::rest) pos) wB):DTW X (.BoolOp .Or (a::b::rest) pos) (JH wA wB):=by
 obtain⟨t,h1,h2⟩:=ha;obtain⟨u,g1,g2⟩:=hb;refine⟨_,XB h1 g1,λC M H n ρ σ P Q R w q=>?_⟩;refine h2 C M H n ρ σ _ _ R w λc H1 n1 e1 f1 p=>?_;cases c with
 | true=>exact q true H1 n1 e1 f1 p
 | false=>exact g2 C M H1 n1 ρ σ P Q (R.step e1 f1) p λb H2 n2 e2 f2 p2=>q b H2 n2 (e1.trans e2) f2 p2
theorem DTW.dt(h:DTW X e wA):DT X e wA:=by
 obtain⟨t,h1,h2⟩:=h;exact⟨t,h1.pt,h2⟩
theorem EV(ha:DT X a wA):DT X (.UnaryOp .Not a pos) (Fc wA):=by
 obtain⟨t,h1,h2⟩:=ha;refine⟨_,Va h1,λC M H n ρ σ P Q R w q=>?_⟩;exact h2 C M H n ρ σ _ _ R w λc H1 n1 e1 f1 p=>q (!c) H1 n1 e1 f1 p
noncomputable def Wd(u v:DW):DW:=λn ρ P=>u n ρ λc n1=>match c with
 | .bl true=>v n1 ρ P
 | .bl false=>P (.bl false) n1
 | _=>False
noncomputable def Wc(u:DW):DW:=λn ρ P=>u n ρ λc n1=>match c with
 | .bl b=>P (.bl (!b)) n1
 | _=>False
theorem V_{op}(h:DE X a κ wa):DE X (.BoolOp op [a] pos) κ wa:=by
 obtain⟨t,h1,h2⟩:=h;exact⟨t,Ve h1,h2⟩
theorem WB(ha:DE X a κa wa)(hb:DE X (.BoolOp .And (b::rest) pos) .sh wb):DE X (.BoolOp .And (a::b::rest) pos) .sh (Wd wa wb):=by
 obtain⟨t,h1,h2⟩:=ha;obtain⟨u,g1,g2⟩:=hb;refine⟨_,Vh h1 g1,λC M H n ρ σ P Q R w q=>?_⟩;refine h2 C M H n ρ σ _ _ R w λc H1 d n1 e1 f1 r1 p=>?_;cases d with
 | bl k =>
  refine⟨k,HJ r1,?_⟩;cases k with
  | false=>exact q _ H1 _ n1 e1 f1 (show VR X.K C.V M H H1 .sh (.bl false) (.bl false) from rfl) p
  | true =>
   show u σ H1 Q;exact g2 C M H1 n1 ρ σ P Q (R.step e1 f1) p λv H2 d n2 e2 f2 r2 p2=>q v H2 d n2 (e1.trans e2) f2 r2 p2
 | _=>exact p.elim
theorem WA(ha:DE X a κa wa):DE X (.UnaryOp .Not a pos) .sh (Wc wa):=by
 obtain⟨t,h1,h2⟩:=ha;refine⟨_,Vf h1,λC M H n ρ σ P Q R w q=>?_⟩;refine h2 C M H n ρ σ _ _ R w λc H1 d n1 e1 f1 r1 p=>?_;cases d with
 | bl k=>exact⟨k,HJ r1,q _ H1 _ n1 e1 f1 (show VR X.K C.V M H H1 .sh (.bl (!k)) (.bl (!k)) from rfl) p⟩
 | _=>exact p.elim
noncomputable def Y2(t:Gw)(u v:DW):DW:=λn ρ P=>t n ρ λc n1=>if c=true then u n1 ρ P else v n1 ρ P
theorem Xi(hc:DT X c wA)(ha:DE X a κ wa)(hb:DE X b κ wb):DE X (.IfExp c a b pos) κ (Y2 wA wa wb):=by
 obtain⟨t,h1,h2⟩:=hc;obtain⟨u,g1,g2⟩:=ha;obtain⟨u',k1,k2⟩:=hb;refine⟨_,L5 h1 g1 k1,λC M H n ρ σ P Q R w q=>?_⟩;refine h2 C M H n ρ σ _ _ R w λc H1 n1 e1 f1 p=>?_;cases c with
 | true=>exact g2 C M H1 n1 ρ σ P Q (R.step e1 f1) p λv H2 d n2 e2 f2 r2 p2=>q v H2 d n2 (e1.trans e2) f2 (VR.back e1 r2) p2
 | false=>exact k2 C M H1 n1 ρ σ P Q (R.step e1 f1) p λv H2 d n2 e2 f2 r2 p2=>q v H2 d n2 (e1.trans e2) f2 (VR.back e1 r2) p2
noncomputable def AQ:Er:=λn _ P=>P [] n
noncomputable def AC(w:DW)(ws:Er):Er:=λn ρ P=>w n ρ λd n1=>ws n1 ρ λds n2=>P (d::ds) n2
variable {es:List Expr}{ws:Er}
theorem AV:WV X [] AQ:=⟨_,CG,λC M H n ρ σ P Q R w q=>q [] H [] n (Ext.refl _ _) R.feed .nil w⟩
theorem AI:WU X [] AQ:=⟨_,CG,λC M H n ρ σ P Q R w q=>q [] H [] n (Ext.refl _ _) R.feed rfl w⟩
theorem AM(ha:DE X e κ wa)(hr:WV X es ws)(hs:autoParam (starEach (e::es) X.env=(false,eval e X.env)::starEach es X.env) zau3._auto_1):WV X (e::es) (AC wa ws):=by
 obtain⟨t,h1,h2⟩:=ha;obtain⟨u,g1,g2⟩:=hr;refine⟨_,BM h1 g1 hs,λC M H n ρ σ P Q R w q=>?_⟩;refine h2 C M H n ρ σ _ _ R w λv H1 d n1 e1 f1 r1 p=>?_;have R1:=R.step e1 f1;refine g2 C M H1 n1 ρ σ _ _ R1 p λvs H2 ds n2 e2 f2 r2 p2=>?_;exact q (v::vs) H2 (d::ds) n2 (e1.trans e2) f2 (.cons ((r1.tpOf R.dom R.vM).pres (R1.pres e2) e2 R.uV) r2) p2
theorem AA(ha:DE X e κ wa)(hr:WU X es ws)(hk:autoParam (κ≠.tp) zau6._auto_1)(hs:autoParam (starEach (e::es) X.env=(false,eval e X.env)::starEach es X.env) zau3._auto_1):WU X (e::es) (AC wa ws):=by
 obtain⟨t,h1,h2⟩:=ha;obtain⟨u,g1,g2⟩:=hr;refine⟨_,BM h1 g1 hs,λC M H n ρ σ P Q R w q=>?_⟩;refine h2 C M H n ρ σ _ _ R w λv H1 d n1 e1 f1 r1 p=>?_;have R1:=R.step e1 f1;refine g2 C M H1 n1 ρ σ _ _ R1 p λvs H2 ds n2 e2 f2 r2 p2=>?_;exact q (v::vs) H2 (d::ds) n2 (e1.trans e2) f2 ⟨v,vs,rfl,(r1.shOf R.dom hk).pres (R1.pres e2),r2⟩ p2
noncomputable def A3(ws:Er):DW:=λn ρ P=>ws n ρ λds n1=>ds.length<=sizeLine/\P (.tup ds) n1
noncomputable def DU(ws:Er):DW:=λn ρ P=>ws n ρ λds n1=>ds.length<=sizeLine/\P (.lst ds) n1
theorem FW{M:Ev->Prop}{H:Hp}{p:Ev}{o:HO}(h:H p=none):Pres M H (λb=>M b\/b=p) (Aw H p o):=⟨λb u e _=>by rw [AK (Ag e h)]; exact e,λb z=>z.elim .inl λz=>.inr (by rw [z]; exact h),λb vs e=>by rw [AK (Ag e h)]; exact e⟩
theorem Ax{H:Hp}{p:Ev}{o:HO}(h:H p=none):Grow H (Aw H p o):=.inr ⟨p,o,h,rfl⟩
theorem Ah{x1}(h:WU X es ws):DE X (.Tuple es x1 pos) .sh (A3 ws):=by
 obtain⟨t,h1,h2⟩:=h;refine⟨_,Vc h1,λC M H n ρ σ P Q R w q=>?_⟩;refine h2 C M H n ρ σ _ _ R w λvs H1 ds n1 e1 f1 r1 p=>?_;refine⟨by rw [r1.length]; exact p.1,λa ha=>?_⟩;have g:Grow H1 (Aw H1 a (.tup vs)):=Ax ha;refine q _ _ (.tup ds) n1 (e1.trans g.ext) (f1.grow g) ⟨a,vs,rfl,AT,r1.pres g.pres⟩ p.2
theorem Bj(h:WU X es ws):DE X (.List es pos) .fr (DU ws):=by
 obtain⟨t,h1,h2⟩:=h;refine⟨_,NN h1,λC M H n ρ σ P Q R w q=>?_⟩;refine h2 C M H n ρ σ _ _ R w λvs H1 ds n1 e1 f1 r1 p=>?_;refine⟨by rw [r1.length]; exact p.1,λa ha=>?_⟩;have g:Grow H1 (Aw H1 a (.lst vs)):=Ax ha;exact q _ _ (.lst ds) n1 (e1.trans g.ext) (f1.grow g) (VR.back e1 ⟨a,rfl,ha,vs,AT,r1.pres (FW ha)⟩) p.2
noncomputable def CS(K:Frag)(κ:Kd)(r:List V->Hp->VK->Prop)(f:List D->(D->Prop)->Prop):Prop:=∀(U:Ev->Prop) (M:Ev->Prop) (H:Hp) (ds:List D) (vs:List V) (P:D->Prop) (Q:VK),(∀a,M a->∃o,H a=some o)->(∀a,U a->M a) ->
 Paired (λv d=>AtT K U M H d v) vs ds->f ds P->(∀v H' z,Grow H H'->VR K U M H H' κ v z->P z->Q v H')->r vs H Q
noncomputable def CB(f:List D->(D->Prop)->Prop)(ws:Er):DW:=λn ρ P=>ws n ρ λds n1=>f ds λz=>P z n1
theorem Uv{r:List V->Hp->VK->Prop}{f:List D->(D->Prop)->Prop}{t:TA}(hA:CS X.K κ r f)(h2:∀(C:Fm) (M:Ev->Prop) (H:Hp) (n:Nat) (ρ:List Slot) (σ:L2.St) (P:List D->Nat->Prop) (Q:List V->Hp->Prop),Rel X.K C M H n ρ σ->ws n ρ P ->
   (∀vs H' ds n',Ext C.U H H'->FeedC X.K C.F M H' n'->Paired (λv d=>AtT X.K C.V M H' d v) vs ds->P ds n'->Q vs H')->t σ H Q)
  (C:Fm) (M:Ev->Prop) (H:Hp) (n:Nat) (ρ:List Slot) (σ:L2.St) (P:D->Nat->Prop) (Q:VK) (R:Rel X.K C M H n ρ σ) (w:CB f ws n ρ P)
  (q:∀v H' d n',Ext C.U H H'->FeedC X.K C.F M H' n'->VR X.K C.V M H H' κ v d->P d n'->Q v H'):X4 r t σ H Q:=by
 refine h2 C M H n ρ σ _ _ R w λvs H1 ds n1 e1 f1 r1 p=>?_;have R1:=R.step e1 f1;refine hA C.V M H1 ds vs _ _ R1.dom R1.vM r1 p λv H2 z g vr pz=>?_;exact q v H2 z n1 (e1.trans g.ext) (f1.grow g) (VR.back e1 vr) pz
theorem Ad{x:Str}{id:String}{p:Pos}{r:List V->Hp->VK->Prop}{f:List D->(D->Prop)->Prop}(hc:By X (.builtin id) r)(hA:CS X.K κ r f)(hg:Gl X x)(hm:X.mg x=none)(hv:bootBuiltins x=some (.builtin id))(ha:WV X (e::es) ws)
  (hn:autoParam (x ≠ "__name__") zau1._auto_1) (hdb:autoParam ((x==("__debug__":Str))=false) zau1._auto_1)
  (he:autoParam (starEach (e::es) X.env=(false,eval e X.env)::starEach es X.env) zau3._auto_1) (hpl:autoParam ((backTo pos (starEach es X.env)).any (·.1)=false) zau3._auto_1):DE X (.Call (.Name x p) (e::es) [] pos) κ (CB f ws):=by
 obtain⟨t,h1,h2⟩:=ha;exact⟨_,Fo hc hg hm hv h1 hn hdb he hpl,λC M H n ρ σ P Q R w q=>Uv hA h2 C M H n ρ σ P Q R w q⟩
theorem CK{x:Str}{T:String}{p:Pos}{r:List V->Hp->VK->Prop}{f:List D->(D->Prop)->Prop}(hc:By X (.type T) r)(hA:CS X.K κ r f)(hg:Gl X x)(hm:X.mg x=none)(hv:bootBuiltins x=some (.type T))(ha:WV X (e::es) ws)
  (hn:autoParam (x ≠ "__name__") zau1._auto_1) (hdb:autoParam ((x==("__debug__":Str))=false) zau1._auto_1)
  (he:autoParam (starEach (e::es) X.env=(false,eval e X.env)::starEach es X.env) zau3._auto_1) (hpl:autoParam ((backTo pos (starEach es X.env)).any (·.1)=false) zau3._auto_1):DE X (.Call (.Name x p) (e::es) [] pos) κ (CB f ws):=by
 obtain⟨t,h1,h2⟩:=ha;exact⟨_,Js hc hg hm hv h1 hn hdb he hpl,λC M H n ρ σ P Q R w q=>Uv hA h2 C M H n ρ σ P Q R w q⟩
end
end Dp
namespace L2
open PySem PySem.Spec PyProof.Rows
noncomputable def Yt(z:Str):It:=⟨λi _=>i<z.cps.size,λi H x H'=>H'=H/\∃c,z.cps[i]?=some c/\x=.str ⟨#[c]⟩,λi _=>z.cps.size<=i⟩
theorem Lj{P:Zs}{w:Zz}{K:Frag}{tg:Zq}(it:Ev)(z:Str)(t:Tok)(ty:String)(hty:ty = "str_ascii_iterator"\/ty = "str_iterator")
  (W:∀A':aB,A'.handled=none->Walks P w A' it [it] [it] z.cps.size (SignAt z) (λi h=>h.IsStrIter it ty z t i)):Turn P w K tg (Yt z) [it] it (λi h=>h.IsStrIter it ty z t i) where
 mem:=by simp
 obj:=λi h st b hb=>by
  have e:b=it:=by simpa using hb
  subst e;obtain⟨o,e,c,d⟩:=st;exact⟨o,e,λv z=>by rw [d] at z; cases z⟩
 keep:=λi h h' st k=>let ⟨o,ho,r⟩:=st; ⟨o,k it (by simp) o ho,r⟩
 item:=by
  intro X hP hw hK hc i pins s σ H E I hf st hg;subst hP hw hK;obtain⟨f0,f1,f2,f3,f4,f5⟩:=hf it (by simp);refine(W X.A (I.ok.hd hc)).item i s _ _ hg st λv h' tk hv st' kk=>?_;obtain⟨c,u,hcu,rfl⟩:=hv;have I1:Inv X pins σ H { s with heap:=h',toks:=tk }:=I.turned (λb o hb e=>kk b o (by simpa using hb) e) f0 f1 f3 f4 f5;obtain⟨o,e,cc,d⟩:=id st';exact⟨_,rfl,J7 (s:={ s with heap:=h',toks:=tk }) e cc d (by rcases hty with rfl | rfl <;> decide) ⟨.str ⟨#[c]⟩,H,I1,⟨_,rfl⟩,⟨rfl,c,hcu,rfl⟩,st',λb hb=>(hf b hb).1⟩⟩
 done:=by
  intro X hP hw hK hc i pins s σ H E I hf st hg;subst hP hw hK;obtain⟨f0,f1,f2,f3,f4,f5⟩:=hf it (by simp)
  have hx:z.cps[i]?=none:=by
   have:z.cps.size<=i:=hg
   simp [this]
  rcases hty with rfl | rfl
  ·exact wpAny_pyNext_ascii_end (I.ok.hd hc) st hx λh' eb=>⟨rfl,I.turned (t':=s.toks) (λb o hb e=>eb b o hb e) f0 f1 f3 f4 f5⟩
  ·exact wpAny_pyNext_wide_end (I.ok.hd hc) st hx λh' eb=>⟨rfl,I.turned (t':=s.toks) (λb o hb e=>eb b o hb e) f0 f1 f3 f4 f5⟩
 self:=λA i s Q E st h=>by
  rcases hty with rfl | rfl
  ·exact wpAny_pyIter_striter_ascii st h
  ·exact wpAny_pyIter_striter_wide st h
section
variable {X:Cx}{tg:Expr}
noncomputable def Yb(K:Frag)(tl:TE):TI:=λσ H R=>tl σ H λx H1 =>
 (∃a,x=.ref a/\(∃xs,SqL K H1 a xs)/\R (Yu K a) H1)\/(∃a,x=.ref a/\(∃xs,SqT K H1 a xs)/\R (WT K a) H1)\/∃z,x=.str z/\R (Yt z) H1
theorem Kw{l:Zq}{tl:TE}(hl:PE X l tl):PI X tg l (Yb X.K tl):=by
 intro pins s σ H R I h;refine BV (hl pins s σ H _ I h) λv s1 ⟨x,H1,I1,r1,q1⟩=>?_
 have hne:∀b,b∈[s1.heap.objs.size]->GN X pins H1 b:=λb hb=>by
  have e:b=s1.heap.objs.size:=by simpa using hb
  subst e;exact I1.fpOk (Tk _) (I1.hok.fresh (Tk _))
 rcases q1 with ⟨a,e,⟨xs,hq⟩,q⟩ | ⟨a,e,⟨xs,hq⟩,q⟩ | ⟨z,e,q⟩
 ·subst e
  cases r1;obtain⟨its,rv,p,hz⟩:=I1.list hq;refine aw p.isList ?_;exact⟨s1.heap.objs.size,[s1.heap.objs.size],_,_,H1,rfl,I1.kept (t':=s1.toks) λb o e=>Op _ e,O9 a _,⟨_,Uf _ rfl,rfl,rfl⟩,hne,q⟩
 ·subst e
  cases r1;obtain⟨its,rv,p,hz⟩:=I1.tuple hq;refine ah (show s1.heap.IsTuple a its.toArray from p) ?_;exact⟨s1.heap.objs.size,[s1.heap.objs.size],_,_,H1,rfl,I1.kept (t':=s1.toks) λb o e=>Op _ e,Hm a _,⟨_,Uf _ rfl,rfl,rfl⟩,hne,q⟩
 ·subst e
  obtain⟨t,rfl⟩:=r1;cases ha:z.cps.all (·<128)
  ·refine wpAny_pyIter_wide ha ?_
   exact⟨s1.heap.objs.size,[s1.heap.objs.size],_,_,H1,rfl,I1.kept (t':=s1.toks) λb o e=>Op _ e,Lj _ z t "str_iterator" (.inr rfl) (λA' hA=>Walks.strWide hA _ z t),⟨_,Uf _ rfl,rfl,rfl⟩,hne,q⟩
  ·refine wpAny_pyIter_ascii ha ?_
   exact⟨s1.heap.objs.size,[s1.heap.objs.size],_,_,H1,rfl,I1.kept (t':=s1.toks) λb o e=>Op _ e,Lj _ z t "str_ascii_iterator" (.inl rfl) (λA' hA=>Walks.strAscii hA _ z t),⟨_,Uf _ rfl,rfl,rfl⟩,hne,q⟩
end
section
variable {X:Cx}
theorem JN(bs:List Bool):((Z7 bs.length).all λi=>(bs[i]?).getD true)=bs.all id:=by
 induction bs with
 | nil=>rfl
 | cons b r ih =>
  rw [Za,List.range_succ_eq_map,fY,List.all_map,fY];simp only [List.getElem?_cons_zero,Option.getD_some,id_eq]
  congr 1
theorem Mg(hc:X.calm=true):By X (.builtin "all") (λxs H Q=>∃(p:Ev) (bs:List Bool),xs=[.ref p]/\SqL X.K H p (bs.map V.bl)/\Q (.bl (bs.all id)) H):=by
 intro pins s σ H xs us Q I r h;obtain⟨p,bs,rfl,hq,q⟩:=h;obtain⟨u,rfl,rx⟩:=vals1 r;cases rx;obtain⟨its,r',pl,hz⟩:=I.list hq;have hlen:=r'.length;have hl:s.heap.IsList p its.toArray:=pl.isList;have hlt:p<s.heap.objs.size:=by obtain⟨_,e,_⟩:=id hl; exact ZU e
 refine call_all_walk (aw hl ?_)
 refine⟨s.heap.objs.size,[s.heap.objs.size,p],[s.heap.objs.size],its.toArray.size,_,_,λi=>(bs[i]?).getD true,rfl,Walks.list (A:=X.A.in1) (I.ok.hd hc) _ p (Zo hlt) its.toArray,
  ⟨⟨_,Uf _ rfl,rfl,rfl⟩,hl.push _⟩,λi v s' Q' E' hP hQ=>?_,λh' tk hk=>?_⟩
 ·have hv:its[i]?=some v:=by simpa using hP
  have hb:∃b,bs[i]?=some b:=by
   have hi:i<its.length:=(ZB.mp hv).1;rw [On] at hlen;exact⟨bs[i]'(by omega),No (by omega)⟩
  obtain⟨b,eb⟩:=hb;obtain⟨u,eu,ru⟩:=r'.get (i:=i) (x:=.bl b) (by rw [ZZ,eb]; rfl);rw [hv] at eu;cases eu;cases ru;simp only [eb,Option.getD_some] at hQ;exact bH hQ
 ·have e:((Z7 its.toArray.size).all λi=>(bs[i]?).getD true)=bs.all id:=by
   rw [UF,← hlen,On]; exact JN bs
  rw [e];exact⟨.bl _,H,I.kept (t':=tk) λb x e=>hk b x (λhm=>by rw [Go.mp hm] at e; exact aM _ (ZU e)) (Op _ e),rfl,q⟩
theorem Mf:By X (.builtin "isinstance") (λxs H Q=>∃x T t b,xs=[x,.ty T]/\FZ X.K H x t/\PySem.W.kitOne X.K t (.type T)=some b/\Q (.bl b) H):=by
 intro pins s σ H xs us Q I r h;obtain⟨x,T,t,b,rfl,ty,e,q⟩:=h;obtain⟨u,w',rfl,rx,rt⟩:=vals2 r;cases rt;exact P2 I rx ty e λtk=>⟨.bl b,H,I.tok _,rfl,q⟩
theorem Pf:OpR X (compareOp .LtE) (λx y H Q=>∃i j,x=.str i/\y=.str j/\Q (.bl (!(j.cps.toList<i.cps.toList))) H):=by
 intro pins s σ H x y v u Q I rx ry h;obtain⟨i,j,rfl,rfl,q⟩:=h;obtain⟨t,rfl⟩:=rx;obtain⟨t',rfl⟩:=ry;exact PySem.P.le_str ⟨.bl _,H,I,rfl,q⟩
theorem NA{ys:List Str}:∀{us:List FM},Vals (ys.map V.str) us->StrsAre us ys:=by
 induction ys with
 | nil=>intro us r; rw [ce] at r; cases r; exact .nil
 | cons n ns ih =>
  intro us r;rw [ZX] at r;cases r with
  | cons r1 r2 =>
   obtain⟨t,e⟩:=r1;subst e;exact .cons n t (ih r2)
theorem VO:SlR X (λx lo hi H Q=>∃z,x=.str z/\z.length<=sizeLine/\Q (.str (Txt.slice z lo hi)) H):=by
 intro pins s σ H x v vl vu lo hi sl Q I rx hs pl pu h;obtain⟨z,rfl,hz,q⟩:=h;obtain⟨t,rfl⟩:=rx;refine⟨"str",_,F.slot_str_getitem.lookup,cr _ _ _,?_⟩;have fin:∀t' k,EP X pins σ Q (.str (Txt.slice z lo hi) t') { s with toks:=k }:=λt' k=>⟨.str _,H,I.tok _,⟨_,rfl⟩,q⟩;cases pl with
 | none =>
  cases pu with
  | none=>exact bw (l:=none) (u:=none) (st:=none) hs rfl (dU ⟨Zu (Txt.slice_le z _ _) hz,λt' k=>fin t' k⟩)
  | int j tj=>exact bw (l:=none) (u:=some (j,tj)) (st:=none) hs rfl (dU ⟨Zu (Txt.slice_le z _ _) hz,λt' k=>fin t' k⟩)
 | int i ti =>
  cases pu with
  | none=>exact bw (l:=some (i,ti)) (u:=none) (st:=none) hs rfl (dU ⟨Zu (Txt.slice_le z _ _) hz,λt' k=>fin t' k⟩)
  | int j tj=>exact bw (l:=some (i,ti)) (u:=some (j,tj)) (st:=none) hs rfl (dU ⟨Zu (Txt.slice_le z _ _) hz,λt' k=>fin t' k⟩)
theorem Pc(hu:X.A.units<cLine):OpR X (compareOp .NotEq) (λx y H Q=>∃a b xs,x=.ref a/\y=.ref b/\SqL X.K H a xs/\SqL X.K H b []/\Q (.bl (!xs.isEmpty)) H):=by
 intro pins s σ H x y v u Q I rx ry h;obtain⟨a,b,xs,rfl,rfl,ha,hb,q⟩:=h;cases rx;cases ry;obtain⟨its,r1,p1,_⟩:=I.list ha;obtain⟨its2,r2,p2,_⟩:=I.list hb;cases r2;cases r1 with
 | nil=>exact SeqAt.RcNeAt.lists (e:=λ_=>true) p1.isList p2.isList rfl hu (λj h1 h2=>absurd h1 (by simp)) X.prog X.w X.xe _ ⟨.bl _,H,I,rfl,q⟩
 | cons r1 r2=>exact SeqAt.RcNeAt.lists_lengths p1.isList p2.isList (by simp) hu X.prog X.w X.xe _ ⟨.bl _,H,I,rfl,q⟩
end
end L2
namespace Dp
open PySem PySem.Spec PyProof.Rows L2
noncomputable def Xt(K:Frag)(F:Option Fd)(U V' M:Ev->Prop)(H:Hp)(n:Nat)(ss:List Slot)(vs:List V):Prop :=
 (∀a,M a->∃o,H a=some o)/\(∀f,F=some f->U f.1)/\(∀a,U a->V' a)/\(∀a,V' a->M a)/\FeedC K F M H n/\Paired (Ka K F V' M H) vs ss
noncomputable abbrev W2:=List Slot->Nat->(D->Nat->Prop)->Prop
noncomputable def EB(K:Frag)(κ:Kd)(W:W2)(np:Nat):Sp:=λvs H Q _=>vs.length=np/\∃(F:Option Fd) (U V' M:Ev->Prop) (n:Nat) (ss:List Slot) (P:D->Nat->Prop),Xt K F U V' M H n ss vs/\W ss n P /\
 ∀v H' d n',Ext U H H'->FeedC K F M H' n'->VR K V' M H H' κ v d->P d n'->Q v H'
noncomputable def AR(w:DW):Nat->List Slot->(Slot->Nat->Prop)->Prop:=λn ρ P=>w n ρ λd n1=>P (.sh d) n1
noncomputable def Cf(w:DW):Nat->List Slot->(Slot->Nat->Prop)->Prop:=λn ρ P=>w n ρ λd n1=>P (.br d) n1
noncomputable def Az(i:Nat):Nat->List Slot->(Slot->Nat->Prop)->Prop:=λn ρ P=>match ρ[i]? with
 | some .fd=>P .fd n
 | _=>False
noncomputable def Ac:U3:=λn _ P=>P [] n
noncomputable def AF(w:Nat->List Slot->(Slot->Nat->Prop)->Prop)(ws:U3):U3:=λn ρ P=>w n ρ λs n1=>ws n1 ρ λss n2=>P (s::ss) n2
noncomputable def AZ(W:W2)(was:U3):DW:=λn ρ P=>was n ρ λss n1=>W ss n1 P
section
variable {X:Cx}{a b c e:Expr}{es:List Expr}{κ κa κb:Kd}{wa wb wc:DW}{pos:Pos}{w1:Nat->List Slot->(Slot->Nat->Prop)->Prop}{was:U3}{ws:Er}
theorem AS(h:DE X e κ wa)(hk:autoParam (κ≠.tp) zau6._auto_1):YH X e (AR wa):=by
 obtain⟨t,h1,h2⟩:=h;refine⟨t,h1,λC M H n ρ σ P Q R w q=>h2 C M H n ρ σ _ _ R w λv H' d n' e f r p=>?_⟩;exact q v H' (.sh d) n' e f ⟨⟨v,rfl,r.shOf R.dom hk⟩,rfl⟩ p
theorem Im(h:DE X e κ wa):YH X e (Cf wa):=by
 obtain⟨t,h1,h2⟩:=h;refine⟨t,h1,λC M H n ρ σ P Q R w q=>h2 C M H n ρ σ _ _ R w λv H' d n' e f r p=>?_⟩;exact q v H' (.br d) n' e f ⟨⟨v,rfl,r.tpOf R.dom R.vM⟩,rfl⟩ p
theorem BC(i:Nat){x:Str}{pos:Pos}(hN:autoParam (X.N[i]?=some x) zau3._auto_1)(hv:autoParam (WX X.env.scope x) zau4._auto_1)(hd:autoParam ((x==("__debug__":Str))=false) zau1._auto_1)
  (hcd:autoParam ((x==("__classdict__":Str))=false) zau1._auto_1):YH X (.Name x pos) (Az i):=by
 refine⟨_,Kx hN hv hd hcd,λC M H n ρ σ P Q R w q=>?_⟩;unfold Az at w
 split at w
 ·rename_i hd
  obtain⟨f,e1,h1⟩:=R.sl i _ hd;exact⟨.ref f.1,getD_some e1,q _ H .fd n (Ext.refl _ _) R.feed ⟨⟨f,rfl,h1⟩,rfl⟩ w⟩
 ·exact w.elim
theorem AN:WZ X [] Ac:=⟨_,CG,λC M H n ρ σ P Q R w q=>q [] H [] n (Ext.refl _ _) R.feed .nil w⟩
theorem AB(ha:YH X e w1)(hr:WZ X es was)(hs:autoParam (starEach (e::es) X.env=(false,eval e X.env)::starEach es X.env) zau3._auto_1):WZ X (e::es) (AF w1 was):=by
 obtain⟨t,h1,h2⟩:=ha;obtain⟨u,g1,g2⟩:=hr;refine⟨_,BM h1 g1 hs,λC M H n ρ σ P Q R w q=>?_⟩;refine h2 C M H n ρ σ _ _ R w λv H1 d n1 e1 f1 r1 p=>?_;have R1:=R.step e1 f1;refine g2 C M H1 n1 ρ σ _ _ R1 p λvs H2 ds n2 e2 f2 r2 p2=>?_;exact q (v::vs) H2 (d::ds) n2 (e1.trans e2) f2 (.cons ⟨r1.1.pres (R1.pres e2) (λ_ z=>z) e2 R.uV,r1.2⟩ r2) p2
theorem UD{k:Nat}{f:Ev}{fd:aE}{ps:List Str}{W:W2}{x:Str}{p:Pos}(G:BK X.prog X.w X.K X.mg X.base Cc k f fd ps (EB X.K κ W ps.length))(hW:∀ss n P,W ss n P->ss.length=ps.length)
  (hr:Room k X.A) (hg:Gl X x) (hm:X.mg x=some (.ref f)) (hk:keepIn X.K (.ref f)=true) (hb:Binds X.K fd ps []) (ha:WZ X (e::es) was)
  (hdb:autoParam ((x==("__debug__":Str))=false) zau1._auto_1) (he:autoParam (starEach (e::es) X.env=(false,eval e X.env)::starEach es X.env) zau3._auto_1) (hpl:autoParam ((backTo pos (starEach es X.env)).any (·.1)=false) zau3._auto_1) :
  DE X (.Call (.Name x p) (e::es) [] pos) κ (AZ W was):=by
 obtain⟨t,h1,h2⟩:=ha;refine⟨_,Ky G hr hg hm hk hb .nil RQ h1 hdb he hpl,λC M H n ρ σ P Q R w q=>?_⟩;refine h2 C M H n ρ σ _ _ R w λvs H1 ss n1 e1 f1 r1 p=>?_;have R1:=R.step e1 f1;show EB X.K κ W ps.length (vs++[]) H1 Q E0;rw [Zn];refine⟨(Paired.length r1).trans (hW _ _ _ p),C.F,C.U,C.V,M,n1,ss,P,⟨R1.dom,R1.fU,R1.uV,R1.vM,f1,r1⟩,p,λv H2 d n2 e2 f2 r2 p2=>?_⟩;exact q v H2 d n2 (e1.trans e2) f2 (VR.back e1 r2) p2
noncomputable def YY(T:String)(d:D):Prop:=match d with
 | .str _=>T = "str"
 | .int _=>T = "int"
 | .lst _=>T = "list"
 | _=>False
theorem Rm{T:String}{K:Frag}{U:Ev->Prop}{M:Ev->Prop}{H:Hp}{d:D}{x:V}(h:YY T d)(hx:AtT K U M H d x):YI K T x H:=by
 cases d with
 | str z=>obtain⟨e,_⟩:=hx; subst e; exact h
 | int i=>cases (show x=.int i from hx); exact h
 | lst ds=>obtain⟨a,vs,e,_,hq,_⟩:=hx; subst e; exact .inl ⟨h,vs,.inl hq⟩
 | _=>exact(show False from h).elim
noncomputable def DO(X:Cx)(e:Option Zq)(w:Nat->List Slot->(Option Int->Nat->Prop)->Prop):Prop:=∃t,PO X e t/\∀(C:Fm) (M:Ev->Prop) (H:Hp) (n:Nat) (ρ:List Slot) (σ:L2.St) (P:Option Int->Nat->Prop) (Q:Option Int->Hp->Prop),Rel X.K C M H n ρ σ->w n ρ P ->
 (∀o H' n',Ext C.U H H'->FeedC X.K C.F M H' n'->P o n'->Q o H')->t σ H Q
noncomputable def OA:Nat->List Slot->(Option Int->Nat->Prop)->Prop:=λn _ P=>P none n
noncomputable def UQ(w:DW):Nat->List Slot->(Option Int->Nat->Prop)->Prop:=λn ρ P=>w n ρ λd n1=>match d with
 | .int i=>P (some i) n1
 | _=>False
theorem T9:DO X none OA:=⟨_,OR,λC M H n ρ σ P Q R w q=>q none H n (Ext.refl _ _) R.feed w⟩
theorem Rv{U:Ev->Prop}{K:Frag}{M:Ev->Prop}{H H':Hp}{v:V}{i:Int}(h:VR K U M H H' κ v (.int i)):v=.int i:=by
 cases κ with
 | sh=>exact h
 | tp=>exact h
 | fr=>obtain⟨a,_,_,t⟩:=h; exact(show False from t).elim
theorem T8(h:DE X e κ wa):DO X (some e) (UQ wa):=by
 obtain⟨t,h1,h2⟩:=h;refine⟨_,OQ h1,λC M H n ρ σ P Q R w q=>?_⟩;refine h2 C M H n ρ σ _ _ R w λv H1 d n1 e1 f1 r1 p=>?_;cases d with
 | int i=>exact⟨i,Rv r1,q _ H1 n1 e1 f1 p⟩
 | _=>exact p.elim
noncomputable def ZA(K:Frag)(κ:Kd)(r:V->Option Int->Option Int->Hp->VK->Prop)(f:D->Option Int->Option Int->(D->Prop)->Prop):Prop:=∀(U:Ev->Prop) (M:Ev->Prop) (H:Hp) (d:D) (x:V) (lo hi:Option Int) (P:D->Prop) (Q:VK),(∀a,M a->∃o,H a=some o)->(∀a,U a->M a) ->
 AtT K U M H d x->f d lo hi P->(∀v H' z,Grow H H'->VR K U M H H' κ v z->P z->Q v H')->r x lo hi H Q
noncomputable def Y1(f:D->Option Int->Option Int->(D->Prop)->Prop)(w:DW)(wl wh:Nat->List Slot->(Option Int->Nat->Prop)->Prop):DW:=λn ρ P=>w n ρ λd n1=>wl n1 ρ λlo n2=>wh n2 ρ λhi n3=>f d lo hi λz=>P z n3
theorem Xh{lo hi:Option Zq}{p2:Pos}{r:V->Option Int->Option Int->Hp->VK->Prop}{f:D->Option Int->Option Int->(D->Prop)->Prop}{wl wh:Nat->List Slot->(Option Int->Nat->Prop)->Prop}(hr:SlR X r)(hA:ZA X.K κ r f)(he:DE X e κa wa)(hl:DO X lo wl)(hh:DO X hi wh) :
  DE X (.Subscript e (.Slice lo hi none p2) pos) κ (Y1 f wa wl wh):=by
 obtain⟨t,h1,h2⟩:=he;obtain⟨u,g1,g2⟩:=hl;obtain⟨u',k1,k2⟩:=hh;refine⟨_,L4 hr h1 g1 k1,λC M H n ρ σ P Q R w q=>?_⟩;refine h2 C M H n ρ σ _ _ R w λv H1 d n1 e1 f1 r1 p=>?_;have R1:=R.step e1 f1;have tv:=r1.tpOf R.dom R.vM;refine g2 C M H1 n1 ρ σ _ _ R1 p λlo H2 n2 e2 f2 p2=>?_;have R2':=R1.step e2 f2;refine k2 C M H2 n2 ρ σ _ _ R2' p2 λhi H3 n3 e3 f3 p3=>?_;have R3:=R2'.step e3 f3;refine hA C.V M H3 d v lo hi _ _ R3.dom R3.vM ((tv.pres (R1.pres e2) e2 R.uV).pres (R2'.pres e3) e3 R.uV) p3 λv H4 z g vr pz=>?_;exact q v H4 z n3 (((e1.trans e2).trans e3).trans g.ext) (f3.grow g) (VR.back ((e1.trans e2).trans e3) vr) pz
end
structure E2 where
 nx:Nat->List Slot->Prop
 rt:D->Nat->Prop
 bk:Nat->List Slot->Prop:=λ_ _=>False
 ct:Nat->List Slot->Prop:=λ_ _=>False
noncomputable abbrev AW:=E2->Nat->List Slot->Prop
structure Sx (K:Frag) (C:Fm) (κ:Kd) (D2:E2) (E:Ends):Prop where
 nx:∀M H n ρ σ,Rel K C M H n ρ σ->D2.nx n ρ->E.nx σ H
 rt:∀v H d n,Ext C.U C.H0 H->FeedC K C.F C.M0 H n->VR K C.V C.M0 C.H0 H κ v d->D2.rt d n->E.rt v H
 bk:∀M H n ρ σ,Rel K C M H n ρ σ->D2.bk n ρ->E.bk σ H
 ct:∀M H n ρ σ,Rel K C M H n ρ σ->D2.ct n ρ->E.ct σ H
noncomputable def DS(X:Cx)(κ:Kd)(st:Z9)(w:AW):Prop:=∃t,PS X st t/\∀(C:Fm) (M:Ev->Prop) (H:Hp) (n:Nat) (ρ:List Slot) (σ:L2.St) (D2:E2) (E:Ends),Rel X.K C M H n ρ σ->Sx X.K C κ D2 E->w D2 n ρ->t E σ H
noncomputable def Mo(X:Cx)(κ:Kd)(st:List Z9)(w:AW):Prop:=∃t,PSs X st t/\∀(C:Fm) (M:Ev->Prop) (H:Hp) (n:Nat) (ρ:List Slot) (σ:L2.St) (D2:E2) (E:Ends),Rel X.K C M H n ρ σ->Sx X.K C κ D2 E->w D2 n ρ->t E σ H
noncomputable def A_:AW:=λD2 n ρ=>D2.nx n ρ
noncomputable def Ae(u v:AW):AW:=λD2 n ρ=>u { D2 with nx:=v D2 } n ρ
noncomputable def Ba(w:DW):AW:=λD2 n ρ=>w n ρ λd n1=>D2.rt d n1
noncomputable def Be(t:Gw)(u v:AW):AW:=λD2 n ρ=>t n ρ λc n1=>if c=true then u D2 n1 ρ else v D2 n1 ρ
noncomputable def BE(i:Nat)(w:DW):AW:=λD2 n ρ=>w n ρ λd n1=>D2.nx n1 (ρ.set i (.sh d))
section
variable {X:Cx}{κ κe:Kd}{st:Stmt}{rest:List Stmt}{u v:AW}{wa:DW}{wA:Gw}{e c:Expr}{pos:Pos}
theorem Ar:Mo X κ [] A_:=⟨_,Ku,λC M H n ρ σ D2 E R L w=>L.nx M H n ρ σ R w⟩
theorem AG(h1:DS X κ st u)(h2:Mo X κ rest v):Mo X κ (st::rest) (Ae u v):=by
 obtain⟨t,a1,a2⟩:=h1;obtain⟨t',b1,b2⟩:=h2;refine⟨_,BJ a1 b1,λC M H n ρ σ D2 E R L w=>?_⟩;exact a2 C M H n ρ σ { D2 with nx:=v D2 } { E with nx:=t' E } R ⟨λM H n ρ σ R w=>b2 C M H n ρ σ D2 E R L w,L.rt,L.bk,L.ct⟩ w
theorem AH(h1:DS X κ st u):Mo X κ [st] u:=by
 obtain⟨t,a1,a2⟩:=h1;exact⟨t,C0 a1,a2⟩
theorem VS{K:Frag}{C:Fm}{M:Ev->Prop}{H H':Hp}{n n':Nat}{ρ:List Slot}{σ:L2.St}{D2:E2}{E:Ends}{d:D}{v:V}(R:Rel K C M H n ρ σ)(L:Sx K C κ D2 E)(e:Ext C.U H H')(f:FeedC K C.F M H' n')(r:VR K C.V M H H' κ v d)(hk:κ≠.tp)(p:D2.rt d n'):E.rt v H':=by
 have less:Pres M H' C.M0 H':=Pres.less R.sub;refine L.rt v H' d n' (R.ext.trans e) (f.pres less λ_ _ _ z=>z) ?_ p;cases κ with
 | sh=>exact At.pres less r
 | tp=>exact absurd rfl hk
 | fr =>
  have r':=VR.back (κ:=.fr) R.ext r;obtain⟨a,e1,h1,h2⟩:=r';exact⟨a,e1,h1,h2.pres (Pres.less λb z=>z.imp (R.sub b) id) λ_ z=>z⟩
theorem Au(h:DE X e κ wa)(hk:autoParam (κ≠.tp) zau6._auto_1):DS X κ (.Return (some e) pos) (Ba wa):=by
 obtain⟨t,a1,a2⟩:=h;refine⟨_,FS a1,λC M H n ρ σ D2 E R L w=>?_⟩;exact a2 C M H n ρ σ _ _ R w λv H' d n' e1 f1 r1 p=>VS R L e1 f1 r1 hk p
theorem BR{a b:List Z9}(hc:DT X c wA)(ha:Mo X κ a u)(hb:Mo X κ b v):DS X κ (.If c a b pos) (Be wA u v):=by
 obtain⟨t,a1,a2⟩:=hc;obtain⟨t',b1,b2⟩:=ha;obtain⟨t'',c1,c2⟩:=hb;refine⟨_,RF a1 b1 c1,λC M H n ρ σ D2 E R L w=>?_⟩;refine a2 C M H n ρ σ _ _ R w λb H1 n1 e1 f1 p=>?_;cases b with
 | true=>exact b2 C M H1 n1 ρ σ D2 E (R.step e1 f1) L p
 | false=>exact c2 C M H1 n1 ρ σ D2 E (R.step e1 f1) L p
theorem Ai{i:Nat}{x:Str}{pos':Pos}(hN:X.N.Nodup)(hi:X.N[i]?=some x)(hx:Loc X.env.scope x)(he:DE X e κe wa)(hk:autoParam (κe≠.tp) zau6._auto_1)(hs:autoParam (swapsWith e (some (.Name x pos')) pos.line X.env=pure false) zau3._auto_1)
  (hf:autoParam (X.fn x=true\/X.env.scope.names.lookup x=some .local) zau0._auto_1):DS X κ (.Assign [.Name x pos'] e pos) (BE i wa):=by
 obtain⟨t,a1,a2⟩:=he;refine⟨_,EH hN hi hx a1 hs hf,λC M H n ρ σ D2 E R L w=>?_⟩;refine a2 C M H n ρ σ _ _ R w λv H' d n' e1 f1 r1 p=>?_;exact L.nx M H' n' _ _ ((R.step e1 f1).set (r1.shOf R.dom hk)) p
end
section
variable {X:Cx}{κ κe:Kd}{e:Expr}{wa:DW}{pos:Pos}
noncomputable def CO(i:Nat)(w:DW):AW:=λD2 n ρ=>w n ρ λd n1=>D2.nx n1 (ρ.set i (.ow d))
theorem BP{i:Nat}{x:Str}{pos':Pos}(hN:X.N.Nodup)(hi:X.N[i]?=some x)(hx:Loc X.env.scope x)(he:DE X e .fr wa)(hs:autoParam (swapsWith e (some (.Name x pos')) pos.line X.env=pure false) zau3._auto_1)
  (hf:autoParam (X.fn x=true\/X.env.scope.names.lookup x=some .local) zau0._auto_1):DS X κ (.Assign [.Name x pos'] e pos) (CO i wa):=by
 obtain⟨t,a1,a2⟩:=he;refine⟨_,EH hN hi hx a1 hs hf,λC M H n ρ σ D2 E R L w=>?_⟩;refine a2 C M H n ρ σ _ _ R w λv H' d n' e1 f1 r1 p=>?_;obtain⟨a,rfl,h1,h2⟩:=r1;exact L.nx _ H' n' _ _ (R.setOw e1 f1 h1 h2) p
noncomputable def Hg(i:Nat):AW:=λD2 n ρ=>∃d,ρ[i]?=some (.ow d)/\D2.rt d n
theorem HR{x:Str}{p:Pos}(i:Nat)(h:PE X (.Name x p) (BU i)):DS X .fr (.Return (some (.Name x p)) pos) (Hg i):=by
 refine⟨_,FS h,λC M H n ρ σ D2 E R L ⟨d,hd,hw⟩=>?_⟩;obtain⟨a,e1,m,nv,t⟩:=R.sl i _ hd;refine⟨.ref a,getD_some e1,L.rt _ H d n R.ext (R.feed.pres (Pres.less R.sub) λ_ _ _ z=>z) ⟨a,rfl,(R.new i _ a hd rfl e1).2,?_⟩ hw⟩;exact t.pres (Pres.less λb z=>z.elim (R.sub b) λz=>by rw [z]; exact m) λ_ z=>z
noncomputable def UO(K:Frag)(r:V->List V->Hp->VK->Prop)(f:D->List D->(D->D->Prop)->Prop):Prop:=∀(M:Ev->Prop) (H:Hp) (a:Ev) (d:D) (ds:List D) (vs:List V) (P:D->D->Prop) (Q:VK),M a->Tops K M H a d->Ats K M H ds vs->f d ds P ->
 (∀o e z v,Tops K M (Aw H a o) a e->At K M (Aw H a o) z v->P e z->Q v (Aw H a o))->r (.ref a) vs H Q
noncomputable def Jf(i:Nat)(T:String)(f:D->List D->(D->D->Prop)->Prop)(ws:Er):AW:=λD2 n ρ=>∃d,ρ[i]?=some (.ow d)/\YY T d/\ws n ρ λds n1=>f d ds λe _=>D2.nx n1 (ρ.set i (.ow e))
theorem Bq{M:Ev->Prop}{H:Hp}{a:Ev}{o u:HO}(m:M a)(e:H a=some u)(t:autoParam (∀vs,u≠.tup vs) zau7._auto_1):Pres M H M (Aw H a o):=⟨λb o' q nb=>by rw [AK (λz=>nb (by rw [z]; exact m))]; exact q,λ_ z=>.inl z,λb vs q=>by rw [AK (λz=>by rw [z,e] at q; exact t vs (ZS q))]; exact q⟩
theorem CQ{x name:Str}{p apos cpos:Pos}{T id:String}{r:V->List V->Hp->VK->Prop}{f:D->List D->(D->D->Prop)->Prop}{es:List Zq}{ws:Er}(i:Nat)(pa:PlainAttrs T)(slot:PySem.Slot T name id)(hty:typeOf (.builtin id)=pure (.type "method_descriptor"))
  (hm:Yq X id r) (hA:UO X.K r f) (h:PE X (.Name x p) (BU i)) (ha:WU X (e::es) ws)
  (hbase:autoParam (attributeBase (.Name x p) name X.env (eval (.Name x p) X.env)=eval (.Name x p) X.env) zau3._auto_1)
  (hfew:autoParam (((backTo cpos (starEach (e::es) X.env)).all (λx=>!x.1)&&(backToKw cpos (keywordEach [] X.env)).all (λx=>x.1.isSome)
   && decide ((e::es).length+([]:List cu).length+(if ([]:List cu).isEmpty then 0 else 1)<30))=true) zau3._auto_1)
  (hline:autoParam ((apos.endLine==cpos.line)=true) zau3._auto_1) (hs:autoParam (starEach (e::es) X.env=(false,eval e X.env)::starEach es X.env) zau3._auto_1) (hplain:autoParam ((backTo cpos (starEach es X.env)).any (·.1)=false) zau3._auto_1)
  (hsw:autoParam (swapsWith (.Call (.Attribute (.Name x p) name apos) (e::es) [] cpos) none pos.line X.env=pure false) zau3._auto_1) :
  DS X κ (.Expr (.Call (.Attribute (.Name x p) name apos) (e::es) [] cpos) pos) (Jf i T f ws):=by
 obtain⟨t,a1,a2⟩:=ha;refine⟨_,OP (Uj pa slot hty hm h a1 hbase hfew hline hs hplain) hsw,λC M H n ρ σ D2 E R L ⟨d,hd,hT,hw⟩=>?_⟩;obtain⟨a,e1,m,nv,tt⟩:=R.sl i _ hd;refine⟨.ref a,getD_some e1,Rm hT (tt.att nv),?_⟩;refine a2 C M H n ρ σ _ _ R hw λvs H1 ds n1 ee f1 r1 p=>?_;have R1:=R.step ee f1;obtain⟨a',e1',m',nv',tt'⟩:=R1.sl i _ hd;rw [e1] at e1';cases e1';exact hA M H1 a d ds vs _ _ m' tt' r1 p λo d' z v t2 hz pp=>L.nx M _ n1 _ σ (R1.mut hd e1 t2) pp
noncomputable def ET(d:D)(ds:List D)(P:D->D->Prop):Prop:=∃xs y,d=.lst xs/\ds=[y]/\xs.length<sizeLine/\P (.lst (xs++[y])) .non
theorem DR{K:Frag}:UO K OL ET:=by
 intro M H a d ds vs P Q m t hv w q;obtain⟨xs,y,rfl,rfl,hl,w⟩:=w;obtain⟨us,h1,h2⟩:=t;obtain⟨u,r,rfl,hu,hr⟩:=hv;cases (show r=[] from hr);refine⟨a,us,u,rfl,rfl,h1,by rw [h2.length]; exact hl,q _ (.lst (xs++[y])) .non _ ⟨us++[u],AT,?_⟩ rfl w⟩;exact(h2.append (Ats.one hu)).pres (Bq m h1)
noncomputable def V3(d:D)(ds:List D)(P:D->D->Prop):Prop:=∃xs ys,d=.lst xs/\ds=[.lst ys]/\xs.length+ys.length<=sizeLine/\P (.lst (xs++ys)) .non
theorem Ss{K:Frag}:UO K OJ V3:=by
 intro M H a d ds vs P Q m t hv w q;obtain⟨xs,ys,rfl,rfl,hl,w⟩:=w;obtain⟨us,h1,h2⟩:=t;obtain⟨u,r,rfl,hu,hr⟩:=hv;cases (show r=[] from hr);obtain⟨b,zs,rfl,hb,hz⟩:=hu;refine⟨a,b,us,zs,rfl,rfl,h1,hb.2,by rw [h2.length,hz.length]; exact hl,q _ (.lst (xs++ys)) .non _ ⟨us++zs,AT,?_⟩ rfl w⟩;exact(h2.append hz).pres (Bq m h1)
end
noncomputable def Yields(K:Frag)(M:Ev->Prop)(H:Hp)(J:It)(ds:List D):Prop:=∀(i:Nat) (M':Ev->Prop) (H':Hp),Pres M H M' H'->(∀a,M' a->∃o,H' a=some o) ->
 (∀d,ds[i]?=some d->J.go i H'/\∀x H2,J.yld i H' x H2->Grow H' H2/\At K M' H2 d x)/\(ds.length<=i->J.stop i H')
noncomputable def O1(K:Frag)(U M:Ev->Prop)(H:Hp)(J:It)(ds:List D):Prop:=∀(i:Nat) (M':Ev->Prop) (H':Hp),Pres M H M' H'->Ext U H H'->(∀a,M' a->∃o,H' a=some o) ->
 (∀d,ds[i]?=some d->J.go i H'/\∀x H2,J.yld i H' x H2->Grow H' H2/\At K M' H2 d x)/\(ds.length<=i->J.stop i H')
theorem Yields.e{K:Frag}{U M:Ev->Prop}{H:Hp}{J:It}{ds:List D}(h:Yields K M H J ds):O1 K U M H J ds:=λi M' H' p _ d=>h i M' H' p d
noncomputable def X1(X:Cx)(tg iter:Zq)(w:Er):Prop:=∃wi,PI X tg iter wi/\∀(C:Fm) (M:Ev->Prop) (H:Hp) (n:Nat) (ρ:List Slot) (σ:L2.St) (P:List D->Nat->Prop) (R:It->Hp->Prop),Rel X.K C M H n ρ σ->w n ρ P ->
 (∀J H' ds n',Ext C.U H H'->FeedC X.K C.F M H' n'->O1 X.K C.U M H' J ds->P ds n'->R J H')->wi σ H R
noncomputable def DI(X:Cx)(tg iter:Zq)(w:Er):Prop:=∃wi,PI X tg iter wi/\∀(C:Fm) (M:Ev->Prop) (H:Hp) (n:Nat) (ρ:List Slot) (σ:L2.St) (P:List D->Nat->Prop) (R:It->Hp->Prop),Rel X.K C M H n ρ σ->w n ρ P ->
 (∀J H' ds n',Ext C.U H H'->FeedC X.K C.F M H' n'->Yields X.K M H' J ds->P ds n'->R J H')->wi σ H R
noncomputable def signs(x:Str):List D:=x.cps.toList.map λc=>.str ⟨#[c]⟩
noncomputable def BQ(w:DW):Er:=λn ρ P=>w n ρ λd n1=>match d with
 | .lst ds=>P ds n1
 | .tup ds=>P ds n1
 | .str x=>P (signs x) n1
 | _=>False
theorem LZ{K:Frag}{M:Ev->Prop}{H:Hp}{a:Ev}{vs:List V}{ds:List D}(h:NdL M H a vs)(hs:Ats K M H ds vs):Yields K M H (Yu K a) ds:=by
 intro i M' H' p _;have hq:SqL K H' a vs:=(h.pres p).sq;refine⟨λd hd=>?_,λhl=>⟨vs,hq,by rw [hs.length]; exact hl⟩⟩;obtain⟨v,e,hv⟩:=(hs.pres p).get hd;refine⟨⟨vs,v,hq,e⟩,λx H2 y=>?_⟩;obtain⟨e2,y⟩:=y;subst e2
 have:some v=some x:=e.symm.trans (y vs hq)
 cases this;exact⟨.refl,hv⟩
theorem Hb{K:Frag}{M:Ev->Prop}{H:Hp}{a:Ev}{vs:List V}{ds:List D}(h:NdT M H a vs)(hs:Ats K M H ds vs):Yields K M H (WT K a) ds:=by
 intro i M' H' p _;have hq:SqT K H' a vs:=(h.pres p).sq;refine⟨λd hd=>?_,λhl=>⟨vs,hq,by rw [hs.length]; exact hl⟩⟩;obtain⟨v,e,hv⟩:=(hs.pres p).get hd;refine⟨⟨vs,v,hq,e⟩,λx H2 y=>?_⟩;obtain⟨e2,y⟩:=y;subst e2
 have:some v=some x:=e.symm.trans (y vs hq)
 cases this;exact⟨.refl,hv⟩
theorem yields_str{K:Frag}{M:Ev->Prop}{H:Hp}{z:Str}:Yields K M H (Yt z) (signs z):=by
 intro i M' H' p _;refine⟨λd hd=>?_,λhl=>?_⟩
 ·unfold signs at hd
  rw [ZZ] at hd
  have hi:i<z.cps.size:=by
   cases q:z.cps.toList[i]? with
   | none=>rw [q] at hd; cases hd
   | some c=>simpa using (ZB.mp q).1
  refine⟨hi,λx H2 y=>?_⟩;obtain⟨e2,c,hc,rfl⟩:=y;subst e2
  have:z.cps.toList[i]?=some c:=by simpa using hc
  rw [this] at hd;have hd':D.str ⟨#[c]⟩=d:=ZS hd;subst hd';exact⟨.refl,rfl,by rw [Z2]; show 1<=16777216; decide⟩
 ·show z.cps.size<=i
  unfold signs at hl
  simpa using hl
noncomputable def Co(lo:Int)(n:Nat):List D:=(Z7 n).map fun(i:Nat)=>.int (lo+(i:Int))
theorem Fa{K:Frag}{M:Ev->Prop}{H:Hp}{lo:Int}{m:Nat}:Yields K M H (Xz lo m) (Co lo m):=by
 intro i M' H' p _;refine⟨λd hd=>?_,λhl=>?_⟩
 ·unfold Co at hd
  rw [ZZ] at hd
  have hi:i<m:=by
   cases q:(Z7 m)[i]? with
   | none=>rw [q] at hd; cases hd
   | some c=>simpa using (ZB.mp q).1
  rw [List.getElem?_range hi] at hd;have hd':D.int (lo+i)=d:=ZS hd;subst hd';refine⟨hi,λx H2 y=>?_⟩;obtain⟨e2,e3⟩:=y;subst e2;exact⟨.refl,e3⟩
 ·show m<=i
  unfold Co at hl
  simpa using hl
section
variable {X:Cx}{tg e e2:Expr}{es:List Expr}{κ:Kd}{wa:DW}{ws:Er}{p pos:Pos}
theorem Dv(h:DE X e κ wa)(hk:autoParam (κ≠.tp) zau6._auto_1):DI X tg e (BQ wa):=by
 obtain⟨t,a1,a2⟩:=h;refine⟨_,Kw a1,λC M H n ρ σ P Rr R w q=>?_⟩;refine a2 C M H n ρ σ _ _ R w λv H1 d n1 e1 f1 r1 p=>?_;have hv:=r1.shOf R.dom hk;cases d with
 | lst ds =>
  obtain⟨a,vs,e,hn,hs⟩:=hv;exact .inl ⟨a,e,⟨vs,hn.sq⟩,q _ H1 ds n1 e1 f1 (LZ hn hs) p⟩
 | tup ds =>
  obtain⟨a,vs,e,hn,hs⟩:=hv;exact .inr (.inl ⟨a,e,⟨vs,hn.sq⟩,q _ H1 ds n1 e1 f1 (Hb hn hs) p⟩)
 | str z=>exact .inr (.inr ⟨z,hv.1,q _ H1 _ n1 e1 f1 yields_str p⟩)
 | _=>exact p.elim
noncomputable def Gx(ws:Er):Er:=λn ρ P=>ws n ρ λds n1=>∃j:Int,ds=[.int j]/\(-(2 ^ 62)<=j/\j<2 ^ 62)/\P (Co 0 j.toNat) n1
theorem Ce(hg:Gl X "range")(hm:X.mg "range"=none)(ha:WV X [e] ws)(hs:autoParam (starEach [e] X.env=[(false,eval e X.env)]) zau3._auto_1):DI X tg (.Call (.Name "range" p) [e] [] pos) (Gx ws):=by
 obtain⟨t,a1,a2⟩:=ha;refine⟨_,PX hg hm a1 hs,λC M H n ρ σ P Rr R w q=>?_⟩;refine a2 C M H n ρ σ _ _ R w λvs H1 ds n1 e1 f1 r1 p=>?_;obtain⟨j,rfl,hj,p⟩:=p;cases r1 with
 | cons r rr =>
  cases rr;have hv:_=V.int j:=r;exact⟨j,by rw [hv],hj.1,hj.2,q _ H1 _ n1 e1 f1 Fa p⟩
theorem DI.c(h:DI X tg e ws):X1 X tg e ws:=by
 obtain⟨wi,a1,a2⟩:=h;exact⟨wi,a1,λC M H n ρ σ P Rr R w q=>a2 C M H n ρ σ P Rr R w λJ H' ds n' e1 f1 y p=>q J H' ds n' e1 f1 y.e p⟩
theorem E6(h:DE X e κ wa):X1 X tg e (BQ wa):=by
 obtain⟨t,a1,a2⟩:=h;refine⟨_,Kw a1,λC M H n ρ σ P Rr R w q=>?_⟩;refine a2 C M H n ρ σ _ _ R w λv H1 d n1 e1 f1 r1 p=>?_;have hv:AtT X.K C.V M H1 d v:=r1.tpOf R.dom R.vM;cases d with
 | lst ds =>
  obtain⟨a,vs,e,nv,hr,hs⟩:=hv;refine .inl ⟨a,e,⟨vs,.inl hr⟩,q _ H1 ds n1 e1 f1 (λi M' H' pr ex _=>?_) p⟩
  have hq:SqL X.K H' a vs:=by
   rcases hr with hr | ⟨o,hr⟩
   ·exact .inl (.inl (ex.keep hr λz=>nv (R.uV a z)))
   ·exact .inl (.inr ⟨o,ex.keep hr λz=>nv (R.uV a z)⟩)
  refine⟨λd hd=>?_,λhl=>⟨vs,hq,by rw [hs.length]; exact hl⟩⟩;obtain⟨v,e,hv⟩:=(hs.pres pr).get hd;refine⟨⟨vs,v,hq,e⟩,λx H2 y=>?_⟩;obtain⟨e2,y⟩:=y;subst e2
  have:some v=some x:=e.symm.trans (y vs hq)
  cases this;exact⟨.refl,hv⟩
 | tup ds =>
  obtain⟨a,vs,e,hn,hs⟩:=hv;exact .inr (.inl ⟨a,e,⟨vs,hn.sq⟩,q _ H1 ds n1 e1 f1 (Hb hn hs).e p⟩)
 | str z=>exact .inr (.inr ⟨z,hv.1,q _ H1 _ n1 e1 f1 yields_str.e p⟩)
 | _=>exact p.elim
end
noncomputable abbrev BW:=D->List Slot->(List Slot->Prop)->Prop
noncomputable def DG(X:Cx)(tg:Zq)(b:BW):Prop:=∃g,PG X tg g/\∀(C:Fm) (M:Ev->Prop) (H:Hp) (n:Nat) (ρ:List Slot) (σ:L2.St) (d:D) (v:V) (P:List Slot->Prop) (Q:L2.St->Hp->Prop),Rel X.K C M H n ρ σ->At X.K M H d v->b d ρ P ->
 (∀ρ' σ',Rel X.K C M H n ρ' σ'->P ρ'->Q σ' H)->g v σ H Q
noncomputable def Aa(i:Nat):BW:=λd ρ P=>P (ρ.set i (.sh d))
theorem Ab{X:Cx}{i:Nat}{x:Str}{pos:Pos}(hN:X.N.Nodup)(hi:X.N[i]?=some x)(hx:Loc X.env.scope x)(hf:autoParam (X.fn x=true\/X.env.scope.names.lookup x=some .local) zau0._auto_1):DG X (.Name x pos) (Aa i) :=
 ⟨_,Fl hN hi hx hf,λC M H n ρ σ d v P Q R h w q=>q _ _ (R.set h) w⟩
noncomputable def A0(b:BW)(body:AW)(D2:E2):List D->Nat->List Slot->Prop
 | [],n,ρ=>D2.nx n ρ
 | d::ds,n,ρ=>b d ρ λρ1=>body { D2 with nx:=A0 b body D2 ds,ct:=A0 b body D2 ds,bk:=D2.nx } n ρ1
noncomputable def Cg(src:Er)(b:BW)(body:AW):AW:=λD2 n ρ=>src n ρ λds n1=>A0 b body D2 ds n1 ρ
theorem Rel.unpin{K:Frag}{C:Fm}{p:(Ev->Prop)×Hp}{M:Ev->Prop}{H:Hp}{n:Nat}{ρ:List Slot}{σ:L2.St}(R:Rel K { C with pins:=p::C.pins } M H n ρ σ):Rel K C M H n ρ σ :=
 ⟨R.len,R.sub,R.dom,R.ext,R.fU,R.uV,R.vM,R.feed,R.sl,λq hq=>R.pin q (Sc _ hq),R.br0,R.new,R.two,R.kept⟩
theorem Rel.pinned{K:Frag}{C:Fm}{M:Ev->Prop}{H:Hp}{n:Nat}{ρ:List Slot}{σ:L2.St}(R:Rel K C M H n ρ σ):Rel K { C with pins:=(M,H)::C.pins } M H n ρ σ :=
 ⟨R.len,R.sub,R.dom,R.ext,R.fU,R.uV,R.vM,R.feed,R.sl,λq hq=>(XV.mp hq).elim (λe=>e▸Pres.refl M H) (R.pin q),R.br0,R.new,R.two,R.kept⟩
section
variable {X:Cx}{κ:Kd}{tg iter:Expr}{body:List Stmt}{src:Er}{b:BW}{wb:AW}{pos:Pos}
theorem BS(hp:d9 (model X.prog X.w) X.A X.env X.xe)(hc:X.calm=true)(hi:DI X tg iter src)(hg:DG X tg b)(hb:Mo X κ body wb)
  (hs:autoParam (∀x,foldedSetIterable iter X.env x=pure x) zau2._auto_1):DS X κ (.For tg iter body [] pos) (Cg src b wb):=by
 obtain⟨wi,a1,a2⟩:=hi;obtain⟨g,g1,g2⟩:=hg;obtain⟨tb,b1,b2⟩:=hb;refine⟨_,IH hp hc a1 g1 b1 hs,λC M H n ρ σ D2 E R L w=>?_⟩;refine a2 C M H n ρ σ _ _ R w λJ H1 ds n1 e1 f1 y w1=>?_;have R1:=R.step e1 f1;refine⟨λi m σ' H'=>m=ds.length - i/\i<=ds.length/\∃M' n' ρ',Rel X.K { C with pins:=(M,H1)::C.pins } M' H' n' ρ' σ'/\A0 b wb D2 (ds.drop i) n' ρ',⟨ds.length,by simp,Zi _,M,n1,ρ,R1.pinned,w1⟩,?_⟩;rintro i m σ' H' ⟨rfl,hi,M',n',ρ',R',w'⟩;have pr:Pres M H1 M' H':=R'.pin (M,H1) Re
 by_cases hlt:i<ds.length
 ·have ed:ds.drop i=ds[i]::ds.drop (i+1):=aa hlt
  rw [ed] at w';obtain⟨go,yl⟩:=(y i M' H' pr R'.dom).1 ds[i] (No hlt);refine .inr ⟨go,λσ2 H2=>∃M2 n2 ρ2,Rel X.K { C with pins:=(M,H1)::C.pins } M2 H2 n2 ρ2 σ2/\A0 b wb D2 (ds.drop (i+1)) n2 ρ2,λσ2 H2 ⟨M2,n2,ρ2,R2',w2⟩=>⟨ds.length - (i+1),by omega,rfl,hlt,M2,n2,ρ2,R2',w2⟩,λx H2 hy=>?_⟩;obtain⟨gr,hx⟩:=yl x H2 hy;have R2':=R'.step gr.ext (R'.feed.grow gr);refine g2 _ M' H2 n' ρ' σ' ds[i] x _ _ R2' hx w' λρ3 σ3 R3 w3=>?_;refine b2 _ M' H2 n' ρ3 σ3 { D2 with nx:=A0 b wb D2 (ds.drop (i+1)),ct:=A0 b wb D2 (ds.drop (i+1)),bk:=D2.nx } _ R3 ⟨λM4 H4 n4 ρ4 σ4 R4 w4=>⟨M4,n4,ρ4,R4,w4⟩,L.rt,λM4 H4 n4 ρ4 σ4 R4 w4=>L.nx M4 H4 n4 ρ4 σ4 R4.unpin w4,λM4 H4 n4 ρ4 σ4 R4 w4=>⟨M4,n4,ρ4,R4,w4⟩⟩ w3
 ·have e:i=ds.length:=by omega
  subst e;rw [cM] at w';exact .inl ⟨(y _ M' H' pr R'.dom).2 (Tk _),L.nx M' H' n' ρ' σ' R'.unpin w'⟩
end
noncomputable def EM(b:BW)(tt:Gw)(te:DW)(P:List D->Nat->Prop):List D->List D->Nat->List Slot->Prop
 | [],acc,n,_=>P acc n
 | d::ds,acc,n,ρ=>b d ρ λρ1=>tt n ρ1 λc n1=>if c=true then te n1 ρ1 λy n2=>EM b tt te P ds (acc++[y]) n2 ρ1 else EM b tt te P ds acc n1 ρ1
noncomputable def Pw:Slot->Slot
 | .ow d=>.br d
 | .lt _ d=>.br d
 | s=>s
theorem Pu(s:Slot):(Pw s).owns=false:=by cases s <;> rfl
theorem IS{js:List (Option Nat)}{ρ:List Slot}{i:Nat}{s:Slot}(h:(js.map λo=>match o with | some i=>Pw ((ρ[i]?).getD .no) | none=>Slot.no)[i]?=some s):s.owns=false:=by
 rw [ZZ] at h;cases q:js[i]? with
 | none=>rw [q] at h; cases h
 | some o =>
  rw [q] at h;cases o with
  | none =>
   have e:Slot.no=s:=ZS h;rw [← e]; rfl
  | some j =>
   have e:Pw ((ρ[j]?).getD .no)=s:=ZS h;rw [← e]; exact Pu _
noncomputable def IT(js:List (Option Nat))(ρ:List Slot):List Slot:=js.map λo=>match o with
 | some i=>Pw ((ρ[i]?).getD .no)
 | none=>.no
noncomputable def DF(js:List (Option Nat))(src:Er)(b:BW)(tt:Gw)(te:DW):DW:=λn ρ P=>src n ρ λds n1=>ds.length<=10000000/\EM b tt te (λacc n2=>P (.lst acc) n2) ds [] n1 (IT js ρ)
noncomputable def YF(X:Cx)(ifs:List Zq)(w:Gw):Prop:=∃t,Xv X ifs t/\∀(C:Fm) (M:Ev->Prop) (H:Hp) (n:Nat) (ρ:List Slot) (σ:L2.St) (P:Bool->Nat->Prop) (Q:Bool->Hp->Prop),Rel X.K C M H n ρ σ->w n ρ P ->
 (∀b H' n',Ext C.U H H'->FeedC X.K C.F M H' n'->P b n'->Q b H')->t σ H Q
noncomputable def Fb:Gw:=λn _ P=>P true n
theorem C3{X:Cx}:YF X [] Fb:=⟨_,TU,λC M H n ρ σ P Q R w q=>q true H n (Ext.refl _ _) R.feed w⟩
theorem Oi{X:Cx}{c:Zq}{w:Gw}(h:DT X c w):YF X [c] w:=by
 obtain⟨t,h1,h2⟩:=h;exact⟨t,TR h1,h2⟩
theorem Jw{js:List (Option Nat)}{ρ:List Slot}{σ:L2.St}{i:Nat}{s:Slot}(hs:(IT js ρ)[i]?=some s):s=.no\/∃(j:Nat) (s':Slot),ρ[j]?=some s'/\s=Pw s'/\((Cp js σ)[i]?).getD none=(σ[j]?).getD none:=by
 unfold IT at hs;unfold Cp;rw [ZZ] at hs ⊢;cases q:js[i]? with
 | none=>rw [q] at hs; cases hs
 | some o =>
  rw [q] at hs;cases o with
  | none=>exact .inl (ZS hs).symm
  | some j =>
   have e:Pw ((ρ[j]?).getD .no)=s:=ZS hs;cases q2:ρ[j]? with
   | none=>rw [q2] at e; exact .inl e.symm
   | some s' =>
    rw [q2] at e;exact .inr ⟨j,s',q2,e.symm,rfl⟩
theorem Ra{K:Frag}{F:Option Fd}{U U' M M':Ev->Prop}{H H':Hp}{js:List (Option Nat)}{ρ:List Slot}{σ:L2.St}(hsl:∀(i:Nat) (s:Slot),ρ[i]?=some s->SlotOk K F U M H s ((σ[i]?).getD none))
  (pr:Pres M H M' H') (br:∀d v,AtT K U M H d v->AtT K U' M' H' d v):∀(i:Nat) (s:Slot),(IT js ρ)[i]?=some s->SlotOk K F U' M' H' s (((Cp js σ)[i]?).getD none):=by
 intro i s hs
 rcases Jw (σ:=σ) hs with rfl | ⟨j,s',q,rfl,e⟩
 ·trivial
 ·rw [e]
  have h1:=hsl j s' q;cases s' with
  | no=>trivial
  | sh d=>obtain⟨v,e1,h2⟩:=h1; exact⟨v,e1,h2.pres pr⟩
  | ex a nm ks ds=>obtain⟨e1,h2⟩:=h1; exact⟨e1,h2.pres pr⟩
  | br d=>obtain⟨v,e1,h2⟩:=h1; exact⟨v,e1,br d v h2⟩
  | fd=>exact h1
  | wd S=>exact h1
  | ow d=>obtain⟨a,e1,_,nv,t⟩:=h1; exact⟨.ref a,e1,br d _ (t.att nv)⟩
  | lt a d=>obtain⟨e1,_,nv,t⟩:=h1; exact⟨.ref a,e1,br d _ (t.att nv)⟩
theorem Tj{K:Frag}{F:Option Fd}{U M:Ev->Prop}{H:Hp}{js:List (Option Nat)}{ρ:List Slot}{σ:L2.St}(hsl:∀(i:Nat) (s:Slot),ρ[i]?=some s->SlotOk K F U M H s ((σ[i]?).getD none)){i:Nat}{d:D}{a:Ev}
  (hs:(IT js ρ)[i]?=some (.br d)) (ha:((Cp js σ)[i]?).getD none=some (.ref a)):∃o,H a=some o:=by
 rcases Jw (σ:=σ) hs with z | ⟨j,s',q,z,e⟩
 ·cases z
 ·rw [e] at ha
  have h1:=hsl j s' q;rw [ha] at h1;cases s' with
  | br d=>obtain⟨v,e1,h2⟩:=h1; cases e1; exact h2.lies
  | ow d=>obtain⟨b,e1,_,nv,t⟩:=h1; cases e1; exact(t.att nv).lies
  | lt b d=>obtain⟨e1,_,nv,t⟩:=h1; cases e1; exact(t.att nv).lies
  | no=>cases z
  | sh d=>cases z
  | ex a nm ks ds=>cases z
  | fd=>cases z
  | wd S=>cases z
section
variable {X:Cx}{κe:Kd}{tg elt iter:Expr}{ifs:List Expr}{sc:Scope}{pos:Pos}{src:Er}{b:BW}{tt:Gw}{te:DW}
theorem UC(hc:X.calm=true)(N':List Str)(js:List (Option Nat))(hi:X1 X tg iter src)(hg:∀cl C s H fp,DG (BD X sc N' cl C s H fp) tg b)(ht:∀cl C s H fp,YF (BD X sc N' cl C s H fp) ifs tt)(he:∀cl C s H fp,DE (BD X sc N' cl C s H fp) elt κe te)
  (hB:MY sc X.env.scope X.N N' js=true) (hk:autoParam (κe≠.tp) zau6._auto_1)
  (hs:autoParam (∀x,foldedSetIterable iter X.env x=pure x) zau2._auto_1):DE X (.ListComp elt [⟨tg,iter,ifs,0⟩] sc pos) .fr (DF js src b tt te):=by
 obtain⟨wi,a1,a2⟩:=hi;refine⟨_,TY hc N' js a1 hB hs,λC M H n ρ σ P Q R w q=>?_⟩;refine a2 C M H n ρ σ _ _ R w λJ H1 ds n1 e1 f1 y w1=>?_;obtain⟨hlen,w1⟩:=w1;have R1:=R.step e1 f1;intro l hl hkl cl Ca s0 H0 fp;obtain⟨g,g1,g2⟩:=hg cl Ca s0 H0 fp;obtain⟨tc,c1,c2⟩:=ht cl Ca s0 H0 fp;obtain⟨tx,x1,x2⟩:=he cl Ca s0 H0 fp
 have noU:¬C.U l:=λz=>by
  obtain⟨o,z⟩:=R1.udom l z;rw [hl] at z; cases z
 generalize hM':(λb=>M b\/b=l)=M';have M'l:M' l:=by rw [← hM']; exact .inr rfl
 have M'of:∀b,M b->M' b:=λb z=>by rw [← hM']; exact .inl z
 have ofM':∀b,M' b->M b\/b=l:=λb z=>by rw [← hM'] at z; exact z
 have inV:∀b,C.V b\/b=l->M' b:=λb z=>z.elim (λz=>M'of b (R1.vM b z)) λz=>by rw [z]; exact M'l
 have lenj:js.length=N'.length:=F4 (CompOk.of hB).cap
 refine⟨g,tc,tx,λi m σ' H'=>m=ds.length - i/\i<=ds.length/\∃n' ρ' acc vs,Rel X.K ⟨M',C.F,C.U,λb=>C.V b\/b=l,H1,[],[]⟩ M' H' n' ρ' σ'/\H' l=some (.lst vs)/\Ats X.K M' H' acc vs/\acc.length<=i/\Pres M H1 M' H' /\
   EM b tt te (λacc n2=>P (.lst acc) n2) (ds.drop i) acc n' ρ',g1,c1,x1,⟨ds.length,by simp,Zi _,n1,IT js ρ,[],[],?_⟩,?_⟩
 ·have gr:Grow H1 (Aw H1 l (.lst [])):=Ax hl
  have pr:Pres M H1 M' (Aw H1 l (.lst [])):=⟨λb o e _=>gr.all b o e,λb z=>(ofM' b z).elim .inl λz=>.inr (by rw [z]; exact hl),λb vs e=>gr.all b _ e⟩;refine⟨⟨?_,λa z=>z,λa z=>?_,gr.ext,R1.fU,λa z=>.inl (R1.uV a z),inV,f1.pres pr λf o _ e=>gr.all f.1 o e,?_,λp hp=>absurd hp (by simp),λi d a q z=>Tj R1.sl q z,λi s a q o _=>absurd o (by rw [IS q]; decide),λi j s t a q o _ _ _ _=>absurd o (by rw [IS q]; decide),λp hp=>absurd hp (by simp)⟩,AT,rfl,Zi _,pr,w1⟩
  ·unfold IT Cp
   rw [On,On]
  ·rcases ofM' a z with z | z
   ·obtain⟨o,z⟩:=R1.dom a z
    exact⟨o,gr.all a o z⟩
   ·subst z
    exact⟨_,AT⟩
  ·refine Ra R1.sl pr λd v h=>h.same pr (λa o _ e=>gr.all a o e) λa e n1 z=>z.elim n1 λz=>?_
   subst e;obtain⟨o,w⟩:=h.lies;rw [z,hl] at w;cases w
 ·rintro i m σ' H' ⟨rfl,hi,n',ρ',acc,vs,R',hlv,hac,hal,pr,w'⟩
  by_cases hlt:i<ds.length
  ·have ed:ds.drop i=ds[i]::ds.drop (i+1):=aa hlt
   rw [ed] at w';obtain⟨go,yl⟩:=(y i M' H' pr R'.ext R'.dom).1 ds[i] (No hlt);refine .inr ⟨go,λx H2 hy=>?_⟩;obtain⟨gr,hx⟩:=yl x H2 hy;have R2':=R'.step gr.ext (R'.feed.grow gr);refine g2 _ M' H2 n' ρ' σ' ds[i] x _ _ R2' hx w' λρ3 σ3 R3 w3=>?_;refine c2 _ M' H2 n' ρ3 σ3 _ _ R3 w3 λc H4 n4 e4 f4 w4=>?_;have R4:=R3.step e4 f4;have p4:Pres M' H' M' H4:=gr.pres.trans (R3.pres e4);have l4:H4 l=some (.lst vs):=e4.keep (gr.all _ _ hlv) noU;cases c with
   | false=>exact⟨ds.length - (i+1),by omega,rfl,hlt,n4,ρ3,acc,vs,R4,l4,hac.pres p4,by omega,pr.trans p4,w4⟩
   | true =>
    refine x2 _ M' H4 n4 ρ3 σ3 _ _ R4 w4 λyv H5 d5 n5 e5 f5 r5 w5=>?_;have R5:=R4.step e5 f5;have p5:Pres M' H4 M' H5:=R4.pres e5;have l5:H5 l=some (.lst vs):=e5.keep l4 noU;have hy5:=r5.shOf R4.dom hk;have a5:=(hac.pres p4).pres p5;have pu:Pres M' H5 M' (Aw H5 l (.lst (vs++[yv]))):=Bq M'l l5;have hvl:vs.length=acc.length:=hac.length;refine⟨vs,l5,by rw [Z2]; omega,ds.length - (i+1),by omega,rfl,hlt,n5,ρ3,acc++[d5],vs++[yv],?_,AT,(a5.append (Ats.one hy5)).pres pu,by rw [ZT,Zc]; omega,(pr.trans p4).trans (p5.trans pu),w5⟩;refine⟨R5.len,R5.sub,λa z=>?_,λb o e=>?_,R5.fU,R5.uV,R5.vM,?_,λj s hs=>?_,λp hp=>absurd hp (by simp),R5.br0,R5.new,R5.two,λp hp=>absurd hp (by simp)⟩
    ·by_cases ha:a=l
     ·subst ha; exact⟨_,AT⟩
     ·rw [AK ha]; exact R5.dom a z
    ·obtain⟨o',q1,q2⟩:=R5.ext b o e
     by_cases hb:b=l
     ·subst hb
      have e':H1 b=some o:=e;rw [hl] at e'; cases e'
     ·exact⟨o',by rw [AK hb]; exact q1,q2⟩
    ·refine f5.pres pu λf o hf e=>?_
     rw [AK (λz=>noU (by rw [← z]; exact R1.fU f hf))];exact e
    ·have hs5:=R5.sl j s hs
     cases s with
     | no=>trivial
     | sh d=>obtain⟨v,e1,h2⟩:=hs5; exact⟨v,e1,h2.pres pu⟩
     | ex a nm ks ds=>obtain⟨e1,h2⟩:=hs5; exact⟨e1,h2.pres pu⟩
     | br d =>
      obtain⟨v,e1,h2⟩:=hs5;refine⟨v,e1,h2.same pu (λa o z e=>?_) λ_ _ z=>z⟩;subst z;obtain⟨o3,w⟩:=R5.br0 j d a hs e1
      have hal:a≠l:=λz=>by
       have w':H1 a=some o3:=w;rw [z,hl] at w'; cases w'
      rw [AK hal]; exact e
     | ow d =>
      obtain⟨a,e1,h2,_⟩:=hs5;exact absurd h2 (R5.new j _ a hs rfl e1).1
     | lt a d =>
      obtain⟨e1,h2,_⟩:=hs5;exact absurd h2 (R5.new j _ a hs rfl e1).1
     | fd=>exact hs5
     | wd S=>exact hs5
  ·have e:i=ds.length:=by omega
   subst e;rw [cM] at w';refine .inl ⟨(y _ M' H' pr R'.ext R'.dom).2 (Tk _),?_⟩;have eb:Ext C.U H1 H':=R'.ext;have less:Pres M' H' M H':=Pres.less M'of;refine q _ H' (.lst acc) n' (e1.trans eb) (R'.feed.pres less λ_ _ _ z=>z) (VR.back e1 ?_) w';exact⟨l,rfl,hl,vs,hlv,by rw [hM']; exact hac⟩
end
theorem PK{K:Frag}{F:Option Fd}{U V' M:Ev->Prop}{H:Hp}{n:Nat}{ss:List Slot}{vs:List V}{N:List Str}(h:Xt K F U V' M H n ss vs)(hl:vs.length<=N.length) :
  Rel K ⟨M,F,U,V',H,[],[]⟩ M H n (ss++Zd (N.length - ss.length) .no) (L2.start N vs):=by
 obtain⟨dom,fU,uV,vM,fd,pa⟩:=h;have el:vs.length=ss.length:=Paired.length pa
 have go:∀{vs:List V} {ss:List Slot} {i:Nat} {s:Slot},Paired (Ka K F V' M H) vs ss->ss[i]?=some s->∃v,vs[i]?=some v/\Ka K F V' M H v s:=by
  intro vs ss i s pa
  induction pa generalizing i with
  | nil=>intro e; simp at e
  | cons r t ih =>
   intro e;cases i with
   | zero=>simp at e; subst e; exact⟨_,rfl,r⟩
   | succ i =>
    obtain⟨v,e1,h1⟩:=ih (i:=i) (by simpa using e);exact⟨v,by simpa using e1,h1⟩
 have at_:∀(i:Nat) (s:Slot),(ss++Zd (N.length - ss.length) Slot.no)[i]?=some s->s=.no\/∃v,((L2.start N vs)[i]?).getD none=some v/\Ka K F V' M H v s:=by
  intro i s hs
  by_cases hi:i<ss.length
  ·rw [be hi] at hs
   obtain⟨v,e1,h1⟩:=go pa hs;refine .inr ⟨v,?_,h1⟩;unfold L2.start;rw [be (by rw [On,el]; exact hi),ZZ,e1];rfl
  ·rw [bZ (by omega),c0] at hs
   split at hs
   ·exact .inl (ZS hs).symm
   ·cases hs
 refine⟨?_,λa z=>z,dom,Ext.refl _ _,fU,uV,vM,fd,λi s hs=>?_,λp hp=>absurd hp (by simp),λi d a hs ha=>?_,λi s a hs o _=>?_,λi j s t a hs o _ _ _ _=>?_,λp hp=>absurd hp (by simp)⟩
 ·unfold L2.start
  simp only [ZT,On,fL];omega
 ·rcases at_ i s hs with rfl | ⟨v,e,h⟩
  ·trivial
  ·rw [e]; exact h.1
 ·rcases at_ i _ hs with z | ⟨v,e,h⟩
  ·cases z
  ·rw [e] at ha
   cases ha;obtain⟨v,e1,h1⟩:=h.1;cases e1;exact h1.lies
 ·rcases at_ i s hs with rfl | ⟨v,e,h⟩
  ·cases o
  ·rw [h.2] at o; cases o
 ·rcases at_ i s hs with rfl | ⟨v,e,h⟩
  ·cases o
  ·rw [h.2] at o; cases o
theorem Yf{P:Zs}{w:Zz}{K:Frag}{mg:Str->Option FM}{base:Zk}{x qual:Str}{st:Z9}{f:Ev}{fd:aE}{N ps:List Str}{k:Nat}{κ:Kd}{W:W2}{wb:AW}(F:Fun K x qual st f fd)(S:Af N ps (AO st))(hNp:ps.length<=N.length)
  (hb:∀(cdv:FM) (A:aB) (outer:List Env) (s:Rs) (H:Hp) (E:XK),Room k (A.deeper (envOfC qual (AO st) s.heap.objs.size f cdv))->Mo (Jc Cc P w K mg base N qual (AO st) f cdv A outer s H E).nox κ (Br st) wb)
  (hW:∀ss n Pd,ss.length=ps.length->W ss n Pd->wb { nx:=λn _=>κ=.sh/\Pd .non n,rt:=Pd } n (ss++Zd (N.length - ps.length) .no)) :
  BK P w K mg base Cc (k+1) f fd ps (EB K κ W ps.length):=by
 refine F.ok S (λvs H Q E h=>h.1) (λcdv A outer s H vs Q E hr h=>?_);obtain⟨hl,F0,U,V',M,n,ss,Pd,ra,hw,q⟩:=h;obtain⟨t,t1,t2⟩:=hb cdv A outer s H E hr;refine⟨t,t1,?_⟩;have el:vs.length=ss.length:=Paired.length ra.2.2.2.2.2;have R:=PK (N:=N) ra (by omega);refine t2 ⟨M,F0,U,V',H,[],[]⟩ M H n _ _ { nx:=λn _=>κ=.sh/\Pd .non n,rt:=Pd } _ R ⟨λM1 H1 n1 ρ1 σ1 R1 p=>?_,λv H1 d n1 e1 f1 r1 p=>q v H1 d n1 e1 f1 r1 p,λ_ _ _ _ _ _ z=>z.elim,λ_ _ _ _ _ _ z=>z.elim⟩ ?_
 ·obtain⟨hk,p⟩:=p
  subst hk;exact q .non H1 .non n1 R1.ext (R1.feed.pres (Pres.less R1.sub) λ_ _ _ z=>z) rfl p
 ·have e:ss.length=ps.length:=by omega
  have h1:=hW ss n Pd e hw;rw [← e] at h1;exact h1
end Dp
namespace L2
open PySem PySem.Spec PyProof.Rows
section
variable {X:Cx}
theorem Inv.rdl{pins:List (Ev×Obj)}{σ:L2.St}{H:Hp}{s:Rs}{l:Ev}{xs:List V}(I:Inv X pins σ H s)(h:Rd H l (.lst xs)):xs.length<=sizeLine/\∃(its:List FM) (n:Nat),Vals xs its/\xs.length=its.length/\s.heap.get? l=some { cls:=.type "list",data:=.seq its.toArray n }:=by
 obtain⟨z,its,n,r,e⟩:=h.ok I.hok;exact⟨z,its,n,r,r.length,e⟩
theorem Tc:OpR X (binaryOp .Add) (λx y H Q=>∃l b xs zs,x=.ref l/\y=.ref b/\Rd H l (.lst xs)/\Rd H b (.lst zs)/\xs.length+zs.length<=sizeLine/\∀p,H p=none->Q (.ref p) (Aw H p (.lst (xs++zs)))):=by
 intro pins s σ H x y v u Q I rx ry h;obtain⟨l,b,xs,zs,rfl,rfl,hH,hB,hz,q⟩:=h;cases rx;cases ry;obtain⟨z,its,n,r,hl,e⟩:=I.rdl hH;obtain⟨z2,its2,n2,r2,hl2,e2⟩:=I.rdl hB;refine PySem.P.add_list e e2 ?_ (by rw [UF,UF]; omega);have ea:its.toArray++its2.toArray=(its++its2).toArray:=by simp
 rw [ea];exact⟨.ref _,_,I.lnew (t':=s.toks) (r.append r2) (by rw [ZT]; omega),rfl,q _ I.fresh⟩
end
end L2
namespace Dp
open PySem PySem.Spec PyProof.Rows L2
section
variable {K:Frag}
theorem AtT.int{U M:Ev->Prop}{H:Hp}{i:Int}{v:V}(h:AtT K U M H (.int i) v):v=.int i:=h
theorem AtT.bl{U M:Ev->Prop}{H:Hp}{i:Bool}{v:V}(h:AtT K U M H (.bl i) v):v=.bl i:=h
theorem AtT.str{U M:Ev->Prop}{H:Hp}{x:Str}{v:V}(h:AtT K U M H (.str x) v):v=.str x/\x.length<=sizeLine:=h
theorem AtT.tup{U M:Ev->Prop}{H:Hp}{ds:List D}{v:V}(h:AtT K U M H (.tup ds) v):∃a vs,v=.ref a/\NdT M H a vs/\Ats K M H ds vs:=h
noncomputable def YA(g:Int->Int->(D->Prop)->Prop)(d e:D)(P:D->Prop):Prop:=match d,e with
 | .int i,.int j=>g i j P
 | _,_=>False
theorem LD{g:Int->Int->(D->Prop)->Prop}{d e:D}{P:D->Prop}(w:YA g d e P):∃i j,d=.int i/\e=.int j/\g i j P:=by
 unfold YA at w
 split at w
 ·exact⟨_,_,rfl,rfl,w⟩
 ·exact w.elim
noncomputable def f2(g:Int->Int->D):D->D->(D->Prop)->Prop:=YA λi j P=>P (g i j)
noncomputable def V4(C:Int->Int->Prop)(g:Int->Int->D):D->D->(D->Prop)->Prop:=YA λi j P=>C i j/\P (g i j)
theorem Sq{g:Int->Int->Int}:FK K .sh (HC λi j=>.int (g i j)) (f2 λi j=>.int (g i j)):=by
 intro U M H d e x y P Q dom vM hx hy w q;obtain⟨i,j,rfl,rfl,w⟩:=LD w;exact⟨i,j,hx,hy,q _ H (.int (g i j)) .refl rfl w⟩
theorem N0{g:Int->Int->Bool}:FK K .sh (HC λi j=>.bl (g i j)) (f2 λi j=>.bl (g i j)):=by
 intro U M H d e x y P Q dom vM hx hy w q;obtain⟨i,j,rfl,rfl,w⟩:=LD w;exact⟨i,j,hx,hy,q _ H (.bl (g i j)) .refl rfl w⟩
theorem Gp{C:Int->Int->Prop}{g:Int->Int->Int}:FK K .sh (rI C λi j=>.int (g i j)) (V4 C λi j=>.int (g i j)):=by
 intro U M H d e x y P Q dom vM hx hy w q;obtain⟨i,j,rfl,rfl,w⟩:=LD w;exact⟨i,j,hx,hy,w.1,q _ H (.int (g i j)) .refl rfl w.2⟩
noncomputable def X_(g:Str->Str->(D->Prop)->Prop)(d e:D)(P:D->Prop):Prop:=match d,e with
 | .str i,.str j=>g i j P
 | _,_=>False
theorem Oe{g:Str->Str->(D->Prop)->Prop}{d e:D}{P:D->Prop}(w:X_ g d e P):∃i j,d=.str i/\e=.str j/\g i j P:=by
 unfold X_ at w
 split at w
 ·exact⟨_,_,rfl,rfl,w⟩
 ·exact w.elim
theorem Sk{g:Str->Str->Bool}:FK K .sh (λx y H Q=>∃i j,x=.str i/\y=.str j/\Q (.bl (g i j)) H) (X_ λi j P=>P (.bl (g i j))):=by
 intro U M H d e x y P Q dom vM hx hy w q;obtain⟨i,j,rfl,rfl,w⟩:=Oe w;exact⟨i,j,hx.1,hy.1,q _ H (.bl (g i j)) .refl rfl w⟩
theorem QS:FK K .sh (λx y H Q=>∃i j,x=.str i/\y=.str j/\i.length+j.length<=sizeLine/\Q (.str (i++j)) H) (X_ λi j P=>i.length+j.length<=sizeLine/\P (.str (i++j))):=by
 intro U M H d e x y P Q dom vM hx hy w q;obtain⟨i,j,rfl,rfl,w⟩:=Oe w;exact⟨i,j,hx.1,hy.1,w.1,q _ H (.str (i++j)) .refl ⟨rfl,by rw [show (i++j).length=i.length+j.length from Str.length_append i j]; exact w.1⟩ w.2⟩
noncomputable def Yh(g:List D->List D->(D->Prop)->Prop)(d e:D)(P:D->Prop):Prop:=match d,e with
 | .tup i,.tup j=>g i j P
 | _,_=>False
noncomputable def Yi(g:List D->List D->(D->Prop)->Prop)(d e:D)(P:D->Prop):Prop:=match d,e with
 | .lst i,.lst j=>g i j P
 | _,_=>False
theorem Tv{g:List D->List D->(D->Prop)->Prop}{d e:D}{P:D->Prop}(w:Yh g d e P):∃i j,d=.tup i/\e=.tup j/\g i j P:=by
 unfold Yh at w
 split at w
 ·exact⟨_,_,rfl,rfl,w⟩
 ·exact w.elim
theorem Tz{g:List D->List D->(D->Prop)->Prop}{d e:D}{P:D->Prop}(w:Yi g d e P):∃i j,d=.lst i/\e=.lst j/\g i j P:=by
 unfold Yi at w
 split at w
 ·exact⟨_,_,rfl,rfl,w⟩
 ·exact w.elim
theorem DL{M:Ev->Prop}{H:Hp}{p:Ev}{vs:List V}{ds:List D}(dom:∀a,M a->∃o,H a=some o)(hp:H p=none)(h:Ats K M H ds vs):At K M (Aw H p (.tup vs)) (.tup ds) (.ref p):=by
 exact⟨p,vs,rfl,AT,h.pres (Ax hp).pres⟩
theorem DM{U M:Ev->Prop}{H:Hp}{p:Ev}{vs:List V}{ds:List D}(hp:H p=none)(h:Ats K M H ds vs):VR K U M H (Aw H p (.lst vs)) .fr (.ref p) (.lst ds) :=
 ⟨p,rfl,hp,vs,AT,h.pres (FW hp)⟩
theorem QR:FK K .sh (Q_ K) (Yh λi j P=>i≠[]/\i.length+j.length<=sizeLine/\P (.tup (i++j))):=by
 intro U M H d e x y P Q dom vM hx hy w q;obtain⟨i,j,rfl,rfl,w⟩:=Tv w;obtain⟨a,vs,rfl,ha,hs⟩:=hx.tup;obtain⟨b,us,rfl,hb,ht⟩:=hy.tup;have l1:=hs.length;have l2:=ht.length;refine⟨a,b,vs,us,rfl,rfl,ha.sq,hb.sq,λz=>w.1 ?_,by rw [l1,l2]; exact w.2.1,λz=>?_,λz p hp=>?_⟩
 ·rw [z] at l1; exact bx.mp l1.symm
 ·rw [z] at l2
  have:j=[]:=bx.mp l2.symm
  subst this;exact q _ H (.tup i) .refl ⟨a,vs,rfl,ha,hs⟩ (by have:=w.2.2; rw [Zn] at this; exact this)
 ·exact q _ _ (.tup (i++j)) (Ax hp) (DL dom hp (hs.append ht)) w.2.2
theorem QT:FK K .fr (λx y H Q=>∃l b xs zs,x=.ref l/\y=.ref b/\Rd H l (.lst xs)/\Rd H b (.lst zs)/\xs.length+zs.length<=sizeLine/\∀p,H p=none->Q (.ref p) (Aw H p (.lst (xs++zs)))) (Yi λi j P=>i.length+j.length<=sizeLine/\P (.lst (i++j))):=by
 intro U M H d e x y P Q dom vM hx hy w q;obtain⟨i,j,rfl,rfl,w⟩:=Tz w;obtain⟨a,vs,rfl,_,ha,hs⟩:=hx;obtain⟨b,us,rfl,_,hb,ht⟩:=hy;exact⟨a,b,vs,us,rfl,rfl,ha,hb,by rw [hs.length,ht.length]; exact w.1,λp hp=>q _ _ (.lst (i++j)) (Ax hp) (DM hp (hs.append ht)) w.2⟩
noncomputable def Nk(neg:Bool)(d e:D)(P:D->Prop):Prop:=match d,e with
 | .bl i,.bl j=>P (.bl (if neg then !(i==j) else i==j))
 | .int i,.int j=>P (.bl (if neg then !(i==j) else i==j))
 | .str i,.str j=>P (.bl (if neg then !(i==j) else i==j))
 | _,_=>False
theorem Of{neg:Bool}{d e:D}{P:D->Prop}(w:Nk neg d e P):(∃i j,d=.bl i/\e=.bl j/\P (.bl (if neg then !(i==j) else i==j)))\/(∃i j,d=.int i/\e=.int j/\P (.bl (if neg then !(i==j) else i==j)))\/∃i j,d=.str i/\e=.str j/\P (.bl (if neg then !(i==j) else i==j)):=by
 unfold Nk at w
 split at w
 ·exact .inl ⟨_,_,rfl,rfl,w⟩
 ·exact .inr (.inl ⟨_,_,rfl,rfl,w⟩)
 ·exact .inr (.inr ⟨_,_,rfl,rfl,w⟩)
 ·exact w.elim
theorem N4:FK K .sh Y6 (Nk false):=by
 intro U M H d e x y P Q dom vM hx hy w q
 rcases Of w with ⟨i,j,rfl,rfl,w⟩ | ⟨i,j,rfl,rfl,w⟩ | ⟨i,j,rfl,rfl,w⟩
 ·rw [hx.bl,hy.bl]; exact⟨rfl,q _ H _ .refl (by rw [LN]; rfl) w⟩
 ·rw [hx.int,hy.int]; exact⟨rfl,q _ H _ .refl (by rw [HX]; rfl) w⟩
 ·rw [hx.str.1,hy.str.1]; exact⟨rfl,q _ H _ .refl (by rw [HW]; rfl) w⟩
theorem Yo:FK K .sh Y3 (Nk true):=by
 intro U M H d e x y P Q dom vM hx hy w q
 rcases Of w with ⟨i,j,rfl,rfl,w⟩ | ⟨i,j,rfl,rfl,w⟩ | ⟨i,j,rfl,rfl,w⟩
 ·rw [hx.bl,hy.bl]; exact⟨rfl,q _ H _ .refl (by rw [LN]; rfl) w⟩
 ·rw [hx.int,hy.int]; exact⟨rfl,q _ H _ .refl (by rw [HX]; rfl) w⟩
 ·rw [hx.str.1,hy.str.1]; exact⟨rfl,q _ H _ .refl (by rw [HW]; rfl) w⟩
noncomputable def MP:D->Bool
 | .non=>true
 | _=>false
theorem MO{U M:Ev->Prop}{H:Hp}{d:D}{x:V}(h:AtT K U M H d x):decide (x=.non)=MP d:=by
 cases d with
 | non=>rw [show x=.non from h]; rfl
 | bl b=>rw [h.bl]; rfl
 | int i=>rw [h.int]; rfl
 | str z=>rw [h.str.1]; rfl
 | tup ds=>obtain⟨a,vs,rfl,_⟩:=h.tup; rfl
 | lst ds=>obtain⟨a,vs,rfl,_⟩:=h; rfl
 | dic ks ds=>obtain⟨a,vs,rfl,_⟩:=h; rfl
 | fdi ks ds=>obtain⟨a,vs,rfl,_⟩:=h; rfl
 | dit ks ds=>obtain⟨a,vs,rfl,_⟩:=h; rfl
noncomputable def BG(d e:D)(P:D->Prop):Prop:=match d,e with
 | .lst ds,.int i=>∃z,atI ds i=some z/\P z
 | .tup ds,.int i=>∃z,atI ds i=some z/\P z
 | .str x,.int i=>∃c,atI x.cps.toList i=some c/\P (.str ⟨#[c]⟩)
 | _,_=>False
theorem T1{d e:D}{P:D->Prop}(w:BG d e P):(∃ds i z,d=.lst ds/\e=.int i/\atI ds i=some z/\P z)\/(∃ds i z,d=.tup ds/\e=.int i/\atI ds i=some z/\P z)\/∃x i c,d=.str x/\e=.int i/\atI x.cps.toList i=some c/\P (.str ⟨#[c]⟩):=by
 unfold BG at w
 split at w
 ·obtain⟨z,h1,h2⟩:=w; exact .inl ⟨_,_,z,rfl,rfl,h1,h2⟩
 ·obtain⟨z,h1,h2⟩:=w; exact .inr (.inl ⟨_,_,z,rfl,rfl,h1,h2⟩)
 ·obtain⟨z,h1,h2⟩:=w; exact .inr (.inr ⟨_,_,z,rfl,rfl,h1,h2⟩)
 ·exact w.elim
theorem Ats.atI{M:Ev->Prop}{H:Hp}{ds:List D}{vs:List V}{i:Int}{z:D}(h:Ats K M H ds vs)(e:atI ds i=some z):∃v,L2.atI vs i=some v/\At K M H z v:=by
 unfold L2.atI at e ⊢;rw [h.length];cases q:Tq ds.length i with
 | none=>rw [q] at e; cases e
 | some j =>
  rw [q] at e;exact h.get e
theorem Ak:FK K .sh (Y4 K) BG:=by
 intro U M H d e x y P Q dom vM hx hy w q
 rcases T1 w with ⟨ds,i,z,rfl,rfl,hz,w⟩ | ⟨ds,i,z,rfl,rfl,hz,w⟩ | ⟨x,i,c,rfl,rfl,hc,w⟩
 ·obtain⟨a,vs,rfl,_,ha,hs⟩:=hx
  obtain⟨v,hv,hAt⟩:=hs.atI hz;exact .inl ⟨a,vs,i,v,rfl,hy,.inl ha,hv,q v H z .refl hAt w⟩
 ·obtain⟨a,vs,rfl,ha,hs⟩:=hx.tup
  obtain⟨v,hv,hAt⟩:=hs.atI hz;exact .inr (.inl ⟨a,vs,i,v,rfl,hy,ha.sq,hv,q v H z .refl hAt w⟩)
 ·exact .inr (.inr ⟨x,i,c,hx.str.1,hy,hx.str.2,hc,q _ H (.str ⟨#[c]⟩) .refl ⟨rfl,by rw [Z2]; show 1<=16777216; decide⟩ w⟩)
noncomputable def cutD{α:Type}(xs:List α)(lo hi:Option Int):List α:=(xs.drop (HT.sIx xs.length 0 lo)).take (HT.sIx xs.length xs.length hi - HT.sIx xs.length 0 lo)
theorem DK{R:V->D->Prop}{vs:List V}{d:D}(h:Paired R vs [d]):∃v,vs=[v]/\R v d:=by
 cases h with
 | cons r t=>cases t; exact⟨_,rfl,r⟩
noncomputable def YV:D->Option Nat
 | .str x=>some x.length
 | .tup xs=>some xs.length
 | .lst xs=>some xs.length
 | _=>none
noncomputable def ES(ds:List D)(P:D->Prop):Prop:=∃d n,ds=[d]/\YV d=some n/\P (.int (n:Int))
theorem C5:CS K .sh (λxs H Q=>∃x n,xs=[x]/\WS K x H n/\Q (.int n) H) ES:=by
 intro U M H ds vs P Q dom vM hp w q;obtain⟨d,n,rfl,hn,w⟩:=w;obtain⟨v,rfl,hx⟩:=DK hp;refine⟨v,n,rfl,?_,q _ H (.int (n:Int)) .refl rfl w⟩;cases d with
 | str z=>cases hn; rw [hx.str.1]; exact⟨hx.str.2,rfl⟩
 | tup xs =>
  cases hn;obtain⟨a,us,rfl,ha,hs⟩:=hx.tup;exact .inr ⟨us,ha.sq,hs.length.symm⟩
 | lst xs =>
  cases hn;obtain⟨a,us,rfl,_,ha,hs⟩:=hx;exact .inl ⟨us,.inl ha,hs.length.symm⟩
 | _=>cases hn
noncomputable def allB:List D->Option (List Bool)
 | []=>some []
 | .bl b::r=>(allB r).map (b::·)
 | _::_=>none
theorem Oz{M:Ev->Prop}{H:Hp}:∀{ds:List D} {vs:List V} {bs:List Bool},allB ds=some bs->Ats K M H ds vs->vs=bs.map V.bl
 | [],vs,bs,e,h=>by cases e; exact h
 | .bl b::r,vs,bs,e,h=>by
  obtain⟨v,r',e1,h1,h2⟩:=h;unfold allB at e;obtain⟨bs',e2,rfl⟩:=Zy.mp e;rw [e1,Oz e2 h2,show v=.bl b from h1];rfl
 | .non::r,vs,bs,e,h=>by unfold allB at e; cases e
 | .int _::r,vs,bs,e,h=>by unfold allB at e; cases e
 | .str _::r,vs,bs,e,h=>by unfold allB at e; cases e
 | .tup _::r,vs,bs,e,h=>by unfold allB at e; cases e
 | .lst _::r,vs,bs,e,h=>by unfold allB at e; cases e
 | .dic _ _::r,vs,bs,e,h=>by unfold allB at e; cases e
 | .fdi _ _::r,vs,bs,e,h=>by unfold allB at e; cases e
 | .dit _ _::r,vs,bs,e,h=>by unfold allB at e; cases e
noncomputable def R_(ds:List D)(P:D->Prop):Prop:=∃xs bs,ds=[.lst xs]/\allB xs=some bs/\P (.bl (bs.all id))
theorem Uz:CS K .sh (λxs H Q=>∃(p:Ev) (bs:List Bool),xs=[.ref p]/\SqL K H p (bs.map V.bl)/\Q (.bl (bs.all id)) H) R_:=by
 intro U M H ds vs P Q dom vM hp w q;obtain⟨xs,bs,rfl,e,w⟩:=w;obtain⟨v,rfl,hx⟩:=DK hp;obtain⟨a,us,rfl,_,ha,hs⟩:=hx
 have:=Oz e hs
 subst this;exact⟨a,bs,rfl,.inl ha,q _ H (.bl (bs.all id)) .refl rfl w⟩
noncomputable def CZ:List D->Option (List Str)
 | []=>some []
 | .str b::r=>(CZ r).map (b::·)
 | _::_=>none
theorem Ow{M:Ev->Prop}{H:Hp}:∀{ds:List D} {vs:List V} {bs:List Str},CZ ds=some bs->Ats K M H ds vs->vs=bs.map V.str
 | [],vs,bs,e,h=>by cases e; exact h
 | .str b::r,vs,bs,e,h=>by
  obtain⟨v,r',e1,h1,h2⟩:=h;unfold CZ at e;obtain⟨bs',e2,rfl⟩:=Zy.mp e;rw [e1,Ow e2 h2,h1.1];rfl
 | .non::r,vs,bs,e,h=>by unfold CZ at e; cases e
 | .int _::r,vs,bs,e,h=>by unfold CZ at e; cases e
 | .bl _::r,vs,bs,e,h=>by unfold CZ at e; cases e
 | .tup _::r,vs,bs,e,h=>by unfold CZ at e; cases e
 | .lst _::r,vs,bs,e,h=>by unfold CZ at e; cases e
 | .dic _ _::r,vs,bs,e,h=>by unfold CZ at e; cases e
 | .fdi _ _::r,vs,bs,e,h=>by unfold CZ at e; cases e
 | .dit _ _::r,vs,bs,e,h=>by unfold CZ at e; cases e
noncomputable def R8(ds:List D)(P:D->Prop):Prop:=match ds with
 | [.int i]=>P (.int i)
 | [.bl k]=>P (.int (if k then 1 else 0))
 | _=>False
theorem WL:CS K .sh (λxs H Q=>(∃i,xs=[.int i]/\Q (.int i) H)\/∃k,xs=[.bl k]/\Q (.int (if k then 1 else 0)) H) R8:=by
 intro U M H ds vs P Q dom vM hp w q;unfold R8 at w
 split at w
 ·rename_i i
  obtain⟨v,rfl,hx⟩:=DK hp;rw [hx.int]; exact .inl ⟨i,rfl,q _ H (.int i) .refl rfl w⟩
 ·rename_i k
  obtain⟨v,rfl,hx⟩:=DK hp;rw [hx.bl]; exact .inr ⟨k,rfl,q _ H (.int (if k then 1 else 0)) .refl rfl w⟩
 ·exact w.elim
end
noncomputable def We:D->String
 | .non => "NoneType"
 | .bl _ => "bool"
 | .int _ => "int"
 | .str _ => "str"
 | .tup _ => "tuple"
 | .lst _ => "list"
 | .dic _ _ => "dict"
 | .fdi _ _ => "dict"
 | .dit _ _ => "dict"
noncomputable def Vw(t T:String):Bool:=t==T||(t == "bool"&&T == "int")
noncomputable def O8(T:String)(wa:DW):DW:=λn ρ P=>wa n ρ λd n1=>P (.bl (Vw (We d) T)) n1
structure UP (K:Frag) (T:String):Prop where
 ans:∀t∈["NoneType","bool","int","str","tuple","list","dict"],PySem.W.kitOne K (.type t) (.type T)=some (Vw t T)
theorem S7{K:Frag}{M U:Ev->Prop}{H:Hp}{d:D}{x:V}(h:AtT K U M H d x):FZ K H x (.type (We d)):=by
 cases d with
 | non=>cases (show x=.non from h); exact .non
 | bl b=>cases h.bl; exact .bl b
 | int i=>cases h.int; exact .int i
 | str z=>cases h.str.1; exact .str z
 | tup ds =>
  obtain⟨a,vs,rfl,ha,hs⟩:=h.tup;exact .tup ha
 | lst ds =>
  obtain⟨a,vs,rfl,_,ha,hs⟩:=h
  rcases ha with ha | ⟨o,ha⟩
  ·exact .lst ha
  ·exact .frz ha
 | dic ks ds =>
  obtain⟨a,vs,rfl,_,ha,_⟩:=h;exact .dK ha
 | fdi ks ds =>
  obtain⟨a,vs,rfl,⟨o,_,ha⟩,_⟩:=h;exact .dF ha
 | dit ks ds =>
  obtain⟨a,vs,rfl,_,ha,_⟩:=h;exact .dT ha
theorem S8(d:D):We d∈["NoneType","bool","int","str","tuple","list","dict"]:=by cases d <;> simp [We]
theorem Ii{X:Cx}{a:Zq}{κ:Kd}{wa:DW}{T:String}{Tn:Str}{p p2 pos:Pos}(kt:UP X.K T)(ha:DE X a κ wa)(hg:Gl X "isinstance")(hm:X.mg "isinstance"=none)(hgT:Gl X Tn)(hmT:X.mg Tn=none)(hvT:bootBuiltins Tn=some (.type T))
  (hnT:autoParam (Tn ≠ "__name__") zau1._auto_1) (hdT:autoParam ((Tn==("__debug__":Str))=false) zau1._auto_1)
  (he:autoParam (starEach [a,.Name Tn p2] X.env=(false,eval a X.env)::starEach [.Name Tn p2] X.env) zau3._auto_1) (he2:autoParam (starEach [.Name Tn p2] X.env=[(false,eval (.Name Tn p2) X.env)]) zau3._auto_1)
  (hpl:autoParam ((backTo pos (starEach [.Name Tn p2] X.env)).any (·.1)=false) zau3._auto_1):DE X (.Call (.Name "isinstance" p) [a,.Name Tn p2] [] pos) .sh (O8 T wa):=by
 obtain⟨t,h1,h2⟩:=ha;have pT:PE X (.Name Tn p2) (tC (.ty T)):=Ta hgT hmT hvT (v:=.ty T) rfl hnT hdT;refine⟨_,Fo Mf hg hm (by decide +kernel) (BM h1 (BM pT CG he2) he) (by decide) (by decide) he hpl,λC M H n ρ σ P Q R w q=>?_⟩;refine h2 C M H n ρ σ _ _ R w λv H1 d n1 e1 f1 r1 p=>?_;exact⟨v,T,_,_,rfl,S7 (r1.tpOf R.dom R.vM),kt.ans _ (S8 d),q _ H1 (.bl (Vw (We d) T)) n1 e1 f1 rfl p⟩
section
variable {K:Frag}{X:Cx}
noncomputable def Ur(d e:D)(P:D->Prop):Prop:=match d,e with
 | .int i,.int j=>P (.int (i+j))
 | .str i,.str j=>i.length+j.length<=sizeLine/\P (.str (i++j))
 | .tup i,.tup j=>i≠[]/\i.length+j.length<=sizeLine/\P (.tup (i++j))
 | .lst i,.lst j=>i.length+j.length<=sizeLine/\P (.lst (i++j))
 | _,_=>False
noncomputable def Ug:R2:=λx y H Q=>∃l b xs zs,x=.ref l/\y=.ref b/\Rd H l (.lst xs)/\Rd H b (.lst zs)/\xs.length+zs.length<=sizeLine/\∀p,H p=none->Q (.ref p) (Aw H p (.lst (xs++zs)))
noncomputable def Ue:R2:=λx y H Q=>∃i j,x=.str i/\y=.str j/\i.length+j.length<=sizeLine/\Q (.str (i++j)) H
noncomputable def UW(g:Str->Str->Bool):R2:=λx y H Q=>∃i j,x=.str i/\y=.str j/\Q (.bl (g i j)) H
noncomputable def RA(K:Frag):R2:=λx y H Q=>(HC λi j=>.int (i+j)) x y H Q\/Ue x y H Q\/Q_ K x y H Q\/Ug x y H Q
theorem op_addU:OpR X (binaryOp .Add) (RA X.K):=op_add.or ((show OpR X (binaryOp .Add) Ue from NR).or (op_catT.or (show OpR X (binaryOp .Add) Ug from Tc)))
theorem LV:FK X.K .sh (RA X.K) Ur:=λU M H d e x y P Q dom vM hx hy w q=>by
 unfold Ur at w
 split at w
 ·exact .inl (Sq (K:=X.K) (g:=λi j=>i+j) U M H (.int _) (.int _) x y P Q dom vM hx hy w q)
 ·exact .inr (.inl (QS (K:=X.K) U M H (.str _) (.str _) x y P Q dom vM hx hy w q))
 ·exact .inr (.inr (.inl (QR (K:=X.K) U M H (.tup _) (.tup _) x y P Q dom vM hx hy w q)))
 ·exact .inr (.inr (.inr (QT (K:=X.K) U M H (.lst _) (.lst _) x y P Q dom vM hx hy w λv H' z g r p=>q v H' z g (r.shOf dom (by intro z; cases z)) p)))
 ·exact w.elim
noncomputable def Xc(d e:D)(P:D->Prop):Prop:=match d,e with
 | .int i,.int j=>P (.bl (decide (i<j)))
 | .str i,.str j=>P (.bl (decide (i.cps.toList<j.cps.toList)))
 | _,_=>False
noncomputable def VW:R2:=λx y H Q=>(HC λi j=>.bl (decide (i<j))) x y H Q\/UW (λi j=>decide (i.cps.toList<j.cps.toList)) x y H Q
theorem op_ltU:OpR X (compareOp .Lt) VW:=op_lt.or Pe
theorem Uy:FK X.K .sh VW Xc:=λU M H d e x y P Q dom vM hx hy w q=>by
 unfold Xc at w
 split at w
 ·exact .inl (N0 (K:=X.K) (g:=λi j=>decide (i<j)) U M H (.int _) (.int _) x y P Q dom vM hx hy w q)
 ·exact .inr (Sk (K:=X.K) (g:=λi j=>decide (i.cps.toList<j.cps.toList)) U M H (.str _) (.str _) x y P Q dom vM hx hy w q)
 ·exact w.elim
noncomputable def Tx(d e:D)(P:D->Prop):Prop:=match d,e with
 | .int i,.int j=>P (.bl (decide (i<=j)))
 | .str i,.str j=>P (.bl (!(decide (j.cps.toList<i.cps.toList))))
 | _,_=>False
noncomputable def W6:R2:=λx y H Q=>(HC λi j=>.bl (decide (i<=j))) x y H Q\/UW (λi j=>!(decide (j.cps.toList<i.cps.toList))) x y H Q
theorem NO:OpR X (compareOp .LtE) W6:=op_le.or Pf
theorem Sn:FK X.K .sh W6 Tx:=λU M H d e x y P Q dom vM hx hy w q=>by
 unfold Tx at w
 split at w
 ·exact .inl (N0 (K:=X.K) (g:=λi j=>decide (i<=j)) U M H (.int _) (.int _) x y P Q dom vM hx hy w q)
 ·exact .inr (Sk (K:=X.K) (g:=λi j=>!(decide (j.cps.toList<i.cps.toList))) U M H (.str _) (.str _) x y P Q dom vM hx hy w q)
 ·exact w.elim
noncomputable def W_:R2:=HC λi j=>.bl (decide (j<i))
theorem NP:OpR X (compareOp .Gt) W_:=Uk
theorem Sr:FK X.K .sh W_ (f2 λi j=>.bl (decide (j<i))):=N0
noncomputable def Wx:V->Option Int->Option Int->Hp->VK->Prop:=λx lo hi H Q=>∃z,x=.str z/\z.length<=sizeLine/\Q (.str (Txt.slice z lo hi)) H
theorem sl_U:SlR X Wx:=VO
noncomputable def Got(P:Zs)(w:Zz)(K:Frag)(mg:Str->Option FM)(base:Zk)(x:Str)(k:Nat)(ps:List Str)(κ:Kd)(W:W2):Prop :=
 ∃f fd,BK P w K mg base Cc k f fd ps (EB K κ W ps.length)/\mg x=some (.ref f)/\keepIn K (.ref f)=true/\Binds K fd ps []/\∀ss n P,W ss n P->ss.length=ps.length
theorem Il{e:Zq}{es:List Zq}{k:Nat}{ps:List Str}{κ:Kd}{W:W2}{x:Str}{p pos:Pos}{was:U3}(G:Got X.prog X.w X.K X.mg X.base x k ps κ W)
  (hr:Room k X.A) (hg:Gl X x) (ha:WZ X (e::es) was)
  (hdb:autoParam ((x==("__debug__":Str))=false) zau1._auto_1) (he:autoParam (starEach (e::es) X.env=(false,eval e X.env)::starEach es X.env) zau3._auto_1) (hpl:autoParam ((backTo pos (starEach es X.env)).any (·.1)=false) zau3._auto_1) :
  DE X (.Call (.Name x p) (e::es) [] pos) κ (AZ W was):=by
 obtain⟨f,fd,G,hm,hk,hb,hW⟩:=G;exact UD G hW hr hg hm hk hb ha hdb he hpl
noncomputable def Ui(np:Nat)(g:List D->D):W2:=λss n P=>∃ds:List D,ds.length=np/\ss=ds.map .sh/\P (g ds) n
theorem PR{np:Nat}{g:List D->D}{ss:List Slot}{n:Nat}{P:D->Nat->Prop}(h:Ui np g ss n P):ss.length=np:=by
 obtain⟨ds,e,rfl,_⟩:=h;rw [On]; exact e
theorem To:UP K "int":=⟨λt ht=>by
 simp only [XV,Zf,or_false] at ht
 rcases ht with rfl | rfl | rfl | rfl | rfl | rfl | rfl <;> kernel_rfl⟩
theorem Rg:UP K "bool":=⟨λt ht=>by
 simp only [XV,Zf,or_false] at ht
 rcases ht with rfl | rfl | rfl | rfl | rfl | rfl | rfl <;> kernel_rfl⟩
theorem kit_tuple:UP K "tuple":=⟨λt ht=>by
 simp only [XV,Zf,or_false] at ht
 rcases ht with rfl | rfl | rfl | rfl | rfl | rfl | rfl <;> kernel_rfl⟩
end
theorem JB{α:Type}(p:α->Bool):∀l:List α,allB (l.map λc=>.bl (p c))=some (l.map p)
 | []=>rfl
 | a::l=>by
  rw [ZX,ZX];unfold allB;rw [JB p l];rfl
theorem Ng{P:Zs}{w:Zz}{K:Frag}{mg:Str->Option FM}{base:Zk}{x:Str}{st:Z9}{f:Ev}{fd:aE}{k:Nat}{ps:List Str}{κ:Kd}{W:W2}(F:Fun K x x st f fd)(m:mg x=some (.ref f))(b:Binds K fd ps [])
  (hW:∀ss n P,W ss n P->ss.length=ps.length) (ok:BK P w K mg base Cc k f fd ps (EB K κ W ps.length)):Got P w K mg base x k ps κ W:=⟨f,fd,ok,m,F.kp,b,hW⟩
noncomputable def Lo(K:Frag):Sp:=λvs H Q _=>∃a ns,vs=[V.ref a]/\(dA (α:=Int) ns<=63/\SqL K H a (ns.map V.int))/\∀H',Q (.bl true) H'
noncomputable def Kh(K:Frag):Sp:=λvs H Q _=>∃a ns,vs=[V.ref a]/\(dA (α:=Int) ns<=63/\SqL K H a (ns.map V.int)) /\
 ∀(c f:Ev) (H':Hp),c≠f->H' c=some (.lst (ns.map V.int))->H' f=some (.lst [.ref c,.int 0,.int 0])->Q (.ref f) H'
theorem Xk{ns:List Int}(h:ns.length<=63):Jd (ns.map V.int) none (some 63)=ns.map V.int:=by
 have e:HT.sIx (ns.map V.int).length (ns.map V.int).length (some 63)=ns.length:=by
  rw [show (63:Int)=((63:Nat):Int) from rfl,HT.sIx_nat,On,Nat.min_eq_right h]
 unfold Jd;rw [e,HT.sIx_none,List.drop_zero,Nat.sub_zero];exact dC (by rw [On]; exact Tk _)
theorem Ga{b:BW}{body:AW}{D2:E2}(I:Nat->Nat->List Slot->Prop)(hend:∀n ρ,I 0 n ρ->D2.nx n ρ) :
  ∀(ds:List D) (n:Nat) (ρ:List Slot) (_:∀(k:Nat) (d:D) (n:Nat) (ρ:List Slot) (nx:Nat->List Slot->Prop),d∈ds->I (k+1) n ρ->(∀n' ρ',I k n' ρ'->nx n' ρ')->b d ρ λρ1=>body { D2 with nx:=nx,ct:=nx,bk:=D2.nx } n ρ1),
   I ds.length n ρ->A0 b body D2 ds n ρ
 | [],n,ρ,_,h=>hend n ρ h
 | d::ds,n,ρ,hs,h=>hs ds.length d n ρ (A0 b body D2 ds) Re h λn' ρ' h'=>Ga I hend ds n' ρ' (λk d n ρ nx hm=>hs k d n ρ nx (Sc _ hm)) h'
theorem XZ{P:Zs}{w:Zz}{K:Frag}{mg:Str->Option FM}{base:Zk}{st s1:Z9}{rest:List Z9}{f:Ev}{fd:aE}{Nr:List Str}{k n0:Nat}{wb:AW}(F:Fun K "law" "law" st f fd)
  (S:Af ("_law_script" :: "_law_feed_here"::Nr) ["_law_script"] (AO st)) (hbd:Br st=s1::rest) (hn0:n0<=2 ^ 60)
  (h1:∀(cdv:FM) (A:aB) (outer:List Env) (s:Rs) (H:Hp) (E:XK),Room k (A.deeper (envOfC "law" (AO st) s.heap.objs.size f cdv)) ->
   PS (Jc Cc P w K mg base ("_law_script" :: "_law_feed_here"::Nr) "law" (AO st) f cdv A outer s H E).nox s1 (M_ (Qr (Kh K) [] E0 (OE (BU 0) TC)) (J8 1)))
  (h2:∀(cdv:FM) (A:aB) (outer:List Env) (s:Rs) (H:Hp) (E:XK),Room k (A.deeper (envOfC "law" (AO st) s.heap.objs.size f cdv)) ->
   Mo (Jc Cc P w K mg base ("_law_script" :: "_law_feed_here"::Nr) "law" (AO st) f cdv A outer s H E).nox .sh rest wb)
  (hW:wb { nx:=λ_ _=>False,rt:=λd _=>d=.bl true } n0 (.no::.fd::Zd Nr.length .no)):BK P w K mg base Cc (k+1) f fd ["_law_script"] (Lo K):=by
 refine F.ok S (λvs H Q E h=>?_) (λcdv A outer s H vs Q E hr h=>?_)
 ·obtain⟨a,ns,rfl,_⟩:=h
  rfl
 ·obtain⟨a,ns,rfl,⟨hl,hS⟩,q⟩:=h
  obtain⟨t,t1,t2⟩:=h2 cdv A outer s H E hr;refine⟨PB (M_ (Qr (Kh K) [] E0 (OE (BU 0) TC)) (J8 1)) t,by rw [hbd]; exact BJ (h1 cdv A outer s H E hr) t1,?_⟩;refine⟨_,rfl,a,ns,rfl,⟨hl,hS⟩,λc g H' hcg hc hg=>?_⟩
  have at_:∀(i:Nat) (sl:Slot),(Slot.no::Slot.fd::Zd Nr.length Slot.no)[i]?=some sl->Slot.no=sl\/(Slot.fd=sl/\i=1):=by
   intro i sl hs
   match i,hs with
   | 0,hs=>exact .inl (ZS hs)
   | 1,hs=>exact .inr ⟨ZS hs,rfl⟩
   | i+2,hs =>
    rw [fA,fA,c0] at hs
    split at hs
    ·exact .inl (ZS hs)
    ·cases hs
  have R:Rel K ⟨λb=>b=g,some ⟨g,c,none⟩,λb=>b=g,λb=>b=g,H',[],[]⟩ (λb=>b=g) H' n0 (.no::.fd::Zd Nr.length .no) ((start ("_law_script" :: "_law_feed_here"::Nr) [V.ref a]).set 1 (some (.ref g))):=by
   refine⟨by simp [L2.start],λ_ z=>z,λb z=>⟨_,(congrArg H' z).trans hg⟩,Ext.refl _ _,λb z=>by rw [← ZS z],λ_ z=>z,λ_ z=>z,λb z=>?_,λi sl hs=>?_,λp hp=>absurd hp (by simp),λi d b hs _=>?_,λi sl b hs o _=>?_,λi j sl t b hs o _ _ _ _=>?_,λp hp=>absurd hp (by simp)⟩
   ·have e:(⟨g,c,none⟩:Fd)=b:=ZS z
    subst e;exact .inl ⟨rfl,0,0,ns,hg,hcg,⟨hcg,hc⟩,hl,by decide,by omega⟩
   ·rcases at_ i sl hs with e | ⟨e,rfl⟩
    ·rw [← e]; trivial
    ·rw [← e]
     exact⟨⟨g,c,none⟩,by simp [L2.start],rfl,rfl⟩
   ·rcases at_ i _ hs with e | ⟨e,_⟩ <;> cases e
   ·rcases at_ i sl hs with e | ⟨e,_⟩ <;> (rw [← e] at o; cases o)
   ·rcases at_ i sl hs with e | ⟨e,_⟩ <;> (rw [← e] at o; cases o)
  refine t2 _ _ H' n0 _ _ { nx:=λ_ _=>False,rt:=λd _=>d=.bl true } _ R ⟨λ_ _ _ _ _ _ z=>z.elim,λv H2 d n' _ _ r p=>?_,λ_ _ _ _ _ _ z=>z.elim,λ_ _ _ _ _ _ z=>z.elim⟩ hW;have e:d=.bl true:=p;subst e;have e2:v=.bl true:=r;subst e2;exact q H2
end Dp
namespace L2
open PySem PySem.Spec PyProof.Rows
section
variable {X:Cx}
theorem Bz:∀{us:List FM} {ys:List Str},StrsAre us ys->Vals (ys.map V.str) us
 | _,_,.nil=>.nil
 | _,_,.cons x t r=>.cons ⟨t,rfl⟩ (Bz r)
noncomputable def Q6(K:Frag):List V->Hp->VK->Prop:=λxs H Q=>∃(p:Ev) (ss:List Str),xs=[.ref p]/\SqL K H p (ss.map V.str)/\ss.length<64/\∀(ss':List Str) (l:Ev),ss'.Perm ss->sortedS ss'=true->H l=none->Q (.ref l) (Aw H l (.lst (ss'.map V.str)))
theorem Nu:By X (.builtin "sorted") (Q6 X.K):=by
 intro pins s σ H xs us Q I r h;obtain⟨p,ss,rfl,hq,h64,q⟩:=h;obtain⟨u,rfl,rx⟩:=vals1 r;cases rx;obtain⟨its,r',pl,hz⟩:=I.list hq;have hlen:=r'.length;rw [On] at hlen;refine sorted_strs pl.isList (NA r') (by omega) λout ss' a1 a2 a3=>?_;obtain⟨e,he⟩:=sortedAll_at s.heap its out;have hl':ss'.length=ss.length:=a2.length_eq;have hn:H (s.heap.objs.size+1)=none:=I.hok.fresh (a_ _);refine⟨.ref (s.heap.objs.size+1),_,I.laid (t':=s.toks) (λb o z=>sortedAll_old z) (a_ _) (show ObjOk X.prog X.w _ _ _ (.lst (ss'.map V.str)) from⟨?_,out.toList,e,Bz a1,?_⟩),rfl,q ss' _ a2 a3 hn⟩
 ·rw [On,Z2]; omega
 ·exact he
noncomputable def UZ:R2:=λx y H Q=>∃z k,x=.str z/\y=.int k/\MulOk z k/\Q (.str (Txt.mul z k)) H
theorem Tb:OpR X (binaryOp .Mult) UZ:=by
 intro pins s σ H x y v u Q I rx ry h;obtain⟨z,k,rfl,rfl,hm,q⟩:=h;obtain⟨t,rfl⟩:=rx;obtain⟨t',rfl⟩:=ry;exact SB.mul hm λt' k=>⟨.str _,H,I.tok _,⟨_,rfl⟩,q⟩
end
end L2
namespace Dp
open PySem PySem.Spec PyProof.Rows L2
section
variable {K:Frag}
noncomputable def BZ(ds:List D)(P:D->Prop):Prop:=match ds with
 | [.lst xs]=>P (.tup xs)
 | [.tup xs]=>P (.tup xs)
 | _=>False
theorem DQ:CS K .sh (λxs H Q=>∃p ys,xs=[.ref p]/\((SqL K H p ys/\∀l,H l=none->Q (.ref l) (Aw H l (.tup ys)))\/(SqT K H p ys/\Q (.ref p) H))) BZ:=by
 intro U M H ds vs P Q dom vM hp w q;unfold BZ at w
 split at w
 ·obtain⟨v,rfl,hx⟩:=DK hp
  obtain⟨a,us,rfl,_,ha,hs⟩:=hx;exact⟨a,us,rfl,.inl ⟨.inl ha,λl hl=>q _ _ (.tup _) (Ax hl) (DL dom hl hs) w⟩⟩
 ·obtain⟨v,rfl,hx⟩:=DK hp
  obtain⟨a,us,rfl,ha,hs⟩:=hx.tup;exact⟨a,us,rfl,.inr ⟨ha.sq,q _ H (.tup _) .refl ⟨a,us,rfl,ha,hs⟩ w⟩⟩
 ·exact w.elim
theorem Ats.strs{M:Ev->Prop}{H:Hp}:∀{ss:List Str},(∀x∈ss,x.length<=sizeLine)->Ats K M H (ss.map D.str) (ss.map V.str)
 | [],_=>rfl
 | x::r,h=>⟨.str x,r.map V.str,rfl,⟨rfl,h x Re⟩,Ats.strs λy hy=>h y (Sc _ hy)⟩
theorem Ats.strs_le{M:Ev->Prop}{H:Hp}:∀{ss:List Str} {vs:List V},Ats K M H (ss.map D.str) vs->∀x∈ss,x.length<=sizeLine
 | [],_,_=>λx hx=>by cases hx
 | y::r,vs,h=>λx hx=>by
  obtain⟨v,t,e,h1,h2⟩:=h
  rcases XV.mp hx with rfl | hx
  ·exact h1.2
  ·exact Ats.strs_le h2 x hx
noncomputable def R0(ds:List D)(P:D->Prop):Prop:=∃(xs:List D) (ss:List Str),ds=[.lst xs]/\CZ xs=some ss/\ss.length<64/\∀ss':List Str,ss'.Perm ss->sortedS ss'=true->P (.lst (ss'.map .str))
theorem Ox:∀{xs:List D} {ss:List Str},CZ xs=some ss->xs=ss.map .str
 | [],ss,h=>by cases h; rfl
 | .str b::r,ss,h=>by
  unfold CZ at h;obtain⟨t,e,rfl⟩:=Zy.mp h;rw [ZX,← Ox e]
 | .non::r,ss,h=>by unfold CZ at h; cases h
 | .int _::r,ss,h=>by unfold CZ at h; cases h
 | .bl _::r,ss,h=>by unfold CZ at h; cases h
 | .tup _::r,ss,h=>by unfold CZ at h; cases h
 | .lst _::r,ss,h=>by unfold CZ at h; cases h
 | .dic _ _::r,ss,h=>by unfold CZ at h; cases h
 | .fdi _ _::r,ss,h=>by unfold CZ at h; cases h
 | .dit _ _::r,ss,h=>by unfold CZ at h; cases h
theorem UM:CS K .fr (Q6 K) R0:=by
 intro U M H ds vs P Q dom vM hp w q;obtain⟨xs,ss,rfl,e,h64,w⟩:=w;obtain⟨v,rfl,hx⟩:=DK hp;obtain⟨a,us,rfl,_,ha,hs⟩:=hx
 have:=Ow e hs
 subst this;have e2:=Ox e;subst e2;refine⟨a,ss,rfl,.inl ha,h64,λss' l h1 h2 hl=>?_⟩;exact q _ _ _ (Ax hl) (DM hl (Ats.strs λx hx=>hs.strs_le x (h1.mem_iff.mp hx))) (w ss' h1 h2)
noncomputable def Gz(d e:D)(P:D->Prop):Prop:=match d,e with
 | .int i,.int j=>CMul i j/\P (.int (i*j))
 | .str z,.int k=>MulOk z k/\(Txt.mul z k).length<=sizeLine/\P (.str (Txt.mul z k))
 | _,_=>False
noncomputable def Ua:R2:=λx y H Q=>(rI CMul λi j=>.int (i*j)) x y H Q\/UZ x y H Q
theorem C2{X:Cx}:OpR X (binaryOp .Mult) Ua:=op_mul.or Tb
theorem Ei:FK K .sh Ua Gz:=λU M H d e x y P Q dom vM hx hy w q=>by
 unfold Gz at w
 split at w
 ·exact .inl (Gp (K:=K) (C:=CMul) (g:=λi j=>i*j) U M H (.int _) (.int _) x y P Q dom vM hx hy w q)
 ·rename_i z k
  exact .inr ⟨z,k,hx.1,hy,w.1,q _ H (.str _) .refl ⟨rfl,w.2.1⟩ w.2.2⟩
 ·exact w.elim
end
section
variable {X:Cx}{tg e e2:Expr}{es:List Expr}{ws:Er}{p pos:Pos}
noncomputable def Qe(ws:Er):Er:=λn ρ P=>ws n ρ λds n1=>∃i j:Int,ds=[.int i,.int j]/\(-(2 ^ 62)<=i/\i<2 ^ 62/\-(2 ^ 62)<=j/\j<2 ^ 62)/\P (Co i (j - i).toNat) n1
theorem KD(hg:Gl X "range")(hm:X.mg "range"=none)(ha:WV X [e,e2] ws)(hs:autoParam (starEach [e,e2] X.env=[(false,eval e X.env),(false,eval e2 X.env)]) zau3._auto_1)(hs2:autoParam (starEach [e2] X.env=[(false,eval e2 X.env)]) zau3._auto_1):DI X tg (.Call (.Name "range" p) [e,e2] [] pos) (Qe ws):=by
 obtain⟨t,a1,a2⟩:=ha;refine⟨_,PV hg hm a1 hs hs2,λC M H n ρ σ P Rr R w q=>?_⟩;refine a2 C M H n ρ σ _ _ R w λvs H1 ds n1 e1 f1 r1 p=>?_;obtain⟨i,j,rfl,hj,p⟩:=p;cases r1 with
 | cons r rr =>
  cases rr with
  | cons r' rr =>
   cases rr;have hv:_=V.int i:=r;have hv':_=V.int j:=r';exact⟨i,j,by rw [hv,hv'],hj,q _ H1 _ n1 e1 f1 Fa p⟩
noncomputable def YG(X:Cx)(ts:List Zq)(b:List D->List Slot->(List Slot->Prop)->Prop):Prop:=∃g,Xw X ts g/\∀(C:Fm) (M:Ev->Prop) (H:Hp) (n:Nat) (ρ:List Slot) (σ:L2.St) (ds:List D) (vs:List V) (P:List Slot->Prop) (Q:L2.St->Hp->Prop),Rel X.K C M H n ρ σ->Ats X.K M H ds vs->b ds ρ P ->
 (∀ρ' σ',Rel X.K C M H n ρ' σ'->P ρ'->Q σ' H)->g vs σ H Q
noncomputable def CV:List D->List Slot->(List Slot->Prop)->Prop:=λds ρ P=>ds=[]/\P ρ
noncomputable def Am(b:BW)(bs:List D->List Slot->(List Slot->Prop)->Prop):List D->List Slot->(List Slot->Prop)->Prop:=λds ρ P=>match ds with
 | d::r=>b d ρ λρ1=>bs r ρ1 P
 | []=>False
theorem Dw:YG X [] CV:=⟨_,OS,λC M H n ρ σ ds vs P Q R h w q=>by
 obtain⟨rfl,w⟩:=w;exact⟨h,q ρ σ R w⟩⟩
theorem A9{b:BW}{bs:List D->List Slot->(List Slot->Prop)->Prop}(h1:DG X e b)(h2:YG X es bs)(hs:autoParam ((assignEach (e::es) X.env).map (·.2)=assign e X.env::(assignEach es X.env).map (·.2)) zau3._auto_1):YG X (e::es) (Am b bs):=by
 obtain⟨g,a1,a2⟩:=h1;obtain⟨g',b1,b2⟩:=h2;refine⟨_,Fk a1 b1 hs,λC M H n ρ σ ds vs P Q R h w q=>?_⟩;cases ds with
 | nil=>exact w.elim
 | cons d r =>
  obtain⟨v,vr,e,hv,hr⟩:=h;exact⟨v,vr,e,a2 C M H n ρ σ d v _ _ R hv w λρ' σ' R' w'=>b2 C M H n ρ' σ' r vr _ _ R' hr w' q⟩
noncomputable def FA(k:Nat)(bs:List D->List Slot->(List Slot->Prop)->Prop):BW:=λd ρ P=>match d with
 | .tup ds=>ds.length=k/\bs ds ρ P
 | _=>False
theorem FY{bs:List D->List Slot->(List Slot->Prop)->Prop}{k:Nat}{j:Nat}(hc:X.calm=true)(h:YG X es bs)(hn:autoParam ((assignEach es X.env).length=k) zau3._auto_1)(hst:autoParam ((assignEach es X.env).findIdx? (·.1)=none) zau3._auto_1):DG X (.Tuple es j pos) (FA k bs):=by
 obtain⟨g,a1,a2⟩:=h;refine⟨_,RL hc a1 hn hst,λC M H n ρ σ d v P Q R h w q=>?_⟩;cases d with
 | tup ds =>
  obtain⟨a,vs,rfl,hq,hs⟩:=h;exact⟨a,vs,rfl,hq.sq,by rw [hs.length]; exact w.1,a2 C M H n ρ σ ds vs P Q R hs w.2 q⟩
 | _=>exact w.elim
end
end Dp
namespace L2
open PySem PySem.Spec PyProof.Rows
mutual
noncomputable def RV(H:Hp):d_->V->Prop
 | .none,v=>v=.non
 | .bool b,v=>v=.bl b
 | .int i,v=>v=.int i
 | .str x,v=>v=.str x
 | .tuple xs,v=>∃a vs,v=.ref a/\H a=some (.tup vs)/\RVs H xs vs
 | .list xs,v=>∃a vs,v=.ref a/\Rd H a (.lst vs)/\RVs H xs vs
 | .dict _,_=>False
noncomputable def RVs(H:Hp):List d_->List V->Prop
 | [],vs=>vs=[]
 | x::xs,vs=>∃v r,vs=v::r/\RV H x v/\RVs H xs r
end
section
variable {X:Cx}{pins:List (Addr×Obj)}{σ:L2.St}{H:Hp}{s:Shared}
mutual
theorem RV.reads(I:Inv X pins σ H s):∀{d:d_} {v:V} {u:FM},RV H d v->RelV v u->∃as,Reads s.heap u d as
 | .none,v,u,h,r=>by
  cases (show v=.non from h);cases (show u=Z0 from r);exact⟨_,.none⟩
 | .bool b,v,u,h,r=>by
  cases (show v=.bl b from h);cases (show u=dN b from r);exact⟨_,.bool b⟩
 | .int i,v,u,h,r=>by
  cases (show v=.int i from h);obtain⟨t,rfl⟩:=r;exact⟨_,.int i t⟩
 | .str x,v,u,h,r=>by
  cases (show v=.str x from h);obtain⟨t,rfl⟩:=r;exact⟨_,.str x t⟩
 | .tuple xs,v,u,h,r=>by
  obtain⟨a,vs,rfl,hq,hs⟩:=h;cases r;obtain⟨its,rv,⟨o,e,c,n,d⟩,_⟩:=I.tuple (X:=X) (xs:=vs) (.inl (.inl hq));obtain⟨as,ra⟩:=RVs.reads I hs rv;exact⟨_,.tuple e c d ra⟩
 | .list xs,v,u,h,r=>by
  obtain⟨a,vs,rfl,hq,hs⟩:=h;cases r;obtain⟨its,rv,pl,_⟩:=I.list (X:=X) (xs:=vs) (.inl hq);obtain⟨o,e,c,n,d⟩:=pl.isList;obtain⟨as,ra⟩:=RVs.reads I hs rv;exact⟨_,.list e c d ra⟩
 | .dict _,v,u,h,r=>h.elim
theorem RVs.reads(I:Inv X pins σ H s):∀{ds:List d_} {vs:List V} {us:List FM},RVs H ds vs->Vals vs us->∃as,ReadsAll s.heap us ds as
 | [],vs,us,h,r=>by
  cases (show vs=[] from h);cases r;exact⟨_,.nil⟩
 | d::ds,vs,us,h,r=>by
  obtain⟨v,w,rfl,h1,h2⟩:=h;cases r with
  | cons r1 r2 =>
   obtain⟨as,a1⟩:=RV.reads I h1 r1;obtain⟨bs,a2⟩:=RVs.reads I h2 r2;exact⟨_,.cons a1 a2⟩
end
end
section
variable {X:Cx}
noncomputable def W9(neg:Bool):R2:=λx y H Q=>∃d es,RV H d x/\(RV H (.list es) y\/RV H (.tuple es) y)/\d.canLay0=true/\bd es=true/\d.depth<=100/\Q (.bl (if neg then !(es.any λy=>cO y d) else es.any λy=>cO y d)) H
theorem Pb{k:Nat}(hr:Room k X.A):OpR X (compareOp .NotIn) (W9 true):=by
 intro pins s σ H x y v u Q I rx ry h;obtain⟨d,es,hx,hy,h1,h2,hd,q⟩:=h;obtain⟨as,ra⟩:=RV.reads I hx rx;have hu:=hr.un;have hm:min (a9 es) d.depth<=d.depth:=eg _ _
 rcases hy with hy | hy
 ·obtain⟨bs,rb⟩:=RV.reads I hy ry
  exact PySem.SeqAt.notIn_list_reads rb ra h2 h1 (by omega) ⟨.bl _,H,I,rfl,q⟩
 ·obtain⟨bs,rb⟩:=RV.reads I hy ry
  exact PySem.SeqAt.notIn_tuple_reads rb ra h2 h1 (by omega) ⟨.bl _,H,I,rfl,q⟩
end
end L2
namespace Dp
open PySem PySem.Spec PyProof.Rows L2
mutual
noncomputable def toPy:D->d_
 | .non=>.none
 | .bl b=>.bool b
 | .int i=>.int i
 | .str x=>.str x
 | .tup ds=>.tuple (A7 ds)
 | .lst ds=>.list (A7 ds)
 | .dic _ _=>.dict []
 | .fdi _ _=>.dict []
 | .dit _ _=>.dict []
noncomputable def A7:List D->List d_
 | []=>[]
 | d::ds=>toPy d::A7 ds
end
theorem Et(ds:List D):A7 ds=ds.map toPy:=by
 induction ds with
 | nil=>rfl
 | cons d r ih=>rw [A7,ih,ZX]
theorem NW(ds:List D):Bi ds=ds.all D7:=by
 induction ds with
 | nil=>rfl
 | cons d r ih=>rw [Bi,ih,fY]
section
variable {K:Frag}{M:Addr->Prop}{H:Hp}
mutual
theorem At.rv:∀{d:D} {v:V},At K M H d v->D7 d=true->RV H (toPy d) v
 | .non,v,h,_=>h
 | .bl b,v,h,_=>h
 | .int i,v,h,_=>h
 | .str x,v,h,_=>h.1
 | .tup ds,v,h,n=>by
  obtain⟨a,vs,e,hn,hs⟩:=h;exact⟨a,vs,e,hn,Ats.rv hs n⟩
 | .lst ds,v,h,n=>by
  obtain⟨a,vs,e,hn,hs⟩:=h;exact⟨a,vs,e,.inl hn.2,Ats.rv hs n⟩
 | .dic ks ds,v,h,n=>by cases n
 | .fdi ks ds,v,h,n=>by cases n
 | .dit ks ds,v,h,n=>by cases n
theorem Ats.rv:∀{ds:List D} {vs:List V},Ats K M H ds vs->Bi ds=true->RVs H (A7 ds) vs
 | [],vs,h,_=>h
 | d::ds,vs,h,n=>by
  obtain⟨v,r,e,h1,h2⟩:=h;have n':(D7 d&&Bi ds)=true:=n;rw [Zl] at n';exact⟨v,r,e,At.rv h1 n'.1,Ats.rv h2 n'.2⟩
end
theorem AtT.rv{U:Ev->Prop}{d:D}{v:V}(h:AtT K U M H d v)(n:D7 d=true):RV H (toPy d) v:=by
 cases d with
 | lst ds =>
  obtain⟨a,vs,e,_,hq,hs⟩:=h;exact⟨a,vs,e,hq,Ats.rv hs n⟩
 | dic ks ds=>cases n
 | fdi ks ds=>cases n
 | dit ks ds=>cases n
 | non=>exact h
 | bl b=>exact h
 | int i=>exact h
 | str x=>exact h.1
 | tup ds=>exact At.rv (K:=K) (M:=M) (d:=.tup ds) h n
noncomputable def Ds(d:D):Prop:=D7 d=true/\(toPy d).canLay0=true/\(toPy d).depth<=100
noncomputable def KC(d e:D):Bool:=cO (toPy d) (toPy e)
noncomputable def G9:D->Option (List D)
 | .lst ds=>some ds
 | .tup ds=>some ds
 | _=>none
noncomputable def Xd(neg:Bool)(d e:D)(P:D->Prop):Prop:=Ds d/\Ds e/\∃es,G9 e=some es/\P (.bl (if neg then !(es.any λy=>KC y d) else es.any λy=>KC y d))
theorem Xp{neg:Bool}:FK K .sh (W9 neg) (Xd neg):=λU M H d e x y P Q dom vM hx hy w q=>by
 obtain⟨h1,h2,es,he,w⟩:=w;have any_eq:∀es:List D,(es.map toPy).any (λy=>cO y (toPy d))=es.any λy=>KC y d:=λes=>by rw [List.any_map]; rfl
 cases e with
 | lst ds =>
  cases he;refine⟨toPy d,A7 es,hx.rv h1.1,.inl (hy.rv h2.1),h1.2.1,by simpa [toPy,PyData.canLay0] using h2.2.1,h1.2.2,?_⟩;rw [Et,any_eq];exact q _ H (.bl _) .refl rfl w
 | tup ds =>
  cases he;refine⟨toPy d,A7 es,hx.rv h1.1,.inr (hy.rv h2.1),h1.2.1,by simpa [toPy,PyData.canLay0] using h2.2.1,h1.2.2,?_⟩;rw [Et,any_eq];exact q _ H (.bl _) .refl rfl w
 | _=>cases he
noncomputable def Nj(d e:D)(P:D->Prop):Prop:=Ds d/\Ds e/\P (.bl (!KC d e))
end
end Dp
namespace L2
open PySem PySem.Spec PyProof.Rows
noncomputable def W1:R2:=λx y H Q=>∃d e,RV H d x/\RV H e y/\d.canLay0=true/\e.canLay0=true/\d.depth<=100/\Q (.bl (!PyData.eqv d e)) H
theorem FU{X:Cx}{k:Nat}(hr:Room k X.A):OpR X (compareOp .NotEq) W1:=by
 intro pins s σ H x y v u Q I rx ry h;obtain⟨d,e,hx,hy,h1,h2,hd,q⟩:=h;obtain⟨as,ra⟩:=RV.reads I hx rx;obtain⟨bs,rb⟩:=RV.reads I hy ry;have hu:=hr.un;have hm:min d.depth e.depth<=d.depth:=Nat.min_le_left _ _;exact PySem.SeqAt.compareNe_reads ra rb h1 h2 (by omega) ⟨.bl _,H,I,rfl,q⟩
end L2
namespace Dp
open PySem PySem.Spec PyProof.Rows L2
theorem JC{K:Frag}:FK K .sh W1 Nj:=λU M H d e x y P Q dom vM hx hy w q =>
 ⟨toPy d,toPy e,hx.rv w.1.1,hy.rv w.2.1.1,w.1.2.1,w.2.1.2.1,w.1.2.2,q _ H (.bl (!KC d e)) .refl rfl w.2.2⟩
end Dp
namespace L2
open PySem PySem.Spec PyProof.Rows
noncomputable def kOf:Key->V
 | .inl i=>.int i
 | .inr x=>.str x
noncomputable def X8:Key->Key->Bool
 | .inl i,.inl j=>decide (i<j)
 | .inr x,.inr y=>decide (x.cps.toList<y.cps.toList)
 | _,_=>false
noncomputable def Jq:Key->Key->Bool
 | .inl _,.inl _=>true
 | .inr _,.inr _=>true
 | _,_=>false
noncomputable def EN:List Key->List Key->Bool
 | [],[]=>false
 | [],_::_=>true
 | _::_,[]=>false
 | x::xs,y::ys=>if x=y then EN xs ys else X8 x y
noncomputable def Bs:List Key->List Key->Bool
 | x::xs,y::ys=>Jq x y&&Bs xs ys
 | _,_=>true
theorem SD{A:aB}{s:Rs}{x y:Key}{u v:FM}(rx:RelV (kOf x) u)(ry:RelV (kOf y) v):∃e,SeqAt.EqAt A s u v e/\(e=true↔x=y):=by
 cases x with
 | inl i =>
  cases y with
  | inl j=>exact⟨_,LG rx ry rfl rfl,by simp [kOf,Xe]⟩
  | inr z=>exact⟨_,LG rx ry rfl rfl,by simp [kOf,Xe]⟩
 | inr z =>
  cases y with
  | inl j=>exact⟨_,LG rx ry rfl rfl,by simp [kOf,Xe]⟩
  | inr z'=>exact⟨_,LG rx ry rfl rfl,by simp [kOf,Xe]⟩
theorem Q2(A:aB)(s:Rs){x y:Key}{u v:FM}(rx:RelV (kOf x) u)(ry:RelV (kOf y) v)(hs:Jq x y=true)(prog:Zs)(w:Zz)(E:FM->Rs->Prop)(Q:FM->Rs->Prop)(h:Q (.bool (X8 x y)) s) :
  wpAny (model prog w) A (richCompare .Lt u v) Q E s:=by
 cases x with
 | inl i =>
  cases y with
  | inl j =>
   obtain⟨t,rfl⟩:=rx;obtain⟨t',rfl⟩:=ry;exact(fH h:wpAny (model prog w) A (compareOp .Lt (.int i t) (.int j t')) Q E s)
  | inr z=>cases hs
 | inr z =>
  cases y with
  | inl j=>cases hs
  | inr z' =>
   obtain⟨t,rfl⟩:=rx;obtain⟨t',rfl⟩:=ry;exact(PySem.P.lt_str h:wpAny (model prog w) A (compareOp .Lt (.str z t) (.str z' t')) Q E s)
section
open PySem.SeqAt
open PySem.AutoSeq1 (wpAny_loadPart')
open PySem.MeetsSeq PySem.MeetsSeq2 PySem.MeetsSeq3
theorem FC(l b:Ev)(items items2:Array FM)(n n2:Nat)(dd dd2:Option Ev)(sl sl2:Array (Option FM))(ns ms:List Key)(hi:Vals (ns.map kOf) items.toList)(hj:Vals (ms.map kOf) items2.toList)(hsame:Bs ns ms=true) :
  Meets (bp.«tuple.__lt__» ⟨[.ref l,.ref b],[]⟩)
   (λ_ R s=>s.heap.get? l=some { cls:=.type "tuple",dict:=dd,data:=.seq items n,slots:=sl }/\s.heap.get? b=some { cls:=.type "tuple",dict:=dd2,data:=.seq items2 n2,slots:=sl2 } /\
    R (.ok (.ret (.bool (EN ns ms)))) s) :=
 .of_wp λprog w A R s h=>by
  obtain⟨hp,g,d,tk,os⟩:=s; obtain⟨hl,hb,h⟩:=h
  have f2:=AutoSeq1.sub_tuple_tuple;have z1:items.size=ns.length:=by have:=hi.length; rw [On] at this; rw [this]; simp
  have z2:items2.size=ms.length:=by have:=hj.length; rw [On] at this; rw [this]; simp
  wp_walk using cD hl,cD hb,wpAny_forIn_list _ (λrest b s'=>b.1=none/\s'=⟨hp,g,d,tk,os⟩/\∃(vs ws:List FM) (ns' ms':List Key),rest=vs.zip ws /\
   Vals (ns'.map kOf) vs/\Vals (ms'.map kOf) ws/\Bs ns' ms'=true/\ns'.length+items2.size=ms'.length+items.size/\R (.ok (.ret (.bool (EN ns' ms')))) ⟨hp,g,d,tk,os⟩) _
  case turn =>
   rintro ⟨y,x⟩ rest b s' ⟨hb',rfl,vs,ws,ns',ms',hz,hvi,hwi,hsm,hlen,hR⟩;cases ns' with
   | nil=>cases hvi; rw [List.zip_nil_left] at hz; cases hz
   | cons a ns' =>
    cases ms' with
    | nil=>cases hwi; rw [List.zip_nil_right] at hz; cases hz
    | cons c ms' =>
     rw [ZX] at hvi hwi;cases hvi with
     | cons ra hvi' =>
      cases hwi with
      | cons rc hwi' =>
       rw [eA] at hz;injection hz with hyx hrest
       injection hyx with hy hx
       subst hy hx;have hR':R (.ok (.ret (.bool (if a=c then EN ns' ms' else X8 a c)))) ⟨hp,g,d,tk,os⟩:=hR;have hsm':(Jq a c&&Bs ns' ms')=true:=hsm;rw [Zl] at hsm';simp only [Za] at hlen;obtain⟨e,he,hiff⟩:=SD (A:=A.in1) (s:=⟨hp,g,d,tk,os⟩) ra rc;refine Db (he prog w _ _ ?_);cases e with
       | true =>
        rw [if_pos (hiff.mp rfl)] at hR'
        wp_walk
        exact⟨rfl,rfl,_,_,_,_,hrest,hvi',hwi',hsm'.2,by omega,hR'⟩
       | false =>
        rw [if_neg (λq=>absurd (hiff.mpr q) Ze)] at hR';have hri:=Q2 A.in1 ⟨hp,g,d,tk,os⟩ ra rc hsm'.1 prog w
        wp_walk using hri
        exact⟨_,rfl,by simpa using hR'⟩
  case fin =>
   rintro ⟨b1,b2⟩ s' ⟨hb',rfl,vs,ws,ns',ms',hz,hvi,hwi,hsm,hlen,hR⟩;simp only at hb';subst hb'
   have hv:EN ns' ms'=decide (items.size<items2.size):=by
    cases ns' with
    | nil =>
     cases ms' with
     | nil =>
      simp only [aQ] at hlen;exact(decide_eq_false (by omega)).symm
     | cons c u =>
      simp only [aQ,Za] at hlen;exact(decide_eq_true (by omega)).symm
    | cons a t =>
     cases ms' with
     | nil =>
      simp only [aQ,Za] at hlen;exact(decide_eq_false (by omega)).symm
     | cons c u =>
      rw [ZX] at hvi hwi;cases hvi;cases hwi;rw [eA] at hz;cases hz
   rw [hv] at hR
   wp_walk
   exact⟨_,rfl,by simpa [Builtin.Tuple.tupleCompareSizes] using hR⟩
  case h =>
   exact⟨rfl,rfl,items.toList,items2.toList,ns,ms,rfl,hi,hj,hsame,by omega,h⟩
end
section
variable {X:Cx}
noncomputable def W4(K:Frag):R2:=λx y H Q=>∃a b ns ms,x=.ref a/\y=.ref b/\SqT K H a (ns.map kOf)/\SqT K H b (ms.map kOf)/\Bs ns ms=true/\Q (.bl (EN ns ms)) H
theorem Vi(hu:X.A.units<cLine):OpR X (compareOp .Lt) (W4 X.K):=by
 intro pins s σ H x y v u Q I rx ry h;obtain⟨a,b,ns,ms,rfl,rfl,ha,hb,hsm,q⟩:=h;cases rx;cases ry;obtain⟨its,r1,p1,_⟩:=I.tuple ha;obtain⟨its2,r2,p2,_⟩:=I.tuple hb;obtain⟨⟨cls,dd,data,sl⟩,ho,hc,n,hd⟩:=id p1;obtain⟨⟨cls2,dd2,data2,sl2⟩,ho2,hc2,n2,hd2⟩:=id p2;simp only at hc hd hc2 hd2;subst hc hd hc2 hd2
 exact richCompare_meets_room (op:=.Lt) ⟨_,ho,rfl⟩ ⟨_,ho2,rfl⟩ PySem.F.slot_tuple_lt PySem.F.entry_tuple_lt (PySem.F.args_tuple_lt_2 _ _) (FC a b its.toArray its2.toArray n n2 dd dd2 sl sl2 ns ms r1 r2 hsm)
  ⟨ho,ho2,show dN (EN ns ms)≠fV/\EP X pins σ Q (.bool (EN ns ms)) s from⟨(λx=>nomatch x),⟨.bl _,H,I,rfl,q⟩⟩⟩ hu
end
noncomputable def ItAt(κ:Bool)(h:Zk)(it l:Ev)(k:Nat):Prop:=match κ with
 | true=>h.IsListIter it l k
 | false=>h.IsTupleIter it l k
noncomputable def SqAt(κ:Bool)(h:Zk)(l:Ev)(items:Array FM):Prop:=match κ with
 | true=>h.IsList l items
 | false=>h.IsTuple l items
section
variable {κ:Bool}{h h':Heap}{it l b:Addr}{k:Nat}{items:Array Value}
theorem ItAt.mv(x:ItAt κ h it l k)(e:∀o,h.get? it=some o->h'.get? it=some o):ItAt κ h' it l k:=by
 cases κ with
 | true=>obtain⟨o,ho,r⟩:=x; exact⟨o,e o ho,r⟩
 | false=>obtain⟨o,ho,r⟩:=x; exact⟨o,e o ho,r⟩
theorem SqAt.mv(x:SqAt κ h l items)(e:∀o,h.get? l=some o->h'.get? l=some o):SqAt κ h' l items:=by
 cases κ with
 | true=>obtain⟨o,ho,r⟩:=x; exact⟨o,e o ho,r⟩
 | false=>obtain⟨o,ho,r⟩:=x; exact⟨o,e o ho,r⟩
theorem ItAt.eb(x:ItAt κ h it l k)(hs:fI b h h')(n:it≠b):ItAt κ h' it l k:=x.mv λo e=>hs it o n e
theorem SqAt.eb(x:SqAt κ h l items)(hs:fI b h h')(n:l≠b):SqAt κ h' l items:=x.mv λo e=>hs l o n e
theorem ItAt.lies(x:ItAt κ h it l k):∃o,h.get? it=some o/\∀v,o.data≠.cell v:=by
 cases κ with
 | true=>obtain⟨o,ho,_,d⟩:=x; exact⟨o,ho,λv z=>by rw [d] at z; cases z⟩
 | false=>obtain⟨o,ho,_,d⟩:=x; exact⟨o,ho,λv z=>by rw [d] at z; cases z⟩
theorem SqAt.lies(x:SqAt κ h l items):∃o,h.get? l=some o:=by
 cases κ with
 | true=>obtain⟨o,ho,_⟩:=x; exact⟨o,ho⟩
 | false=>obtain⟨o,ho,_⟩:=x; exact⟨o,ho⟩
end
section
variable {prog:Program}{w:World}{A:Around}{E:Value->Shared->Prop}{s:Shared}
theorem Gn{κ:Bool}{it l:Ev}{i:Nat}{items:Array FM}{x:FM}{Q:FM->Rs->Prop}(hit:ItAt κ s.heap it l i)(hl:SqAt κ s.heap l items)(hx:items[i]?=some x)
  (hQ:∀h',ItAt κ h' it l (i+1)->dO it s.heap h'->Q x { s with heap:=h' }):wpAny (model prog w) A (aH (.ref it)) Q E s:=by
 cases κ with
 | true=>exact wpAny_nextOf_list_item hit hl hx hQ
 | false =>
  have hit':s.heap.IsTupleIter it l i:=hit;have hl':s.heap.IsTuple l items:=hl;obtain⟨o,ho,hc,hd⟩:=id hit'; obtain⟨ol,hol,_,nl,hdl⟩:=hl'
  unfold aH;refine Db (aF (name:=aV "__next__") hit'.typeIs ba (ai ba hit'.typeIs eB ?_ (di _)));show wpAny (model prog w) _ (field (.ref it) 0 >>= _) _ _ s; refine Db (aP ho hd (x:=.ref l) rfl ?_)
  show wpAny (model prog w) _ (if (Z4 l==Z0)=true then _ else _) _ _ s; rw [if_neg (show ¬((Z4 l==Z0)=true) from Ze)]
  show wpAny (model prog w) _ (field (.ref it) 1 >>= _) _ _ s; refine Db (aP ho hd (x:=.int i 0) rfl ?_)
  show wpAny (model prog w) _ (seqItems? (.ref l) >>= _) _ _ s; refine Db (aY hol hdl ?_); simp only [av,hx]
  refine Db (dk ho hd (by simp) (TM ⟨x,rfl,TM (hQ _ (show Heap.IsTupleIter _ it l (i+1) from ?_) (cT ..))⟩));exact⟨_,bY _ ho (Obj.isFreed_of_fields (cf hd _)),(Obj.cls_mapFields ..).trans hc,by(rw [cf hd]; simp [rawInt])⟩
theorem MU{κ:Bool}{it l:Ev}{i:Nat}{items:Array FM}{Q:FM->Rs->Prop}(hh:A.handled=none)(hit:ItAt κ s.heap it l i)(hl:SqAt κ s.heap l items)(hx:items[i]?=none)
  (hE:∀h' e,fI it s.heap h'->(∃o,h'.get? e=some o/\o.cls=.type "StopIteration")->E (.ref e) { s with heap:=h' }):wpAny (model prog w) A (aH (.ref it)) Q E s:=by
 cases κ with
 | true=>exact wpAny_nextOf_list_end hh hit hl hx hE
 | false =>
  have hit':s.heap.IsTupleIter it l i:=hit;have hl':s.heap.IsTuple l items:=hl;obtain⟨o,ho,hc,hd⟩:=id hit'; obtain⟨ol,hol,_,nl,hdl⟩:=hl'
  unfold aH;refine Db (aF (name:=aV "__next__") hit'.typeIs ba (ai ba hit'.typeIs eB ?_ (di _)));show wpAny (model prog w) _ (field (.ref it) 0 >>= _) _ _ s; refine Db (aP ho hd (x:=.ref l) rfl ?_)
  show wpAny (model prog w) _ (if (Z4 l==Z0)=true then _ else _) _ _ s; rw [if_neg (show ¬((Z4 l==Z0)=true) from Ze)]
  show wpAny (model prog w) _ (field (.ref it) 1 >>= _) _ _ s; refine Db (aP ho hd (x:=.int i 0) rfl ?_)
  show wpAny (model prog w) _ (seqItems? (.ref l) >>= _) _ _ s; refine Db (aY hol hdl ?_); simp only [av,hx]
  refine Db (cy (Db (dk ho hd (by simp) ?_))); show wpAny (model prog w) _ (newExc (.type "StopIteration") [] >>= _) _ _ _
  refine Db ?_; simp only [newExc,newTuple]; refine Db (aC ?_ (by size_fits))
  refine Db (m:=firstArgMember _ _) (fJ (a:=Z0) (by first | rfl | (simp only [firstArgMember]; rfl)) ?_); refine aC ?_ (by size_fits)
  simp only [raiseNew]; refine Db (wpAny_handled ?_); first | rw [show A.in1.handled=none from hh] | rw [hh]
  refine Db (TM (wpAny_throw ?_)); exact hE _ _ (((cT ..).extBut.push _).push _) ⟨_,Uf _ rfl,rfl⟩
structure WW (z TI TO i1 i2 l1 l2:Ev):Prop where
 TIz:TI≠z
 TOz:TO≠z
 i1z:i1≠z
 i2z:i2≠z
 TOi1:TO≠i1
 TOi2:TO≠i2
 i12:i1≠i2
 l1z:l1≠z
 l1TO:l1≠TO
 l1i1:l1≠i1
 l1i2:l1≠i2
 l2z:l2≠z
 l2TO:l2≠TO
 l2i1:l2≠i1
 l2i2:l2≠i2
theorem QZ{κ1 κ2:Bool}{z TI TO i1 i2 l1 l2:Ev}{k:Nat}{xs ys:Array FM}{x y a b:FM}{Q:FM->Rs->Prop}(D:WW z TI TO i1 i2 l1 l2)
  (hz:cF s.heap z TI TO .none) (hTI:ak s.heap TI (.ref i1) (.ref i2)) (hTO:ak s.heap TO a b) (h1:ItAt κ1 s.heap i1 l1 k) (h2:ItAt κ2 s.heap i2 l2 k) (hl1:SqAt κ1 s.heap l1 xs) (hl2:SqAt κ2 s.heap l2 ys) (hx:xs[k]?=some x) (hy:ys[k]?=some y)
  (hQ:∀h',cF h' z TI TO (rawInt s.heap.objs.size)->ak h' TO x y->ItAt κ1 h' i1 l1 (k+1)->ItAt κ2 h' i2 l2 (k+1)->ak h' s.heap.objs.size x y->h'.objs.size=s.heap.objs.size+1->(∀c o,c≠z->c≠TO->c≠i1->c≠i2->s.heap.get? c=some o->h'.get? c=some o)->Q (.ref s.heap.objs.size) { s with heap:=h' }) :
  wpAny (model prog w) A (bp.«zip.__next__» ⟨[.ref z],[]⟩) (λfin s'=>∃v,fin=.done (.ret v)/\Q v s') E s:=by
 show wpAny (model prog w) A (field (.ref z) 2 >>= _) _ _ _; refine Db (aP hz rfl (x:=.bool false) rfl ?_)
 show wpAny (model prog w) A (field (.ref z) 3 >>= _) _ _ _; refine Db (aP hz rfl (x:=.ref TI) rfl ?_); refine Db (aY hTI rfl ?_)
 show wpAny (model prog w) A (ar (.ref z) >>= _) _ _ _; refine Db ?_; unfold ar
 refine Db (aP hz rfl (x:=.none) rfl (TM ?_)); simp only [if_true]; refine Db (cy ?_); refine Db (aP hz rfl (x:=.ref TO) rfl ?_)
 refine Db (bV hz (by simp) λha hza hsa=>?_);replace hza:cF ha z TI TO .ellipsis:=hza;refine Db ?_; simp only [List.zipIdx_cons,List.zipIdx_nil,dS,List.forIn_nil]
 refine Db (Db (eJ ?_)); show wpAny (model prog w) _ (aH (.ref i1) >>= _) _ _ _
 refine Db (Gn (h1.eb hsa.extBut D.i1z) (hl1.eb hsa.extBut D.l1z) hx λhb h1b hsb=>TM ?_);have hTOb:ak hb TO a b:=hsb.extBut _ _ D.TOi1 (hsa.extBut _ _ D.TOz hTO);refine Db (aY hTOb rfl ?_); refine Db (dW hTOb λhc hTOc hsc=>?_)
 replace hTOc:ak hc TO x b:=hTOc;refine Db (bo (TM ?_)); refine Db (Db (eJ ?_)); show wpAny (model prog w) _ (aH (.ref i2) >>= _) _ _ _
 refine Db (Gn (((h2.eb hsa.extBut D.i2z).eb hsb.extBut D.i12.symm).eb hsc.extBut D.TOi2.symm) (((hl2.eb hsa.extBut D.l2z).eb hsb.extBut D.l2i1).eb hsc.extBut D.l2TO) hy λhd h2d hsd=>TM ?_);have hTOd:ak hd TO x b:=hsd.extBut _ _ D.TOi2 hTOc;refine Db (aY hTOd rfl ?_); refine Db (dW hTOd λhe hTOe hse=>?_)
 replace hTOe:ak he TO x y:=hTOe;refine Db (bo (TM (TM ?_))); refine Db (aY hTOe rfl ?_); refine Db (wpAny_newTuple ?_)
 have hsz:he.objs.size=s.heap.objs.size:=by rw [hse.1,hsd.1,hsc.1,hsb.1,hsa.1]
 have hze:cF he z TI TO .ellipsis:=hse.extBut _ _ D.TOz.symm (hsd.extBut _ _ D.i2z.symm (hsc.extBut _ _ D.TOz.symm (hsb.extBut _ _ D.i1z.symm hza)));have hke:∀c o,c≠z->c≠TO->c≠i1->c≠i2->s.heap.get? c=some o->he.get? c=some o:=λc o c1 c2 c3 c4 e=>hse.extBut _ _ c2 (hsd.extBut _ _ c4 (hsc.extBut _ _ c2 (hsb.extBut _ _ c3 (hsa.extBut _ _ c1 e))));have h1e:ItAt κ1 he i1 l1 (k+1):=((h1b.eb hsc.extBut D.TOi1.symm).eb hsd.extBut D.i12).eb hse.extBut D.TOi1.symm;have h2e:ItAt κ2 he i2 l2 (k+1):=h2d.eb hse.extBut D.TOi2.symm;have hzlt:z<he.objs.size:=ZU hze;show wpAny (model prog w) _ (ci (.ref z) (.ref he.objs.size) >>= _) _ _ _; refine Db ?_; unfold ci
 have hzf:cF (he.push { cls:=.type "tuple",data:=.seq #[x,y] }) z TI TO .ellipsis:=Op _ hze;refine Db (bV hzf (by simp) λhg hzg hsg=>?_);replace hzg:cF hg z TI TO (rawInt he.objs.size):=hzg;refine bV hzg (by simp) λhi hzi hsi=>?_;replace hzi:cF hi z TI TO (rawInt he.objs.size):=hzi;have up:∀c o,c≠z->he.get? c=some o->hi.get? c=some o:=λc o c1 e=>hsi.extBut _ _ c1 (hsg.extBut _ _ c1 (Op _ e));have hTi:ak hi he.objs.size x y:=hsi.extBut _ _ (dQ hzlt) (hsg.extBut _ _ (dQ hzlt) (Uf _ rfl));have hzs:hi.objs.size=he.objs.size+1:=by rw [hsi.1,hsg.1,aX]
 rw [hsz] at hzi hTi hzs;refine TM ⟨_,rfl,?_⟩;show Q (.ref he.objs.size) _; rw [hsz]
 exact hQ hi hzi (up _ _ D.TOz hTOe) (h1e.mv λo e=>up _ o D.i1z e) (h2e.mv λo e=>up _ o D.i2z e) hTi hzs λc o c1 c2 c3 c4 e=>up c o c1 (hke c o c1 c2 c3 c4 e)
theorem S5{κ1 κ2:Bool}{z TI TO i1 i2 l1 l2:Ev}{k:Nat}{xs ys:Array FM}{a b:FM}{Q:Fin->Rs->Prop}(hh:A.handled=none)(D:WW z TI TO i1 i2 l1 l2)
  (hz:cF s.heap z TI TO .none) (hTI:ak s.heap TI (.ref i1) (.ref i2)) (hTO:ak s.heap TO a b) (h1:ItAt κ1 s.heap i1 l1 k) (h2:ItAt κ2 s.heap i2 l2 k) (hl1:SqAt κ1 s.heap l1 xs) (hl2:SqAt κ2 s.heap l2 ys) (hend:xs[k]?=none\/ys[k]?=none)
  (hE:∀h' e,(∀c o,c≠z->c≠TO->c≠i1->c≠i2->s.heap.get? c=some o->h'.get? c=some o)->(∃o,h'.get? e=some o/\o.cls=.type "StopIteration")->E (.ref e) { s with heap:=h' }) :
  wpAny (model prog w) A (bp.«zip.__next__» ⟨[.ref z],[]⟩) Q E s:=by
 show wpAny (model prog w) A (field (.ref z) 2 >>= _) _ _ _; refine Db (aP hz rfl (x:=.bool false) rfl ?_)
 show wpAny (model prog w) A (field (.ref z) 3 >>= _) _ _ _; refine Db (aP hz rfl (x:=.ref TI) rfl ?_); refine Db (aY hTI rfl ?_)
 show wpAny (model prog w) A (ar (.ref z) >>= _) _ _ _; refine Db ?_; unfold ar
 refine Db (aP hz rfl (x:=.none) rfl (TM ?_)); simp only [if_true]; refine Db (cy ?_); refine Db (aP hz rfl (x:=.ref TO) rfl ?_)
 refine Db (bV hz (by simp) λha hza hsa=>?_);replace hza:cF ha z TI TO .ellipsis:=hza;refine Db ?_; simp only [List.zipIdx_cons,List.zipIdx_nil,dS,List.forIn_nil]
 refine Db (Db (eJ ?_)); show wpAny (model prog w) _ (aH (.ref i1) >>= _) _ _ _
 cases hx:xs[k]? with
 | none =>
  refine Db (MU hh (h1.eb hsa.extBut D.i1z) (hl1.eb hsa.extBut D.l1z) hx λhb e hsb he=>?_);obtain⟨oe,hoe,hce⟩:=he;have hzb:cF hb z TI TO .ellipsis:=hsb _ _ D.i1z.symm hza;have hez:e≠z:=λx=>by subst x; rw [hzb] at hoe; cases hoe; simp at hce
  exact bV hzb (by simp) λhc _ hsc=>hE hc e (λc o c1 _ c3 _ x=>hsc.extBut _ _ c1 (hsb _ _ c3 (hsa.extBut _ _ c1 x))) ⟨oe,hsc.extBut _ _ hez hoe,hce⟩
 | some x =>
  have hy:ys[k]?=none:=by
   rcases hend with h | h
   ·rw [hx] at h; cases h
   ·exact h
  refine Db (Gn (h1.eb hsa.extBut D.i1z) (hl1.eb hsa.extBut D.l1z) hx λhb h1b hsb=>TM ?_);have hTOb:ak hb TO a b:=hsb.extBut _ _ D.TOi1 (hsa.extBut _ _ D.TOz hTO);refine Db (aY hTOb rfl ?_); refine Db (dW hTOb λhc hTOc hsc=>?_)
  refine Db (bo (TM ?_)); refine Db (Db (eJ ?_)); show wpAny (model prog w) _ (aH (.ref i2) >>= _) _ _ _
  refine Db (MU hh (((h2.eb hsa.extBut D.i2z).eb hsb.extBut D.i12.symm).eb hsc.extBut D.TOi2.symm) (((hl2.eb hsa.extBut D.l2z).eb hsb.extBut D.l2i1).eb hsc.extBut D.l2TO) hy λhd e hsd he=>?_);obtain⟨oe,hoe,hce⟩:=he;have hzd:cF hd z TI TO .ellipsis:=hsd _ _ D.i2z.symm (hsc.extBut _ _ D.TOz.symm (hsb.extBut _ _ D.i1z.symm hza));have hez:e≠z:=λx=>by subst x; rw [hzd] at hoe; cases hoe; simp at hce
  exact bV hzd (by simp) λhf _ hsf=>hE hf e (λc o c1 c2 c3 c4 x=>hsf.extBut _ _ c1 (hsd _ _ c4 (hsc.extBut _ _ c2 (hsb.extBut _ _ c3 (hsa.extBut _ _ c1 x))))) ⟨oe,hsf.extBut _ _ hez hoe,hce⟩
end
noncomputable def Vv(κ:Bool):String:=match κ with
 | true => "list_iterator"
 | false => "tuple_iterator"
noncomputable def Rl(κ:Bool)(l:Ev):Obj:={ cls:=.type (Vv κ),data:=.fields #[.ref l,.int 0 0] }
noncomputable abbrev zA(κ1:Bool)(h:Zk)(l1:Ev):Zk:=h.push (Rl κ1 l1)
noncomputable abbrev zB(κ1 κ2:Bool)(h:Zk)(l1 l2:Ev):Zk:=(zA κ1 h l1).push (Rl κ2 l2)
noncomputable abbrev zC(κ1 κ2:Bool)(h:Zk)(l1 l2:Ev):Zk:=(zB κ1 κ2 h l1 l2).push { cls:=.type "tuple",data:=.seq #[.ref h.objs.size,.ref (zA κ1 h l1).objs.size] }
noncomputable abbrev zD(κ1 κ2:Bool)(h:Zk)(l1 l2:Ev):Zk:=(zC κ1 κ2 h l1 l2).push { cls:=.type "tuple",data:=.seq #[.none,.none] }
noncomputable abbrev zE(κ1 κ2:Bool)(h:Zk)(l1 l2:Ev):Zk:=(zD κ1 κ2 h l1 l2).push { cls:=.type "zip",data:=.fields #[.none,.bool false,.bool false,.ref (zB κ1 κ2 h l1 l2).objs.size,.ref (zC κ1 κ2 h l1 l2).objs.size] }
theorem Th(κ1 κ2:Bool)(l1 l2:Ev)(xs ys:Array FM):Meets (bp.«zip.__new__» ⟨[.type "zip",.ref l1,.ref l2],[]⟩)
  (λ_ R s=>SqAt κ1 s.heap l1 xs/\SqAt κ2 s.heap l2 ys/\R (.ok (.ret (.ref (zD κ1 κ2 s.heap l1 l2).objs.size))) { s with heap:=zE κ1 κ2 s.heap l1 l2 }) :=
 .of_wp λprog w A R s h=>by
  obtain⟨hp,g,d,tk,os⟩:=s; obtain⟨hl1,hl2,h⟩:=h
  have hsub:=sub_zip;have hL2:SqAt κ2 (zA κ1 hp l1) l2 ys:=hl2.mv λo e=>Op _ e;cases κ1 with
  | true =>
   have g1:Heap.IsList (dD ⟨hp,g,d,tk,os⟩) l1 xs:=hl1;cases κ2 with
   | true =>
    have g2:Heap.IsList (dD ⟨hp.push { cls:=.type "list_iterator",data:=.fields #[.ref l1,.int 0 0] },g,d,tk,os⟩) l2 ys:=hL2
    wp_walk using aw g1,aw g2
    exact⟨_,rfl,h⟩
   | false =>
    have g2:fm (dD ⟨hp.push { cls:=.type "list_iterator",data:=.fields #[.ref l1,.int 0 0] },g,d,tk,os⟩) l2 ys:=hL2
    wp_walk using aw g1,ah g2
    exact⟨_,rfl,h⟩
  | false =>
   have g1:fm (dD ⟨hp,g,d,tk,os⟩) l1 xs:=hl1;cases κ2 with
   | true =>
    have g2:Heap.IsList (dD ⟨hp.push { cls:=.type "tuple_iterator",data:=.fields #[.ref l1,.int 0 0] },g,d,tk,os⟩) l2 ys:=hL2
    wp_walk using ah g1,aw g2
    exact⟨_,rfl,h⟩
   | false =>
    have g2:fm (dD ⟨hp.push { cls:=.type "tuple_iterator",data:=.fields #[.ref l1,.int 0 0] },g,d,tk,os⟩) l2 ys:=hL2
    wp_walk using ah g1,ah g2
    exact⟨_,rfl,h⟩
theorem MM(κ:Bool)(h:Zk)(l:Ev):ItAt κ (h.push (Rl κ l)) h.objs.size l 0:=by
 cases κ with
 | true=>exact⟨_,Uf _ rfl,rfl,rfl⟩
 | false=>exact⟨_,Uf _ rfl,rfl,rfl⟩
section
variable {prog:Program}{w:World}{A:Around}{E:Value->Shared->Prop}{s:Shared}
theorem LR{κ1 κ2:Bool}{l1 l2:Ev}{xs ys:Array FM}{Q:FM->Rs->Prop}(hl1:SqAt κ1 s.heap l1 xs)(hl2:SqAt κ2 s.heap l2 ys)
  (h:∀h',cF h' (s.heap.objs.size+4) (s.heap.objs.size+2) (s.heap.objs.size+3) .none->ak h' (s.heap.objs.size+2) (.ref s.heap.objs.size) (.ref (s.heap.objs.size+1))->ak h' (s.heap.objs.size+3) .none .none ->
   ItAt κ1 h' s.heap.objs.size l1 0->ItAt κ2 h' (s.heap.objs.size+1) l2 0->(∀c o,s.heap.get? c=some o->h'.get? c=some o)->Q (.ref (s.heap.objs.size+4)) { s with heap:=h' }) :
  wpAny (model prog w) A (call (.type "zip") [.ref l1,.ref l2]) Q E s:=by
 refine callType_new F.called_zip (by decide) (F.typeCall_zip_2 _ _) (F.newCall_zip_2 _ _) (λobj=>F.args_object_init_3 obj _ _) F.entry_zip_new (Th κ1 κ2 l1 l2 xs ys) ⟨hl1,hl2,?_⟩;have z1:(zA κ1 s.heap l1).objs.size=s.heap.objs.size+1:=aX ..;have z2:(zB κ1 κ2 s.heap l1 l2).objs.size=s.heap.objs.size+2:=by rw [aX,z1]
 have z3:(zC κ1 κ2 s.heap l1 l2).objs.size=s.heap.objs.size+3:=by rw [aX,z2]
 have z4:(zD κ1 κ2 s.heap l1 l2).objs.size=s.heap.objs.size+4:=by rw [aX,z3]
 have g5:(zE κ1 κ2 s.heap l1 l2).get? (zD κ1 κ2 s.heap l1 l2).objs.size=some _:=Uf _ rfl;have g4:(zE κ1 κ2 s.heap l1 l2).get? (zC κ1 κ2 s.heap l1 l2).objs.size=some _:=Op _ (Uf _ rfl);have g3:(zE κ1 κ2 s.heap l1 l2).get? (zB κ1 κ2 s.heap l1 l2).objs.size=some _:=Op _ (Op _ (Uf _ rfl));have i2:ItAt κ2 (zE κ1 κ2 s.heap l1 l2) (zA κ1 s.heap l1).objs.size l2 0:=(MM κ2 (zA κ1 s.heap l1) l2).mv λo e=>Op _ (Op _ (Op _ e));have i1:ItAt κ1 (zE κ1 κ2 s.heap l1 l2) s.heap.objs.size l1 0:=(MM κ1 s.heap l1).mv λo e=>Op _ (Op _ (Op _ (Op _ e)));rw [z4] at g5;rw [z3] at g4;rw [z2] at g3;rw [z1] at i2;have fin:=h (zE κ1 κ2 s.heap l1 l2) (by rw [cF,g5,z2,z3]) (by rw [ak,g3,z1]) g4 i1 i2 (λc o e=>Op _ (Op _ (Op _ (Op _ (Op _ e)))));refine⟨⟨_,by rw [z4]; exact g5,rfl⟩,?_⟩;rw [z4];exact fin
theorem JX{κ1 κ2:Bool}{z TI TO i1 i2 l1 l2:Ev}{k:Nat}{xs ys:Array FM}{x y a b:FM}{Q:Option FM->Rs->Prop}(D:WW z TI TO i1 i2 l1 l2)
  (hz:cF s.heap z TI TO .none) (hTI:ak s.heap TI (.ref i1) (.ref i2)) (hTO:ak s.heap TO a b) (h1:ItAt κ1 s.heap i1 l1 k) (h2:ItAt κ2 s.heap i2 l2 k) (hl1:SqAt κ1 s.heap l1 xs) (hl2:SqAt κ2 s.heap l2 ys) (hx:xs[k]?=some x) (hy:ys[k]?=some y)
  (hQ:∀h',cF h' z TI TO (rawInt s.heap.objs.size)->ak h' TO x y->ItAt κ1 h' i1 l1 (k+1)->ItAt κ2 h' i2 l2 (k+1)->ak h' s.heap.objs.size x y->h'.objs.size=s.heap.objs.size+1->(∀c o,c≠z->c≠TO->c≠i1->c≠i2->s.heap.get? c=some o->h'.get? c=some o)->Q (some (.ref s.heap.objs.size)) { s with heap:=h' }) :
  wpAny (model prog w) A (pyNext (.ref z)) Q E s:=by
 have hT:s.TypeIs (.ref z) "zip":=⟨_,hz,rfl⟩;unfold pyNext
 exact Db (dG (aF (name:=aV "__next__") hT dX (ai dX hT F.entry_zip_next
  (QZ D hz hTI hTO h1 h2 hl1 hl2 hx hy λh' a1 a2 a3 a4 a5 a6 a7=>TM (hQ h' a1 a2 a3 a4 a5 a6 a7)) (F.args_zip_next_1 _))))
theorem K5{κ1 κ2:Bool}{z TI TO i1 i2 l1 l2:Ev}{k:Nat}{xs ys:Array FM}{a b:FM}{Q:Option FM->Rs->Prop}(hh:A.handled=none)(D:WW z TI TO i1 i2 l1 l2)
  (hz:cF s.heap z TI TO .none) (hTI:ak s.heap TI (.ref i1) (.ref i2)) (hTO:ak s.heap TO a b) (h1:ItAt κ1 s.heap i1 l1 k) (h2:ItAt κ2 s.heap i2 l2 k) (hl1:SqAt κ1 s.heap l1 xs) (hl2:SqAt κ2 s.heap l2 ys) (hend:xs[k]?=none\/ys[k]?=none)
  (hQ:∀h',(∀c o,c≠z->c≠TO->c≠i1->c≠i2->s.heap.get? c=some o->h'.get? c=some o)->Q none { s with heap:=h' }):wpAny (model prog w) A (pyNext (.ref z)) Q E s:=by
 have hT:s.TypeIs (.ref z) "zip":=⟨_,hz,rfl⟩;unfold pyNext;refine Db (dG (aF (name:=aV "__next__") hT dX (ai dX hT F.entry_zip_next (S5 hh D hz hTI hTO h1 h2 hl1 hl2 hend λh' e hk he=>?_) (F.args_zip_next_1 _))));obtain⟨o,ho,hc⟩:=he;exact Db (e7 (T := "StopIteration") (b:=true) ⟨o,ho,hc⟩ isSubtype_stop (TM (hQ _ hk)))
end
section
variable {X:Cx}{pins:List (Addr×Obj)}{σ:L2.St}{H:Hp}{s:Shared}{h':Heap}
theorem Inv.turnedL{t':Nat}{ch:List Ev}(I:Inv X pins σ H s)(hf:∀b∈ch,GN X pins H b)(k:∀b o,b∉ch->s.heap.get? b=some o->h'.get? b=some o):Inv X pins σ H { s with heap:=h',toks:=t' }:=by
 have nit:∀b u,H b=some u->b∉ch:=λb u e z=>by rw [(hf b z).1] at e; cases e
 refine I.step (g':=s.gens) (d':=s.drawn) (ch:=ch) (λb hb=>?_) (λb o _ _ hc e _=>k b o hc e) (λb o _ _ hc e _=>⟨o.slots,k b o hc e⟩) (λ_ _ _ _ n=>n) (λb o hc e=>⟨o,k b o hc e⟩) (λ_ _ e=>e) (λ_ _ _ e=>e) (λb ps e=>⟨#[],by rw [e]; simp⟩) (λm hm=>?_) (λb u e=>?_) I.bare
 ·obtain⟨f0,f1,f2,f3,f4,f5⟩:=hf b hb
  exact⟨f3,f1,f4,f5⟩
 ·obtain⟨o,es,ep,ho,r⟩:=hm
  exact⟨o,es,ep,k _ o (λz=>(hf _ z).2.1 rfl) ho,r⟩
 ·exact(I.hok b u e).stay (λc v hc q=>k c v (hc.elim (λz=>by rw [z]; exact nit b u e) λz=>nit c _ z) q) (λ_ q=>q) λ_ _ q=>q
theorem Inv.turnLaid{t':Nat}{ch:List Ev}{a:Ev}{o:HO}(I:Inv X pins σ H s)(hf:∀b∈ch,GN X pins H b)(k:∀b o,b∉ch->s.heap.get? b=some o->h'.get? b=some o)(ha:s.heap.objs.size<=a)(new:ObjOk X.prog X.w (Aw H a o) h' a o) :
  Inv X pins σ (Aw H a o) { s with heap:=h',toks:=t' }:=by
 have nit:∀b u,H b=some u->b∉ch:=λb u e z=>by rw [(hf b z).1] at e; cases e
 have hn:H a=none:=I.hok.fresh ha;have up:∀b u,H b=some u->Aw H a o b=some u:=λb u e=>by rw [AK (Ag e hn)]; exact e
 refine I.step (g':=s.gens) (d':=s.drawn) (ch:=ch) (λb hb=>?_) (λb o _ _ hc e _=>k b o hc e) (λb o _ _ hc e _=>⟨o.slots,k b o hc e⟩) (λb u _ e n=>?_) (λb o hc e=>⟨o,k b o hc e⟩) (λb xs e=>up _ _ e) (λb o u e=>up _ _ e) (λb ps e=>⟨#[],by rw [up _ _ e]; simp⟩) (λm hm=>?_) (λb u e=>?_) I.bare
 ·obtain⟨f0,f1,f2,f3,f4,f5⟩:=hf b hb
  exact⟨f3,f1,f4,f5⟩
 ·rw [AK (Zo (Zv (ZU e) ha))]; exact n
 ·obtain⟨o,es,ep,ho,r⟩:=hm
  exact⟨o,es,ep,k _ o (λz=>(hf _ z).2.1 rfl) ho,r⟩
 ·by_cases hb:b=a
  ·subst hb; rw [AT] at e; cases e; exact new
  ·rw [AK hb] at e
   exact(I.hok b u e).stay (λc v hc q=>k c v (hc.elim (λz=>by rw [z]; exact nit b u e) λz=>nit c _ z) q) (λc q=>up _ _ q) λc xs q=>up _ _ q
end
noncomputable def SqK(κ:Bool)(K:Frag)(H:Hp)(a:Ev)(xs:List V):Prop:=match κ with
 | true=>SqL K H a xs
 | false=>SqT K H a xs
theorem SqK.at{κ:Bool}{X:Cx}{pins:List (Ev×Obj)}{σ:L2.St}{H:Hp}{s:Rs}{a:Ev}{xs:List V}(I:Inv X pins σ H s)(h:SqK κ X.K H a xs):∃its:List FM,Vals xs its/\SqAt κ s.heap a its.toArray:=by
 cases κ with
 | true=>obtain⟨its,r,pl,_⟩:=I.list h; exact⟨its,r,pl.isList⟩
 | false=>obtain⟨its,r,p,_⟩:=I.tuple h; exact⟨its,r,p⟩
noncomputable def WY (K : Frag) (κ1 κ2 : Bool) (a b : Ev) (xs ys : List V) : It :=
  ⟨λi H => SqK κ1 K H a xs ∧ SqK κ2 K H b ys ∧ i < xs.length ∧ i < ys.length, λi H x H' => ∃ T p q, x = .ref T ∧ H T = none ∧ H' = Aw H T (.tup [p, q]) ∧ xs[i]? = some p ∧ ys[i]? = some q,
   λi H => SqK κ1 K H a xs ∧ SqK κ2 K H b ys ∧ (xs.length ≤ i ∨ ys.length ≤ i)⟩
structure Xq (κ1 κ2:Bool) (z TI TO i1 i2 a b:Ev) (k:Nat) (h:Zk):Prop where
 z:cF h z TI TO .none
 ti:ak h TI (.ref i1) (.ref i2)
 to:∃a b,ak h TO a b
 i1:ItAt κ1 h i1 a k
 i2:ItAt κ2 h i2 b k
theorem Qo{P:Zs}{w:Zz}{K:Frag}{es:List Zq}{j:Nat}{pos:Pos}(κ1 κ2:Bool)(z TI TO i1 i2 a b:Ev)(xs ys:List V)(D:WW z TI TO i1 i2 a b)(hTI:TI∉[z,TO,i1,i2]) :
  Turn P w K (.Tuple es j pos) (WY K κ1 κ2 a b xs ys) [z,TI,TO,i1,i2] z (Xq κ1 κ2 z TI TO i1 i2 a b) where
 mem:=by simp
 obj:=λi h st c hc=>by
  simp only [XV,Zf,or_false] at hc
  rcases hc with rfl | rfl | rfl | rfl | rfl
  ·exact⟨_,st.z,λv q=>by cases q⟩
  ·exact⟨_,st.ti,λv q=>by cases q⟩
  ·obtain⟨a,b,e⟩:=st.to
   exact⟨_,e,λv q=>by cases q⟩
  ·exact st.i1.lies
  ·exact st.i2.lies
 keep:=λi h h' st k=>by
  obtain⟨p,q,e⟩:=st.to;exact⟨k z (by simp) _ st.z,k TI (by simp) _ st.ti,⟨p,q,k TO (by simp) _ e⟩,st.i1.mv λo e=>k i1 (by simp) o e,st.i2.mv λo e=>k i2 (by simp) o e⟩
 item:=by
  intro X hP hw hK hc i pins s σ H E I hf st hg;subst hP hw hK;obtain⟨ha,hb,hi,hj⟩:=hg;obtain⟨us,r1,q1⟩:=ha.at I;obtain⟨ws,r2,q2⟩:=hb.at I;obtain⟨u,hu,ru⟩:=r1.get (No hi);obtain⟨v,hv,rv⟩:=r2.get (No hj);obtain⟨p,q,e⟩:=st.to;refine JX D st.z st.ti e st.i1 st.i2 q1 q2 (x:=u) (y:=v) (by simpa using hu) (by simpa using hv) λh' a1 a2 a3 a4 a5 a6 a7=>⟨_,rfl,?_⟩;refine wpAny_letOwnedTupleGo_zip a1 λh2 b1 b2=>?_;have hT:H s.heap.objs.size=none:=I.hok.fresh (Tk _)
  have kk:∀c o,c∉[z,TO,i1,i2]->s.heap.get? c=some o->h2.get? c=some o:=λc o hc e=>by
   simp only [XV,Zf,or_false,not_or] at hc;exact b2.extBut _ _ hc.1 (a7 c o hc.1 hc.2.1 hc.2.2.1 hc.2.2.2 e)
  have I2:Inv X pins σ (Aw H s.heap.objs.size (.tup [xs[i],ys[i]])) { s with heap:=h2 }:=by
   refine I.turnLaid (t':=s.toks) (ch:=[z,TO,i1,i2]) (λc hc=>hf c ?_) kk (Tk _) ?_
   ·simp only [XV,Zf,or_false] at hc ⊢
    rcases hc with rfl | rfl | rfl | rfl <;> simp
   ·have nT:s.heap.objs.size≠z:=dQ (ZU st.z)
    exact⟨by show 2<=sizeLine; decide,[u,v],.cons ru (.cons rv .nil),⟨_,b2.extBut _ _ nT a5,rfl,_,rfl,rfl,rfl⟩⟩
  have ti2:ak h2 TI (.ref i1) (.ref i2):=kk _ _ hTI st.ti;refine⟨.ref s.heap.objs.size,_,I2,rfl,⟨_,_,_,rfl,hT,rfl,No hi,No hj⟩,⟨b1,ti2,⟨_,_,b2.extBut _ _ D.TOz a2⟩,a3.eb b2.extBut D.i1z,a4.eb b2.extBut D.i2z⟩,λc hc=>?_⟩;have hcn:H c=none:=(hf c hc).1
  have hlt:c≠s.heap.objs.size:=λz=>by
   obtain⟨o,ho,_⟩:∃o,s.heap.get? c=some o/\True:=by
    simp only [XV,Zf,or_false] at hc
    rcases hc with rfl | rfl | rfl | rfl | rfl
    ·exact⟨_,st.z,trivial⟩
    ·exact⟨_,st.ti,trivial⟩
    ·exact⟨_,e,trivial⟩
    ·obtain⟨o,q,_⟩:=st.i1.lies; exact⟨o,q,trivial⟩
    ·obtain⟨o,q,_⟩:=st.i2.lies; exact⟨o,q,trivial⟩
   rw [z] at ho;exact aM _ (ZU ho)
  rw [AK hlt]; exact hcn
 done:=by
  intro X hP hw hK hc i pins s σ H E I hf st hg;subst hP hw hK;obtain⟨ha,hb,hi⟩:=hg;obtain⟨us,r1,q1⟩:=ha.at I;obtain⟨ws,r2,q2⟩:=hb.at I;obtain⟨p,q,e⟩:=st.to;have l1:=r1.length;have l2:=r2.length;refine K5 (I.ok.hd hc) D st.z st.ti e st.i1 st.i2 q1 q2 (hi.imp (λhi=>by simp; omega) λhi=>by simp; omega) λh' kk=>⟨rfl,?_⟩;refine I.turnedL (t':=s.toks) (ch:=[z,TO,i1,i2]) (λc hc=>hf c ?_) λc o hc e=>?_
  ·simp only [XV,Zf,or_false] at hc ⊢
   rcases hc with rfl | rfl | rfl | rfl <;> simp
  ·simp only [XV,Zf,or_false,not_or] at hc
   exact kk c o hc.1 hc.2.1 hc.2.2.1 hc.2.2.2 e
 self:=λA i s Q E st h=>wpAny_pyIter_zip st.z h
section
variable {X:Cx}
theorem U7(n a b:Nat)(h1:a<n)(h2:b<n):WW (n+4) (n+2) (n+3) n (n+1) a b:=by
 constructor <;> (show (_:Nat)≠(_:Nat); omega)
theorem U6(n:Nat):(n+2)∉[n+4,n+3,n,n+1]:=by
 simp only [XV,Zf,or_false,not_or];omega
theorem U8(n c:Nat)(h:c∈[n+4,n+2,n+3,n,n+1]):n<=c:=by
 simp only [XV,Zf,or_false] at h;omega
noncomputable def YZ(K:Frag)(ta:TA):TI:=λσ H R=>ta σ H λvs H1=>∃κ1 κ2 a b xs ys,vs=[.ref a,.ref b]/\SqK κ1 K H1 a xs/\SqK κ2 K H1 b ys/\R (WY K κ1 κ2 a b xs ys) H1
theorem Vb{e1 e2:Zq}{es:List Zq}{j:Nat}{tpos:Pos}{ta:TA}{p pos:Pos}(hg:Gl X "zip")(hm:X.mg "zip"=none)(ha:PA X [e1,e2] ta)(hs:autoParam (starEach [e1,e2] X.env=[(false,eval e1 X.env),(false,eval e2 X.env)]) zau3._auto_1)(hs2:autoParam (starEach [e2] X.env=[(false,eval e2 X.env)]) zau3._auto_1) :
  PI X (.Tuple es j tpos) (.Call (.Name "zip" p) [e1,e2] [] pos) (YZ X.K ta):=by
 intro pins s σ H R I h;refine Call_ (Dr I hg hm boot_zip (aR (BV (ha pos pins s σ H _ I h) λus s1 ⟨vs,H1,I1,r1,q1⟩=>?_) (by rw [hs,hs2]) (by rw [hs2]; rfl)));obtain⟨κ1,κ2,a,b,xs,ys,e,h1,h2,q⟩:=q1;subst e;obtain⟨u,v,rfl,ru,rv⟩:=vals2 r1;cases ru;cases rv;obtain⟨us,r1',q1⟩:=h1.at I1;obtain⟨ws,r2',q2⟩:=h2.at I1;have la:a<s1.heap.objs.size:=by obtain⟨o,e⟩:=q1.lies; exact ZU e
 have lb:b<s1.heap.objs.size:=by obtain⟨o,e⟩:=q2.lies; exact ZU e
 refine LR q1 q2 λh' hz hTI hTO hi1 hi2 hk=>?_;refine wpAny_pyIter_zip hz ?_;have D:=U7 s1.heap.objs.size a b la lb;refine⟨s1.heap.objs.size+4,[s1.heap.objs.size+4,s1.heap.objs.size+2,s1.heap.objs.size+3,s1.heap.objs.size,s1.heap.objs.size+1],_,WY X.K κ1 κ2 a b xs ys,H1,rfl,I1.kept (t':=s1.toks) hk,Qo κ1 κ2 _ _ _ _ _ a b xs ys D (U6 s1.heap.objs.size),⟨hz,hTI,⟨_,_,hTO⟩,hi1,hi2⟩,λc hc=>?_,q⟩;have hge:s1.heap.objs.size<=c:=U8 s1.heap.objs.size c hc;exact I1.fpOk hge (I1.hok.fresh hge)
end
end L2
namespace Dp
open PySem PySem.Spec PyProof.Rows L2
noncomputable def GO(ds es:List D):List D:=aW (λd e=>.tup [d,e]) ds es
section
variable {K:Frag}
theorem Qw{U V' M:Ev->Prop}{H:Hp}{d:D}{v:V}{ds:List D}(h:AtT K V' M H d v)(e:G9 d=some ds)(uV:∀a,U a->V' a)(vM:∀a,V' a->M a):∃κ a vs,v=.ref a/\Ats K M H ds vs/\∀M' H',Pres M H M' H'->Ext U H H'->SqK κ K H' a vs:=by
 cases d with
 | lst xs =>
  cases e;obtain⟨a,vs,e1,n1,hq,hs⟩:=h;refine⟨true,a,vs,e1,hs,λM' H' _ ex=>?_⟩
  rcases hq with hq | ⟨o,hq⟩
  ·exact .inl (.inl (ex.keep hq λz=>n1 (uV a z)))
  ·exact .inl (.inr ⟨o,ex.keep hq λz=>n1 (uV a z)⟩)
 | tup xs =>
  cases e;obtain⟨a,vs,e1,hq,hs⟩:=h;exact⟨false,a,vs,e1,hs,λM' H' pr _=>(hq.pres pr).sq⟩
 | _=>cases e
theorem Qx{M:Ev->Prop}{H:Hp}{d:D}{v:V}{ds:List D}(h:At K M H d v)(e:G9 d=some ds):∃κ a vs,v=.ref a/\Ats K M H ds vs/\∀M' H',Pres M H M' H'->SqK κ K H' a vs:=by
 cases d with
 | lst xs =>
  cases e;obtain⟨a,vs,e1,hq,hs⟩:=h;exact⟨true,a,vs,e1,hs,λM' H' pr=>(hq.pres pr).sq⟩
 | tup xs =>
  cases e;obtain⟨a,vs,e1,hq,hs⟩:=h;exact⟨false,a,vs,e1,hs,λM' H' pr=>(hq.pres pr).sq⟩
 | _=>cases e
theorem Mp{M:Ev->Prop}{H:Hp}{κ1 κ2:Bool}{a b:Ev}{vs us:List V}{ds es:List D}(hs:Ats K M H ds vs)(ht:Ats K M H es us){i:Nat}{M':Ev->Prop}{H':Hp}(pr:Pres M H M' H')(h1:SqK κ1 K H' a vs)(h2:SqK κ2 K H' b us)(dom:∀a,M' a->∃o,H' a=some o) :
  (∀d,(GO ds es)[i]?=some d->(WY K κ1 κ2 a b vs us).go i H'/\∀x H2,(WY K κ1 κ2 a b vs us).yld i H' x H2->Grow H' H2/\At K M' H2 d x)/\((GO ds es).length<=i->(WY K κ1 κ2 a b vs us).stop i H'):=by
 have l1:=hs.length;have l2:=ht.length;refine⟨λd hd=>?_,λhl=>⟨h1,h2,?_⟩⟩
 ·unfold GO at hd
  rw [fM] at hd;cases q1:ds[i]? with
  | none=>rw [q1] at hd; simp at hd
  | some d1 =>
   cases q2:es[i]? with
   | none=>rw [q1,q2] at hd; simp at hd
   | some d2 =>
    rw [q1,q2] at hd;have hd':D.tup [d1,d2]=d:=ZS hd;have i1:i<ds.length:=(ZB.mp q1).1;have i2:i<es.length:=(ZB.mp q2).1;refine⟨⟨h1,h2,by omega,by omega⟩,λx H2 y=>?_⟩;obtain⟨T,p,q,rfl,hT,rfl,e1,e2⟩:=y;obtain⟨v1,f1,a1⟩:=(hs.pres pr).get q1;obtain⟨v2,f2,a2⟩:=(ht.pres pr).get q2;rw [e1] at f1;rw [e2] at f2;cases f1;cases f2;subst hd';exact⟨Ax hT,DL dom hT ⟨p,[q],rfl,a1,q,[],rfl,a2,rfl⟩⟩
 ·unfold GO at hl
  rw [cU] at hl;omega
end
section
variable {X:Cx}{e1 e2:Expr}{es:List Expr}{j:Nat}{tpos p pos:Pos}{ws:Er}
noncomputable def Wa(ws:Er):Er:=λn ρ P=>ws n ρ λds n1=>∃d e xs ys,ds=[d,e]/\G9 d=some xs/\G9 e=some ys/\P (GO xs ys) n1
theorem V8(hg:Gl X "zip")(hm:X.mg "zip"=none)(ha:WU X [e1,e2] ws)(hs:autoParam (starEach [e1,e2] X.env=[(false,eval e1 X.env),(false,eval e2 X.env)]) zau3._auto_1)(hs2:autoParam (starEach [e2] X.env=[(false,eval e2 X.env)]) zau3._auto_1) :
  DI X (.Tuple es j tpos) (.Call (.Name "zip" p) [e1,e2] [] pos) (Wa ws):=by
 obtain⟨t,a1,a2⟩:=ha;refine⟨_,Vb hg hm a1 hs hs2,λC M H n ρ σ P Rr R w q=>?_⟩;refine a2 C M H n ρ σ _ _ R w λvs H1 ds n1 ee f1 r1 p=>?_;obtain⟨d,e,xs,ys,rfl,hd,he,p⟩:=p;obtain⟨v,r,rfl,r1,v',r',rfl,r2,rr⟩:=r1;cases (show r'=[] from rr);obtain⟨κ1,a,us,rfl,h1,s1⟩:=Qx r1 hd;obtain⟨κ2,b,us',rfl,h2,s2⟩:=Qx r2 he;exact⟨κ1,κ2,a,b,us,us',rfl,s1 M H1 (Pres.refl _ _),s2 M H1 (Pres.refl _ _),q _ H1 _ n1 ee f1 (λi M' H' pr dom=>Mp h1 h2 pr (s1 M' H' pr) (s2 M' H' pr) dom) p⟩
noncomputable def YX:D->Option Key
 | .int i=>some (.inl i)
 | .str x=>some (.inr x)
 | _=>none
noncomputable def Fv:List D->Option (List Key)
 | []=>some []
 | d::ds=>match YX d,Fv ds with
  | some k,some ks=>some (k::ks)
  | _,_=>none
theorem Ft{K:Frag}{M:Ev->Prop}{H:Hp}:∀{ds:List D} {vs:List V} {ks:List Key},Fv ds=some ks->Ats K M H ds vs->vs=ks.map kOf
 | [],vs,ks,e,h=>by cases e; exact h
 | d::ds,vs,ks,e,h=>by
  obtain⟨v,r,e1,h1,h2⟩:=h;unfold Fv at e
  split at e
  ·rename_i k ks' hk hks
   cases e;rw [e1,Ft hks h2,ZX]
   congr 1
   cases d with
   | int i=>cases hk; exact h1
   | str x=>cases hk; exact h1.1
   | _=>cases hk
  ·cases e
noncomputable def Fx(d e:D)(P:D->Prop):Prop:=match d,e with
 | .int i,.int j=>P (.bl (decide (i<j)))
 | .str i,.str j=>P (.bl (decide (i.cps.toList<j.cps.toList)))
 | .tup xs,.tup ys=>∃ks ls,Fv xs=some ks/\Fv ys=some ls/\Bs ks ls=true/\P (.bl (EN ks ls))
 | _,_=>False
noncomputable def W5(K:Frag):R2:=λx y H Q=>VW x y H Q\/W4 K x y H Q
theorem EL{k:Nat}(hr:Room k X.A):OpR X (compareOp .Lt) (W5 X.K):=op_ltU.or (Vi hr.units0)
theorem G7:FK X.K .sh (W5 X.K) Fx:=λU M H d e x y P Q dom vM hx hy w q=>by
 unfold Fx at w
 split at w
 ·exact .inl (Uy (X:=X) U M H (.int _) (.int _) x y P Q dom vM hx hy w q)
 ·exact .inl (Uy (X:=X) U M H (.str _) (.str _) x y P Q dom vM hx hy w q)
 ·obtain⟨ks,ls,h1,h2,h3,w⟩:=w
  obtain⟨a,vs,rfl,ha,hs⟩:=hx.tup;obtain⟨b,us,rfl,hb,ht⟩:=hy.tup;have e1:=Ft h1 hs;have e2:=Ft h2 ht;subst e1 e2;exact .inr ⟨a,b,ks,ls,rfl,rfl,ha.sq,hb.sq,h3,q _ H (.bl _) .refl rfl w⟩
 ·exact w.elim
end
end Dp
namespace L2
open PySem PySem.Spec PyProof.Rows
section
variable {prog:Program}{w:World}{A:Around}{E:Value->Shared->Prop}{s:Shared}
theorem Lk{t sl:Ev}{items:Array FM}{vl vu:FM}{lo hi:Option Int}{Q:FM->Rs->Prop}(ht:IsTup s.heap t items)(hs:s.heap.IsSliceOf sl vl vu .none)(pl:dR vl lo)(pu:dR vu hi)
  (hw:HT.sIx items.size 0 lo=0/\HT.sIx items.size items.size hi=items.size) (h:Q (.ref t) s):wpAny (model prog w) A (getItem (.ref t) (.ref sl)) Q E s:=by
 obtain⟨os,hos,hcs,hds⟩:=id hs;have hTs:s.TypeIs (.ref sl) "slice":=⟨os,hos,hcs⟩;unfold getItem
 (try with_reducible refine aN ?_); (first | refine Db (TM ?_) | skip)
 refine Db (wpAny_sequenceKey ht.typeIs (by decide) (Db (aF (name:=aV "__getitem__") ht.typeIs aG (ai aG ht.typeIs entry_tuple_getitem ?_ (args_tuple_getitem _ _)))));show wpAny (model prog w) _ (eI (.ref t) >>= _) _ _ s;refine Db (tupleItemsOf_ ht (Db (cZ hTs ?_))); rw [if_pos (by decide)]
 refine Db (HT.sliceApplied_gen hs pl pu ?_);have hyes:(((HT.sIx items.size 0 lo:Nat):Int)==0&&(1:Int)==1&&(HT.sIx items.size items.size hi - HT.sIx items.size 0 lo)==items.size)=true:=by rw [hw.1,hw.2]; simp
 show wpAny (model prog w) _ (if (((HT.sIx items.size 0 lo:Nat):Int)==0&&(1:Int)==1&&(HT.sIx items.size items.size hi - HT.sIx items.size 0 lo)==items.size)=true then _ else _) _ _ s;rw [if_pos hyes];refine Db (m:=eK _) ?_;unfold eK;refine Db (cZ ht.typeIs (TM ?_));show wpAny (model prog w) _ (if ((eR "tuple"==eR "tuple")=true) then _ else _) _ _ s;rw [if_pos (by decide)]
 first
  | exact Db (cy (Db (TM (TM ⟨_,rfl,TM h⟩))))
  | exact Db (cy (TM ⟨_,rfl,TM h⟩))
  | exact Db (Db (cy (TM (TM ⟨_,rfl,TM h⟩))))
end
section
variable {X:Cx}{e st:Expr}{te tst:TE}{pos p2:Pos}
noncomputable def UX(K:Frag):V->Option Int->Option Int->Hp->VK->Prop:=λx lo hi H Q=>∃a xs,x=.ref a/\SqT K H a xs/\(HT.sIx xs.length 0 lo=0/\HT.sIx xs.length xs.length hi=xs.length)/\Q (.ref a) H
theorem TF:SlR X (UX X.K):=by
 intro pins s σ H x v vl vu lo hi sl Q I rx hs pl pu h;obtain⟨a,xs,rfl,hx,hw,q⟩:=h;cases rx;obtain⟨its,r,ht,hz⟩:=I.tuple hx;have hlen:its.toArray.size=xs.length:=by rw [UF]; exact r.length.symm
 exact⟨"tuple",_,aG.lookup,ht.typeIs,Lk ht hs pl pu (by rw [hlen]; exact hw) ⟨.ref a,H,I,rfl,q⟩⟩
end
section
variable {X:Cx}
noncomputable def Q9(K:Frag):R2:=λx y H Q=>∃a b ys,x=.ref a/\y=.ref b/\SqT K H a []/\SqT K H b ys/\Q (.ref b) H
theorem RT:OpR X (binaryOp .Add) (Q9 X.K):=by
 intro pins s σ H x y v u Q I rx ry h;obtain⟨a,b,ys,rfl,rfl,ha,hb,q⟩:=h;cases rx;cases ry;obtain⟨its,r1,p1,_⟩:=I.tuple ha;obtain⟨its2,r2,p2,_⟩:=I.tuple hb;cases r1;obtain⟨⟨cls,dd,data,sl⟩,ho,hc,n,hd⟩:=id p1;obtain⟨⟨cls2,dd2,data2,sl2⟩,ho2,hc2,n2,hd2⟩:=id p2;simp only at hc hd hc2 hd2;subst hc hd hc2 hd2;exact concat_meets ⟨_,ho,rfl⟩ ⟨_,ho2,rfl⟩ eZ seq_tuple_add PySem.F.slot_tuple_add PySem.F.entry_tuple_add (PySem.F.args_tuple_add_2 _ _) (tuple_addW0 a b _ its2.toArray n n2 dd dd2 sl sl2 (by simp)) ⟨ho,ho2,⟨.ref b,H,I,rfl,q⟩⟩
noncomputable def bI(b:Bool):Int:=if b=true then 1 else 0
noncomputable def X6(g:Int->Int->Int):R2:=λx y H Q=>∃k j,x=.bl k/\y=.int j/\Q (.int (g (bI k) j)) H
noncomputable def Y5(g:Int->Int->Int):R2:=λx y H Q=>∃i k,x=.int i/\y=.bl k/\Q (.int (g i (bI k))) H
theorem op_add_bi:OpR X (binaryOp .Add) (X6 λi j=>i+j):=by
 intro pins s σ H x y v u Q I rx ry h;obtain⟨k,j,rfl,rfl,q⟩:=h;cases rx;obtain⟨t,rfl⟩:=ry;exact PySem.IntBool.add_bool_int ⟨.int _,H,I.tok _,⟨_,rfl⟩,q⟩
theorem op_sub_bi:OpR X (binaryOp .Sub) (X6 λi j=>i - j):=by
 intro pins s σ H x y v u Q I rx ry h;obtain⟨k,j,rfl,rfl,q⟩:=h;cases rx;obtain⟨t,rfl⟩:=ry;exact PySem.IntBool.sub_bool_int ⟨.int _,H,I.tok _,⟨_,rfl⟩,q⟩
theorem Pa:OpR X (binaryOp .Sub) (Y5 λi j=>i - j):=by
 intro pins s σ H x y v u Q I rx ry h;obtain⟨i,k,rfl,rfl,q⟩:=h;obtain⟨t,rfl⟩:=rx;cases ry;exact PySem.IntBool.sub_int_bool ⟨.int _,H,I.tok _,⟨_,rfl⟩,q⟩
end
end L2
namespace Dp
open PySem PySem.Spec PyProof.Rows L2
section
variable {K:Frag}{X:Cx}
noncomputable def BN(d e:D)(P:D->Prop):Prop:=match d,e with
 | .int i,.int j=>P (.int (i+j))
 | .bl k,.int j=>P (.int (bI k+j))
 | .str i,.str j=>i.length+j.length<=sizeLine/\P (.str (i++j))
 | .tup i,.tup j=>i.length+j.length<=sizeLine/\P (.tup (i++j))
 | .lst i,.lst j=>i.length+j.length<=sizeLine/\P (.lst (i++j))
 | _,_=>False
noncomputable def Uh(K:Frag):R2:=λx y H Q=>RA K x y H Q\/(X6 λi j=>i+j) x y H Q\/Q9 K x y H Q
theorem A1:OpR X (binaryOp .Add) (Uh X.K):=op_addU.or (op_add_bi.or RT)
theorem BL:FK X.K .sh (Uh X.K) BN:=λU M H d e x y P Q dom vM hx hy w q=>by
 unfold BN at w
 split at w
 ·exact .inl (LV (X:=X) U M H (.int _) (.int _) x y P Q dom vM hx hy w q)
 ·rename_i k j
  exact .inr (.inl ⟨k,j,hx,hy,q _ H (.int _) .refl rfl w⟩)
 ·exact .inl (LV (X:=X) U M H (.str _) (.str _) x y P Q dom vM hx hy w q)
 ·rename_i i j
  cases i with
  | nil =>
   obtain⟨a,vs,rfl,ha,hs⟩:=hx.tup;obtain⟨b,us,rfl,hb,ht⟩:=hy.tup;cases (show vs=[] from hs);exact .inr (.inr ⟨a,b,us,rfl,rfl,ha.sq,hb.sq,q _ H (.tup j) .refl ⟨b,us,rfl,hb,ht⟩ (by have:=w.2; rw [aA] at this; exact this)⟩)
  | cons i0 i=>exact .inl (LV (X:=X) U M H (.tup (i0::i)) (.tup j) x y P Q dom vM hx hy ⟨(by intro z; cases z),w⟩ q)
 ·exact .inl (LV (X:=X) U M H (.lst _) (.lst _) x y P Q dom vM hx hy w q)
 ·exact w.elim
noncomputable def FG(d e:D)(P:D->Prop):Prop:=match d,e with
 | .int i,.int j=>P (.int (i - j))
 | .bl k,.int j=>P (.int (bI k - j))
 | .int i,.bl k=>P (.int (i - bI k))
 | _,_=>False
noncomputable def UV:R2:=λx y H Q=>(HC λi j=>.int (i - j)) x y H Q\/(X6 λi j=>i - j) x y H Q\/(Y5 λi j=>i - j) x y H Q
theorem C1:OpR X (binaryOp .Sub) UV:=op_sub.or (op_sub_bi.or Pa)
theorem Eh:FK K .sh UV FG:=λU M H d e x y P Q dom vM hx hy w q=>by
 unfold FG at w
 split at w
 ·exact .inl (Sq (K:=K) (g:=λi j=>i - j) U M H (.int _) (.int _) x y P Q dom vM hx hy w q)
 ·rename_i k j
  exact .inr (.inl ⟨k,j,hx,hy,q _ H (.int _) .refl rfl w⟩)
 ·rename_i i k
  exact .inr (.inr ⟨i,k,hx,hy,q _ H (.int _) .refl rfl w⟩)
 ·exact w.elim
noncomputable def V2(d:D)(lo hi:Option Int)(P:D->Prop):Prop:=match d with
 | .str z=>P (.str (Txt.slice z lo hi))
 | .lst xs=>P (.lst (cutD xs lo hi))
 | .tup xs=>P (.tup (cutD xs lo hi))
 | _=>False
noncomputable def W0(K:Frag):V->Option Int->Option Int->Hp->VK->Prop:=λx lo hi H Q=>Wx x lo hi H Q\/Wz K x lo hi H Q\/Wy K x lo hi H Q\/UX K x lo hi H Q
theorem YQ:SlR X (W0 X.K):=sl_U.or (sl_list.or (sl_tup.or TF))
theorem Oq{M:Ev->Prop}{H:Hp}{ds:List D}{vs:List V}(lo hi:Option Int)(h:Ats K M H ds vs):Ats K M H (cutD ds lo hi) (Jd vs lo hi):=by
 unfold cutD Jd;rw [h.length];exact(h.drop _).take _
theorem Xm:ZA K .sh (W0 K) V2:=by
 intro U M H d x lo hi P Q dom vM hx w q;unfold V2 at w
 split at w
 ·rename_i z
  exact .inl ⟨z,hx.str.1,hx.str.2,q _ H (.str (Txt.slice z lo hi)) .refl ⟨rfl,Zu (Txt.slice_le z lo hi) hx.str.2⟩ w⟩
 ·rename_i xs
  obtain⟨a,vs,rfl,_,ha,hs⟩:=hx;exact .inr (.inl ⟨a,vs,rfl,.inl ha,λp hp=>q _ _ (.lst _) (Ax hp) ((DM (U:=U) hp (Oq lo hi hs)).shOf dom (by intro z; cases z)) w⟩)
 ·rename_i xs
  obtain⟨a,vs,rfl,ha,hs⟩:=hx.tup
  by_cases hw:HT.sIx vs.length 0 lo=0/\HT.sIx vs.length vs.length hi=vs.length
  ·refine .inr (.inr (.inr ⟨a,vs,rfl,ha.sq,hw,?_⟩))
   have e:cutD xs lo hi=xs:=by
    unfold cutD;rw [← hs.length,hw.1,hw.2,List.drop_zero,Nat.sub_zero,hs.length,e8]
   rw [e] at w;exact q _ H (.tup xs) .refl ⟨a,vs,rfl,ha,hs⟩ w
  ·exact .inr (.inr (.inl ⟨a,vs,rfl,ha.sq,hw,λp hp=>q _ _ (.tup _) (Ax hp) (DL dom hp (Oq lo hi hs)) w⟩))
 ·exact w.elim
end
end Dp
namespace Nt
open PySem PySem.Spec PyProof.Rows L2 Dp
noncomputable def BO:W2:=λss n P=>∃m:Int,ss=[.fd,.sh (.int m)]/\1<=m/\m<1073741824/\1<=n/\∀r:Int,0<=r->r<m->P (.int r) (n - 1)
noncomputable def cs(x:Str):List Nat:=x.cps.toList
theorem WD{x y:Str}(h:cs x=cs y):x=y:=by
 obtain⟨a⟩:=x;obtain⟨b⟩:=y;unfold cs at h;exact congrArg Str.mk (Array.ext' h)
noncomputable def S1(x:Str):Prop:=1<=x.length/\x.length<=8/\∀c∈cs x,97<=c/\c<=122
noncomputable def rising(xs:List Str):Prop:=xs.Pairwise λx y=>cs x<cs y
theorem RY(a b:List Nat):ltCps a b=decide (a<b):=ltCps_eq a b
theorem Gy:∀(l:List Str) (p:Str),risingS p l=true->(p::l).Pairwise λa b=>¬cs b<cs a
 | [],p,_=>List.pairwise_singleton _ _
 | x::r,p,h=>by
  have h':(!ltCps x.cps.toList p.cps.toList&&risingS x r)=true:=h;rw [Zl,Bool.not_eq_true',RY,decide_eq_false_iff_not] at h';have ih:=Gy r x h'.2;refine al.mpr ⟨λy hy=>?_,ih⟩
  rcases XV.mp hy with rfl | hy
  ·exact h'.1
  ·have h2:=(al.mp ih).1 y hy
   exact List.le_trans (l₁:=cs p) (l₂:=cs x) (l₃:=cs y) h'.1 h2
theorem C_{l:List Str}(h:sortedS l=true)(nd:l.Nodup):rising l:=by
 have hp:l.Pairwise λa b=>¬cs b<cs a:=by
  cases l with
  | nil=>exact ft
  | cons x r=>exact Gy r x h
 refine(hp.and nd).imp λ{a b} ⟨h1,h2⟩=>?_;exact bD λh3=>h2 (WD (List.le_antisymm (as:=cs a) (bs:=cs b) h1 h3))
theorem B4(lo:Int)(n:Nat):(Co lo n).length=n:=by unfold Co; rw [On,c7]
theorem Lq{lo:Int}{n:Nat}{d:D}(h:d∈Co lo n):∃k:Nat,k<n/\d=.int (lo+k):=by
 unfold Co at h;obtain⟨k,hk,rfl⟩:=TW.mp h;exact⟨k,bM.mp hk,rfl⟩
end Nt
namespace Dp
open PySem PySem.Spec PyProof.Rows L2
section
variable {X:Cx}
end
end Dp
namespace L2
open PySem PySem.Spec PyProof.Rows
section
variable {X:Cx}{tg elt iter:Expr}{ifs:List Expr}{sc:Scope}{pos spos pos':Pos}{N':List Str}{js:List (Option Nat)}{wi:TI}{i:Nat}{x:Str}
end
end L2
namespace Dp
open PySem PySem.Spec PyProof.Rows L2
section
variable {X:Cx}{κe:Kd}{tg elt iter:Expr}{ifs:List Expr}{sc:Scope}{pos:Pos}{src:Er}{b:BW}{tt:Gw}{te:DW}
end
section
variable {X:Cx}{κe:Kd}{tg elt iter:Expr}{ifs:List Expr}{sc:Scope}{pos:Pos}{src:Er}{b:BW}{tt:Gw}{te:DW}
end
noncomputable abbrev Fu(K:Frag)(x:Str)(st:Z9)(f:Ev)(fd:aE):Prop:=Fun K x x st f fd
theorem HG{P:Zs}{w:Zz}{K:Frag}{mg:Str->Option FM}{base:Zk}{x:Str}{st:Z9}{f:Ev}{fd:aE}{N ps:List Str}{k:Nat}{κ:Kd}{W:W2}{wb:AW}(F:Fu K x st f fd)(S:Af N ps (AO st))
  (hb:∀{cdv:FM} {A:aB} {outer:List Env} {s:Rs} {H:Hp} {E:XK},Room k (A.deeper (envOfC x (AO st) s.heap.objs.size f cdv))->Mo (Jc Cc P w K mg base N x (AO st) f cdv A outer s H E).nox κ (Br st) wb)
  (hW:∀{ss n Pd},W ss n Pd->wb { nx:=λn _=>κ=.sh/\Pd .non n,rt:=Pd } n (ss++Zd (N.length - ps.length) .no)) (hNp:autoParam (ps.length<=N.length) zau1._auto_1) :
  BK P w K mg base Cc (k+1) f fd ps (EB K κ W ps.length):=Yf F S hNp (λ_ _ _ _ _ _ h=>hb h) (λ_ _ _ _ h=>hW h)
section
variable {X:Cx}
theorem cg{m:Nat}(hr:Room m X.A){e:Zq}{es:List Zq}{k:Nat}{ps:List Str}{κ:Kd}{W:W2}{x:Str}{p pos:Pos}{was:U3}(G:Got X.prog X.w X.K X.mg X.base x k ps κ W)(ha:WZ X (e::es) was)(hk:autoParam (k<=m) zau1._auto_1)(hg:autoParam (Gl X x) zau3._auto_1)
  (hdb:autoParam ((x==("__debug__":Str))=false) zau1._auto_1) (he:autoParam (starEach (e::es) X.env=(false,eval e X.env)::starEach es X.env) zau3._auto_1) (hpl:autoParam ((backTo pos (starEach es X.env)).any (·.1)=false) zau3._auto_1):DE X (.Call (.Name x p) (e::es) [] pos) κ (AZ W was):=Il G (hr.mono hk) hg ha hdb he hpl
variable {tg iter elt:Expr}{ifs:List Expr}{sc:Scope}{pos:Pos}{b:BW}{tt:Gw}{te:DW}{κe:Kd}{src:Er}
theorem S2(N':List Str)(js:List (Option Nat))(hi:X1 X tg iter src)(hg:∀{cl C s H fp},DG (BD X sc N' cl C s H fp) tg b)(ht:∀{cl C s H fp},YF (BD X sc N' cl C s H fp) ifs tt)(he:∀{cl C s H fp},DE (BD X sc N' cl C s H fp) elt κe te)
  (hB:MY sc X.env.scope X.N N' js=true) (hc:autoParam (X.calm=true) zau3._auto_1) (hk:autoParam (κe≠.tp) zau6._auto_1) (hs:autoParam (∀x,foldedSetIterable iter X.env x=pure x) zau2._auto_1):DE X (.ListComp elt [⟨tg,iter,ifs,0⟩] sc pos) .fr (DF js src b tt te):=UC hc N' js hi (λ_ _ _ _ _=>hg) (λ_ _ _ _ _=>ht) (λ_ _ _ _ _=>he) hB hk hs
end
end Dp
namespace K34
open PySem PySem.Spec PyProof.Rows L2 Dp Nt
noncomputable def top(i:Nat):Z9:=PySem.Challenge.pw_thinnet_k34_whole_light_trees.main.body.getD i (.Pass ⟨0,0,0,0⟩)
noncomputable abbrev GU:Z9:=top 1
noncomputable abbrev FQ:Z9:=top 2
noncomputable abbrev FP:Z9:=top 3
noncomputable abbrev NE:Z9:=top 4
noncomputable abbrev Dd:Z9:=top 6
noncomputable abbrev Df:Z9:=top 7
noncomputable abbrev Qy:Z9:=top 8
noncomputable abbrev Hw:Z9:=top 9
noncomputable abbrev ED:Z9:=top 11
noncomputable abbrev Dg:Z9:=top 13
noncomputable abbrev GS:Z9:=top 15
noncomputable abbrev DZ:Z9:=top 16
noncomputable abbrev GV:Z9:=top 17
noncomputable abbrev De:Z9:=top 18
noncomputable abbrev EG:Z9:=top 20
noncomputable abbrev Cz:Z9:=top 21
noncomputable abbrev Dn:Z9:=top 22
noncomputable abbrev DB:Z9:=top 23
noncomputable abbrev FR:Z9:=top 24
noncomputable abbrev Dl:Z9:=top 25
noncomputable abbrev Cj:Z9:=top 26
noncomputable abbrev Dh:Z9:=top 27
noncomputable abbrev Ck:Z9:=top 28
noncomputable abbrev DA:Z9:=top 29
noncomputable abbrev B3:Z9:=top 30
noncomputable abbrev Di:Z9:=top 31
noncomputable abbrev Bu:Z9:=top 32
noncomputable abbrev Bt:Z9:=top 33
noncomputable abbrev Dk:Z9:=top 34
noncomputable abbrev Hx:Z9:=top 35
structure Txt (K:Frag) (mg:Str->Option FM):Prop where
 n_all:mg "all"=none
 n_bool:mg "bool"=none
 n_int:mg "int"=none
 n_isinstance:mg "isinstance"=none
 n_len:mg "len"=none
 n_list:mg "list"=none
 n_max:mg "max"=none
 n_min:mg "min"=none
 n_range:mg "range"=none
 n_reversed:mg "reversed"=none
 n_sorted:mg "sorted"=none
 n_sum:mg "sum"=none
 n_tuple:mg "tuple"=none
 n_zip:mg "zip"=none
section
variable {P:Program}{w:World}{K:Frag}{mg:Str->Option Value}{base:Heap}
theorem fw:Af ["_law_feed_here","_law_many","_law_digit","_law_at","_law_cell","_law_first"] ["_law_feed_here","_law_many"] (AO Cz):=⟨rfl,rfl,rfl,by decide +kernel,rfl,by decide +kernel,by decide +kernel⟩
theorem Tf{f:Ev}{fd:aE}(F:Fun K "_law_next" "_law_next" Cz f fd)(ml:mg "len"=none):BK P w K mg base Cc 1 f fd ["_law_feed_here","_law_many"] (EB K .sh BO 2):=by
 refine F.ok fw (λvs H Q E h=>h.1) (λcdv A outer s H vs Q E hr h=>?_);obtain⟨hl,F0,U,V',M,n,ss,Pd,ra,⟨m,rfl,hm1,hm2,hn,hP⟩,q⟩:=h;obtain⟨dom,fU,uV,vM,fd0,pa⟩:=ra;cases pa with
 | cons r1 pa =>
 cases pa with
 | cons r2 pa =>
 cases pa;obtain⟨⟨f0,c,tg⟩,e0,hF,ht⟩:=r1.1;cases (show tg=none from ht);cases e0;obtain⟨v2,e2,h2⟩:=r2.1;cases e2;cases (show _=V.int m from h2);obtain⟨_,a,r,cells,hf,hcf,hc,hcl,ha0,han⟩:=(fd0 ⟨f0,c,none⟩ hF).resolve_right fun⟨_,z,_⟩=>by cases z
 have fin:∀(a' r' z:Int) (H':Hp),(∀b o,H b=some o->b≠f0->H' b=some o)->H' f0=some (.lst [.ref c,.int a',.int r'])->0<=a'->a'<=a+1->0<=z->z<m->Q (.int z) H':=by
  intro a' r' z H' hk hf' h0 h1 hz0 hz1;refine q (.int z) H' (.int z) (n - 1) (λb o e=>?_) (λg hg=>?_) rfl (hP z hz0 hz1)
  ·by_cases hb:b=f0
   ·subst hb
    exact⟨_,hf',λnu=>absurd (fU ⟨b,c,none⟩ hF) nu,λvs z=>by rw [z,hf] at e; cases e⟩
   ·exact⟨o,hk b o e hb,λ_=>rfl,λ_ _=>rfl⟩
  ·have:g=⟨f0,c,none⟩:=ZS (hg.symm.trans hF)
   subst this;exact .inl ⟨rfl,a',r',cells,hf',hcf,⟨hc.1,hk c _ hc.2 hcf⟩,hcl,h0,by omega⟩
 have hu:(A.deeper (envOfC "_law_next" (AO Cz) s.heap.objs.size f cdv)).units<cLine:=hr.units0;have hsq:∀{H':Hp} {xs:List V},H' f0=some (.lst xs)->SqL K H' f0 xs:=λh=>SqL.of h;have ed:∀z:Int,0<=z % m/\z % m<m:=λz=>⟨Int.emod_nonneg _ (by omega),Int.emod_lt_of_pos _ (by omega)⟩
 refine⟨_,BJ (RF (Ex Uk (D6 ix_list (pv 0) As (λ_ _=>rfl)) As (An _))
   (BJ (EH (i:=2) fw.nd rfl (ZV rfl) (Bh EK (D6 ix_list (pv 0) As (λ_ _=>rfl)) (pv 1)))
   (BJ (Kv (Bh HL (D6 ix_list (pv 0) As (λ_ _=>rfl)) (pv 1)) (NM (pv 0) As set_list))
   (C0 (FS (pv 2))))) Ku)
  (BJ (EH (i:=3) fw.nd rfl (ZV rfl) (D6 ix_list (pv 0) As (λ_ _=>rfl)))
  (BJ (Kv (Bh op_add (pv 3) As) (NM (pv 0) As set_list))
  (BJ (EH (i:=4) fw.nd rfl (ZV rfl) (L5 (Ex (Pc hu) (D6 ix_list (pv 0) As (λ_ _=>rfl)) (NN CG) (An _))
   (D6 ix_list (D6 ix_list (pv 0) As (λ_ _=>rfl)) (Bh EK (pv 3) (Fo BF rfl ml PySem.boot_len (BM (D6 ix_list (pv 0) As (λ_ _=>rfl)) CG))) (λ_ _=>rfl)) As))
  (BJ (RF (PW.pt (RB (Ex XG (pv 4) (Bh K0 As As) (An _)) (OM (Ex op_lt (pv 3) (Fo BF rfl ml PySem.boot_len (BM (D6 ix_list (pv 0) As (λ_ _=>rfl)) CG)) (An _)))))
   (BJ (Kv (Bh HL (pv 4) (pv 1)) (NM (pv 0) As set_list))
   (C0 (FS (Bh EK (pv 4) (pv 1))))) Ku)
  (BJ (EH (i:=5) fw.nd rfl (ZV rfl) (Bh EK (Bh op_mul (Bh op_add (Bh op_add (Bh op_add (Bh EK (pv 4) As) (Bh op_mul (Bh op_mul As (pv 3)) (pv 3))) (Bh op_mul As (pv 3))) As) As) As))
  (C0 (FS (Bh EK (Bh HL (Bh EK (Bh op_mul (Bh op_add (pv 5) (Bh op_mul As (pv 3))) As) As) As) (pv 1))))))))),?_⟩
 refine⟨_,rfl,f0,_,2,_,rfl,rfl,hsq hf,rfl,_,_,rfl,rfl,_,rfl,?_⟩;refine Cv (λc1=>?_) (λc1=>?_)
 ·refine⟨_,rfl,f0,_,2,_,rfl,rfl,hsq hf,rfl,_,rfl,_,_,rfl,rfl,(by show (0:Int)<m; omega),?_⟩
  refine⟨_,rfl,f0,_,2,_,rfl,rfl,hsq hf,rfl,_,rfl,_,_,rfl,rfl,⟨(by show (0:Int)<m; omega),hm2⟩,_,rfl,f0,_,2,2,rfl,rfl,hf,rfl,?_⟩;refine⟨_,rfl,?_⟩;exact fin a _ _ _ (λb o e hb=>by rw [AK hb]; exact e) AT ha0 (by omega) (ed _).1 (ed _).2
 ·-- at=feed[1]; feed[1]=at+1
  refine⟨_,rfl,f0,_,1,_,rfl,rfl,hsq hf,rfl,?_⟩;refine⟨_,rfl,_,_,rfl,rfl,_,rfl,f0,_,1,1,rfl,rfl,hf,rfl,?_⟩;generalize hH1:Aw H f0 (.lst ([V.ref c,V.int a,V.int r].set 1 (V.int (a+1))))=H1;have f1:H1 f0=some (.lst [.ref c,.int (a+1),.int r]):=by rw [← hH1]; exact AT
  have k1:∀b o,H b=some o->b≠f0->H1 b=some o:=λb o e hb=>by rw [← hH1,AK hb]; exact e
  have c1':H1 c=some (.lst (cells.map V.int)):=k1 c _ hc.2 hcf
  have rest:∀(z:Int) (H2:Hp),(∀b o,H1 b=some o->H2 b=some o) ->
    (PB (Wj (Ws (Qq (C9 (HC λi j=>V.bl (decide (j<=i))) (BU 4) (C9 (rI N7 λi j=>V.int (i ^ j.toNat)) (tC (V.int 10)) (tC (V.int 18))))) (Qq (C9 (HC λi j=>V.bl (decide (i<j))) (BU 3) (X4 (λxs H Q=>∃x n,xs=[x]/\WS K x H n/\Q (V.int n) H) (OE (C9 (VX K) (BU 0) (tC (V.int 0))) TC))))) (PB (M_ (C9 (rI Sz λi j=>V.int (i / j)) (BU 4) (BU 1)) (XW (BU 0) (tC (V.int 2)) UY)) (S_ (C9 (rI (λ_ j=>0<j) λi j=>V.int (i % j)) (BU 4) (BU 1)))) UT) (PB (M_ (C9 (rI (λ_ j=>0<j) λi j=>V.int (i % j)) (C9 (rI CMul λi j=>V.int (i*j)) (C9 (HC λi j=>V.int (i+j)) (C9 (HC λi j=>V.int (i+j)) (C9 (HC λi j=>V.int (i+j)) (C9 (rI (λ_ j=>0<j) λi j=>V.int (i % j)) (BU 4) (tC (V.int 1000003))) (C9 (rI CMul λi j=>V.int (i*j)) (C9 (rI CMul λi j=>V.int (i*j)) (tC (V.int 41)) (BU 3)) (BU 3))) (C9 (rI CMul λi j=>V.int (i*j)) (tC (V.int 17)) (BU 3))) (tC (V.int 3))) (tC (V.int 51749))) (tC (V.int 999917))) (J8 5)) (S_ (C9 (rI (λ_ j=>0<j) λi j=>V.int (i % j)) (C9 (rI Sz λi j=>V.int (i / j)) (C9 (rI (λ_ j=>0<j) λi j=>V.int (i % j)) (C9 (rI CMul λi j=>V.int (i*j)) (C9 (HC λi j=>V.int (i+j)) (BU 5) (C9 (rI CMul λi j=>V.int (i*j)) (tC (V.int 8111)) (BU 3))) (tC (V.int 39373))) (tC (V.int 2097143))) (tC (V.int 3))) (BU 1)))))
     { nx:=λ_ H'=>Q .non H',rt:=Q } [some (.ref f0),some (.int m),none,some (.int a),some (.int z),none] H2:=by
   intro z H2 k2;have f2:=k2 _ _ f1;have c2:=k2 _ _ c1'
   have lastWay:∀H3:Hp,H3=H2->(PB (M_ (C9 (rI (λ_ j=>0<j) λi j=>V.int (i % j)) (C9 (rI CMul λi j=>V.int (i*j)) (C9 (HC λi j=>V.int (i+j)) (C9 (HC λi j=>V.int (i+j)) (C9 (HC λi j=>V.int (i+j)) (C9 (rI (λ_ j=>0<j) λi j=>V.int (i % j)) (BU 4) (tC (V.int 1000003))) (C9 (rI CMul λi j=>V.int (i*j)) (C9 (rI CMul λi j=>V.int (i*j)) (tC (V.int 41)) (BU 3)) (BU 3))) (C9 (rI CMul λi j=>V.int (i*j)) (tC (V.int 17)) (BU 3))) (tC (V.int 3))) (tC (V.int 51749))) (tC (V.int 999917))) (J8 5)) (S_ (C9 (rI (λ_ j=>0<j) λi j=>V.int (i % j)) (C9 (rI Sz λi j=>V.int (i / j)) (C9 (rI (λ_ j=>0<j) λi j=>V.int (i % j)) (C9 (rI CMul λi j=>V.int (i*j)) (C9 (HC λi j=>V.int (i+j)) (BU 5) (C9 (rI CMul λi j=>V.int (i*j)) (tC (V.int 8111)) (BU 3))) (tC (V.int 39373))) (tC (V.int 2097143))) (tC (V.int 3))) (BU 1))))
     { nx:=λ_ H'=>Q .non H',rt:=Q } [some (.ref f0),some (.int m),none,some (.int a),some (.int z),none] H3:=by
    intro H3 e3;subst e3;have hb:CMul (41*a) a:=.inr ⟨by omega,by omega⟩;refine⟨_,rfl,_,_,rfl,rfl,(by show (0:Int)<1000003; decide),_,rfl,_,_,rfl,rfl,.inl ⟨by decide,by decide⟩,_,rfl,_,_,rfl,rfl,hb,_,_,rfl,rfl,_,rfl,_,_,rfl,rfl,.inl ⟨by decide,by decide⟩,_,_,rfl,rfl,_,_,rfl,rfl,_,_,rfl,rfl,.inr ⟨by decide,by decide⟩,_,_,rfl,rfl,(by show (0:Int)<999917; decide),?_⟩;refine⟨_,rfl,_,rfl,_,_,rfl,rfl,.inl ⟨by decide,by decide⟩,_,_,rfl,rfl,_,_,rfl,rfl,.inr ⟨by decide,by decide⟩,_,_,rfl,rfl,(by show (0:Int)<2097143; decide),_,_,rfl,rfl,⟨by decide,by decide⟩,_,rfl,_,_,rfl,rfl,(by show (0:Int)<m; omega),?_⟩;exact fin (a+1) r _ _ (λb o e hb=>k2 b o (k1 b o e hb)) f2 (by omega) (by omega) (ed _).1 (ed _).2
   refine⟨_,rfl,_,_,rfl,rfl,⟨by decide,by decide,by decide⟩,_,_,rfl,rfl,_,rfl,?_⟩;refine Cv (λc3=>?_) (λc3=>?_)
   ·refine⟨_,rfl,_,rfl,f0,_,0,_,rfl,rfl,hsq f2,rfl,_,_,rfl,.inl ⟨_,SqL.of c2,rfl⟩,_,_,rfl,rfl,_,rfl,?_⟩
    refine Cv (λc4=>?_) (λc4=>lastWay H2 rfl);refine⟨_,rfl,_,rfl,_,_,rfl,rfl,⟨(by show (0:Int)<m; omega),hm2⟩,_,rfl,f0,_,2,2,rfl,rfl,f2,rfl,?_⟩;refine⟨_,rfl,_,rfl,_,_,rfl,rfl,(by show (0:Int)<m; omega),?_⟩;exact fin (a+1) _ _ _ (λb o e hb=>by rw [AK hb]; exact k2 b o (k1 b o e hb)) AT (by omega) (by omega) (ed _).1 (ed _).2
   ·refine Cv (λc4=>absurd c4 (by simp)) (λ_=>lastWay H2 rfl)
  refine⟨_,rfl,f0,_,0,_,rfl,rfl,hsq f1,rfl,(by show 0<=sizeLine; decide),λp hp=>?_⟩;have kp:∀b o,H1 b=some o->Aw H1 p (.lst []) b=some o:=λb o e=>by rw [AK (Ag e hp)]; exact e
  refine⟨c,p,_,rfl,rfl,SqL.of (kp _ _ c1'),SqL.of AT,_,rfl,?_⟩;cases cells with
  | nil=>exact EA (rest 0 _ kp)
  | cons z0 cs =>
   refine Fw ?_;have hlen:(((z0::cs).map V.int).length:Int)=(cs.length:Int)+1:=by simp
   have hpos:(0:Int)<(((z0::cs).map V.int).length:Int):=by omega
   obtain⟨z,hz⟩:∃z,atI ((z0::cs).map V.int) (a % (((z0::cs).map V.int).length:Int))=some (.int z):=by
    have h1:=Int.emod_nonneg a (show (((z0::cs).map V.int).length:Int)≠0 by omega);have h2:=Int.emod_lt_of_pos a hpos;generalize a % (((z0::cs).map V.int).length:Int)=j at h1 h2;obtain⟨k,rfl⟩:∃k:Nat,j=(k:Int):=⟨j.toNat,by omega⟩;have hk:k<(z0::cs).length:=by rw [On] at h2; omega
    refine⟨(z0::cs)[k],AJ ?_⟩;rw [ZZ,No hk];rfl
   refine⟨_,rfl,f0,_,0,_,rfl,rfl,hsq (kp _ _ f1),rfl,_,rfl,_,rfl,f0,_,0,_,rfl,rfl,hsq (kp _ _ f1),rfl,_,_,rfl,.inl ⟨_,SqL.of (kp _ _ c1'),rfl⟩,_,_,rfl,rfl,hpos,c,_,_,_,rfl,rfl,SqL.of (kp _ _ c1'),hz,?_⟩;exact rest z _ kp
end
end K34
namespace Nt
open PySem PySem.Spec PyProof.Rows L2 Dp
theorem Ju{α β:Type}{f:α->β}:∀{l:List α},l.Nodup->(∀a∈l,∀b∈l,f a=f b->a=b)->(l.map f).Nodup
 | [],_,_=>Zp
 | a::l,h,hf=>by
  rw [ZY] at h;rw [ZX,ZY];refine⟨λhm=>?_,Ju h.2 λx hx y hy=>hf x (Sc _ hx) y (Sc _ hy)⟩;obtain⟨b,hb,e⟩:=TW.mp hm;exact h.1 (hf a Re b (Sc _ hb) e.symm▸hb)
theorem Ti{f m j k:Nat}{M:Nat}(hM:m<=M)(hj:j<m)(hk:k<m)(e:(f+j) % M=(f+k) % M):j=k:=by
 have h:∀a b:Nat,a<=b->b<m->(f+a) % M=(f+b) % M->a=b:=λa b h1 h2 e=>by
  have:(f+b - (f+a)) % M=0:=Nat.sub_mod_eq_zero_of_mod_eq e.symm
  have e2:f+b - (f+a)=b - a:=by omega
  rw [e2,Nat.mod_eq_of_lt (by omega)] at this;omega
 rcases Nat.le_total j k with h1 | h1
 ·exact h j k h1 hk e
 ·exact(h k j h1 hj e.symm).symm
theorem Sf(ss:List Str):CZ (ss.map .str)=some ss:=by
 induction ss with
 | nil=>rfl
 | cons y r ih =>
  rw [ZX];unfold CZ;rw [ih];rfl
theorem CH{b:BW}{body:AW}{D2:E2}{all:List D}(I:List D->Nat->List Slot->Prop)(hend:∀n ρ,I all n ρ->D2.nx n ρ)
  (hstep:∀(pre:List D) (d:D) (post:List D) (n:Nat) (ρ:List Slot) (nx:Nat->List Slot->Prop),all=pre++d::post->I pre n ρ->(∀n' ρ',I (pre++[d]) n' ρ'->nx n' ρ')->b d ρ λρ1=>body { D2 with nx:=nx,ct:=nx,bk:=D2.nx } n ρ1) :
  ∀(ds pre:List D) (n:Nat) (ρ:List Slot),all=pre++ds->I pre n ρ->A0 b body D2 ds n ρ
 | [],pre,n,ρ,e,h=>by
  rw [Zn] at e;subst e;exact hend n ρ h
 | d::ds,pre,n,ρ,e,h=>hstep pre d ds n ρ (A0 b body D2 ds) e h λn' ρ' h'=>CH I hend hstep ds (pre++[d]) n' ρ' (by rw [e,Zg]; rfl) h'
theorem Ew{lo:Int}{n:Nat}{pre post:List D}{d:D}(h:Co lo n=pre++d::post):d=.int (lo+(pre.length:Int))/\pre.length<n:=by
 have hl:=congrArg dA h;rw [B4,ZT,Za] at hl;have e:(Co lo n)[pre.length]?=some d:=by rw [h,bZ (Tk _),Nat.sub_self]; rfl
 unfold Co at e;rw [ZZ,List.getElem?_range (by omega)] at e;exact⟨(ZS e).symm,by omega⟩
structure Tie where
 a:Str
 b:Str
 len:Int
structure Net where
 ps:List Str
 ts:List Tie
noncomputable def Ao(t:Tie):D:=.tup [.str t.a,.str t.b,.int t.len]
noncomputable def enc(N:Net):D:=.tup [.tup (N.ps.map .str),.tup (N.ts.map Ao)]
noncomputable def Bv(s t:Tie):Prop:=cs s.a<cs t.a\/(s.a=t.a/\cs s.b<cs t.b)
structure Net.Ok (N:Net):Prop where
 names:∀x∈N.ps,S1 x
 rise:rising N.ps
 tin:∀t∈N.ts,t.a∈N.ps/\t.b∈N.ps/\cs t.a<cs t.b/\1<=t.len/\t.len<=1000000
 trise:N.ts.Pairwise Bv
structure Ix where
 i:Nat
 j:Nat
 len:Int
noncomputable abbrev EE(Pd:D->Nat->Prop):E2:={ nx:=λn _=>Kd.sh=.sh/\Pd .non n,rt:=Pd }
theorem Bk{b:BW}{te:DW}{P:List D->Nat->Prop}(g:D->D)(I:List Slot->Prop):∀(ds acc:List D) (n:Nat) (ρ:List Slot),
  (∀d∈ds,∀(ρ:List Slot) (n:Nat) (nx:D->Nat->List Slot->Prop),I ρ->(∀ρ',I ρ'->nx (g d) n ρ')->b d ρ λρ1=>te n ρ1 λy n2=>nx y n2 ρ1)->I ρ->P (acc++ds.map g) n->EM b Fb te P ds acc n ρ
 | [],acc,n,ρ,_,_,h=>by rw [ce,Zn] at h; exact h
 | d::ds,acc,n,ρ,ht,hρ,h=>ht d Re ρ n (λy n2 ρ1=>EM b Fb te P ds (acc++[y]) n2 ρ1) hρ λρ' hρ' =>
  Bk g I ds (acc++[g d]) n ρ' (λd hd=>ht d (Sc _ hd)) hρ' (by rw [Zg]; exact h)
theorem R9{α:Type}{l:List α}{p:α->Bool}{P:D->Prop}(h:P (.bl (l.all p))):R_ [.lst (l.map λa=>.bl (p a))] P :=
 ⟨_,_,rfl,JB p l,by rw [List.all_map]; exact h⟩
noncomputable abbrev Wb(g:D->Bool):W2:=Ui 1 λds=>.bl (g (ds.getD 0 .non))
theorem Wb.out{g:D->Bool}{ss:List Slot}{n:Nat}{P:D->Nat->Prop}(h:Wb g ss n P):∃d,ss=[.sh d]/\P (.bl (g d)) n:=by
 obtain⟨ds,hl,rfl,h⟩:=h
 match ds,hl with
 | [d],_=>exact⟨d,rfl,h⟩
noncomputable def U_:D->Bool
 | .int _=>true
 | _=>false
noncomputable def YU(d e:D):Option Bool:=match d,e with
 | .int i,.int j=>some (decide (i<j))
 | .str i,.str j=>some (decide (cs i<cs j))
 | .tup xs,.tup ys=>match Fv xs,Fv ys with
  | some ks,some ls=>if Bs ks ls then some (EN ks ls) else none
  | _,_=>none
 | _,_=>none
theorem Tw{d e:D}{b:Bool}{P:D->Prop}(h:YU d e=some b)(p:P (.bl b)):Fx d e P:=by
 unfold YU at h
 split at h
 ·cases h; exact p
 ·cases h; exact p
 ·rename_i xs ys
  split at h
  ·rename_i ks ls h1 h2
   split at h
   ·rename_i hs
    cases h;exact⟨ks,ls,h1,h2,hs,p⟩
   ·cases h
  ·cases h
 ·cases h
noncomputable abbrev LW:W2:=Wb U_
noncomputable def Nw:AW:=(Ba (Wd (O8 "int" (AD 0)) (Wc (O8 "bool" (AD 0)))))
section
variable {ss:List Slot}{n:Nat}{Pd:D->Nat->Prop}
theorem Ls(h:LW ss n Pd):Nw (EE Pd) n (ss++Zd 0 .no):=by
 obtain⟨d,rfl,q⟩:=h.out;cases d <;> exact q
theorem Yl{α:Type}(xs:List α):Dp.cutD xs (some 1) none=xs.drop 1:=by
 unfold Dp.cutD;rw [HT.sIx_none,show (1:Int)=((1:Nat):Int) from rfl,HT.sIx_nat]
 by_cases h:1<=xs.length
 ·rw [Nat.min_eq_left h]
  exact dC (by rw [eh]; exact Tk _)
 ·have:xs=[]:=bx.mp (by omega)
  subst this;rfl
end
theorem Lm{x:Str}(h:∀c∈cs x,c<1114112):PyData.strOk x=true:=by
 unfold PyData.strOk;rw [← Array.all_toList,bO];intro c hc;exact decide_eq_true (h c hc)
theorem Fq{x:Str}(h:S1 x):Ds (.str x):=⟨rfl,Lm λc hc=>by have:=h.2.2 c hc; omega,Zi _⟩
theorem MH{ps:List Str}(h:∀p∈ps,S1 p):Bi (ps.map .str)=true/\bd (A7 (ps.map .str))=true/\a9 (A7 (ps.map .str))=0:=by
 induction ps with
 | nil=>exact⟨rfl,rfl,rfl⟩
 | cons p r ih =>
  obtain⟨h1,h2,h3⟩:=ih λq hq=>h q (Sc _ hq);have hp:=Fq (h p Re);refine⟨by rw [ZX,Bi,h1]; rfl,?_,?_⟩
  ·rw [ZX,A7,bd,h2,fZ]
   exact hp.2.1
  ·rw [ZX,A7,a9,h3]
   rfl
theorem J0{ps:List Str}(h:∀p∈ps,S1 p):Ds (.tup (ps.map .str)):=by
 obtain⟨h1,h2,h3⟩:=MH h;refine⟨h1,h2,?_⟩;show a9 (A7 (ps.map .str))+1<=100;rw [h3]; decide
section
variable {ss:List Slot}{n:Nat}{Pd:D->Nat->Prop}
end
mutual
noncomputable def Nh(B:Nat):D->Prop
 | .int i=>i.natAbs<=B
 | .str x=>∀c∈cs x,c<1114112
 | .tup ds=>MQ B ds
 | .lst ds=>MQ B ds
 | .dic _ _=>False
 | .fdi _ _=>False
 | .dit _ _=>False
 | _=>True
noncomputable def MQ(B:Nat):List D->Prop
 | []=>True
 | d::ds=>Nh B d/\MQ B ds
end
mutual
noncomputable def X5:D->Nat
 | .int _=>200
 | .str x=>x.length
 | .tup ds=>Wu ds
 | .lst ds=>Wu ds
 | _=>0
noncomputable def Wu:List D->Nat
 | []=>0
 | d::ds=>X5 d+1+Wu ds
end
mutual
noncomputable def V7:D->Nat
 | .tup ds=>QC ds+1
 | .lst ds=>QC ds+1
 | _=>0
noncomputable def QC:List D->Nat
 | []=>0
 | d::ds=>max (V7 d) (QC ds)
end
theorem fines_iff{B:Nat}:∀{ds:List D},MQ B ds↔∀d∈ds,Nh B d
 | []=>⟨(λ_ d h=>by cases h),λ_=>trivial⟩
 | d::ds=>by
  have ih:=@fines_iff B ds;constructor
  ·rintro ⟨h1,h2⟩ e he
   rcases XV.mp he with rfl | he
   ·exact h1
   ·exact ih.mp h2 e he
  ·exact λh=>⟨h d Re,ih.mpr λe he=>h e (Sc _ he)⟩
theorem dps_le{k:Nat}:∀{ds:List D},QC ds<=k↔∀d∈ds,V7 d<=k
 | []=>⟨(λ_ d h=>by cases h),λ_=>Zi _⟩
 | d::ds=>by
  have ih:=@dps_le k ds;show max (V7 d) (QC ds)<=k↔_;rw [Nat.max_le,ih];constructor
  ·rintro ⟨h1,h2⟩ e he
   rcases XV.mp he with rfl | he
   ·exact h1
   ·exact h2 e he
  ·exact λh=>⟨h d Re,λe he=>h e (Sc _ he)⟩
mutual
theorem Oc{B:Nat}(hB:B<10 ^ 45):∀{d:D},Nh B d->D7 d=true/\(toPy d).showable=true/\(toPy d).canLay0=true/\(toPy d).depth=V7 d/\(toPy d).leavesShort 60=true/\(toPy d).weight<=X5 d
 | .non,_=>⟨rfl,rfl,rfl,rfl,rfl,Tk _⟩
 | .bl b,_=>⟨rfl,rfl,rfl,rfl,rfl,Tk _⟩
 | .int i,h=>by
  have h':i.natAbs<=B:=h;have hlt:i.natAbs<10 ^ 45:=b_ h' hB;have h2:i.natAbs<2 ^ 150:=Nat.lt_trans hlt (by decide)
  have hl:i.natAbs.log2<150:=by
   by_cases h0:i.natAbs=0
   ·rw [h0]; decide
   ·exact(Nat.log2_lt h0).mpr h2
  refine⟨rfl,?_,rfl,rfl,?_,?_⟩
  ·show decide (i.natAbs.log2<1920)=true
   exact decide_eq_true (by omega)
  ·show decide ((PyData.shown (.int i)).length<=60)=true
   refine decide_eq_true ?_
   have:=int_text_length_le10 (a:=i) (k:=45) (by decide) hlt
   show (aV (toString i)).length<=60;rw [PySem.ofString_length];omega
  ·show (if i==0 then 0 else i.natAbs.log2+1)<=200
   split <;> omega
 | .str x,h=>by
  have h':∀c∈cs x,c<1114112:=h;refine⟨rfl,rfl,Lm h',rfl,?_,Tk _⟩;show (x.cps.toList.all λc=>decide (c<16 ^ 8))=true;rw [bO];intro c hc;exact decide_eq_true (Nat.lt_trans (h' c hc) (by decide))
 | .tup ds,h=>by
  obtain⟨h1,h2,h3,h4,h5,h6⟩:=Ib hB (ds:=ds) h;refine⟨h1,h2,h3,?_,h5,h6⟩;show a9 (A7 ds)+1=QC ds+1;rw [h4]
 | .lst ds,h=>by
  obtain⟨h1,h2,h3,h4,h5,h6⟩:=Ib hB (ds:=ds) h;refine⟨h1,h2,h3,?_,h5,h6⟩;show a9 (A7 ds)+1=QC ds+1;rw [h4]
 | .dic ks ds,h=>(show False from h).elim
 | .fdi ks ds,h=>(show False from h).elim
 | .dit ks ds,h=>(show False from h).elim
theorem Ib{B:Nat}(hB:B<10 ^ 45):∀{ds:List D},MQ B ds->Bi ds=true/\PyData.showableAll (A7 ds)=true/\bd (A7 ds)=true/\a9 (A7 ds)=QC ds/\fN 60 (A7 ds)=true/\PyData.weightAll (A7 ds)<=Wu ds
 | [],_=>⟨rfl,rfl,rfl,rfl,rfl,Tk _⟩
 | d::ds,h=>by
  obtain⟨h1,h2,h3,h4,h5,h6⟩:=Oc hB (d:=d) h.1;obtain⟨g1,g2,g3,g4,g5,g6⟩:=Ib hB (ds:=ds) h.2;refine⟨?_,?_,?_,?_,?_,?_⟩
  ·show (D7 d&&Bi ds)=true
   rw [h1,g1]; rfl
  ·show ((toPy d).showable&&PyData.showableAll (A7 ds))=true
   rw [h2,g2]; rfl
  ·show ((toPy d).canLay0&&bd (A7 ds))=true
   rw [h3,g3]; rfl
  ·show max (toPy d).depth (a9 (A7 ds))=max (V7 d) (QC ds)
   rw [h4,g4]
  ·show ((toPy d).leavesShort 60&&fN 60 (A7 ds))=true
   rw [h5,g5]; rfl
  ·show (toPy d).weight+1+PyData.weightAll (A7 ds)<=X5 d+1+Wu ds
   omega
end
theorem Nc{B:Nat}{d:D}(hB:B<10 ^ 45)(h:Nh B d)(hd:V7 d<=100):Ds d:=by
 obtain⟨h1,h2,h3,h4,h5,h6⟩:=Oc hB h;exact⟨h1,h3,by rw [h4]; exact hd⟩
section
variable {ss:List Slot}{n:Nat}{Pd:D->Nat->Prop}
end
section
variable {ss:List Slot}{n:Nat}{Pd:D->Nat->Prop}
end
section
variable {ss:List Slot}{n:Nat}{Pd:D->Nat->Prop}
end
noncomputable def item(d:D):Prop:=Nh 1000001 d/\X5 d<=450/\V7 d<=1
theorem Rz{B:Nat}{xs:List D}(h:∀d∈xs,Nh B d):Nh B (.tup xs):=fines_iff.mpr h
theorem item_str{x:Str}(h1:x.length<=8)(h2:∀c∈cs x,c<1114112):item (.str x):=⟨h2,by show x.length<=450; omega,Zi _⟩
theorem Gj{x:Str}(h:S1 x):item (.str x):=item_str h.2.1 λc hc=>by have:=h.2.2 c hc; omega
theorem Rk{a b:Str}{l:Int}(ha:item (.str a))(hb:item (.str b))(la:a.length<=8)(lb:b.length<=8)(hl:l.natAbs<=1000001):item (.tup [.str a,.str b,.int l]):=by
 refine⟨Rz λd hd=>?_,?_,?_⟩
 ·simp only [XV,Zf,or_false] at hd
  rcases hd with rfl | rfl | rfl
  ·exact ha.1
  ·exact hb.1
  ·exact hl
 ·show a.length+1+(b.length+1+(200+1+0))<=450
  omega
 ·show max 0 (max 0 (max 0 0))+1<=1
  decide
theorem ML{N:Net}(ok:N.Ok):∀d∈N.ts.map Ao,item d:=λd hd=>by
 obtain⟨t,ht,rfl⟩:=TW.mp hd;obtain⟨h1,h2,_,h3,h4⟩:=ok.tin t ht;have n1:=ok.names _ h1;have n2:=ok.names _ h2;exact Rk (Gj n1) (Gj n2) n1.2.1 n2.2.1 (by omega)
theorem Iz{p:D->Prop}{xs:List D}(h:∀d∈xs,p d){o:Int}(h0:0<=o)(h1:o<(xs.length:Int)):∃z,atI xs o=some z/\p z:=by
 obtain⟨k,rfl⟩:∃k:Nat,o=(k:Int):=⟨o.toNat,by omega⟩;have hk:k<xs.length:=by omega
 exact⟨xs[k],AJ (No hk),h _ (Zw hk)⟩
theorem Bl(x:Str):¬cs x<cs x:=aK _
theorem z2:2<=sizeLine:=by decide
theorem z3:3<=sizeLine:=by decide
theorem z0:0<=sizeLine:=Zi _
theorem ZJ:N7 10 6:=⟨by decide,by decide,by decide⟩
section
variable {ss:List Slot}{n:Nat}{Pd:D->Nat->Prop}
end
end Nt
namespace L2
open PySem PySem.Spec PyProof.Rows
noncomputable def XA:R2:=λy x H Q=>∃a o,x=.ref a/\DGet H a y o/\Q (.bl o.isSome) H
noncomputable def Q8:R2:=λy x H Q=>∃a o,x=.ref a/\DGet H a y o/\Q (.bl (!o.isSome)) H
noncomputable def OK:R2:=λx y H Q=>∃a v,x=.ref a/\DGet H a y (some v)/\Q v H
theorem NQ{X:Cx}{k:Nat}(hr:Room k X.A):OpR X (compareOp .In) XA:=by
 intro pins s σ H y x iv u Q I ry rx ⟨a,ov,ex,g,q⟩;subst ex;obtain rfl:u=Z4 a:=rx;exact Yk (FF hr) I g ry λs3 I3=>⟨.bl ov.isSome,H,I3,rfl,q⟩
theorem Ez{X:Cx}{k:Nat}(hr:Room k X.A):OpR X (compareOp .NotIn) Q8:=by
 intro pins s σ H y x iv u Q I ry rx ⟨a,ov,ex,g,q⟩;subst ex;obtain rfl:u=Z4 a:=rx;exact UE (FF hr) I g ry λs3 I3=>⟨.bl (!ov.isSome),H,I3,rfl,q⟩
end L2
namespace Dp
open PySem PySem.Spec PyProof.Rows L2
noncomputable def BI:List Key->List D->Key->Option D
 | k0::ks,d::ds,k=>if k0=k then some d else BI ks ds k
 | _,_,_=>none
section
variable {K:Frag}{X:Cx}
theorem DV{M:Ev->Prop}{H:Hp}{k:Key}:∀{ks:List Key} {ds:List D} {vs:List V},Ats K M H ds vs ->
  match BI ks ds k with
  | some z=>∃v,Bg (ks.zip vs) k=some v/\At K M H z v
  | none=>Bg (ks.zip vs) k=none
 | [],ds,vs,h=>by unfold BI; exact rfl
 | k0::ks,[],vs,h=>by cases h; exact rfl
 | k0::ks,d::ds,vs,h=>by
  obtain⟨v,r,rfl,h1,h2⟩:=h;have ih:=DV (k:=k) (ks:=ks) h2;unfold BI
  by_cases e:k0=k
  ·rw [if_pos e]
   refine⟨v,?_,h1⟩;show Bg ((k0,v)::ks.zip r) k=some v;rw [DH e]
  ·rw [if_neg e]
   have:Bg ((k0,v)::ks.zip r) k=Bg (ks.zip r) k:=DJ e
   rw [show (k0::ks).zip (v::r)=(k0,v)::ks.zip r from rfl,this];exact ih
noncomputable def keyOf:D->Option Key
 | .int i=>some (.inl i)
 | .str x=>some (.inr x)
 | _=>none
theorem B6{U M:Ev->Prop}{H:Hp}{d:D}{v:V}{k:Key}(e:keyOf d=some k)(h:AtT K U M H d v):v=kV k:=by
 cases d with
 | int i=>cases e; exact h
 | str x=>cases e; exact h.str.1
 | _=>cases e
noncomputable def G1:D->Option (List Key×List D)
 | .dic ks ds=>some (ks,ds)
 | .fdi ks ds=>some (ks,ds)
 | _=>none
theorem FX{U M:Ev->Prop}{H:Hp}{d:D}{x:V}{ks:List Key}{ds:List D}(e:G1 d=some (ks,ds))(h:AtT K U M H d x):∃a vs,x=.ref a/\Rd H a (.dK (ks.zip vs))/\Ats K M H ds vs:=by
 cases d with
 | dic k2 d2=>cases e; obtain⟨a,vs,rfl,_,ha,_,hs⟩:=h; exact⟨a,vs,rfl,.inl ha,hs⟩
 | fdi k2 d2=>cases e; obtain⟨a,vs,rfl,⟨o,_,ha⟩,_,hs⟩:=h; exact⟨a,vs,rfl,.inr ⟨o,ha⟩,hs⟩
 | _=>cases e
theorem HU{H:Hp}{a:Ev}{kvs:List (Key×V)}{k:Key}(e:Rd H a (.dK kvs)):DGet H a (kV k) (Bg kvs k):=.inl ⟨kvs,k,e,rfl,rfl⟩
noncomputable def LF(neg:Bool)(e d:D)(P:D->Prop):Prop:=∃ks ds k,G1 d=some (ks,ds)/\keyOf e=some k/\P (.bl (if neg then !(BI ks ds k).isSome else (BI ks ds k).isSome))
noncomputable def A4(d e:D)(P:D->Prop):Prop:=∃ks ds k z,G1 d=some (ks,ds)/\keyOf e=some k/\BI ks ds k=some z/\P z
theorem Su:FK K .sh XA (LF false):=λU M H e d y x P Q dom vM hy hx w q=>by
 obtain⟨ks,ds,k,hd,he,w⟩:=w;obtain⟨a,vs,rfl,ha,hs⟩:=FX hd hx;refine⟨a,Bg (ks.zip vs) k,rfl,by rw [B6 he hy]; exact HU ha,q _ H (.bl _) .refl rfl ?_⟩;have h:=DV (k:=k) (ks:=ks) hs;cases c:BI ks ds k with
 | none=>rw [c] at h w; rw [show Bg (ks.zip vs) k=none from h]; exact w
 | some z=>rw [c] at h w; obtain⟨v,h1,_⟩:=h; rw [h1]; exact w
theorem Mm:FK K .sh Q8 (LF true):=λU M H e d y x P Q dom vM hy hx w q=>by
 obtain⟨ks,ds,k,hd,he,w⟩:=w;obtain⟨a,vs,rfl,ha,hs⟩:=FX hd hx;refine⟨a,Bg (ks.zip vs) k,rfl,by rw [B6 he hy]; exact HU ha,q _ H (.bl _) .refl rfl ?_⟩;have h:=DV (k:=k) (ks:=ks) hs;cases c:BI ks ds k with
 | none=>rw [c] at h w; rw [show Bg (ks.zip vs) k=none from h]; exact w
 | some z=>rw [c] at h w; obtain⟨v,h1,_⟩:=h; rw [h1]; exact w
theorem WM:FK K .sh OK A4:=λU M H d e x y P Q dom vM hx hy w q=>by
 obtain⟨ks,ds,k,z,hd,he,hz,w⟩:=w;obtain⟨a,vs,rfl,ha,hs⟩:=FX hd hx;have h:=DV (k:=k) (ks:=ks) hs;rw [hz] at h;obtain⟨v,h1,h2⟩:=h;exact⟨a,v,rfl,by rw [B6 he hy,← h1]; exact HU ha,q v H z .refl h2 w⟩
variable {a b:Expr}{κa κb:Kd}{wa wb:DW}{pos:Pos}
theorem A2{k:Nat}(hr:Room k X.A)(ha:DE X a κa wa)(hb:DE X b κb wb)(hs:autoParam (Sw b) zau5._auto_1):DE X (.Subscript a b pos) .sh (AY A4 wa wb):=by
 obtain⟨ta,ha1,ha2⟩:=ha;obtain⟨tb,hb1,hb2⟩:=hb;exact⟨C9 OK ta tb,Fn (FF hr) ha1 hb1 hs,λC M H n ρ σ P Q R w q=>Dy WM ha2 hb2 C M H n ρ σ P Q R w q⟩
end
end Dp
namespace So
open PySem PySem.W PyProof.Rows
section
variable {O:KeyOrd}{key:Nat->O.α}{N:Nat}{cmp:Nat->Nat->(Bool->Shared->Prop)->Shared->Prop}{s:Shared}{p p0:Array Nat}
noncomputable def KN(O:KeyOrd)(key:Nat->O.α)(p:Array Nat)(i:Nat):O.α:=key (p.getD i 0)
noncomputable def Srt(O:KeyOrd)(key:Nat->O.α)(p:Array Nat)(k:Nat):Prop:=∀i j,i<=j->j<k->O.kle (KN O key p i) (KN O key p j)
noncomputable def Xx(O:KeyOrd)(key:Nat->O.α)(p:Array Nat)(k:Nat):Prop:=∀i j,i<=j->j<k->O.kle (KN O key p j) (KN O key p i)
noncomputable def U5(O:KeyOrd)(key:Nat->O.α)(N:Nat)(cmp:Nat->Nat->(Bool->Rs->Prop)->Rs->Prop)(s:Rs):Prop:=∀(i j:Nat) (C:Bool->Rs->Prop),i<N->j<N->C (O.blt (key i) (key j)) s->cmp i j C s
noncomputable def Bd(N:Nat)(p:Array Nat):Prop:=0<N/\∀x∈p,x<N
theorem LA(p:Array Nat)(i:Nat):p.getD i 0=(p[i]?).getD 0:=by
 simp
theorem Bd.get(h:Bd N p)(i:Nat):p.getD i 0<N:=by
 rw [LA];cases e:p[i]? with
 | none=>exact h.1
 | some x=>exact h.2 x (Array.mem_of_getElem? e)
theorem Bd.perm{p':Array Nat}(h:Bd N p)(hp:p'.Perm p):Bd N p':=⟨h.1,λx hx=>h.2 x (hp.mem_iff.mp hx)⟩
theorem Ep{p q:Array Nat}{i j:Nat}(h:p[i]?=q[j]?):KN O key p i=KN O key q j:=by
 unfold KN;rw [LA,LA,h]
theorem KZ{src d:Nat}(hs:src<p.size)(hd:d<=src)(k:Nat) :
  KN O key (bubble p src d) k=if k=src - d then KN O key p src else if src - d<k/\k<=src then KN O key p (k - 1) else KN O key p k:=by
 have e:=getElem?_bubble hs d hd k
 by_cases h1:k=src - d
 ·rw [if_pos h1] at e ⊢; exact Ep e
 ·rw [if_neg h1] at e ⊢
  by_cases h2:src - d<k/\k<=src
  ·rw [if_pos h2] at e ⊢; exact Ep e
  ·rw [if_neg h2] at e ⊢; exact Ep e
theorem Gv{i j:Nat}(hj:j<=p.size)(k:Nat):KN O key (kas_rev p i j) k=if i<=k/\k<j then KN O key p (i+j - 1 - k) else KN O key p k:=by
 have e:=getElem?_mirror_all (i:=i) hj k;unfold kas_rev
 by_cases h1:i<=k/\k<j
 ·rw [if_pos h1] at e ⊢; exact Ep e
 ·rw [if_neg h1] at e ⊢; exact Ep e
theorem Bb{i j:Nat}(hj:j<=p.size)(heq:∀k,i<=k->k<j->KN O key p k=KN O key p (j - 1))(k:Nat):KN O key (kas_rev p i j) k=KN O key p k:=by
 rw [Gv hj]
 split
 ·rw [heq _ (by omega) (by omega),heq k (by omega) (by omega)]
 ·rfl
theorem B5(p:Array Nat)(i j:Nat):(kas_rev p i j).Perm p:=mirror_perm _ _ _ _
theorem yes{α:Type}{T₁ T₂:KasT α}{Q:α->Rs->Prop}(h:T₁.kasWp cmp Q s):(if true=true then T₁ else T₂).kasWp cmp Q s:=by rw [if_pos rfl]; exact h
theorem no{α:Type}{T₁ T₂:KasT α}{Q:α->Rs->Prop}(h:T₂.kasWp cmp Q s):(if false=true then T₁ else T₂).kasWp cmp Q s:=by rw [if_neg (by simp)]; exact h
theorem Nx(hC:U5 O key N cmp s)(hb:Bd N p){nrem:Nat}{G:Nat->Rs->Prop}:∀(f n:Nat),1<=n->n+f=nrem->Srt O key p n ->
  (∀m,n<=m->m<=nrem->Srt O key p m->(m=nrem\/O.klt (KN O key p m) (KN O key p (m - 1)))->G m s)->(kas_asc p f n).kasWp cmp G s
 | 0,n,_,e,hs,h=>h n (Tk _) (by omega) hs (.inl (by omega))
 | f+1,n,h1,e,hs,h=>by
  show cmp (p.getD n 0) (p.getD (n - 1) 0) (λc s'=>(if c=true then KasT.ret n else kas_asc p f (n+1)).kasWp cmp G s') s;refine hC _ _ _ (hb.get n) (hb.get _) ?_;cases hless:O.blt (key (p.getD n 0)) (key (p.getD (n - 1) 0)) with
  | true=>exact yes (h n (Tk _) (by omega) hs (.inr hless))
  | false =>
   refine no (Nx hC hb f (n+1) (by omega) (by omega) (λi j hij hj=>?_) λm m1 m2 m3 m4=>h m (by omega) m2 m3 m4)
   by_cases hjx:j<n
   ·exact hs i j hij hjx
   ·have hj':j=n:=by omega
    subst hj'
    by_cases hi':i=j
    ·subst hi'; exact ac _
    ·exact dH (hs i (j - 1) (by omega) (by omega)) hless
theorem HV(hC:U5 O key N cmp s){nrem:Nat}{G:Array Nat×Nat×Nat->Rs->Prop}:∀(f:Nat) (p:Array Nat) (n q:Nat),p.Perm p0->Bd N p->nrem<=p.size->1<=n->n+f=nrem->Xx O key p n->q+1<=n ->
  (∀i,n - (q+1)<=i->i<n->KN O key p i=KN O key p (n - 1)) ->
  (∀p' m q',p'.Perm p0->Bd N p'->p'.size=p.size->n<=m->m<=nrem->Xx O key p' m->q'+1<=m->(∀i,m - (q'+1)<=i->i<m->KN O key p' i=KN O key p' (m - 1))->G (p',m,q') s)->(kas_desc f p n q).kasWp cmp G s
 | 0,p,n,q,hp,hb,hz,h1,e,hs,hq,he,h=>h p n q hp hb rfl (Tk _) (by omega) hs hq he
 | f+1,p,n,q,hp,hb,hz,h1,e,hs,hq,he,h=>by
  show cmp (p.getD n 0) (p.getD (n - 1) 0) (λc s'=>(if c=true then (if q > 0 then kas_desc f (kas_rev p (n - (q+1)) n) (n+1) 0 else kas_desc f p (n+1) 0)
   else .ask (p.getD (n - 1) 0) (p.getD n 0) λd=>if d=true then .ret (p,n,q) else kas_desc f p (n+1) (q+1)).kasWp cmp G s') s
  refine hC _ _ _ (hb.get n) (hb.get _) ?_;cases hless:O.blt (key (p.getD n 0)) (key (p.getD (n - 1) 0)) with
  | true =>
   have hl:O.klt (KN O key p n) (KN O key p (n - 1)):=hless
   have step1:∀xs:Array Nat,(∀k,KN O key xs k=KN O key p k)->Xx O key xs (n+1):=by
    intro xs hk i j hij hj;rw [hk,hk]
    by_cases hjx:j<n
    ·exact hs i j hij hjx
    ·have hj':j=n:=by omega
     subst hj'
     by_cases hi':i=j
     ·subst hi'; exact ac _
     ·exact dH (c8 hl) (hs i (j - 1) (by omega) (by omega))
   refine yes ?_;have hsz:n<=p.size:=by omega
   by_cases hq0:q > 0
   ·rw [if_pos hq0]
    refine HV hC f _ (n+1) 0 ((B5 _ _ _).trans hp) (hb.perm (B5 _ _ _)) (by rw [kas_rev_size]; exact hz) (by omega) (by omega) (step1 _ (Bb hsz he)) (by omega) (λi a b=>by congr 1; omega) λp' m q' a1 a2 a3 a4 a5 a6 a7 a8=>h p' m q' a1 a2 (a3.trans (kas_rev_size _ _)) (by omega) a5 a6 a7 a8
   ·rw [if_neg hq0]
    exact HV hC f _ (n+1) 0 hp hb hz (by omega) (by omega) (step1 _ λ_=>rfl) (by omega) (λi a b=>by congr 1; omega) λp' m q' a1 a2 a3 a4 a5 a6 a7 a8=>h p' m q' a1 a2 a3 (by omega) a5 a6 a7 a8
  | false =>
   refine no ?_;show cmp (p.getD (n - 1) 0) (p.getD n 0) (λd s'=>(if d=true then KasT.ret (p,n,q) else kas_desc f p (n+1) (q+1)).kasWp cmp G s') s;refine hC _ _ _ (hb.get _) (hb.get n) ?_;cases hlarger:O.blt (key (p.getD (n - 1) 0)) (key (p.getD n 0)) with
   | true=>exact yes (h p n q hp hb rfl (Tk _) (by omega) hs hq he)
   | false =>
    have heqx:KN O key p n=KN O key p (n - 1):=fg (O:=O) hlarger hless;refine no (HV hC f p (n+1) (q+1) hp hb hz (by omega) (by omega) (λi j hij hj=>?_) (by omega) (λi a b=>?_) λp' m q' a1 a2 a3 a4 a5 a6 a7 a8=>h p' m q' a1 a2 a3 (by omega) a5 a6 a7 a8)
    ·by_cases hjx:j<n
     ·exact hs i j hij hjx
     ·have hj':j=n:=by omega
      subst hj'
      by_cases hi':i=j
      ·subst hi'; exact ac _
      ·rw [heqx]; exact hs i (j - 1) (by omega) (by omega)
    ·rw [show n+1 - 1=n by omega]
     by_cases hix:i=n
     ·subst hix; rfl
     ·rw [heqx]; exact he i (by omega) (by omega)
theorem Ll(hC:U5 O key N cmp s){n nrem:Nat}{G:Nat×Array Nat->Rs->Prop}(hp:p.Perm p0)(hb:Bd N p)(hz:nrem<=p.size)(h1:1<=n)(hn:n<=nrem)(hs:Xx O key p n)
  (h:∀m p',p'.Perm p0->Bd N p'->p'.size=p.size->1<=m->m<=nrem->Srt O key p' m->G (m,p') s):(kas_tail3 n nrem p).kasWp cmp G s:=by
 unfold kas_tail3;rw [KasT.kasWp_bind];have hsz:n<=p.size:=by omega
 refine Nx hC (hb.perm (B5 _ _ _)) (nrem - n) n h1 (by omega) (λi j hij hj=>?_) λm m1 m2 m3 _=>h m _ ((B5 _ _ _).trans hp) (hb.perm (B5 _ _ _)) (kas_rev_size _ _) (by omega) m2 m3;rw [Gv hsz,Gv hsz,if_pos (by omega),if_pos (by omega)];exact hs _ _ (by omega) (by omega)
theorem G2(hC:U5 O key N cmp s){n nrem:Nat}{G:Nat×Array Nat->Rs->Prop}(hp:p.Perm p0)(hb:Bd N p)(hz:nrem<=p.size)(hn:n+1<=nrem)(hs:Xx O key p (n+1))
  (h:∀m p',p'.Perm p0->Bd N p'->p'.size=p.size->1<=m->m<=nrem->Srt O key p' m->G (m,p') s):(kas_descPart n nrem p).kasWp cmp G s:=by
 unfold kas_descPart;rw [KasT.kasWp_bind];refine HV (p0:=p0) hC (nrem - (n+1)) p (n+1) 0 hp hb hz (by omega) (by omega) hs (by omega) (λi a b=>by congr 1; omega) λp' m q' a1 a2 a3 a4 a5 a6 a7 a8=>?_;have hsz:m<=p'.size:=by omega
 show (if q' > 0 then kas_tail3 m nrem (kas_rev p' (m - (q'+1)) m) else kas_tail3 m nrem p').kasWp cmp G s
 by_cases hq0:q' > 0
 ·rw [if_pos hq0]
  refine Ll hC ((B5 _ _ _).trans a1) (a2.perm (B5 _ _ _)) (by rw [kas_rev_size]; omega) (by omega) a5 (λi j hij hj=>?_) λm' p'' b1 b2 b3 b4 b5 b6=>h m' p'' b1 b2 (b3.trans ((kas_rev_size _ _).trans a3)) b4 b5 b6;rw [Bb hsz a8,Bb hsz a8];exact a6 i j hij hj
 ·rw [if_neg hq0]
  exact Ll hC a1 a2 (by omega) (by omega) a5 a6 λm' p'' b1 b2 b3 b4 b5 b6=>h m' p'' b1 b2 (b3.trans a3) b4 b5 b6
theorem SV(hC:U5 O key N cmp s){nrem:Nat}{G:Nat×Array Nat->Rs->Prop}(hp:p.Perm p0)(hb:Bd N p)(hz:nrem<=p.size)(h1:1<=nrem)
  (h:∀m p',p'.Perm p0->Bd N p'->p'.size=p.size->1<=m->m<=nrem->Srt O key p' m->G (m,p') s):(kas_count nrem p).kasWp cmp G s:=by
 unfold kas_count;rw [KasT.kasWp_bind];refine Nx (nrem:=nrem) hC hb (nrem - 1) 1 (Tk _) (by omega) (λi j hij hj=>by have:i=j:=(by omega); subst this; exact ac _) λn hn1 hn2 hsn hor=>?_
 by_cases hnn:n=nrem
 ·rw [if_pos (by simpa using hnn)]
  exact h n p hp hb rfl hn1 hn2 hsn
 ·rw [if_neg (by simpa using hnn)]
  have hlt:O.klt (KN O key p n) (KN O key p (n - 1)):=hor.resolve_left hnn
  by_cases hgt:n > 1
  ·rw [if_pos hgt]
   show cmp (p.getD 0 0) (p.getD (n - 1) 0) (λc s'=>(if c=true then KasT.ret (n,p) else kas_descPart n nrem (kas_rev p 0 n)).kasWp cmp G s') s;refine hC _ _ _ (hb.get _) (hb.get _) ?_;cases hrose:O.blt (key (p.getD 0 0)) (key (p.getD (n - 1) 0)) with
   | true=>exact yes (h n p hp hb rfl hn1 hn2 hsn)
   | false =>
    have hrose':O.kle (KN O key p (n - 1)) (KN O key p 0):=hrose;have hsz:n<=p.size:=by omega
    have hall:∀k,0<=k->k<n->KN O key p k=KN O key p (n - 1):=by
     intro k _ hk;have a1:=hsn 0 k (by omega) hk;have a2:=hsn k (n - 1) (by omega) (by omega);exact fg a2 (dH hrose' a1)
    refine no (G2 hC ((B5 _ _ _).trans hp) (hb.perm (B5 _ _ _)) (by rw [kas_rev_size]; exact hz) (by omega) (λi j hij hj=>?_) λm' p'' b1 b2 b3 b4 b5 b6=>h m' p'' b1 b2 (b3.trans (kas_rev_size _ _)) b4 b5 b6);rw [Bb hsz hall,Bb hsz hall]
    by_cases hjn:j<n
    ·rw [hall i (by omega) (by omega),hall j (by omega) hjn]; exact ac _
    ·have hj':j=n:=by omega
     subst hj'
     by_cases hi':i=j
     ·subst hi'; exact ac _
     ·rw [hall i (by omega) (by omega)]; exact c8 hlt
  ·rw [if_neg hgt]
   have hn1':n=1:=by omega
   subst hn1';refine G2 hC hp hb hz (by omega) (λi j hij hj=>?_) h
   by_cases hi':i=j
   ·subst hi'; exact ac _
   ·have hi0:i=0:=by omega
    have hj1:j=1:=by omega
    subst hi0; subst hj1
    exact c8 hlt
theorem II(hC:U5 O key N cmp s)(hb:Bd N p){k:Nat}(hs:Srt O key p k){G:Nat->Rs->Prop}
  (h:∀l,l<=k->(∀i,i<l->O.kle (KN O key p i) (KN O key p k))->(∀i,l<=i->i<k->O.klt (KN O key p k) (KN O key p i))->G l s):∀(f l r:Nat),l<=r->r<=k->r - l<=f ->
  (∀i,i<l->O.kle (KN O key p i) (KN O key p k))->(∀i,r<=i->i<k->O.klt (KN O key p k) (KN O key p i))->(kas_place p k f l r).kasWp cmp G s
 | 0,l,r,hlr,hrk,hm,hlo,hhi=>by
  have:l=r:=by omega
  subst this;exact h l hrk hlo hhi
 | f+1,l,r,hlr,hrk,hm,hlo,hhi=>by
  unfold kas_place
  by_cases hge:l≥r
  ·rw [if_pos hge]
   have:l=r:=by omega
   subst this;exact h l hrk hlo hhi
  ·rw [if_neg hge]
   show cmp (p.getD k 0) (p.getD ((l+r) / 2) 0) (λc s'=>(if c=true then kas_place p k f l ((l+r) / 2) else kas_place p k f ((l+r) / 2+1) r).kasWp cmp G s') s;refine hC _ _ _ (hb.get _) (hb.get _) ?_;cases hless:O.blt (key (p.getD k 0)) (key (p.getD ((l+r) / 2) 0)) with
   | true =>
    have hl:O.klt (KN O key p k) (KN O key p ((l+r) / 2)):=hless;exact yes (II hC hb hs h f l ((l+r) / 2) (by omega) (by omega) (by omega) hlo λi h1 h2=>KeyOrd.klt_of_klt_of_kle hl (hs _ _ h1 h2))
   | false =>
    have hl:O.kle (KN O key p ((l+r) / 2)) (KN O key p k):=hless;exact no (II hC hb hs h f ((l+r) / 2+1) r (by omega) (by omega) (by omega) (λi h1=>dH (hs i ((l+r) / 2) (by omega) (by omega)) hl) hhi)
theorem Dy(hC:U5 O key N cmp s){n:Nat}{G:Array Nat->Rs->Prop}(h:∀p',p'.Perm p0->Srt O key p' n->G p' s):∀(f:Nat) (p:Array Nat) (k:Nat),p.Perm p0->Bd N p->n<=p.size->k+f=n->Srt O key p k->(kas_bin f p k).kasWp cmp G s
 | 0,p,k,hp,hb,hz,e,hs=>h p hp (by rw [← e]; exact hs)
 | f+1,p,k,hp,hb,hz,e,hs=>by
  rw [show kas_bin (f+1) p k=(kas_place p k k 0 k).bind λl=>kas_bin f (bubble p k (k - l)) (k+1) from rfl,KasT.kasWp_bind];refine II hC hb hs (λl hlk hlo hhi=>?_) k 0 k (Zi _) (Tk _) (by omega) (λi hi=>by omega) λi a b=>by omega
  have hks:k<p.size:=by omega
  refine Dy hC h f _ (k+1) ((bubble_perm _ _ _).trans hp) (hb.perm (bubble_perm _ _ _)) (by rw [bubble_size]; exact hz) (by omega) λi j hij hj=>?_;rw [KZ hks (by omega),KZ hks (by omega),show k - (k - l)=l by omega]
  by_cases hi1:i=l
  ·rw [if_pos hi1]
   by_cases hj1:j=l
   ·rw [if_pos hj1]; exact ac _
   ·rw [if_neg hj1,if_pos (by omega)]
    exact c8 (hhi (j - 1) (by omega) (by omega))
  ·rw [if_neg hi1]
   by_cases hi2:l<i/\i<=k
   ·rw [if_pos hi2,if_neg (by omega),if_pos (by omega)]
    exact hs (i - 1) (j - 1) (by omega) (by omega)
   ·rw [if_neg hi2]
    by_cases hj1:j=l
    ·rw [if_pos hj1]; exact hlo i (by omega)
    ·rw [if_neg hj1]
     by_cases hj2:l<j/\j<=k
     ·rw [if_pos hj2]
      exact hs i (j - 1) (by omega) (by omega)
     ·rw [if_neg hj2]
      exact hs i j hij (by omega)
theorem sort_ok{n:Nat}(h1:1<=n)(hC:U5 O key n cmp s){G:Array Nat->Rs->Prop}(h:∀p,p.Perm (Zr (Z7 n))->Srt O key p n->G p s):(kas_sort n).kasWp cmp G s:=by
 unfold kas_sort;rw [KasT.kasWp_bind];have hb:Bd n (Zr (Z7 n)):=⟨h1,λx hx=>by simpa using hx⟩;have hsz:(Zr (Z7 n)).size=n:=by simp
 refine SV hC (fE _) hb (by omega) h1 λm p' a1 a2 a3 a4 a5 a6=>?_;show (if m<n then kas_bin (n - max m 1) p' (max m 1) else KasT.ret p').kasWp cmp G s
 by_cases hlt:m<n
 ·rw [if_pos hlt,show max m 1=m by omega]
  exact Dy (p0:=Zr (Z7 n)) hC h (n - m) p' m a1 a2 (by omega) (by omega) a6
 ·rw [if_neg hlt]
  exact h p' a1 (by rw [show n=m by omega]; exact a6)
end
end So
namespace L2
open PySem PySem.Spec PyProof.Rows PySem.W
noncomputable def Vo:Key->Key->Bool
 | .inl i,.inl j=>decide (i<j)
 | .inr x,.inr y=>decide (x.cps.toList<y.cps.toList)
 | .inl _,.inr _=>true
 | .inr _,.inl _=>false
noncomputable def BY:List Key->List Key->Bool
 | [],[]=>false
 | [],_::_=>true
 | _::_,[]=>false
 | x::xs,y::ys=>if x=y then BY xs ys else Vo x y
theorem Na:∀x:Key,Vo x x=false
 | .inl i=>decide_eq_false (Int.lt_irrefl i)
 | .inr x=>decide_eq_false (aK _)
theorem Pr:∀x y z:Key,Vo x y=true->Vo y z=true->Vo x z=true
 | .inl i,.inl j,.inl k,h1,h2=>decide_eq_true (Int.lt_trans (of_decide_eq_true h1) (of_decide_eq_true h2))
 | .inr i,.inr j,.inr k,h1,h2=>decide_eq_true (b7 (of_decide_eq_true h1) (of_decide_eq_true h2))
 | .inl i,.inl j,.inr k,_,_=>rfl
 | .inl i,.inr j,.inr k,_,_=>rfl
 | .inl i,.inr j,.inl k,_,h=>by cases h
 | .inr i,.inl j,_,h,_=>by cases h
 | .inr i,.inr j,.inl k,_,h=>by cases h
theorem Ps:∀x y:Key,Vo x y=false->Vo y x=false->x=y
 | .inl i,.inl j,h1,h2=>congrArg cG (by have a:=of_decide_eq_false h1; have b:=of_decide_eq_false h2; omega)
 | .inr x,.inr y,h1,h2=>by
  have a:=of_decide_eq_false h1;have b:=of_decide_eq_false h2;have e:x.cps.toList=y.cps.toList:=List.le_antisymm (as:=x.cps.toList) (bs:=y.cps.toList) b a;obtain⟨u⟩:=x;obtain⟨v⟩:=y;exact congrArg aD (congrArg Str.mk (Array.ext' e))
 | .inl i,.inr j,h,_=>by cases h
 | .inr i,.inl j,_,h=>by cases h
theorem CP:∀x:List Key,BY x x=false
 | []=>rfl
 | x::xs=>by unfold BY; rw [if_pos rfl]; exact CP xs
theorem Cq:∀x y z:List Key,BY x y=true->BY y z=true->BY x z=true
 | [],[],_,h,_=>by cases h
 | [],_::_,[],_,h=>by cases h
 | [],_::_,_::_,_,_=>rfl
 | _::_,[],_,h,_=>by cases h
 | _::_,_::_,[],_,h=>by cases h
 | x::xs,y::ys,z::zs,h1,h2=>by
  unfold BY at h1 h2 ⊢
  by_cases e1:x=y
  ·subst e1
   rw [if_pos rfl] at h1
   by_cases e2:x=z
   ·subst e2
    rw [if_pos rfl] at h2 ⊢;exact Cq xs ys zs h1 h2
   ·rw [if_neg e2] at h2 ⊢
    exact h2
  ·rw [if_neg e1] at h1
   by_cases e2:y=z
   ·subst e2
    rw [if_neg e1];exact h1
   ·rw [if_neg e2] at h2
    have h3:=Pr x y z h1 h2
    by_cases e3:x=z
    ·subst e3
     rw [Na] at h3;cases h3
    ·rw [if_neg e3]
     exact h3
theorem CI:∀x y:List Key,BY x y=false->BY y x=false->x=y
 | [],[],_,_=>rfl
 | [],_::_,h,_=>by cases h
 | _::_,[],_,h=>by cases h
 | x::xs,y::ys,h1,h2=>by
  unfold BY at h1 h2
  by_cases e:x=y
  ·subst e
   rw [if_pos rfl] at h1 h2;rw [CI xs ys h1 h2]
  ·rw [if_neg e] at h1
   rw [if_neg (λz=>e z.symm)] at h2;exact absurd (Ps x y h1 h2) e
noncomputable def PZ:KeyOrd:=⟨List Key,BY,CP,Cq,λa b c h=>by
 cases h1:BY a b with
 | true=>exact .inl rfl
 | false =>
  cases h2:BY b a with
  | true=>exact .inr (Cq b a c h2 h)
  | false=>rw [← CI a b h1 h2]; exact .inr h,CI⟩
theorem HQ:∀x y:List Key,Bs x y=true->EN x y=BY x y
 | [],[],_=>rfl
 | [],_::_,_=>rfl
 | _::_,[],_=>rfl
 | x::xs,y::ys,h=>by
  have h':(Jq x y&&Bs xs ys)=true:=h;rw [Zl] at h';unfold EN BY
  by_cases e:x=y
  ·rw [if_pos e,if_pos e]; exact HQ xs ys h'.2
  ·rw [if_neg e,if_neg e]
   cases x with
   | inl i=>cases y with
    | inl j=>rfl
    | inr z=>cases h'.1
   | inr i=>cases y with
    | inl j=>cases h'.1
    | inr z=>rfl
section
variable {prog:Program}{w:World}{A:Around}{E:Value->Shared->Prop}{s:Shared}
theorem Rb{b:Bool}{Q:Bool->Rs->Prop}{nx ny:Nat}:∀(ns ms:List Key) (us ws:List FM) (i:Nat),Vals (ns.map kOf) us->Vals (ms.map kOf) ws->Bs ns ms=true->ns.length+ny=ms.length+nx->Q (EN ns ms) s ->
  KatLex prog w A b (decide (nx<ny)) Q (us.zip ws) i s
 | [],[],us,ws,i,h1,h2,_,hl,q=>by
  cases h1;cases h2;refine kat_nil ?_;rw [show decide (nx<ny)=false from decide_eq_false (by simp only [aQ] at hl; omega)];exact q
 | [],m::ms,us,ws,i,h1,h2,_,hl,q=>by
  cases h1;rw [List.zip_nil_left];refine kat_nil ?_;rw [show decide (nx<ny)=true from decide_eq_true (by simp only [aQ,Za] at hl; omega)];exact q
 | n::ns,[],us,ws,i,h1,h2,_,hl,q=>by
  cases h2;rw [List.zip_nil_right];refine kat_nil ?_;rw [show decide (nx<ny)=false from decide_eq_false (by simp only [aQ,Za] at hl; omega)];exact q
 | n::ns,m::ms,us,ws,i,h1,h2,hs,hl,q=>by
  have hs':(Jq n m&&Bs ns ms)=true:=hs;rw [Zl] at hs';have q':Q (if n=m then EN ns ms else X8 n m) s:=q;cases h1 with
  | @cons _ u _ ur r1 t1 =>
   cases h2 with
   | @cons _ v _ vr r2 t2 =>
    rw [eA];have ih:n=m->KatLex prog w A b (decide (nx<ny)) Q (ur.zip vr) (i+1) s:=λe=>Rb ns ms ur vr (i+1) t1 t2 hs'.2 (by simp only [Za] at hl; omega) (by rw [if_pos e] at q'; exact q');cases n with
    | inl x =>
     cases m with
     | inr y=>cases hs'.1
     | inl y =>
      obtain⟨tu,rfl⟩:=r1;obtain⟨tv,rfl⟩:=r2;refine kat_cons (wpAny_eqBool_int ?_)
      by_cases e:x=y
      ·rw [show (x==y)=true by simpa using e]
       exact kat_yes (ih (by rw [e]))
      ·rw [show (x==y)=false by simpa using e]
       refine kat_no ?_;rw [if_neg (λz=>e (fu z))] at q';cases hf:(b&&i==0) with
       | true=>exact oneLt_int q'
       | false=>exact kat_one _ _ (fH (show PySem.W.BoolBack Q (.bool (decide (x<y))) s from q'))
    | inr x =>
     cases m with
     | inl y=>cases hs'.1
     | inr y =>
      obtain⟨tu,rfl⟩:=r1;obtain⟨tv,rfl⟩:=r2;refine kat_cons (wpAny_eqBool_str ?_)
      by_cases e:x=y
      ·rw [show decide (x=y)=true by simpa using e]
       exact kat_yes (ih (by rw [e]))
      ·rw [show decide (x=y)=false by simpa using e]
       refine kat_no ?_;rw [if_neg (λz=>e (am z))] at q';cases hf:(b&&i==0) with
       | true=>exact oneLt_str q'
       | false=>exact kat_one _ _ (PySem.P.lt_str (show PySem.W.BoolBack Q (.bool (decide (x.cps.toList<y.cps.toList))) s from q'))
structure O4 (h:Zk) (ks:List FM) (keys:List (List Key)):Prop where
 at_:∀(i:Nat) (ns:List Key),keys[i]?=some ns->∃a o its n,ks[i]?=some (.ref a)/\h.get? a=some o/\o.cls=.type "tuple"/\o.data=.seq its n/\Vals (ns.map kOf) its.toList
 len:ks.length=keys.length
 same:∀x∈keys,∀y∈keys,Bs x y=true
 ne:∀x∈keys,x≠[]
noncomputable def X2:Key->String
 | .inl _ => "int"
 | .inr _ => "str"
theorem firsts{h:Zk}:∀(ks:List FM) (keys:List (List Key)) (T:String),ks.length=keys.length->(∀(i:Nat) (ns:List Key),keys[i]?=some ns->∃a o its n,ks[i]?=some (.ref a)/\h.get? a=some o/\o.cls=.type "tuple"/\o.data=.seq its n/\Vals (ns.map kOf) its.toList) ->
  (∀x∈keys,∃k r,x=k::r/\X2 k=T)->∃fs:List FM,KatTups h ks fs/\fs.length=keys.length/\∀v∈fs,typeOf v=pure (.type T)
 | [],[],T,_,_,_=>⟨[],trivial,rfl,λv hv=>by cases hv⟩
 | [],_::_,T,hl,_,_=>by cases hl
 | _::_,[],T,hl,_,_=>by cases hl
 | k::ks,x::keys,T,hl,h1,h2=>by
  obtain⟨fs,g1,g2,g3⟩:=firsts ks keys T (by simpa using hl) (λi ns e=>by
   obtain⟨a,o,its,n,e1,r⟩:=h1 (i+1) ns (by simpa using e);exact⟨a,o,its,n,by simpa using e1,r⟩) λy hy=>h2 y (Sc _ hy)
  obtain⟨a,o,its,n,e1,e2,e3,e4,e5⟩:=h1 0 x rfl;have e1:k=.ref a:=by simpa using e1
  subst e1;obtain⟨k,r,rfl,hk⟩:=h2 x Re;rw [ZX] at e5;cases hits:its.toList with
  | nil=>rw [hits] at e5; cases e5
  | cons f tl =>
   rw [hits] at e5;cases e5 with
   | cons r1 r2 =>
    refine⟨f::fs,KatTups.cons e2 e3 e4 (by rw [← cH,hits]; rfl) g1,by rw [Za,Za,g2],λv hv=>?_⟩
    rcases XV.mp hv with rfl | hv
    ·cases k with
     | inl i=>obtain⟨t,rfl⟩:=r1; subst hk; rfl
     | inr i=>obtain⟨t,rfl⟩:=r1; subst hk; rfl
    ·exact g3 v hv
theorem Jm{ks:List FM}{keys:List (List Key)}(K:O4 s.heap ks keys)(h2:2<=ks.length){G:Array Nat->Rs->Prop}(h:∀p,p.Perm (Zr (Z7 ks.length))->So.Srt PZ (λi=>keys.getD i []) p ks.length->G p s) :
  wpAny (model prog w) A (keyKind' ks.toArray) (λκ s'=>(kas_sort ks.length).kasWp (kas_ask prog w A κ ks) G s') (λ_ _=>False) s:=by
 obtain⟨x0,xr,hx⟩:∃x0 xr,keys=x0::xr:=by
  cases e:keys with
  | nil=>have:=K.len; rw [e] at this; simp only [aQ] at this; omega
  | cons x r=>exact⟨x,r,rfl⟩
 have m0:x0∈keys:=by rw [hx]; exact Re
 obtain⟨k0,r0,e0⟩:∃k r,x0=k::r:=by
  cases e:x0 with
  | nil=>exact absurd e (K.ne x0 m0)
  | cons k r=>exact⟨k,r,rfl⟩
 have hty:∀x∈keys,∃k r,x=k::r/\X2 k=X2 k0:=λx hm=>by
  cases e:x with
  | nil=>exact absurd e (K.ne x hm)
  | cons k r =>
   refine⟨k,r,rfl,?_⟩;have hsm:=K.same x hm x0 m0;rw [e,e0] at hsm;have hsm:(Jq k k0&&Bs r r0)=true:=hsm;rw [Zl] at hsm;cases k with
   | inl i=>cases k0 with
    | inl j=>rfl
    | inr j=>cases hsm.1
   | inr i=>cases k0 with
    | inl j=>cases hsm.1
    | inr j=>rfl
 obtain⟨fs,g1,g2,g3⟩:=firsts ks keys (X2 k0) K.len K.at_ hty;refine kat_kind g1 (by rw [g2,← K.len]; omega) (λv hv=>by rw [g3 v hv]; exact Looks.now) (by simp) ?_;refine So.sort_ok (O:=PZ) (key:=λi=>keys.getD i []) (by omega) (λi j C hi hj hC=>?_) h;have hi':i<keys.length:=by rw [← K.len]; exact hi
 have hj':j<keys.length:=by rw [← K.len]; exact hj
 obtain⟨a,o,its,n,e1,e2,e3,e4,e5⟩:=K.at_ i keys[i] (No hi');obtain⟨a',o',its',n',e1',e2',e3',e4',e5'⟩:=K.at_ j keys[j] (No hj');unfold kas_ask;rw [show ks.getD i Z0=.ref a by rw [Zx,e1]; rfl,show ks.getD j Z0=.ref a' by rw [Zx,e1']; rfl];have hsm:=K.same _ (Zw hi') _ (Zw hj');refine kat_lt e2 e4 e2' e4' (Rb keys[i] keys[j] _ _ 0 e5 e5' hsm ?_ ?_)
 ·have l1:=e5.length
  have l2:=e5'.length;have l3:(keys[i].map kOf).length=keys[i].length:=On ..;have l4:(keys[j].map kOf).length=keys[j].length:=On ..;have l5:its.toList.length=its.size:=Z5;have l6:its'.toList.length=its'.size:=Z5;omega
 ·rw [HQ _ _ hsm]
  have g1:keys.getD i []=keys[i]:=by rw [Zx,No hi']; rfl
  have g2:keys.getD j []=keys[j]:=by rw [Zx,No hj']; rfl
  have hC':C (BY (keys.getD i []) (keys.getD j [])) s:=hC;rw [g1,g2] at hC';exact hC'
theorem DX{v:FM}{kw:List (Str×FM)}{Q:FM->Rs->Prop}(ha1:argsOk "sorted" ⟨[v],kw⟩)(ha2:∀x,argsOk "list.sort" ⟨[.ref x],kw⟩)
  (hc:wpAny (model prog w) A.in1 (collect v) (λvs s1=>vs.length<=sizeLine/\wpAny (model prog w) A.in1.in1 (bp.«list.sort» ⟨[.ref s1.heap.objs.size],kw⟩) (λfin s'=>fin=.done (.ret .none)/\Q (.ref s1.heap.objs.size) s') E { s1 with heap:=s1.heap.push (seqObj "list" vs.toArray 0) }) E s) :
  wpAny (model prog w) A (call (.builtin "sorted") [v] kw) Q E s:=by
 refine call_function_entry_kw kind_sorted plain_sorted entry_sorted ha1 ?_;unfold bp.«sorted»;refine Db (m:=checkCount "sorted" 1 1 _) (TM ?_);refine Db (aJ hc (λvs s1 h=>?_) λ_ _ x=>x);refine Db (eM ?_ h.1);have hoL:(s1.heap.push (seqObj "list" vs.toArray 0)).get? s1.heap.objs.size=some (seqObj "list" vs.toArray 0):=Uf _ rfl;refine Db (aN (wpAny_call_entry_kw PyProof.Rows.slot_list_sort ⟨_,hoL,rfl⟩ PyProof.Rows.entry_list_sort (aJ h.2 (λfin s' hf=>?_) λ_ _ x=>x) (ha2 _)));exact⟨_,hf.1,TM ⟨_,rfl,hf.2⟩⟩
noncomputable def Cy(h:Zk)(D:Ev)(vs:List FM):Zk:=((h.update D (Z_ λ_=>(#[]:Array FM))).push (seqObj "tuple" vs.toArray 0)).push (seqObj "list" #[] 0)
theorem GR{h:Zk}{D:Ev}{vs:List FM}{b:Ev}{o:Obj}(hb:b≠D)(e:h.get? b=some o):(Cy h D vs).get? b=some o :=
 Op _ (Op _ ((Zm _ _ (aI hb)).trans e))
theorem Hr{h:Zk}{D:Ev}{vs:List FM}{n:Nat}(ho:h.get? D=some (seqObj "list" vs.toArray n)):∃e1,(Cy h D vs).get? D=some (seqObj "list" #[] e1)/\(h.update D (Z_ λ_=>(#[]:Array FM))).get? D=some (seqObj "list" #[] e1):=by
 obtain⟨e1,ho1⟩:∃e1,(h.update D (Z_ λ_=>(#[]:Array FM))).get? D=some (seqObj "list" #[] e1):=⟨_,cE ho λ_=>#[]⟩;exact⟨e1,Op _ (Op _ ho1),ho1⟩
theorem ME{D:Ev}{vs:List FM}{n:Nat}{P:PySem.Fin->Rs->Prop}{G:Array Nat->Prop}(ho:s.heap.get? D=some (seqObj "list" vs.toArray n))(h64:vs.length<64)
  (hk:2<=vs.length->wpAny (model prog w) A (keyKind' vs.toArray) (λκ s'=>(kas_sort vs.length).kasWp (kas_ask prog w A κ vs) (λp s''=>s''={ s with heap:=Cy s.heap D vs }/\G p) s') (λ_ _=>False) { s with heap:=Cy s.heap D vs })
  (h1:vs.length<2->G (Zr (Z7 vs.length))) (hfin:∀(p:Array Nat) (h':Zk) (c:Nat),p.size=vs.length->G p->(∀b o,b≠D->s.heap.get? b=some o->h'.get? b=some o)->h'.get? D=some (seqObj "list" (Zr (p.toList.map λi=>vs.getD i Z0)) c)->P (.done (.ret .none)) { s with heap:=h' }) :
  wpAny (model prog w) A (bp.«list.sort» ⟨[.ref D],[]⟩) P E s:=by
 obtain⟨e1,ho6,ho1⟩:=Hr ho
 have fin:∀(p:Array Nat),p.size=vs.length->G p->P (.done (.ret .none)) { s with heap:=(Cy s.heap D vs).update D (Z_ λ_=>Zr (p.toList.map λi=>vs.getD i Z0)) }:=λp hp hg=>by
  obtain⟨c2,hc2⟩:∃c2,((Cy s.heap D vs).update D (Z_ λ_=>Zr (p.toList.map λi=>vs.getD i Z0))).get? D=some (seqObj "list" (Zr (p.toList.map λi=>vs.getD i Z0)) c2):=⟨_,cE ho6 λ_=>Zr (p.toList.map λi=>vs.getD i Z0)⟩;exact hfin p _ c2 hp hg (λb o hb e=>(Zm _ _ (aI hb)).trans (GR hb e)) hc2
 rw [list_sort_plain];refine Db (dY ho rfl ?_);refine Db (bb ho rfl ?_ (by rw [UF,Z2]; omega) (Zi _));refine Db (d7 ho1 rfl ?_);refine Db (wpAny_newTuple ?_ (by show vs.length<=_; rw [Z2]; omega));refine Db (eM ?_ (Zi _));refine aN ?_;show wpAny (model prog w) A _ P E { s with heap:=Cy s.heap D vs }
 dsimp only
 by_cases h2:vs.length<2
 ·have h2':vs.toArray.size<2:=by rw [UF]; exact h2
  rw [if_pos h2',if_pos h2'];refine Db (TM ?_);rw [StateT.run_pure];refine Db (TM ?_)
  dsimp only
  refine Db (d7 ho6 rfl ?_);have hsz:(Zr (Z7 vs.length)).size=vs.length:=by simp
  have hout:(arrOf (SortSt.mk' general' (vs.toArray.zip vs.toArray) #[] 7 none)).map (·.2)=Zr ((Zr (Z7 vs.length)).toList.map λi=>vs.getD i Z0):=by
   refine kat_snds rfl ?_;have e:=kas_range (vs.toArray.zip vs.toArray);rw [show (vs.toArray.zip vs.toArray).size=vs.length by simp] at e;exact e.symm
  rw [hout];refine Db (bb ho6 rfl ?_ (Zi _) (by rw [UF,On,Z5,hsz,Z2]; omega));simp only [bne_self_eq_false,aS,if_false];exact TM (fin _ hsz (h1 h2))
 ·have h2':¬vs.toArray.size<2:=by rw [UF]; exact h2
  rw [if_neg h2',if_neg h2'];refine Db (aJ (hk (by omega)) (λκ s0 hk=>?_) λ_ _ x=>x.elim)
  refine Db (aJ (kat_run (Q:=λst' s'=>∃p:Array Nat,p.size=vs.length/\arrOf st'=p.map (kas_item (vs.toArray.zip vs.toArray))/\failedOf st'=none/\s'={ s with heap:=Cy s.heap D vs }/\G p)
   rfl (by omega) h64 (λp' st' s' a1 a2 a3 a4=>⟨p',a1,a2,a3,a4⟩) hk) ?_ λ_ _ e=>e)
  rintro ⟨⟨⟩,st'⟩ s' ⟨p,hp,har,hf,rfl,hg⟩
  dsimp only
  have hout:=kat_snds rfl har;have hsz:(Zr (p.toList.map λi=>vs.getD i Z0)).size=vs.length:=by rw [UF,On,Z5,hp]
  rw [hout];refine Db (d7 ho6 rfl ?_);refine Db (bb ho6 rfl ?_ (Zi _) (Zu (ei hsz) (by rw [Z2]; omega)));rw [hf];simp only [bne_self_eq_false,aS,if_false];exact TM (fin p hp hg)
theorem Pt{D:Ev}{f:FM}{vs:List FM}{n:Nat}{P:PySem.Fin->Rs->Prop}(ho:s.heap.get? D=some (seqObj "list" vs.toArray n))(h64:vs.length<64)(J:List FM->Rs->Prop)(kS:Ev)(hkS:kS=s.heap.objs.size+1)
  (h0:∀e1,(Cy s.heap D vs).get? D=some (seqObj "list" #[] e1)->J [] { s with heap:=Cy s.heap D vs })
  (hstep:∀(ks:List FM) (s':Rs) (e:Nat) (v:FM),J ks s'->s'.heap.get? kS=some (seqObj "list" ks.toArray e)->vs[ks.length]?=some v->wpAny (model prog w) A (call f [v]) (λk s''=>s''.heap.get? kS=some (seqObj "list" ks.toArray e)/\J (ks++[k]) { s'' with heap:=s''.heap.update kS (Z_ (·.push k)) }) (λ_ _=>False) s')
  (hend:∀(e1:Nat),(Cy s.heap D vs).get? D=some (seqObj "list" #[] e1)->∀(ks:List FM) (s':Rs),J ks s'->ks.length=vs.length->s'.heap.get? D=some (seqObj "list" #[] e1)/\∃G:Array Nat->Prop,
   (2<=vs.length->wpAny (model prog w) A (keyKind' ks.toArray) (λκ s2=>(kas_sort vs.length).kasWp (kas_ask prog w A κ ks) (λp s''=>s''=s'/\G p) s2) (λ_ _=>False) s')/\(vs.length<2->G (Zr (Z7 vs.length))) /\
   ∀(p:Array Nat) (h':Zk) (c:Nat),p.size=vs.length->G p->(∀b o,b≠D->b≠kS->s'.heap.get? b=some o->h'.get? b=some o)->h'.get? D=some (seqObj "list" (Zr (p.toList.map λi=>vs.getD i Z0)) c)->(∃o,h'.get? kS=some o)->P (.done (.ret .none)) { s' with heap:=h' }) :
  wpAny (model prog w) A (ksk_tree D f false) P E s:=by
 obtain⟨e1,ho6,ho1⟩:=Hr ho;have hsz1:((s.heap.update D (Z_ λ_=>(#[]:Array FM))).push (seqObj "tuple" vs.toArray 0)).objs.size=kS:=by rw [eS,Heap.size_update,hkS]
 have hD:D<s.heap.objs.size:=ZU ho;have hDk:D≠kS:=by rw [hkS]; exact Zo (bJ hD)
 have hk0:(Cy s.heap D vs).get? kS=some (seqObj "list" #[] 0):=by rw [← hsz1]; exact Uf _ rfl
 unfold ksk_tree;refine Db (dY ho rfl ?_);refine Db (bb ho rfl ?_ (by rw [UF,Z2]; omega) (Zi _));refine Db (d7 ho1 rfl ?_);refine Db (wpAny_newTuple ?_ (by show vs.length<=_; rw [Z2]; omega));refine Db (eM ?_ (Zi _));refine aN ?_;show wpAny (model prog w) A (ksk_rest D f false vs.toArray e1 (.ref ((s.heap.update D (Z_ λ_=>(#[]:Array FM))).push (seqObj "tuple" vs.toArray 0)).objs.size)) P E { s with heap:=Cy s.heap D vs };rw [hsz1];unfold ksk_rest;refine Db (cy ?_)
 first
  | rw [List.forIn_toArray]
  | (rw [← Array.forIn_toList]; simp only [dg])
  | rw [← Array.forIn_toList]
 refine Db (ksk_fold (I:=λi s'=>∃ks e,dA ks=i/\J ks s'/\s'.heap.get? kS=some (seqObj "list" ks.toArray e)) vs 0 _ ⟨[],0,rfl,h0 e1 ho6,hk0⟩ (λj x s' hx hI=>?_) λs' hI=>?_)
 ·obtain⟨ks,e,hl,hJ,hk⟩:=hI
  have hj:j<vs.length:=(ZB.mp hx).1;have hl:ks.length=j:=by omega
  refine Db (dG (aJ (hstep ks s' e x hJ hk (by rw [hl]; exact hx)) (λk s'' hk2=>?_) λ_ _ hF=>hF.elim));have ea:(Zr ks).push k=Zr (ks++[k]):=by simp
  obtain⟨c2,hc2⟩:∃c2,(s''.heap.update kS (Z_ (·.push k))).get? kS=some (seqObj "list" (Zr (ks++[k])) c2):=⟨_,by rw [← ea]; exact cE hk2.1 (·.push k)⟩
  try dsimp only
  refine Db (bb hk2.1 rfl ?_ (by rw [UF,Z2]; omega) (Zu (ei (Array.size_push ..)) (by rw [UF,Z2]; omega)));exact TM ⟨rfl,ks++[k],c2,by rw [ZT,Zc]; omega,hk2.2,hc2⟩
 ·obtain⟨ks,e,hl,hJ,hk⟩:=hI
  have hl:ks.length=vs.length:=by omega
  obtain⟨hD',G,g2,g1,g3⟩:=hend e1 ho6 ks s' hJ hl
  try dsimp only
  refine Db (dY hk rfl ?_)
  have tail:∀(st:SortSt) (p:Array Nat),p.size=vs.length->G p->(arrOf st).map (·.2)=Zr (p.toList.map λi=>vs.getD i Z0)->failedOf st=none->wpAny (model prog w) A (ksk_tail D false e1 (.ref kS) st) P E s':=λst p hp hg hout hf=>by
   have hsz:(Zr (p.toList.map λi=>vs.getD i Z0)).size=vs.length:=by rw [UF,On,Z5,hp]
   obtain⟨ck,hck⟩:∃ck,(s'.heap.update kS (Z_ λ_=>(#[]:Array FM))).get? kS=some (seqObj "list" #[] ck):=⟨_,cE hk λ_=>#[]⟩;have hD2:(s'.heap.update kS (Z_ λ_=>(#[]:Array FM))).get? D=some (seqObj "list" #[] e1):=(Zm _ _ (aI hDk)).trans hD';obtain⟨c2,hc2⟩:∃c2,((s'.heap.update kS (Z_ λ_=>(#[]:Array FM))).update D (Z_ λ_=>Zr (p.toList.map λi=>vs.getD i Z0))).get? D=some (seqObj "list" (Zr (p.toList.map λi=>vs.getD i Z0)) c2):=⟨_,cE hD2 λ_=>Zr (p.toList.map λi=>vs.getD i Z0)⟩;unfold ksk_tail
   try dsimp only
   rw [hout];refine Db (bb hk rfl ?_ (by rw [UF,Z2]; omega) (Zi _));refine Db (bo ?_);refine Db (d7 hD2 rfl ?_);refine Db (bb hD2 rfl ?_ (Zi _) (Zu (ei hsz) (by rw [Z2]; omega)));rw [hf];simp only [bne_self_eq_false,aS,if_false];refine TM (g3 p _ c2 hp hg (λb o hb1 hb2 e=>(Zm _ _ (aI hb1)).trans ((Zm _ _ (aI hb2)).trans e)) hc2 ⟨_,(Zm _ _ hDk).trans hck⟩)
  unfold ksk_end
  try dsimp only
  simp only [aS,if_false]
  by_cases h2:vs.length<2
  ·have h2':vs.toArray.size<2:=by rw [UF]; exact h2
   rw [if_pos h2',if_pos h2'];refine Db (TM ?_);rw [StateT.run_pure];refine Db (TM ?_)
   try dsimp only
   refine tail _ (Zr (Z7 vs.length)) (by simp) (g1 h2) (kat_snds hl ?_) rfl;have er:=kas_range (ks.toArray.zip vs.toArray);rw [show (ks.toArray.zip vs.toArray).size=vs.length by simp [hl]] at er;exact er.symm
  ·have h2':¬vs.toArray.size<2:=by rw [UF]; exact h2
   rw [if_neg h2',if_neg h2'];refine Db (aJ (g2 (by omega)) (λκ s0 hk=>?_) λ_ _ x=>x.elim)
   refine Db (aJ (kat_run (Q:=λst' s2=>∃p:Array Nat,p.size=vs.length/\arrOf st'=p.map (kas_item (ks.toArray.zip vs.toArray))/\failedOf st'=none/\s2=s'/\G p)
    hl (by omega) h64 (λp' st' s2 a1 a2 a3 a4=>⟨p',a1,a2,a3,a4⟩) hk) ?_ λ_ _ e=>e)
   rintro ⟨⟨⟩,st'⟩ s2 ⟨p,hp,har,hf,rfl,hg⟩
   try dsimp only
   exact tail st' p hp hg (kat_snds hl har) hf
end
section
variable {X:Cx}{pins:List (Addr×Obj)}{σ:L2.St}{H:Hp}{s:Shared}{h':Heap}
structure QU (X:Cx) (pins:List (Ev×Obj)) (D:Ev):Prop where
 new:X.s₀.heap.objs.size<=D
 loc:D≠X.env.locals
 cell:∀x c,X.env.cells.lookup x=some c->c≠D
 pin:∀p∈X.pn++pins,p.1≠D
 fs:D∉X.fs
theorem Inv.mine(I:Inv X pins σ H s){D:Ev}(h:s.heap.objs.size<=D):QU X pins D:=by
 refine⟨Zu I.sz h,λz=>?_,λx c e z=>?_,λp hp z=>?_,I.nofs h⟩
 ·have:=I.lt
  rw [← z] at this;exact absurd this (cx.mpr h)
 ·obtain⟨v,o,ho,_⟩:=I.cell x c e
  have:=ZU ho
  rw [z] at this;exact absurd this (cx.mpr h)
 ·obtain⟨e,_⟩:=I.pin p hp
  have:=ZU e
  rw [z] at this;exact absurd this (cx.mpr h)
structure KeysAt (K:Frag) (H:Hp) (vs:List V) (keys:List (List Key)):Prop where
 len:vs.length=keys.length
 at_:∀(i:Nat) (ns:List Key),keys[i]?=some ns->∃a,vs[i]?=some (.ref a)/\SqT K H a (ns.map kOf)
 same:∀x∈keys,∀y∈keys,Bs x y=true
 ne:∀x∈keys,x≠[]
noncomputable def KY(keys:List (List Key))(ix:List Nat):Prop:=ix.Perm (Z7 keys.length)/\∀i j,i<=j->j<keys.length->BY (keys.getD (ix.getD j 0) []) (keys.getD (ix.getD i 0) [])=false
theorem KeysAt.tups{vs:List V}{us:List FM}{keys:List (List Key)}(I:Inv X pins σ H s)(r:Vals vs us)(k:KeysAt X.K H vs keys){h':Zk}(hk:∀b o,s.heap.get? b=some o->h'.get? b=some o):O4 h' us keys:=by
 refine⟨λi ns e=>?_,r.length.symm.trans k.len,k.same,k.ne⟩;obtain⟨a,e1,h1⟩:=k.at_ i ns e;obtain⟨u,e2,r2⟩:=r.get e1;cases r2;obtain⟨its,r3,⟨o,ho,hc,n,hd⟩,_⟩:=I.tuple h1;exact⟨a,o,its.toArray,n,e2,hk a o ho,hc,hd,by rw [dg]; exact r3⟩
theorem GQ:∀{vs:List V} {us:List FM},Vals vs us->∀i:Nat,RelV (vs.getD i .non) (us.getD i Z0)
 | _,_,.nil,i=>by simp [RelV]
 | _,_,.cons r t,0=>by simpa using r
 | _,_,.cons r t,i+1=>by simpa using GQ t i
theorem Hj{f:Nat->V}{g:Nat->FM}(h:∀i,RelV (f i) (g i)):∀ix:List Nat,Vals (ix.map f) (ix.map g)
 | []=>.nil
 | i::ix=>.cons (h i) (Hj h ix)
theorem getD_list(p:Array Nat)(i:Nat):p.getD i 0=p.toList.getD i 0:=by simp
theorem RS{keys:List (List Key)}{n:Nat}{p:Array Nat}(hn:keys.length=n)(h1:p.Perm (Zr (Z7 n)))(h2:So.Srt PZ (λi=>keys.getD i []) p n):KY keys p.toList:=by
 subst hn;refine⟨Array.perm_iff_toList_perm.mp h1,λi j hij hj=>?_⟩;have h:=h2 i j hij hj;unfold So.KN at h;rw [getD_list,getD_list] at h;exact h
theorem PD{A':aB}{E':FM->Rs->Prop}{vs:List V}{us:List FM}{keys:List (List Key)}{Q:VK}(I:Inv X pins σ H s)(r:Vals vs us)(h64:vs.length<64)(k:KeysAt X.K H vs keys)
  (q:∀(ix:List Nat) (l:Ev),KY keys ix->H l=none->Q (.ref l) (Aw H l (.lst (ix.map λi=>vs.getD i .non)))) :
  wpAny (model X.prog X.w) A' (bp.«list.sort» ⟨[.ref s.heap.objs.size],[]⟩) (λfin s'=>fin=.done (.ret .none)/\EP X pins σ Q (.ref s.heap.objs.size) s') E' { s with heap:=s.heap.push (seqObj "list" us.toArray 0) }:=by
 have hl:=r.length;have hkl:keys.length=us.length:=k.len.symm.trans hl;refine ME (G:=λp=>p.Perm (Zr (Z7 us.length))/\So.Srt PZ (λi=>keys.getD i []) p us.length) (n:=0) (Uf _ rfl) (by omega) (λh2=>?_) (λh1=>⟨fE _,λi j hij hj=>?_⟩) (λp h' c hp hg hold hD=>⟨rfl,?_⟩)
 ·refine Jm (keys:=keys) (k.tups I r λb o e=>?_) h2 (λp a b=>⟨rfl,a,b⟩)
  exact GR (Zo (ZU e)) (Op _ e)
 ·have:i=j:=by omega
  subst this;exact ac _
 ·have hf:H s.heap.objs.size=none:=I.fresh
  have hix:(p.toList.map λi=>vs.getD i .non).length=us.length:=by rw [On,Z5,hp]
  refine⟨.ref s.heap.objs.size,Aw H s.heap.objs.size (.lst (p.toList.map λi=>vs.getD i .non)),I.laid (t':=s.toks) (λb o e=>hold b o (Zo (ZU e)) (Op _ e)) (Tk _) ⟨by rw [hix,← hl,Z2]; omega,_,c,Hj (GQ r) p.toList,hD⟩,rfl,q _ _ (RS hkl hg.1 hg.2) hf⟩
theorem MZ{prog:Zs}{w:Zz}{A:aB}{E:FM->Rs->Prop}{s:Rs}{l:Ev}{vs:List FM}{Q:List FM->Rs->Prop}(hl:IsTup s.heap l vs.toArray)
  (h:Q vs { s with heap:=(s.heap.push (seqObj "list" #[] 0)).update s.heap.objs.size (Z_ (·++vs.toArray)) }) (hsz:vs.length<=sizeLine) :
  wpAny (model prog w) A (collect (.ref l)) Q E s:=by
 obtain⟨o,ho,hc,n,hd⟩:=id hl;unfold collect;refine Db (wpAny_runValue (ae entry_proto_collect' ?_));show wpAny _ _ (do again (.builtin "list.__iadd__" ⟨[← newList [],.ref l],[]⟩)) _ _ s;refine Db (eM (TM ⟨Code.quiet_builtin _ (by decide +kernel),ae entry_list_iadd' ?_⟩));show wpAny _ _ (bW (.ref s.heap.objs.size) (.ref l) (.ref s.heap.objs.size)) _ _ { s with heap:=s.heap.push (seqObj "list" #[] 0) };unfold bW;have ho':(s.heap.push (seqObj "list" #[] 0)).get? l=some o:=Op _ ho;refine Db (cZ (T := "tuple") ⟨o,ho',hc⟩ ?_);have ht:(eR "tuple"==eR "tuple")=true:=by rfl
 rw [if_pos (by rw [ht]; simp)];refine Db (dY ho' hd ?_);refine Db (dY (xs:=#[]) (n:=0) (Uf _ rfl) rfl ?_);rw [if_neg (by simp)];refine Db (bb (xs:=#[]) (n:=0) (Uf _ rfl) rfl ?_ (Zi _) (by show (#[]++vs.toArray).size<=sizeLine+1; simp only [Array.size_append,UF,aQ]; omega));refine TM ?_
 show wpAny (model prog w) A (do
   let o ← load s.heap.objs.size
   match o.data with
   | .seq xs _=>pure xs.toList
   | _=>unsupported "internal:collect") Q E { s with heap:=(s.heap.push (seqObj "list" #[] 0)).update s.heap.objs.size (Z_ (·++vs.toArray)) }
 refine Db (wpAny_load (cE (Uf _ rfl) _) ?_);show wpAny _ _ (pure ((#[]:Array FM)++vs.toArray).toList) Q E _;rw [show ((#[]:Array FM)++vs.toArray).toList=vs by simp];exact TM h
theorem Mc{h:Zk}{g:Array FM->Array FM}{b:Ev}{o:Obj}(e:h.get? b=some o):((h.push (seqObj "list" #[] 0)).update h.objs.size (Z_ g)).get? b=some o :=
 (Zm _ _ (aI (Zo (ZU e)))).trans (Op _ e)
theorem Mb{κ:Bool}{A':aB}{E':FM->Rs->Prop}{p:Ev}{vs:List V}{Q:List FM->Rs->Prop}(I:Inv X pins σ H s)(h:SqK κ X.K H p vs)(q:∀us s1,Vals vs us->vs.length<=sizeLine->Inv X pins σ H s1->Q us s1) :
  wpAny (model X.prog X.w) A' (collect (.ref p)) Q E' s:=by
 cases κ with
 | true =>
  obtain⟨its,r,pl,hz⟩:=I.list h;exact collect_list pl.isList (q its _ r hz (I.kept (t':=s.toks) λb o e=>Mc e)) (by rw [← r.length]; exact hz)
 | false =>
  obtain⟨its,r,pl,hz⟩:=I.tuple h;exact MZ pl (q its _ r hz (I.kept (t':=s.toks) λb o e=>Mc e)) (by rw [← r.length]; exact hz)
noncomputable def Q5(K:Frag):List V->Hp->VK->Prop:=λxs H Q=>∃(κ:Bool) (p:Ev) (vs:List V) (keys:List (List Key)),xs=[.ref p]/\SqK κ K H p vs/\vs.length<64/\KeysAt K H vs keys /\
 ∀(ix:List Nat) (l:Ev),KY keys ix->H l=none->Q (.ref l) (Aw H l (.lst (ix.map λi=>vs.getD i .non)))
theorem CL:By X (.builtin "sorted") (Q5 X.K):=by
 intro pins s σ H xs us Q I r h;obtain⟨κ,p,vs,keys,rfl,hq,h64,hk,q⟩:=h;obtain⟨u,rfl,rx⟩:=vals1 r;cases rx;refine DX (kw:=[]) (args_sorted1 _) (λx=>args_list_sort _) (Mb I hq λus s1 r1 hz I1=>⟨by rw [← r1.length]; exact hz,?_⟩);exact PD I1 r1 h64 hk q
end
end L2
namespace L2
open PySem PySem.Spec PyProof.Rows
noncomputable def E_(H:Hp)(L:List Ev)(f:Ev->Obj):Hp:=λb=>if b∈L then (H b).map (HO.frz (f b)) else H b
theorem Cr{H:Hp}{L:List Ev}{f:Ev->Obj}{b:Ev}(h:b∉L):E_ H L f b=H b:=by unfold E_; rw [if_neg h]
theorem LB{H:Hp}{L:List Ev}{f:Ev->Obj}{b:Ev}{o:HO}(h:b∈L)(e:H b=some o):E_ H L f b=some (.frz (f b) o):=by unfold E_; rw [if_pos h,e]; rfl
section
variable {X:Cx}{pins:List (Addr×Obj)}{σ:L2.St}{H:Hp}{s:Shared}
theorem Inv.frz{L:List Ev}(I:Inv X pins σ H s)(hL:∀b∈L,∃kvs,H b=some (.dK kvs)):∃f,Inv X pins σ (E_ H L f) s:=by
 have keep:∀(f:Ev->Obj) b o,H b=some o->(∀kvs,o≠.dK kvs)->E_ H L f b=some o:=λf b o e n=>by
  rw [Cr (λhm=>by obtain⟨kvs,e2⟩:=hL b hm; rw [e] at e2; cases e2; exact n _ rfl)];exact e
 refine⟨λb=>(s.heap.get? b).getD { cls:=.none,data:=.fields #[] },?_⟩;refine I.step (g':=s.gens) (d':=s.drawn) (t':=s.toks) (h':=s.heap) (ch:=[]) (λ_ z=>nomatch z) (λ_ _ _ _ _ e _=>e) (λb o _ _ _ e _=>⟨o.slots,e⟩) (λb o _ e n=>?_) (λb o _ e=>⟨o,e⟩) (λb xs e=>keep _ b _ e λ_ z=>by cases z) (λb o u e=>keep _ b _ e λ_ z=>by cases z) (λb ps e=>⟨#[],by rw [keep _ b _ e λ_ z=>by cases z]; simp⟩) (λ_ h=>h) (λb u e=>?_) I.bare
 ·unfold E_
  split
  ·rw [n]; rfl
  ·exact n
 ·by_cases hb:b∈L
  ·obtain⟨kvs,e2⟩:=hL b hb
   rw [LB hb e2] at e;cases e;obtain⟨z,y,vs,r,ob,es,ep,e3,c⟩:=(show ObjOk X.prog X.w H s.heap b (.dK kvs) from I.hok b _ e2);exact⟨by rw [e3]; rfl,z,y,vs,r,ob,es,ep,e3,c⟩
  ·rw [Cr hb] at e
   exact(I.hok b u e).stay (λ_ _ _ q=>q) (λc q=>keep _ c _ q λ_ z=>by cases z) λc xs q=>keep _ c _ q λ_ z=>by cases z
noncomputable def YN(t:TE):TE:=λσ H Q=>t σ H λv H1=>∃L:List Ev,(∀b∈L,∃kvs,H1 b=some (.dK kvs))/\∀f:Ev->Obj,Q v (E_ H1 L f)
theorem RN{e:Zq}{t:TE}(h:PE X e t):PE X e (YN t):=by
 intro pins s σ H Q I hq;refine BV (h pins s σ H _ I hq) λu s1 ⟨v,H1,I1,r,L,hL,q⟩=>?_;obtain⟨f,I2⟩:=I1.frz hL;exact⟨v,_,I2,r,q f⟩
end
end L2
namespace Nt
open PySem PySem.Spec PyProof.Rows L2 Dp
noncomputable def Cu(ts:List Tie)(p:Str):List (Str×Int):=ts.flatMap λt=>(if t.a=p then [(t.b,t.len)] else [])++(if t.b=p then [(t.a,t.len)] else [])
noncomputable def QX(ts:List Tie)(p:Str):D:=.fdi ((Cu ts p).map λx=>.inr x.1) ((Cu ts p).map λx=>.int x.2)
noncomputable def B0(N:Net):D:=.dic (N.ps.map .inr) (N.ps.map (QX N.ts))
noncomputable def Gq:W2:=λss n P=>∃N:Net,ss=[.sh (enc N)]/\N.Ok/\N.ps.length<=1000/\N.ts.length<=1000/\P (B0 N) n
noncomputable def kv(x:Str×Int):Key×V:=(.inr x.1,.int x.2)
structure Stp (H:Hp) (d:Ev) (as:List (Str×Ev)) (tb:Str->List (Key×V)) (H':Hp):Prop where
 old:∀b o,H b=some o->H' b=some o
 new:H d=none
 top:H' d=some (.dK (as.map λx=>(.inr x.1,.ref x.2)))
 inn:∀x∈as,H x.2=none/\x.2≠d/\H' x.2=some (.dK (tb x.1))
 ads:(as.map (·.2)).Nodup
 nms:(as.map (·.1)).Nodup
theorem HH{as:List (Str×Ev)}(hn:(as.map (·.1)).Nodup){p:Str}{a:Ev}(h:(p,a)∈as):Bg (as.map λx=>((.inr x.1:Key),V.ref x.2)) (.inr p)=some (.ref a):=by
 induction as with
 | nil=>cases h
 | cons x r ih =>
  rw [ZX,ZY] at hn
  rcases XV.mp h with e | h
  ·rw [← e]
   exact DH rfl
  ·have hne:(aD x.1:Key)≠.inr p:=λe=>hn.1 (by rw [am e]; exact TW.mpr ⟨_,h,rfl⟩)
   rw [ZX];exact(DJ hne).trans (ih hn.2 h)
theorem NK{as:List (Str×Ev)}{p:Str}{v:V}(h:p∉as.map (·.1)):putK (as.map λx=>((.inr x.1:Key),V.ref x.2)) (.inr p) v=(as.map λx=>((.inr x.1:Key),V.ref x.2))++[(.inr p,v)]:=by
 unfold putK;rw [if_neg];rw [bP];rintro ⟨y,hy,e⟩;obtain⟨x,hx,rfl⟩:=TW.mp hy;exact h (TW.mpr ⟨x,hx,am (of_decide_eq_true e)⟩)
theorem ON{xs:List (Str×Int)}{p:Str}{l:Int}(h:p∉xs.map (·.1)):putK (xs.map kv) (.inr p) (.int l)=(xs++[(p,l)]).map kv:=by
 unfold putK;rw [if_neg,Z1]
 ·rfl
 ·rw [bP]
  rintro ⟨y,hy,e⟩;obtain⟨x,hx,rfl⟩:=TW.mp hy;exact h (TW.mpr ⟨x,hx,am (of_decide_eq_true e)⟩)
theorem Stp.more{H H':Hp}{d q:Ev}{as:List (Str×Ev)}{tb:Str->List (Key×V)}{p:Str}(s:Stp H d as tb H')(hq:H' q=none)(hp:p∉as.map (·.1))(ht:tb p=[]) :
  Stp H d (as++[(p,q)]) tb (Aw (Aw H' q (.dK [])) d (.dK (putK (as.map λx=>((.inr x.1:Key),V.ref x.2)) (.inr p) (.ref q)))):=by
 have nq:q≠d:=λe=>by rw [e,s.top] at hq; cases hq
 have hHq:H q=none:=by
  cases c:H q with
  | none=>rfl
  | some o=>rw [s.old q o c] at hq; cases hq
 refine⟨λb o e=>?_,s.new,?_,λx hx=>?_,?_,?_⟩
 ·have n1:b≠d:=λz=>by rw [z,s.new] at e; cases e
  have n2:b≠q:=λz=>by rw [z,hHq] at e; cases e
  rw [AK n1,AK n2];exact s.old b o e
 ·rw [AT,NK hp,Z1]; rfl
 ·rcases Zb.mp hx with hx | hx
  ·obtain⟨h1,h2,h3⟩:=s.inn x hx
   have n2:x.2≠q:=λz=>by rw [z,hq] at h3; cases h3
   exact⟨h1,h2,by rw [AK h2,AK n2]; exact h3⟩
  ·rw [Go.mp hx]
   exact⟨hHq,nq,by rw [AK nq,AT,ht]⟩
 ·rw [Z1,Zh]
  refine⟨s.ads,ZY.mpr ⟨(λh=>by cases h),Zp⟩,λa ha b hb e=>?_⟩;obtain⟨x,hx,rfl⟩:=TW.mp ha;have hb:b=q:=Go.mp hb;obtain⟨h1,h2,h3⟩:=s.inn x hx;rw [e,hb,hq] at h3;cases h3
 ·rw [Z1,Zh]
  refine⟨s.nms,ZY.mpr ⟨(λh=>by cases h),Zp⟩,λa ha b hb e=>?_⟩;have hb:b=p:=Go.mp hb;exact hp (by rw [← hb,← e]; exact ha)
theorem Pl{as:List (Str×Ev)}(hn:(as.map (·.1)).Nodup){p:Str}{a b:Ev}(h1:(p,a)∈as)(h2:(p,b)∈as):a=b:=by
 have:=(HH hn h1).symm.trans (HH hn h2)
 exact V.ref.inj (ZS this)
theorem Pk{as:List (Str×Ev)}(hn:(as.map (·.2)).Nodup){p q:Str}{a:Ev}(h1:(p,a)∈as)(h2:(q,a)∈as):p=q:=by
 induction as with
 | nil=>cases h1
 | cons x r ih =>
  rw [ZX,ZY] at hn
  rcases XV.mp h1 with e1 | g1
  ·rcases XV.mp h2 with e2 | g2
   ·rw [← e1] at e2; exact(Prod.mk.inj e2).1.symm
   ·exact absurd (TW.mpr ⟨_,g2,by rw [← e1]⟩) hn.1
  ·rcases XV.mp h2 with e2 | g2
   ·exact absurd (TW.mpr ⟨_,g1,by rw [← e2]⟩) hn.1
   ·exact ih hn.2 g1 g2
theorem Stp.put{H H':Hp}{d a:Ev}{as:List (Str×Ev)}{tb tb2:Str->List (Key×V)}{p:Str}{kvs:List (Key×V)}(s:Stp H d as tb H')(ha:(p,a)∈as)(h1:tb2 p=kvs)(h2:∀q,q≠p->tb2 q=tb q) :
  Stp H d as tb2 (Aw H' a (.dK kvs)):=by
 obtain⟨i1,i2,i3⟩:=s.inn _ ha;refine⟨λb o e=>?_,s.new,?_,λx hx=>?_,s.ads,s.nms⟩
 ·have n1:b≠a:=λz=>by rw [z] at e; rw [show H a=none from i1] at e; cases e
  rw [AK n1];exact s.old b o e
 ·rw [AK (aI i2)]
  exact s.top
 ·obtain⟨g1,g2,g3⟩:=s.inn x hx
  refine⟨g1,g2,?_⟩
  by_cases e:x.2=a
  ·have:x.1=p:=Pk s.ads (show (x.1,a)∈as by rw [← e]; exact hx) ha
   rw [e,AT,this,h1]
  ·have:x.1≠p:=λz=>e (Pl s.nms (show (p,x.2)∈as by rw [← z]; exact hx) ha)
   rw [AK e,h2 _ this];exact g3
theorem MB(ts:List Tie)(t:Tie)(p:Str):Cu (ts++[t]) p=Cu ts p++((if t.a=p then [(t.b,t.len)] else [])++(if t.b=p then [(t.a,t.len)] else [])):=by
 unfold Cu;rw [cV,aL,List.flatMap_nil,Zn]
theorem HM{ts:List Tie}{p q:Str}(h:q∈(Cu ts p).map (·.1)):∃t∈ts,(t.a=p/\t.b=q)\/(t.b=p/\t.a=q):=by
 obtain⟨x,hx,rfl⟩:=TW.mp h;obtain⟨t,ht,hx⟩:=Z3.mp hx;refine⟨t,ht,?_⟩
 rcases Zb.mp hx with hx | hx
 ·split at hx
  ·rename_i e; rw [Go.mp hx]; exact .inl ⟨e,rfl⟩
  ·cases hx
 ·split at hx
  ·rename_i e; rw [Go.mp hx]; exact .inr ⟨e,rfl⟩
  ·cases hx
theorem OW(ts:List Tie)(p:Str):(Cu ts p).length<=2*ts.length:=by
 induction ts with
 | nil=>exact Zi _
 | cons t r ih =>
  unfold Cu at ih ⊢;rw [aL,ZT,ZT,Za];have h1:(if t.a=p then [(t.b,t.len)] else []).length<=1:=by split; exact Tk 1; exact Zi _
  have h2:(if t.b=p then [(t.a,t.len)] else []).length<=1:=by split; exact Tk 1; exact Zi _
  omega
theorem SE{ts:List Tie}{t:Tie}(hp:(ts++[t]).Pairwise Bv)(hlt:∀s∈ts++[t],cs s.a<cs s.b):t.b∉(Cu ts t.a).map (·.1)/\t.a∉(Cu ts t.b).map (·.1):=by
 rw [List.pairwise_append] at hp
 have key:∀s∈ts,¬((s.a=t.a/\s.b=t.b)\/(s.b=t.a/\s.a=t.b)):=λs hs e=>by
  have h1:=hp.2.2 s hs t (Go.mpr rfl);have h2:=hlt s (Zt _ hs);have h3:=hlt t (ZW _ (Go.mpr rfl))
  rcases e with ⟨e1,e2⟩ | ⟨e1,e2⟩
  ·unfold Bv at h1
   rw [e1,e2] at h1
   rcases h1 with h | ⟨_,h⟩
   ·exact aK _ h
   ·exact aK _ h
  ·rw [e1,e2] at h2
   exact aK _ (b7 h2 h3)
 refine⟨λh=>?_,λh=>?_⟩
 ·obtain⟨s,hs,e⟩:=HM h
  exact key s hs e
 ·obtain⟨s,hs,e⟩:=HM h
  exact key s hs (e.elim (λz=>.inr ⟨z.2,z.1⟩) λz=>.inl ⟨z.2,z.1⟩)
theorem Km{xs:List Str}(h:rising xs):xs.Nodup:=h.imp λ{a b} hlt e=>by rw [e] at hlt; exact aK _ hlt
theorem NV{xs:List Str}(h:xs.Nodup){i:Nat}(hi:i<xs.length):xs[i]∉xs.take i:=by
 have e:xs=xs.take i++xs[i]::xs.drop (i+1):=by
  rw [← aa hi,List.take_append_drop]
 intro hm;rw [e,Zh] at h;exact h.2.2 _ hm _ Re rfl
theorem Stp.at_{K:Frag}{M:Ev->Prop}{H H':Hp}{d:Ev}{as:List (Str×Ev)}{N:Net}(dom:∀a,M a->∃o,H a=some o)(s:Stp H d as (λp=>(Cu N.ts p).map kv) H')(hp:as.map (·.1)=N.ps)(f:Ev->Obj):At K M (E_ H' (as.map (·.2)) f) (B0 N) (.ref d):=by
 have nd:∀b,H b=none->¬M b:=λb e m=>by obtain⟨o,h⟩:=dom b m; rw [h] at e; cases e
 have zip1:∀as:List (Str×Ev),(as.map λx=>((.inr x.1:Key),V.ref x.2))=((as.map (·.1)).map (.inr:Str->Key)).zip (as.map λx=>V.ref x.2):=λas=>by
  induction as with
  | nil=>rfl
  | cons x r ih=>rw [ZX,ih]; rfl
 refine⟨d,as.map λx=>.ref x.2,rfl,⟨nd d s.new,by rw [Cr (λhm=>by obtain⟨x,hx,e⟩:=TW.mp hm; exact(s.inn x hx).2.1 e),s.top,zip1,hp]⟩,by rw [On,On],?_⟩;rw [← hp]
 have go:∀bs:List (Str×Ev),(∀x∈bs,x∈as)->Ats K M (E_ H' (as.map (·.2)) f) ((bs.map (·.1)).map (QX N.ts)) (bs.map λx=>V.ref x.2):=λbs=>by
  induction bs with
  | nil=>intro _; rfl
  | cons x r ih =>
   intro hx;refine⟨.ref x.2,r.map λx=>V.ref x.2,rfl,?_,ih λy hy=>hx y (Sc _ hy)⟩;obtain⟨g1,g2,g3⟩:=s.inn x (hx x Re)
   have zip2:∀xs:List (Str×Int),xs.map kv=(xs.map λx=>(.inr x.1:Key)).zip (xs.map λx=>V.int x.2):=λxs=>by
    induction xs with
    | nil=>rfl
    | cons x r ih=>rw [ZX,ih]; rfl
   refine⟨x.2,(Cu N.ts x.1).map λx=>V.int x.2,rfl,⟨f x.2,nd _ g1,by rw [LB (TW.mpr ⟨x,hx x Re,rfl⟩) g3,zip2]⟩,by rw [On,On],?_⟩;generalize Cu N.ts x.1=xs
   induction xs with
   | nil=>rfl
   | cons x r ih=>exact⟨.int x.2,_,rfl,rfl,ih⟩
 exact go as λ_ h=>h
end Nt
namespace L2
open PySem PySem.Spec PyProof.Rows PySem.W
section
variable {X:Cx}{pins:List (Addr×Obj)}{σ:L2.St}{H:Hp}{s:Shared}{h':Heap}
theorem Inv.adopt2{D e:Ev}{o:HO}(I:Inv X pins σ H s)(m:QU X pins D)(hn:H D=none)(m2:QU X pins e)(hn2:H e=none)(hne:D≠e)(k:∀b u,b≠D->b≠e->s.heap.get? b=some u->h'.get? b=some u)(new:ObjOk X.prog X.w (Aw H D o) h' D o):Inv X pins σ (Aw H D o) { s with heap:=h' }:=by
 have nin:∀b,b∉[D,e]->b≠D/\b≠e:=λb hc=>⟨λz=>hc (by rw [z]; exact Re),λz=>hc (by rw [z]; exact Sc _ (Go.mpr rfl))⟩
 refine I.step (g':=s.gens) (d':=s.drawn) (t':=s.toks) (ch:=[D,e]) (λb hb=>?_) (λb u _ _ hc q _=>k b u (nin b hc).1 (nin b hc).2 q) (λb u _ _ hc q _=>⟨u.slots,k b u (nin b hc).1 (nin b hc).2 q⟩) (λb u hc q n=>?_)
  (λb u hc q=>⟨u,k b u (nin b hc).1 (nin b hc).2 q⟩) (λb xs q=>?_) (λb u v q=>?_) (λb ps q=>⟨#[],?_⟩) (λmm hm=>?_) (λb u q=>?_) I.bare
 ·rcases XV.mp hb with rfl | hb
  ·exact⟨.inr m.new,m.loc,m.cell,m.pin⟩
  ·rw [Go.mp hb]
   exact⟨.inr m2.new,m2.loc,m2.cell,m2.pin⟩
 ·rw [AK (nin b hc).1]; exact n
 ·rw [AK (Ag q hn)]; exact q
 ·rw [AK (Ag q hn)]; exact q
 ·rw [AK (Ag q hn),q]; simp
 ·obtain⟨u,es,ep,ho,r⟩:=hm
  exact⟨u,es,ep,k _ u (aI m.loc) (aI m2.loc) ho,r⟩
 ·by_cases hb:b=D
  ·subst hb; rw [AT] at q; cases q; exact new
  ·rw [AK hb] at q
   refine(I.hok b u q).stay (λc v hc q2=>k c v ?_ ?_ q2) (λc q2=>by rw [AK (Ag q2 hn)]; exact q2) λc xs q2=>by rw [AK (Ag q2 hn)]; exact q2
   ·rcases hc with z | z
    ·rw [z]; exact hb
    ·exact Ag z hn
   ·rcases hc with z | z
    ·rw [z]; exact Ag q hn2
    ·exact Ag z hn2
noncomputable def VI(K:Frag)(sp:Sp)(te:TE):TE:=λσ H Q=>te σ H λx H1=>∃(κ:Bool) (l:Ev) (vs:List V) (keys:List (List Key)) (J:List V->Hp->Prop),x=.ref l/\SqK κ K H1 l vs/\vs.length<64/\J [] H1 /\
 (∀ks H2 v,J ks H2->vs[ks.length]?=some v->sp [v] H2 (λk H3=>J (ks++[k]) H3) E0) /\
 ∀ks H2,J ks H2->ks.length=vs.length->KeysAt K H2 ks keys/\∀(ix:List Nat) (l:Ev),KY keys ix->H2 l=none->Q (.ref l) (Aw H2 l (.lst (ix.map λi=>vs.getD i .non)))
theorem RM{k:Nat}{f:Ev}{fd:aE}{pn fn:Str}{sp:Sp}{te:TE}{e:Zq}{p fp kp pos:Pos}(F:BK X.prog X.w X.K X.mg X.base Cc k f fd [pn] sp)(hr:Room (k+2) X.A)(hg:Gl X "sorted")(hm:X.mg "sorted"=none)
  (hgf:Gl X fn) (hmf:X.mg fn=some (.ref f)) (hb:Binds X.K fd [pn] []) (he:PE X e te) (hs:autoParam (starEach [e] X.env=[(false,eval e X.env)]) zau3._auto_1) (hdf:autoParam ((fn==("__debug__":Str))=false) zau1._auto_1) :
  PE X (.Call (.Name "sorted" p) [e] [⟨some "key",.Name fn fp,kp⟩] pos) (VI X.K sp te):=by
 intro pins s σ H Q I h;refine bU (Dr I hg hm bS ?_)
 refine callWith_kw (BV (BM he CG hs pos pins s σ H (λvs H1=>∃x,vs=[x]/\∃(κ:Bool) (l:Ev) (vs:List V) (keys:List (List Key)) (J:List V->Hp->Prop),x=.ref l/\SqK κ X.K H1 l vs/\vs.length<64/\J [] H1 /\
   (∀ks H2 v,J ks H2->vs[ks.length]?=some v->sp [v] H2 (λk H3=>J (ks++[k]) H3) E0) /\
   ∀ks H2,J ks H2->ks.length=vs.length->KeysAt X.K H2 ks keys/\∀(ix:List Nat) (l:Ev),KY keys ix->H2 l=none->Q (.ref l) (Aw H2 l (.lst (ix.map λi=>vs.getD i .non)))) I ?first) λus s1 ⟨xs,H1,I1,r1,q1⟩=>kws_cons (OX I1 hgf hmf (kws_nil ?_) hdf)) (by rw [hs]; rfl) (by rw [hs]; rfl)
 case first =>
  show te σ H _;refine cast (congrArg (te σ H) ?_) h
  funext x H1
  refine propext ⟨λz=>⟨x,rfl,z⟩,fun⟨y,e,z⟩=>?_⟩;cases e;exact z
 obtain⟨x,rfl,κ,l,vs,keys,J,rfl,hq,h64,j0,jstep,jend⟩:=q1;obtain⟨u,rfl,ru⟩:=vals1 r1;cases ru;show wpAny (model X.prog X.w) X.A (call (.builtin "sorted") [.ref l] [(aV "key",.ref f)]) _ _ s1;refine DX (ksk_s1 _ _) (λx=>ksk_l1 _ _) (Mb I1 hq λus s2 r2 hz I2=>⟨by rw [← r2.length]; exact hz,?_⟩);rw [ksk_t1];have hl:=r2.length;generalize hD:s2.heap.objs.size=D;have hsz3:(s2.heap.push (seqObj "list" us.toArray 0)).objs.size=D+1:=by rw [eS,hD]
 have hoD:(s2.heap.push (seqObj "list" us.toArray 0)).get? D=some (seqObj "list" us.toArray 0):=by rw [← hD]; exact Uf _ rfl
 have mD:QU X pins D:=I2.mine (by rw [hD]; exact Tk _);have mK:QU X pins (D+2):=I2.mine (by rw [hD]; exact Nat.le_add_right _ _);have nD:H1 D=none:=I2.hok.fresh (by rw [hD]; exact Tk _);have nK:H1 (D+2)=none:=I2.hok.fresh (by rw [hD]; exact Nat.le_add_right _ _);have hne:D≠D+2:=Zo (bJ (cL D));have nstk:∀b,QU X pins b->b∉Oa X.stack:=λb m z=>(XV.mp (I2.stkSub b z)).elim m.loc m.fs
 refine Pt (s:={ s2 with heap:=s2.heap.push (seqObj "list" us.toArray 0) }) (n:=0) hoD (by rw [← hl]; exact h64)
  (λks s'=>∃kV H',Vals kV ks/\J kV H'/\Inv X pins σ H' s'/\H' D=none/\H' (D+2)=none/\s'.heap.get? D=(Cy (s2.heap.push (seqObj "list" us.toArray 0)) D us).get? D) (D+2) (by show D+2=(s2.heap.push _).objs.size+1; rw [hsz3]) (λe1 he1=>?_) (λks s' e v hJ hk hv=>?_) λe1 he1 ks s' hJ hkl=>?_
 ·refine⟨[],H1,.nil,j0,?_,nD,nK,rfl⟩
  exact I2.kept (t':=s2.toks) λb o q=>GR (by rw [← hD]; exact Zo (ZU q)) (Op _ q)
 ·obtain⟨kV,H',rk,hJ,I',n1,n2,hD'⟩:=hJ
  have hi:ks.length<us.length:=(ZB.mp hv).1;have hvi:vs[kV.length]?=some (vs[kV.length]'(by rw [rk.length]; omega)):=No _;obtain⟨u',e2,ru⟩:=r2.get hvi;rw [rk.length,hv] at e2;cases e2;have hsp:=jstep kV H' _ hJ hvi;have E1:Env0 X.prog X.w X.K X.mg X.base X.A.in1.in1 X.stack s' H':=I'.env0.in1.in1;refine wpAny_call (eY (F.run X.A.in1.in1 X.stack s' H' ⟨[v],[]⟩ [v] _ _ E0 (hr.in1).in1 E1 (by simpa using hb s' [v] I'.kIn rfl) (.cons ru .nil) hsp) λr s'' hq'=>?_);cases r with
  | error e=>exact aq hq'
  | ok fl =>
   cases fl with
   | next=>exact aq hq'
   | brk=>exact aq hq'
   | cont=>exact aq hq'
   | ret u =>
    obtain⟨w',H3,os,bare,un,hok,rw',q3⟩:=id hq'
    obtain⟨oD,eD⟩:∃o,s'.heap.get? D=some o:=by
     obtain⟨c,hc,_⟩:=Hr hoD;exact⟨_,hD'.trans hc⟩
    have kD:s''.heap.get? D=some oD:=un.keep D oD eD n1 (nstk D mD) (by simp);have kK:s''.heap.get? (D+2)=some (seqObj "list" ks.toArray e):=un.keep _ _ hk n2 (nstk _ mK) (by simp);have f1:H3 D=none:=un.free D oD eD n1 (by simp);have f2:H3 (D+2)=none:=un.free _ _ hk n2 (by simp);have I3:Inv X pins σ H3 s'':=I'.call' os un hok bare (λb z=>absurd z (by simp));refine⟨kK,kV++[w'],H3,rk.append (.cons rw' .nil),q3,?_,f1,f2,?_⟩
    ·exact I3.turned (t':=s''.toks) (λb o hb q=>(Zm _ _ (aI hb)).trans q) f2 mK.loc (.inr mK.new) mK.cell mK.pin
    ·show (s''.heap.update (D+2) _).get? D=_
     rw [Zm _ _ (aI hne),kD,← eD,hD']
 ·obtain⟨kV,H',rk,hJ,I',n1,n2,hD'⟩:=hJ
  obtain⟨hka,q⟩:=jend kV H' hJ (by rw [rk.length,hkl,hl]);have hkk:keys.length=us.length:=by rw [← hka.len,rk.length,hkl]
  refine⟨hD'.trans he1,λp=>p.Perm (Zr (Z7 us.length))/\So.Srt PZ (λi=>keys.getD i []) p us.length,λh2=>?_,λh1=>⟨fE _,λi j hij hj=>?_⟩,λp h' c hp hg hold hDn _=>⟨rfl,?_⟩⟩
  ·have ts:=Jm (prog:=X.prog) (w:=X.w) (A:=X.A.in1.in1) (keys:=keys) (hka.tups I' rk λb o e=>e) (by omega) (G:=λp s''=>s''=s'/\p.Perm (Zr (Z7 us.length))/\So.Srt PZ (λi=>keys.getD i []) p us.length) (λp a b=>⟨rfl,by rw [← hkl]; exact a,by rw [← hkl]; exact b⟩)
   rw [hkl] at ts;exact ts
  ·have:i=j:=by omega
   subst this;exact ac _
  ·have hix:(p.toList.map λi=>vs.getD i .non).length=us.length:=by rw [On,Z5,hp]
   refine⟨.ref D,Aw H' D (.lst (p.toList.map λi=>vs.getD i .non)),I'.adopt2 mD n1 mK n2 hne hold ⟨by rw [hix,← hl,Z2]; omega,_,c,Hj (GQ r2) p.toList,hDn⟩,rfl,q _ _ (RS hkk hg.1 hg.2) n1⟩
theorem Vt{P:Zs}{w:Zz}{k:Key}{u:FM}(h:(Ay P w).is k u=true):RelV (kOf k) u:=by
 rcases A8 h with ⟨i,t,rfl,rfl⟩ | ⟨x,t,rfl,rfl⟩
 ·exact⟨t,rfl⟩
 ·exact⟨t,rfl⟩
theorem EJ{α β:Type}{F:α->β->Prop}:∀{l₁:List α} {l₂:List β} {j:Nat} {a:α} {b:β},Paired F l₁ l₂->l₁[j]?=some a->l₂[j]?=some b->F a b
 | _,_,_,_,_,.nil,h,_=>by simp at h
 | _,_,0,_,_,.cons r t,h1,h2=>by
  have h1:=ZS (by simpa using h1);have h2:=ZS (by simpa using h2);subst h1 h2;exact r
 | _,_,j+1,_,_,.cons r t,h1,h2=>EJ (j:=j) t (by simpa using h1) (by simpa using h2)
end
end L2
namespace Dp
open PySem PySem.Spec PyProof.Rows L2
section
variable {X:Cx}{K:Frag}
noncomputable def MR(ds:List D)(P:D->Prop):Prop:=match ds with
 | [.int i,.int j]=>P (.int (if j<i then j else i))
 | _=>False
theorem Sm:CS K .sh (λxs H Q=>∃i j,xs=[.int i,.int j]/\Q (.int (if j<i then j else i)) H) MR:=by
 intro U M H ds vs P Q dom vM hp w q;unfold MR at w
 split at w
 ·rename_i i j
  cases hp with
  | cons r1 r2=>cases r2 with
   | cons r3 r4 =>
    cases r4;cases r1.int;cases r3.int;exact⟨i,j,rfl,q _ H (.int _) .refl rfl w⟩
 ·exact w.elim
end
noncomputable def CJ:D->Option (List Key)
 | .tup xs=>Fv xs
 | _=>none
noncomputable def GL(kf:D->Option (List Key))(xs:List D):Prop:=xs.Pairwise λa b=>∀ka kb,kf a=some ka->kf b=some kb->BY kb ka=false
noncomputable def Keyed(kf:D->Option (List Key))(xs:List D):Prop:=(∀x∈xs,∃k,kf x=some k/\k≠[])/\∀x∈xs,∀y∈xs,∀ka kb,kf x=some ka->kf y=some kb->Bs ka kb=true
theorem range_getD(xs:List D):(Z7 xs.length).map (λi=>xs.getD i .non)=xs:=by
 apply List.ext_getElem
 ·simp
 ·intro i h1 h2
  simp [h2]
theorem OU{kf:D->Option (List Key)}{xs:List D}{keys:List (List Key)}{ix:List Nat}(hl:keys.length=xs.length)(hk:∀(i:Nat) (x:D),xs[i]?=some x->∃k,keys[i]?=some k/\kf x=some k)(h:KY keys ix) :
  (ix.map λi=>xs.getD i .non).Perm xs/\GL kf (ix.map λi=>xs.getD i .non):=by
 obtain⟨hp,hs⟩:=h;constructor
 ·have:=hp.map λi=>xs.getD i D.non
  rw [hl,range_getD] at this;exact this
 ·unfold GL
  rw [bh];intro i j hi hj hij ka kb ea eb;rw [List.getElem_map] at ea eb;rw [On] at hi hj;have il:ix.length=keys.length:=by rw [hp.length_eq,c7]
  have g:∀i (h:i<ix.length) k,kf (xs.getD ix[i] .non)=some k->keys.getD (ix.getD i 0) []=k:=λi h k e=>by
   have hm:ix[i]<keys.length:=bM.mp (hp.mem_iff.mp (Zw h));have hx:ix[i]<xs.length:=by rw [← hl]; exact hm
   obtain⟨k',e1,e2⟩:=hk ix[i] xs[ix[i]] (No hx);have e3:xs.getD ix[i] .non=xs[ix[i]]:=by rw [Zx,No hx]; rfl
   rw [e3,e2] at e;have e4:ix.getD i 0=ix[i]:=by rw [Zx,No h]; rfl
   rw [e4,Zx,e1];exact ZS e
  have:=hs i j (eV hij) (by rw [← il]; exact hj)
  rw [g i hi ka ea,g j hj kb eb] at this;exact this
theorem E3{kf:D->Option (List Key)}:∀{xs:List D},(∀x∈xs,∃k,kf x=some k/\k≠[])->∃keys:List (List Key),keys.length=xs.length/\(∀(i:Nat) (x:D),xs[i]?=some x->∃k,keys[i]?=some k/\kf x=some k/\k≠[])
 | [],_=>⟨[],rfl,λi x e=>by simp at e⟩
 | x::xs,h=>by
  obtain⟨k,e1,e2⟩:=h x Re;obtain⟨keys,l,g⟩:=E3 (xs:=xs) λy hy=>h y (Sc _ hy);refine⟨k::keys,by rw [Za,Za,l],λi y e=>?_⟩;cases i with
  | zero =>
   have e:x=y:=by simpa using e
   subst e;exact⟨k,rfl,e1,e2⟩
  | succ i =>
   obtain⟨k',a,b⟩:=g i y (by simpa using e);exact⟨k',by simpa using a,b⟩
section
variable {K:Frag}{M:Addr->Prop}{H:Hp}
theorem Ats.getD:∀{ds:List D} {vs:List V},Ats K M H ds vs->∀i:Nat,At K M H (ds.getD i .non) (vs.getD i .non)
 | [],vs,h,i=>by cases (show vs=[] from h); simp [At]
 | d::ds,vs,h,0=>by
  obtain⟨v,r,e,h1,h2⟩:=h;subst e
  simpa using h1
 | d::ds,vs,h,i+1=>by
  obtain⟨v,r,e,h1,h2⟩:=h;subst e
  simpa using Ats.getD h2 i
theorem Ats.pick{ds:List D}{vs:List V}(h:Ats K M H ds vs):∀ix:List Nat,Ats K M H (ix.map λi=>ds.getD i .non) (ix.map λi=>vs.getD i .non)
 | []=>rfl
 | i::ix=>⟨_,_,rfl,h.getD i,Ats.pick h ix⟩
theorem Gg{kf:D->Option (List Key)}{ds:List D}{vs:List V}{keys:List (List Key)}(hkf:∀d k v,d∈ds->kf d=some k->At K M H d v->∃a,v=.ref a/\SqT K H a (k.map kOf))(hs:Ats K M H ds vs)(hK:Keyed kf ds)(hl:keys.length=ds.length)(hk:∀(i:Nat) (x:D),ds[i]?=some x->∃k,keys[i]?=some k/\kf x=some k/\k≠[]):KeysAt K H vs keys:=by
 have from_:∀(i:Nat) (ns:List Key),keys[i]?=some ns->∃x,ds[i]?=some x/\kf x=some ns/\ns≠[]:=λi ns e=>by
  have hi:i<ds.length:=by rw [← hl]; exact(ZB.mp e).1
  obtain⟨k,e1,e2,e3⟩:=hk i ds[i] (No hi);rw [e] at e1;cases e1;exact⟨ds[i],No hi,e2,e3⟩
 refine⟨hs.length.trans hl.symm,λi ns e=>?_,λx hx y hy=>?_,λx hx=>?_⟩
 ·obtain⟨d,e1,e2,_⟩:=from_ i ns e
  obtain⟨v,e3,h3⟩:=hs.get e1;obtain⟨a,rfl,h4⟩:=hkf d ns v (aT e1) e2 h3;exact⟨a,e3,h4⟩
 ·obtain⟨i,hi⟩:=cI.mp hx
  obtain⟨j,hj⟩:=cI.mp hy;obtain⟨d,e1,e2,_⟩:=from_ i x hi;obtain⟨d',e1',e2',_⟩:=from_ j y hj;exact hK.2 d (aT e1) d' (aT e1') x y e2 e2'
 ·obtain⟨i,hi⟩:=cI.mp hx
  obtain⟨d,e1,e2,e3⟩:=from_ i x hi;exact e3
theorem Gi{d:D}{k:List Key}{v:V}(e:CJ d=some k)(h:At K M H d v):∃a,v=.ref a/\SqT K H a (k.map kOf):=by
 cases d with
 | tup xs =>
  obtain⟨a,vs,e1,hn,hs⟩:=h
  have:=Ft (show Fv xs=some k from e) hs
  subst this;exact⟨a,e1,hn.sq⟩
 | _=>cases e
noncomputable def Bn(ds:List D)(P:D->Prop):Prop:=∃d xs,ds=[d]/\G9 d=some xs/\xs.length<64/\Keyed CJ xs/\∀xs':List D,xs'.Perm xs->GL CJ xs'->P (.lst xs')
theorem E7:CS K .fr (Q5 K) Bn:=by
 intro U M H ds vs P Q dom vM hp w q;obtain⟨d,xs,rfl,e,h64,hK,w⟩:=w;obtain⟨v,rfl,hx⟩:=DK hp;obtain⟨κ,a,us,rfl,hs,sq⟩:=Qw (U:=U) hx e (λ_ z=>z) vM;obtain⟨keys,hl,hk⟩:=E3 hK.1;refine⟨κ,a,us,keys,rfl,sq M H (Pres.refl _ _) (Ext.refl _ _),by rw [hs.length]; exact h64,Gg (λd k v _=>Gi) hs hK hl hk,λix l ho hn=>?_⟩;obtain⟨o1,o2⟩:=OU (kf:=CJ) hl (λi x e=>by obtain⟨k,a,b,_⟩:=hk i x e; exact⟨k,a,b⟩) ho;exact q _ _ (.lst (ix.map λi=>xs.getD i .non)) (Ax hn) (DM hn (hs.pick ix)) (w _ o1 o2)
end
section
variable {X:Cx}{a e:Expr}{κa:Kd}{wa:DW}{pos p fp kp apos cpos:Pos}
noncomputable def Qd(W:W2)(wa:DW):DW:=λn ρ P=>wa n ρ λd n1=>∃(xs:List D) (rk:D->D),G9 d=some xs/\xs.length<64/\(∀x∈xs,∀Pd:D->Nat->Prop,Pd (rk x) n1->W [.sh x] n1 Pd)/\Keyed (λx=>CJ (rk x)) xs /\
 ∀xs':List D,xs'.Perm xs->GL (λx=>CJ (rk x)) xs'->P (.lst xs') n1
theorem SM{k:Nat}{fn pn:Str}{W:W2}(G:Got X.prog X.w X.K X.mg X.base fn k [pn] .sh W)(hr:Room (k+2) X.A)(hg:Gl X "sorted")(hm:X.mg "sorted"=none)(hgf:Gl X fn)(he:DE X e κa wa)
  (hs:autoParam (starEach [e] X.env=[(false,eval e X.env)]) zau3._auto_1) (hdf:autoParam ((fn==("__debug__":Str))=false) zau1._auto_1):DE X (.Call (.Name "sorted" p) [e] [⟨some "key",.Name fn fp,kp⟩] pos) .fr (Qd W wa):=by
 obtain⟨f,fd,F,hmf,hkf,hb,hW⟩:=G;obtain⟨t,h1,h2⟩:=he;refine⟨_,RM F hr hg hm hgf hmf hb h1 hs hdf,λC M H n ρ σ P Q R w q=>?_⟩;refine h2 C M H n ρ σ _ _ R w λv H1 d n1 e1 f1 r1 p=>?_;obtain⟨xs,rk,hd,h64,hw,hK,w⟩:=p;have R1:=R.step e1 f1;obtain⟨κ,l,us,rfl,hs,sq⟩:=Qw (U:=C.U) (r1.tpOf R.dom R.vM) hd R.uV R1.vM;obtain⟨keys,hl,hk⟩:=E3 hK.1;have hlen:=hs.length;refine⟨κ,l,us,keys,λks H2=>Ext C.U H1 H2/\FeedC X.K C.F M H2 n1/\ks.length<=xs.length/\∀(i:Nat) (k:V),ks[i]?=some k->∃x,xs[i]?=some x/\At X.K M H2 (rk x) k,rfl,sq M H1 (Pres.refl _ _) (Ext.refl _ _),by rw [hlen]; exact h64,⟨Ext.refl _ _,f1,Zi _,λi k z=>absurd (show (none:Option V)=some k from z) (λh=>nomatch h)⟩,λks H2 v hJ hv=>?_,λks H2 hJ hkl=>?_⟩
 ·obtain⟨ex,fd2,hle,hat⟩:=hJ
  have R2':=R1.step ex fd2;have hi:ks.length<xs.length:=by rw [← hlen]; exact(ZB.mp hv).1
  have hxi:xs[ks.length]?=some xs[ks.length]:=No hi;obtain⟨v',e2,hA⟩:=(hs.pres (R1.pres ex)).get hxi;rw [hv] at e2;cases e2;refine⟨rfl,C.F,C.U,C.V,M,n1,[.sh xs[ks.length]],λd n=>d=rk xs[ks.length]/\n=n1,⟨R2'.dom,R2'.fU,R2'.uV,R2'.vM,fd2,.cons ⟨⟨v,rfl,hA⟩,rfl⟩ .nil⟩,hw _ (Zw hi) _ ⟨rfl,rfl⟩,λr H3 d n' ex3 f3 vr hd=>?_⟩;obtain⟨rfl,rfl⟩:=hd;refine⟨ex.trans ex3,f3,by rw [ZT,Zc]; omega,λi k hik=>?_⟩
  by_cases hlt:i<ks.length
  ·rw [be hlt] at hik
   obtain⟨x,h3,h4⟩:=hat i k hik;exact⟨x,h3,h4.pres (R2'.pres ex3)⟩
  ·rw [bZ (by omega)] at hik
   have hi0:i=ks.length:=by
    have:=(ZB.mp hik).1
    rw [Zc] at this;omega
   subst hi0;rw [Nat.sub_self] at hik;cases (show some r=some k from hik);exact⟨_,hxi,vr⟩
 ·obtain⟨ex,fd2,hle,hat⟩:=hJ
  have R2':=R1.step ex fd2;have hkx:ks.length=xs.length:=by rw [hkl,hlen]
  have hs2:Ats X.K M H2 (xs.map rk) ks:=by
   have go:∀(xs:List D) (ks:List V),ks.length=xs.length->(∀(i:Nat) (k:V),ks[i]?=some k->∃x,xs[i]?=some x/\At X.K M H2 (rk x) k)->Ats X.K M H2 (xs.map rk) ks:=by
    intro xs
    induction xs with
    | nil=>intro ks h _; exact bx.mp h
    | cons x xs ih =>
     intro ks h hh;cases ks with
     | nil=>cases h
     | cons k ks =>
      obtain⟨x',e3,h3⟩:=hh 0 k rfl;cases (show some x=some x' from e3)
      exact⟨k,ks,rfl,h3,ih ks (by simpa using h) λi k' e4=>by
       obtain⟨y,e5,h5⟩:=hh (i+1) k' (by simpa using e4);exact⟨y,by simpa using e5,h5⟩⟩
   exact go xs ks hkx hat
  have hK2:Keyed CJ (xs.map rk):=by
   refine⟨λy hy=>?_,λy hy z hz ka kb ea eb=>?_⟩
   ·obtain⟨x,hx,rfl⟩:=TW.mp hy
    exact hK.1 x hx
   ·obtain⟨x,hx,rfl⟩:=TW.mp hy
    obtain⟨x',hx',rfl⟩:=TW.mp hz;exact hK.2 x hx x' hx' ka kb ea eb
  refine⟨Gg (λd k v _=>Gi) hs2 hK2 (by rw [hl,On]) λi x e=>?_,λix l ho hn=>?_⟩
  ·rw [ZZ] at e
   obtain⟨x',hx',rfl⟩:=Zy.mp e;exact hk i x' hx'
  ·obtain⟨o1,o2⟩:=OU (kf:=λx=>CJ (rk x)) hl (λi x e=>by obtain⟨k,a,b,_⟩:=hk i x e; exact⟨k,a,b⟩) ho
   have g:Grow H2 (Aw H2 l (.lst (ix.map λi=>us.getD i .non))):=Ax hn;refine q _ _ (.lst (ix.map λi=>xs.getD i .non)) n1 ((e1.trans ex).trans g.ext) (fd2.grow g) (VR.back (e1.trans ex) ?_) (w _ o1 o2);exact DM hn ((hs.pres (R1.pres ex)).pick ix)
noncomputable def Oo:Key->D
 | .inl i=>.int i
 | .inr x=>.str x
noncomputable def E4:Key->Prop
 | .inl _=>True
 | .inr x=>x.length<=sizeLine
theorem Nn{K:Frag}{M:Ev->Prop}{H:Hp}{k:Key}(h:E4 k):At K M H (Oo k) (kOf k):=by
 cases k with
 | inl i=>exact rfl
 | inr x=>exact⟨rfl,h⟩
end
end Dp
namespace L2
open PySem PySem.Spec PyProof.Rows
section
open PySem.MeetsSeq
open PySem.AutoSeq1 (wpAny_loadPart')
theorem Q0(l:Ev)(items:Array FM)(n:Nat)(x:FM)(e:FM->Bool)(j:Nat)(hj:j<items.size)(hit:e items[j]=true)(hs1:items.size<=sizeLine)(prog:Zs)(w:Zz)(A:aB)(R:Result->Rs->Prop)(hp:Zk)(g:Array GenState)(d:Drawn)(tk:Nat)(os:_)
  (hl:hp.get? l=some { cls:=.type "list",dict:=none,data:=.seq items n,slots:=#[] }) (he:∀y,y∈items->PySem.SeqAt.EqAt A.in1 ⟨hp,g,d,tk,os⟩ y x (e y)) (h:R (.ok (.ret .none)) ⟨hp.update l (Z_ λxs=>xs.eraseIdxIfInBounds j),g,d,tk,os⟩) :
  ∀k i:Nat,j - i=k->i<=j->(∀m (hm:m<items.size),i<=m->m<j->e items[m]=false) ->
   wpAny (model prog w) A.in1 (bp.«list.remove.loop» ⟨[.ref l,x,rawInt i],[]⟩) (λfin s'=>match fin with | .done f=>R (.ok f) s' | .again c'=>c'.quiet=true/\codeAny (model prog w) A c' R s') (λe s'=>R (.error e) s') ⟨hp,g,d,tk,os⟩:=by
 intro k
 induction k with
 | zero =>
  intro i hk hij hno;have hij':i=j:=by omega
  subst hij'
  wp_walk using cD hl
  have hi:items[((i:Nat):Int).toNat]?=some items[i]:=by simp [hj]
  rw [hi];refine Db (he _ (Array.getElem_mem hj) prog w _ _ ?_);rw [hit];have hz':(items.eraseIdxIfInBounds i).size<=sizeLine+1:=Zu (size_erased items _) (Nat.le_succ_of_le hs1)
  wp_walk using (dZ hl rfl (hz:=hs1) (_hz':=hz')),cD hl
  simpa using h
 | succ k ih =>
  intro i hk hij hno;have hlt:i<items.size:=by omega
  wp_walk using cD hl
  have hi:items[((i:Nat):Int).toNat]?=some items[i]:=by simp [hlt]
  have hc:((i:Int)+1)=((i+1:Nat):Int):=by push_cast; rfl
  rw [hi];refine Db (he _ (Array.getElem_mem hlt) prog w _ _ ?_);rw [hno i hlt (Tk _) (by omega)]
  wp_walk
  rw [hc]
  exact⟨bK plain_remove_loop _,ae entry_remove_loop (by
   rw [aU plain_remove_loop _];exact ih (i+1) (by omega) (by omega) (λm hm h1 h2=>hno m hm (by omega) h2))⟩
theorem Q1{prog:Zs}{w:Zz}{A:aB}{E:FM->Rs->Prop}{s:Rs}{Q:FM->Rs->Prop}(l:Ev)(items:Array FM)(n:Nat)(x:FM)(e:FM->Bool)(j:Nat)(hj:j<items.size)(hit:e items[j]=true)(hno:∀m (hm:m<items.size),m<j->e items[m]=false)
  (hs1:items.size<=sizeLine) (hl:s.heap.get? l=some { cls:=.type "list",dict:=none,data:=.seq items n,slots:=#[] }) (he:∀y,y∈items->PySem.SeqAt.EqAt A.in1 s y x (e y))
  (h:Q .none { s with heap:=s.heap.update l (Z_ λxs=>xs.eraseIdxIfInBounds j) }):wpAny (model prog w) A (call (.builtin "list.remove") [.ref l,x]) Q E s:=by
 have key:wpAny (model prog w) A.in1 (bp.«list.remove» ⟨[.ref l,x],[]⟩) (λfin s'=>match fin with | .done f=>wants Q E (.ok f) s' | .again c'=>c'.quiet=true/\codeAny (model prog w) A c' (wants Q E) s') (λe s'=>wants Q E (.error e) s') s:=by
  obtain⟨hp,g,d,tk,os⟩:=s
  wp_walk using cD hl
  exact⟨bK plain_remove_loop _,ae entry_remove_loop (by
   rw [aU plain_remove_loop _];exact Q0 l items n x e j hj hit hs1 prog w A (wants Q E) hp g d tk os hl he h _ 0 rfl (Zi _) (λm hm _ h2=>hno m hm h2))⟩
 exact wpAny_call (codeAny_call_builtin PySem.F.slot_list_remove.plain PySem.F.entry_list_remove (PySem.F.slot_list_remove.check _ _ _ _ _ _ _ _ ⟨_,hl,rfl⟩ (PySem.F.args_list_remove_2 _ _) key))
end
section
variable {X:Cx}
noncomputable def OI:V->List V->Hp->VK->Prop:=λx vs H Q=>∃(l:Ev) (xs:List V) (y:V) (ds:List d_) (d:d_) (j:Nat),x=.ref l/\vs=[y]/\H l=some (.lst xs)/\RVs H ds xs/\RV H d y/\bd ds=true/\d.canLay0=true/\d.depth<=100 /\
 (∃dj,ds[j]?=some dj/\cO dj d=true)/\(∀m dm,m<j->ds[m]?=some dm->cO dm d=false)/\Q .non (Aw H l (.lst (xs.eraseIdx j)))
theorem Pn{k:Nat}(hr:Room k X.A):Yq X "list.remove" OI:=by
 intro pins s σ H x vs v us Q I rx rv h;obtain⟨l,xs,y,ds,d,j,rfl,rfl,hH,hds,hd,c1,c2,dd,⟨dj,hj,hit⟩,hno,q⟩:=h;cases rx;obtain⟨u,rfl,ru⟩:=rv.one;obtain⟨z,its,n,r,hl,e⟩:=I.lstM hH;obtain⟨as,ra⟩:=RVs.reads I hds r;obtain⟨bs,rb⟩:=RV.reads I hd ru;have hm:=PySem.SeqAt.readsAll_map ds its as c1 ra;have hlen:ds.length=its.length:=by rw [← hm,On]
 have hu:=hr.un;have hmin:min (a9 ds) d.depth<=d.depth:=eg _ _
 have at_:∀m dm,ds[m]?=some dm->∀(h:m<its.toArray.size),PySem.SeqAt.readOf s.heap its.toArray[m]=dm:=λm dm e h=>by
  rw [← hm,ZZ] at e;have h':m<its.length:=by simpa using h
  rw [No h'] at e;have e:=ZS e
  simpa using e
 have hjl:j<its.length:=by rw [← hlen]; exact(ZB.mp hj).1
 refine Q1 l its.toArray n u (λy=>cO (PySem.SeqAt.readOf s.heap y) d) j (by rw [UF]; exact hjl) (by rw [at_ j dj hj]; exact hit) (λm hm' hlt=>?_) (by rw [UF]; omega) e (PySem.SeqAt.items_eqAt (vs:=its.toArray) (by rw [dg]; exact ra) rb c1 c2 (by omega)) ?_
 ·have hml:m<ds.length:=by rw [hlen]; simpa using hm'
  rw [at_ m ds[m] (No hml) hm'];exact hno m ds[m] hlt (No hml)
 ·refine⟨.non,_,I.lset (t':=s.toks) (its':=its.eraseIdx j) hH e ?_ (r.eraseIdx j) ?_,rfl,q⟩
  ·show its.toArray.eraseIdxIfInBounds j=(its.eraseIdx j).toArray
   rw [dM]
  ·have:=Gc xs j
   omega
end
end L2
namespace Dp
open PySem PySem.Spec PyProof.Rows L2
noncomputable def Xb(d:D)(ds:List D)(P:D->D->Prop):Prop:=∃(xs:List D) (y:D) (j:Nat),d=.lst xs/\ds=[y]/\Ds (.lst xs)/\Ds y/\(∃x,xs[j]?=some x/\KC x y=true)/\(∀m x,m<j->xs[m]?=some x->KC x y=false)/\P (.lst (xs.eraseIdx j)) .non
theorem Xn{K:Frag}:UO K OI Xb:=by
 intro M H a d ds vs P Q m t hv w q;obtain⟨xs,y,j,rfl,rfl,⟨n1,l1,_⟩,⟨n2,l2,d2⟩,⟨x,hx,hit⟩,hno,w⟩:=w;obtain⟨us,h1,h2⟩:=t;obtain⟨u,r,rfl,hu,hr⟩:=hv;cases (show r=[] from hr)
 have get:∀(m:Nat) (p:d_),(A7 xs)[m]?=some p->∃x,xs[m]?=some x/\p=toPy x:=λm p e=>by
  rw [Et,ZZ] at e;obtain⟨x,e1,rfl⟩:=Zy.mp e;exact⟨x,e1,rfl⟩
 refine⟨a,us,u,A7 xs,toPy y,j,rfl,rfl,h1,h2.rv n1,hu.rv n2,l1,l2,d2,⟨toPy x,by rw [Et,ZZ,hx]; rfl,hit⟩,λm p hm e=>?_,q _ (.lst (xs.eraseIdx j)) .non _ ⟨us.eraseIdx j,AT,?_⟩ rfl w⟩
 ·obtain⟨x',e1,rfl⟩:=get m p e
  exact hno m x' hm e1
 ·exact(h2.eraseIdx j).pres (Bq m h1)
noncomputable def Hf(c:Gw)(wb:AW):AW:=λD2 n ρ=>∃W:Nat->Nat->List Slot->Prop,(∃m,W m n ρ)/\∀m n ρ,W m n ρ ->
 c n ρ λb n1=>if b=true then ∃N:Nat->List Slot->Prop,(∀n' ρ',N n' ρ'->∃m',m'<m/\W m' n' ρ')/\wb { D2 with nx:=N,ct:=N,bk:=D2.nx } n1 ρ else D2.nx n1 ρ
section
variable {X:Cx}{κ:Kd}{c:Expr}{body:List Stmt}{wc:Gw}{wb:AW}{pos:Pos}
theorem Ie(hp:d9 (model X.prog X.w) X.A X.env X.xe)(hc:DT X c wc)(hb:Mo X κ body wb):DS X κ (.While c body [] pos) (Hf wc wb):=by
 obtain⟨tc,c1,c2⟩:=hc;obtain⟨tb,b1,b2⟩:=hb;refine⟨_,RE hp c1 b1,λC M H n ρ σ D2 E R L w=>?_⟩;obtain⟨W,⟨m0,w0⟩,turn⟩:=w;refine⟨λm σ' H'=>∃M' n' ρ',Rel X.K C M' H' n' ρ' σ'/\W m n' ρ',⟨m0,M,n,ρ,R,w0⟩,?_⟩;rintro m σ' H' ⟨M',n',ρ',R',w'⟩;refine c2 C M' H' n' ρ' σ' _ _ R' (turn m n' ρ' w') λb H2 n2 e f p=>?_;have R2:=R'.step e f;cases b with
 | true =>
  rw [if_pos rfl] at p ⊢;obtain⟨N,hN,p⟩:=p;refine⟨λσ3 H3=>∃M3 n3 ρ3,Rel X.K C M3 H3 n3 ρ3 σ3/\N n3 ρ3,λσ3 H3 ⟨M3,n3,ρ3,R3,w3⟩=>?_,?_⟩
  ·obtain⟨m',hm,w4⟩:=hN n3 ρ3 w3
   exact⟨m',hm,M3,n3,ρ3,R3,w4⟩
  ·exact b2 C M' H2 n2 ρ' σ' { D2 with nx:=N,ct:=N,bk:=D2.nx } _ R2 ⟨λM4 H4 n4 ρ4 σ4 R4 w4=>⟨M4,n4,ρ4,R4,w4⟩,L.rt,λM4 H4 n4 ρ4 σ4 R4 w4=>L.nx M4 H4 n4 ρ4 σ4 R4 w4,λM4 H4 n4 ρ4 σ4 R4 w4=>⟨M4,n4,ρ4,R4,w4⟩⟩ p
 | false =>
  rw [if_neg (by decide)] at p ⊢;exact L.nx M' H2 n2 ρ' σ' R2 p
theorem GP{D2:E2}{n:Nat}{ρ:List Slot}(I:Nat->Nat->List Slot->Prop)(m0:Nat)(h0:I m0 n ρ)
  (hs:∀m n ρ (N:Nat->List Slot->Prop),I m n ρ->(∀m' n' ρ',m'<m->I m' n' ρ'->N n' ρ')->wc n ρ λb n1=>if b=true then wb { D2 with nx:=N,ct:=N,bk:=D2.nx } n1 ρ else D2.nx n1 ρ)
  (mono:∀n ρ (P Q:Bool->Nat->Prop),(∀b n1,P b n1->Q b n1)->wc n ρ P->wc n ρ Q):Hf wc wb D2 n ρ:=by
 refine⟨I,⟨m0,h0⟩,λm n ρ h=>?_⟩;refine mono n ρ _ _ (λb n1 p=>?_) (hs m n ρ (λn' ρ'=>∃m',m'<m/\I m' n' ρ') h λm' n' ρ' hm hi=>⟨m',hm,hi⟩);cases b with
 | true=>rw [if_pos rfl] at p ⊢; exact⟨_,λ_ _ z=>z,p⟩
 | false=>exact p
end
noncomputable def UR(i:Nat)(b:BW)(body:AW):AW:=λD2 n ρ=>∃ds,ρ[i]?=some (.ow (.lst ds))/\∀a,A0 b body { D2 with nx:=λn ρ=>ρ[i]?=some (.lt a (.lst ds))/\D2.nx n (ρ.set i (.ow (.lst ds))) } ds n (ρ.set i (.lt a (.lst ds)))
section
variable {X:Cx}{κ:Kd}{tg:Expr}{body:List Stmt}{b:BW}{wb:AW}{pos p:Pos}{x:Str}{i:Nat}
theorem T6(hp:d9 (model X.prog X.w) X.A X.env X.xe)(hc:X.calm=true)(h:PE X (.Name x p) (BU i))(hg:DG X tg b)(hb:Mo X κ body wb)
  (hs:autoParam (∀y,foldedSetIterable (.Name x p) X.env y=pure y) zau2._auto_1):DS X κ (.For tg (.Name x p) body [] pos) (UR i b wb):=by
 obtain⟨g,g1,g2⟩:=hg;obtain⟨tb,b1,b2⟩:=hb;refine⟨_,IH hp hc (Kw h) g1 b1 hs,λC M H n ρ σ D2 E R L w=>?_⟩;obtain⟨ds,hi,w⟩:=w;obtain⟨a,e1,hm,nv,vs,hH,hat⟩:=R.sl i _ hi;have hk:∀q∈C.kp,q.1≠a:=λq hq z=>(R.kept q hq).2.2.2 i _ hi (by rw [e1,z]);have R1:=(R.lend hi e1 hH rfl).pinned;refine⟨.ref a,getD_some e1,.inl ⟨a,rfl,⟨vs,.inl (.inl hH)⟩,?_⟩⟩;have w1:=w a;generalize hD3:({ D2 with nx:=λn ρ=>ρ[i]?=some (.lt a (.lst ds))/\D2.nx n (ρ.set i (.ow (.lst ds))) }:E2)=D3 at w1
 have L3:∀M H n ρ σ,Rel X.K { C with kp:=(a,.lst vs)::C.kp } M H n ρ σ->D3.nx n ρ->E.nx σ H:=λM H n ρ σ R w=>by
  rw [← hD3] at w;exact L.nx M H n _ σ (R.unlend w.1 hk rfl) w.2
 have Lrt:D3.rt=D2.rt:=by rw [← hD3]
 refine⟨λk m σ' H'=>m=ds.length - k/\k<=ds.length/\∃M' n' ρ',Rel X.K { C with kp:=(a,.lst vs)::C.kp,pins:=(M,H)::C.pins } M' H' n' ρ' σ'/\A0 b wb D3 (ds.drop k) n' ρ',⟨ds.length,by simp,Zi _,M,n,_,R1,w1⟩,?_⟩;rintro k m σ' H' ⟨rfl,hkl,M',n',ρ',R',w'⟩;have pr:Pres M H M' H':=R'.pin (M,H) Re;have ha':H' a=some (.lst vs):=(R'.kept (a,.lst vs) Re).1;have hq:SqL X.K H' a vs:=.inl (.inl ha')
 by_cases hlt:k<ds.length
 ·have ed:ds.drop k=ds[k]::ds.drop (k+1):=aa hlt
  rw [ed] at w';obtain⟨v,ev,hv⟩:=(hat.pres pr).get (No hlt);refine .inr ⟨⟨vs,v,hq,ev⟩,λσ2 H2=>∃M2 n2 ρ2,Rel X.K { C with kp:=(a,.lst vs)::C.kp,pins:=(M,H)::C.pins } M2 H2 n2 ρ2 σ2/\A0 b wb D3 (ds.drop (k+1)) n2 ρ2,λσ2 H2 ⟨M2,n2,ρ2,R2',w2⟩=>⟨ds.length - (k+1),by omega,rfl,hlt,M2,n2,ρ2,R2',w2⟩,λy H2 hy=>?_⟩;obtain⟨e2,hy⟩:=hy;subst e2
  have:some v=some y:=ev.symm.trans (hy vs hq)
  cases this;refine g2 _ M' H2 n' ρ' σ' ds[k] v _ _ R' hv w' λρ3 σ3 R3 w3=>?_;refine b2 _ M' H2 n' ρ3 σ3 { D3 with nx:=A0 b wb D3 (ds.drop (k+1)),ct:=A0 b wb D3 (ds.drop (k+1)),bk:=D3.nx } _ R3 ⟨λM4 H4 n4 ρ4 σ4 R4 w4=>⟨M4,n4,ρ4,R4,w4⟩,λv H d n e f r p=>L.rt v H d n e f r (by rw [← Lrt]; exact p),λM4 H4 n4 ρ4 σ4 R4 w4=>L3 M4 H4 n4 ρ4 σ4 R4.unpin w4,λM4 H4 n4 ρ4 σ4 R4 w4=>⟨M4,n4,ρ4,R4,w4⟩⟩ w3
 ·have e:k=ds.length:=by omega
  subst e;rw [cM] at w';exact .inl ⟨⟨vs,hq,by rw [hat.length]; exact Tk _⟩,L3 M' H' n' ρ' σ' R'.unpin w'⟩
end
end Dp
namespace Nt
open PySem PySem.Spec PyProof.Rows L2 Dp
noncomputable def Wg(s t:Tie):Decidable (s=t) :=
 if h:s.a=t.a/\s.b=t.b/\s.len=t.len then .isTrue (by obtain⟨a,b,l⟩:=s; obtain⟨a',b',l'⟩:=t; obtain⟨h1,h2,h3⟩:=h; simp only at h1 h2 h3; subst h1 h2 h3; rfl) else .isFalse λe=>h (by rw [e]; exact⟨rfl,rfl,rfl⟩)
noncomputable instance:DecidableEq Tie:=Wg
noncomputable abbrev EF(Pd:D->Nat->Prop):E2:={ nx:=λn _=>Kd.fr=.sh/\Pd .non n,rt:=Pd }
noncomputable def Hy(t:Tie):List Key:=[.inl t.len,.inr t.a,.inr t.b]
noncomputable def Dx(ts:List Tie):Prop:=ts.Pairwise λs t=>BY (Hy t) (Hy s)=false
noncomputable def Lv:D->D
 | .tup [x,y,z]=>.tup [z,x,y]
 | d=>d
noncomputable def X9(x:Str×Int):D:=.tup [.str x.1,.int x.2]
noncomputable abbrev O2:W2:=λss n P=>∃x y z:D,ss=[.sh (.tup [x,y,z])]/\P (.tup [z,x,y]) n
noncomputable def Em:W2:=λss n P=>∃(d:D) (ts:List Tie),ss=[.sh d]/\G9 d=some (ts.map Ao)/\ts.length<64/\∀ts':List Tie,ts'.Perm ts->Dx ts'->P (.lst (ts'.map Ao)) n
noncomputable def KP:AW:=(Ba (A3 (AC (AY BG (AD 0) (wC (D.int 2))) (AC (AY BG (AD 0) (wC (D.int 0))) (AC (AY BG (AD 0) (wC (D.int 1))) AQ)))))
noncomputable def Iw:AW:=(Ba (Qd O2 (AD 0)))
theorem Qz{s t:Tie}(h:Hy s=Hy t):s=t:=by
 obtain⟨a,b,l⟩:=s;obtain⟨a',b',l'⟩:=t;unfold Hy at h;simp only [List.cons.injEq,Sum.inl.injEq,Sum.inr.injEq,and_true] at h;obtain⟨rfl,rfl,rfl⟩:=h;rfl
theorem HK{α:Type}{R:α->α->Prop}(anti:∀a b,R a b->R b a->a=b):∀{l1 l2:List α},l1.Perm l2->l1.Pairwise R->l2.Pairwise R->l1=l2
 | [],l2,p,_,_=>(List.nil_perm.mp p).symm
 | a::l1,[],p,_,_=>absurd (List.perm_nil.mp p) (bC _ _)
 | a::l1,b::l2,p,h1,h2=>by
  have e:a=b:=by
   rcases XV.mp (p.mem_iff.mp Re) with e | h
   ·exact e
   ·rcases XV.mp (p.mem_iff.mpr (Re (a:=b) (l:=l2))) with e | h'
    ·exact e.symm
    ·exact anti a b ((al.mp h1).1 b h') ((al.mp h2).1 a h)
  subst e;rw [HK anti ((List.perm_cons a).mp p) (al.mp h1).2 (al.mp h2).2]
theorem Lu{l1 l2:List Tie}(p:l1.Perm l2)(h1:Dx l1)(h2:Dx l2):l1=l2:=HK (λa b x y=>Qz (CI _ _ y x)) p h1 h2
theorem OC{α:Type}{f:α->D}{g:D->α}(hg:∀x,g (f x)=x){xs:List D}{ts:List α}(h:xs.Perm (ts.map f)):∃ts':List α,ts'.Perm ts/\xs=ts'.map f:=by
 refine⟨xs.map g,?_,?_⟩
 ·have:=h.map g
  rw [aO,show g∘f=id from funext hg,List.map_id] at this;exact this
 ·rw [aO]
  have:∀x∈xs,(f∘g) x=x:=λx hx=>by
   obtain⟨t,_,rfl⟩:=TW.mp (h.mem_iff.mp hx);show f (g (f t))=f t;rw [hg]
  rw [bv this,List.map_id']
noncomputable def V9:D->Tie
 | .tup [.str a,.str b,.int l]=>⟨a,b,l⟩
 | _=>⟨"","",0⟩
section
variable {ss:List Slot}{n:Nat}{Pd:D->Nat->Prop}
theorem NG(h:O2 ss n Pd):KP (EE Pd) n (ss++Zd 0 .no):=by
 obtain⟨x,y,z,rfl,p⟩:=h;unfold KP;exact⟨_,AJ (j:=2) rfl,_,AJ (j:=0) rfl,_,AJ (j:=1) rfl,z3,p⟩
theorem RR{ts:List Tie}(h:GL (λx=>CJ (Lv x)) (ts.map Ao)):Dx ts:=by
 unfold GL at h;rw [aZ] at h;exact h.imp λ{s t} z=>z _ _ rfl rfl
theorem Lr(h:Em ss n Pd):Iw (EF Pd) n (ss++Zd 0 .no):=by
 obtain⟨d,ts,rfl,hd,h64,p⟩:=h;unfold Iw;refine⟨ts.map Ao,Lv,hd,by rw [On]; exact h64,λx hx Q hq=>?_,⟨λx hx=>?_,λx hx y hy ka kb ea eb=>?_⟩,λxs' hp ho=>?_⟩
 ·obtain⟨t,_,rfl⟩:=TW.mp hx
  exact⟨_,_,_,rfl,hq⟩
 ·obtain⟨t,_,rfl⟩:=TW.mp hx
  exact⟨Hy t,rfl,bC _ _⟩
 ·obtain⟨t,_,rfl⟩:=TW.mp hx
  obtain⟨u,_,rfl⟩:=TW.mp hy;cases (show some (Hy t)=some ka from ea);cases (show some (Hy u)=some kb from eb);rfl
 ·obtain⟨ts',h1,rfl⟩:=OC (g:=V9) (λ_=>rfl) hp
  exact p ts' h1 (RR ho)
theorem Do{N:Net}(ok:N.Ok){x:Str}{p:Str×Int}(h:p∈Cu N.ts x):p.1∈N.ps/\1<=p.2/\p.2<=1000000/\∃t∈N.ts,t.len=p.2/\((t.a=x/\t.b=p.1)\/(t.b=x/\t.a=p.1)):=by
 unfold Cu at h;obtain⟨t,ht,h⟩:=Z3.mp h;obtain⟨m1,m2,m3,m4,m5⟩:=ok.tin t ht
 rcases Zb.mp h with h | h
 ·split at h
  ·rename_i e
   rw [Go.mp h];exact⟨m2,m4,m5,t,ht,rfl,.inl ⟨e,rfl⟩⟩
  ·cases h
 ·split at h
  ·rename_i e
   rw [Go.mp h];exact⟨m1,m4,m5,t,ht,rfl,.inr ⟨e,rfl⟩⟩
  ·cases h
theorem Og(s t:Tie):KC (Ao s) (Ao t)=true↔s=t:=by
 obtain⟨a,b,l⟩:=s;obtain⟨a',b',l'⟩:=t;show (a==a'&&(b==b'&&(l==l'&&true)))=true↔_;rw [fZ,Zl,Zl,beq_iff_eq,beq_iff_eq,beq_iff_eq];constructor
 ·rintro ⟨rfl,rfl,rfl⟩; rfl
 ·rintro h; cases h; exact⟨rfl,rfl,rfl⟩
theorem Jz{xs:List D}(h:∀d∈xs,item d):Ds (.lst xs):=by
 have d1:QC xs<=1:=dps_le.mpr λd hd=>(h d hd).2.2;exact Nc (B:=1000001) (by decide) (fines_iff.mpr λd hd=>(h d hd).1) (by show QC xs+1<=100; omega)
theorem Gm{α β:Type}(f:α->β):∀(l:List α) (i:Nat),(l.map f).eraseIdx i=(l.eraseIdx i).map f
 | [],i=>rfl
 | x::l,0=>rfl
 | x::l,i+1=>by
  show f x::(l.map f).eraseIdx i=f x::(l.eraseIdx i).map f;rw [Gm f l i]
theorem T2{N:Net}(ok:N.Ok){x o:Str}{s t:Tie}(hs:s∈N.ts)(ht:t∈N.ts)(e:Bv s t)(h1:(s.a=x/\s.b=o)\/(s.b=x/\s.a=o))(h2:(t.a=x/\t.b=o)\/(t.b=x/\t.a=o)):False:=by
 have ls:=(ok.tin s hs).2.2.1;have lt:=(ok.tin t ht).2.2.1;have irr:∀a:Str,¬cs a<cs a:=λa=>aK _
 rcases h1 with ⟨a1,b1⟩ | ⟨a1,b1⟩ <;> rcases h2 with ⟨a2,b2⟩ | ⟨a2,b2⟩ <;> rw [a1,b1] at ls <;> rw [a2,b2] at lt
 ·rcases e with e | ⟨_,e⟩
  ·rw [a1,a2] at e; exact irr _ e
  ·rw [b1,b2] at e; exact irr _ e
 ·exact irr _ (b7 ls lt)
 ·exact irr _ (b7 ls lt)
 ·rcases e with e | ⟨_,e⟩
  ·rw [b1,b2] at e; exact irr _ e
  ·rw [a1,a2] at e; exact irr _ e
theorem GY{N:Net}(ok:N.Ok)(x:Str):((Cu N.ts x).map (·.1)).Nodup:=by
 have go:∀ts:List Tie,(∀t∈ts,t∈N.ts)->ts.Pairwise Bv->((Cu ts x).map (·.1)).Nodup:=by
  intro ts
  induction ts with
  | nil=>intro _ _; exact Zp
  | cons t ts ih =>
   intro hin hp;have i1:=ih (λs hs=>hin s (Sc _ hs)) (al.mp hp).2;have lt:=(ok.tin t (hin t Re)).2.2.1
   have new:∀y,((t.a=x/\t.b=y)\/(t.b=x/\t.a=y))->y∉(Cu ts x).map (·.1):=λy hy hm=>by
    obtain⟨s,hs,h⟩:=HM hm;exact T2 ok (hin t Re) (hin s (Sc _ hs)) ((al.mp hp).1 s hs) hy h
   have e:Cu (t::ts) x=((if t.a=x then [(t.b,t.len)] else [])++(if t.b=x then [(t.a,t.len)] else []))++Cu ts x:=by
    unfold Cu;rw [aL]
   rw [e]
   by_cases h1:t.a=x
   ·have h2:¬t.b=x:=λz=>by rw [h1,z] at lt; exact aK _ lt
    rw [if_pos h1,if_neg h2,Zn,dI,ZX,ZY];exact⟨new _ (.inl ⟨h1,rfl⟩),i1⟩
   ·rw [if_neg h1,aA]
    by_cases h2:t.b=x
    ·rw [if_pos h2,dI,ZX,ZY]
     exact⟨new _ (.inr ⟨h2,rfl⟩),i1⟩
    ·rw [if_neg h2,aA]
     exact i1
 exact go N.ts (λ_ h=>h) ok.trise
end
noncomputable def C8(t:Tie):List Key:=[.inr t.a,.inr t.b,.inl t.len]
noncomputable def Nl(t:Tie):List Key:=[.inr t.a,.inr t.b]
noncomputable def F6(ts:List Tie):Prop:=ts.Pairwise λs t=>BY (C8 t) (C8 s)=false
theorem Xf{a:Str}{x:D}(h:KC x (.str a)=true):x=.str a:=by
 cases x with
 | str b =>
  have h:(b==a)=true:=h;rw [eq_of_beq h]
 | _=>cases h
theorem EU:∀{xs:List D} {ps:List Str},eN (A7 xs) (A7 (ps.map .str))=true->xs=ps.map .str
 | [],[],_=>rfl
 | [],_::_,h=>by cases h
 | _::_,[],h=>by cases h
 | x::xs,p::ps,h=>by
  have h:(cO (toPy x) (toPy (.str p))&&eN (A7 xs) (A7 (ps.map .str)))=true:=h;rw [Zl] at h;rw [Xf (a:=p) (x:=x) h.1,EU h.2];rfl
theorem eqvAll_refl:∀ps:List Str,eN (A7 (ps.map .str)) (A7 (ps.map .str))=true
 | []=>rfl
 | p::ps=>by
  show ((p==p)&&eN (A7 (ps.map .str)) (A7 (ps.map .str)))=true;rw [beq_self_eq_true,eqvAll_refl ps];rfl
theorem eqD_strs{p:D}{ps:List Str}:KC p (.tup (ps.map .str))=true↔p=.tup (ps.map .str):=by
 constructor
 ·intro h
  cases p with
  | tup xs=>rw [EU (xs:=xs) (ps:=ps) h]
  | _=>cases h
 ·rintro rfl
  exact eqvAll_refl ps
theorem Vn(s t:Tie):YU (Ao s) (Ao t)=some (BY (C8 s) (C8 t)):=by
 show (if (true&&(true&&(true&&true)))=true then some (EN (C8 s) (C8 t)) else none)=_;rw [if_pos (show (true&&(true&&(true&&true)))=true from rfl),HQ _ _ rfl]
theorem ekey_iff{s t:Tie}:BY (Nl s) (Nl t)=true↔Bv s t:=by
 show (if (aD s.a:Key)=.inr t.a then (if (aD s.b:Key)=.inr t.b then false else decide (cs s.b<cs t.b)) else decide (cs s.a<cs t.a))=true↔(cs s.a<cs t.a\/(s.a=t.a/\cs s.b<cs t.b))
 by_cases h1:s.a=t.a
 ·rw [if_pos (by rw [h1])]
  by_cases h2:s.b=t.b
  ·rw [if_pos (by rw [h2]),h1,h2]
   constructor
   ·intro h; cases h
   ·rintro (h | ⟨_,h⟩)
    ·exact absurd h (Bl _)
    ·exact absurd h (Bl _)
  ·rw [if_neg (λe=>h2 (am e)),decide_eq_true_eq,h1]
   constructor
   ·intro h; exact .inr ⟨rfl,h⟩
   ·rintro (h | ⟨_,h⟩)
    ·exact absurd h (Bl _)
    ·exact h
 ·rw [if_neg (λe=>h1 (am e)),decide_eq_true_eq]
  constructor
  ·intro h; exact .inl h
  ·rintro (h | ⟨h,_⟩)
   ·exact h
   ·exact absurd h h1
theorem Jb(s:Tie):¬Bv s s:=by
 rintro (h | ⟨_,h⟩) <;> exact Bl _ h
theorem Ke{s t:Tie}(h:Bv s t):BY (C8 s) (C8 t)=true:=by
 show (if (aD s.a:Key)=.inr t.a then (if (aD s.b:Key)=.inr t.b then (if (cG s.len:Key)=.inl t.len then false else decide (s.len<t.len)) else decide (cs s.b<cs t.b)) else decide (cs s.a<cs t.a))=true
 rcases h with h | ⟨h,h'⟩
 ·rw [if_neg (λe=>Bl s.a (by rw [am e] at h ⊢; exact h)),decide_eq_true h]
 ·rw [if_pos (by rw [h]),if_neg (λe=>Bl s.b (by rw [am e] at h' ⊢; exact h')),decide_eq_true h']
theorem A5{ts:List Tie}(h:ts.Pairwise Bv):ts.Nodup:=h.imp λ{s t} h e=>by rw [e] at h; exact Jb _ h
theorem sub_len{l m:List Tie}(hl:l.Nodup)(hm:m.Nodup)(h:∀t∈l,t∈m):l.length<=m.length:=by
 have:l.Perm (m.filter λt=>decide (t∈l)):=(bA hl (hm.filter _)).mpr λt=>by
  rw [ax,decide_eq_true_eq];exact⟨λz=>⟨h t z,z⟩,λz=>z.2⟩
 rw [this.length_eq];exact cJ _ _
theorem VN{N:Net}(ok:N.Ok){ts:List Tie}(h:∀t∈ts,t∈N.ts)(hp:ts.Pairwise Bv):Net.Ok ⟨N.ps,ts⟩:=⟨ok.names,ok.rise,λt ht=>ok.tin t (h t ht),hp⟩
end Nt
namespace L2
open PySem PySem.Spec PyProof.Rows PySem.W
section
variable {X:Cx}
theorem L0(is:List Int):∀(n:Nat) (f:Nat->Int),(∀i,i<n->is[i]?=some (f i))->is.length=n->preSum f n=is.sum:=by
 have go:∀(n:Nat) (f:Nat->Int),(∀i,i<n->is[i]?=some (f i))->n<=is.length->preSum f n=(is.take n).sum:=by
  intro n
  induction n with
  | zero=>intro f h _; rfl
  | succ n ih =>
   intro f h hl;have h1:=ih f (λi hi=>h i (by omega)) (by omega);have h2:=h n (by omega);show preSum f n+f n=_;rw [List.take_add_one,h2,Option.toList_some,List.sum_append,h1];simp
 intro n f h hl
 have:=go n f h (by omega)
 rw [dC (by omega)] at this;exact this
theorem Me(hc:X.calm=true):By X (.builtin "sum") (λxs H Q=>∃(p:Ev) (is:List Int),xs=[.ref p]/\SqL X.K H p (is.map V.int)/\Q (.int is.sum) H):=by
 intro pins s σ H xs us Q I r h;obtain⟨p,is,rfl,hq,q⟩:=h;obtain⟨u,rfl,rx⟩:=vals1 r;cases rx;obtain⟨its,r',pl,hz⟩:=I.list hq;have hlen:=r'.length;rw [On] at hlen;have hl:s.heap.IsList p its.toArray:=pl.isList;have hlt:p<s.heap.objs.size:=by obtain⟨_,e,_⟩:=id hl; exact ZU e
 refine call_sum_walkAnyS (aw hl ?_)
 refine⟨s.heap.objs.size,_,_,_,_,_,_,λi=>(is[i]?).getD 0,rfl,(Walks.list (A:=X.A.in1) (I.ok.hd hc) _ p (Zo hlt) its.toArray).toS,
  ⟨⟨_,Uf _ rfl,rfl,rfl⟩,hl.push _⟩,λb hb=>?_,λi v hP=>?_,λs' t' hm=>?_⟩
 ·rcases XV.mp hb with rfl | hb
  ·exact ZU (Uf _ rfl)
  ·obtain rfl:=Go.mp hb
   exact Zv hlt (by show s.heap.objs.size<=(s.heap.push _).objs.size; rw [eS]; exact a_ _)
 ·have hv:its[i]?=some v:=by simpa using hP
  have hi:i<its.length:=(ZB.mp hv).1;have eb:is[i]?=some (is[i]'(by omega)):=No (by omega);obtain⟨u,eu,ru⟩:=r'.get (i:=i) (x:=.int (is[i]'(by omega))) (by rw [ZZ,eb]; rfl);rw [hv] at eu;cases eu;obtain⟨t,rfl⟩:=ru;exact⟨t,by show _=fC ((is[i]?).getD 0) t; rw [eb]; rfl⟩
 ·obtain⟨h',g',d',tk',os'⟩:=s'
  have e1:g'=s.gens:=hm.gens;have e2:d'=s.drawn:=hm.drawn;have e3:os'=s.os:=hm.os;subst e1 e2 e3;refine⟨.int is.sum,H,I.kept (t':=tk') λb x e=>hm.heap b x (λhb=>by rw [Go.mp hb] at e; exact aM _ (ZU e)) (Op _ e),?_,q⟩;rw [L0 is its.toArray.size _ (λi hi=>by rw [UF] at hi; rw [No (show i<is.length by omega)]; rfl) (by rw [UF]; omega)];exact⟨t',rfl⟩
end
end L2
namespace Dp
open PySem PySem.Spec PyProof.Rows L2
section
variable {X:Cx}{K:Frag}
noncomputable def QQ:List D->Option (List Int)
 | []=>some []
 | .int b::r=>(QQ r).map (b::·)
 | _::_=>none
theorem Oy{M:Ev->Prop}{H:Hp}:∀{ds:List D} {vs:List V} {bs:List Int},QQ ds=some bs->Ats K M H ds vs->vs=bs.map V.int
 | [],vs,bs,e,h=>by cases e; exact h
 | d::ds,vs,bs,e,h=>by
  obtain⟨v,r,e1,h1,h2⟩:=h;cases d with
  | int b =>
   obtain⟨bs',e2,rfl⟩:=Zy.mp (show (QQ ds).map (b::·)=some bs from e);rw [e1,Oy e2 h2,ZX]
   congr 1
  | _=>cases e
theorem JA{α:Type}(f:α->Int):∀l:List α,QQ (l.map λa=>.int (f a))=some (l.map f)
 | []=>rfl
 | a::l=>by
  show (QQ (l.map λa=>.int (f a))).map (f a::·)=_;rw [JA f l];rfl
noncomputable def V1(ds:List D)(P:D->Prop):Prop:=∃xs is,ds=[.lst xs]/\QQ xs=some is/\P (.int is.sum)
theorem Ux:CS K .sh (λxs H Q=>∃(p:Ev) (is:List Int),xs=[.ref p]/\SqL K H p (is.map V.int)/\Q (.int is.sum) H) V1:=by
 intro U M H ds vs P Q dom vM hp w q;obtain⟨xs,is,rfl,e,w⟩:=w;obtain⟨v,rfl,hx⟩:=DK hp;obtain⟨a,us,rfl,_,ha,hs⟩:=hx
 have:=Oy e hs
 subst this;exact⟨a,is,rfl,.inl ha,q _ H (.int is.sum) .refl rfl w⟩
end
end Dp
namespace Nt
open PySem PySem.Spec PyProof.Rows L2 Dp
noncomputable def look(ts:List Tie)(x y:Str):Option Int:=((Cu ts x).find? λz=>decide (z.1=y)).map (·.2)
theorem Kc{y:Str}:∀{xs:List (Str×Int)},BI (xs.map λx=>.inr x.1) (xs.map λx=>.int x.2) (.inr y)=((xs.find? λz=>decide (z.1=y)).map (·.2)).map .int
 | []=>rfl
 | p::ps=>by
  show (if (aD p.1:Key)=.inr y then some (D.int p.2) else BI (ps.map λx=>.inr x.1) (ps.map λx=>.int x.2) (.inr y))=_;rw [Kc (xs:=ps)]
  by_cases e:p.1=y
  ·rw [if_pos (by rw [e]),List.find?_cons_of_pos (by exact decide_eq_true e)]; rfl
  ·rw [if_neg (λz=>e (am z)),List.find?_cons_of_neg (by rw [decide_eq_true_eq]; exact e)]
theorem RZ{N:Net}(ok:N.Ok){x y:Str}{l:Int}(h:look N.ts x y=some l):y∈N.ps/\1<=l/\l<=1000000:=by
 unfold look at h;cases c:(Cu N.ts x).find? λz=>decide (z.1=y) with
 | none=>rw [c] at h; cases h
 | some z =>
  rw [c] at h;cases h;have h1:=List.find?_some c;have h2:=eT c;obtain⟨t,ht,hz⟩:=Z3.mp h2;obtain⟨m1,m2,_,m3,m4⟩:=ok.tin t ht;have ey:z.1=y:=of_decide_eq_true h1
  rcases Zb.mp hz with hz | hz
  ·split at hz
   ·cases Go.mp hz
    exact⟨by rw [← ey]; exact m2,m3,m4⟩
   ·cases hz
  ·split at hz
   ·cases Go.mp hz
    exact⟨by rw [← ey]; exact m1,m3,m4⟩
   ·cases hz
section
variable {ss:List Slot}{n:Nat}{Pd:D->Nat->Prop}
theorem Fp{b:BW}{tt:Gw}{te:DW}{P:List D->Nat->Prop}(c:D->Bool)(g:D->D)(I:List Slot->Prop):∀(ds acc:List D) (n:Nat) (ρ:List Slot),
  (∀d∈ds,∀(ρ:List Slot) (n:Nat) (nx:D->Nat->List Slot->Prop) (sk:Nat->List Slot->Prop),I ρ->(∀ρ',I ρ'->c d=true->nx (g d) n ρ')->(∀ρ',I ρ'->c d=false->sk n ρ')->b d ρ λρ1=>tt n ρ1 λc n1=>if c=true then te n1 ρ1 λy n2=>nx y n2 ρ1 else sk n1 ρ1)->I ρ->P (acc++(ds.filter c).map g) n->EM b tt te P ds acc n ρ
 | [],acc,n,ρ,_,_,h=>by rw [List.filter_nil,ce,Zn] at h; exact h
 | d::ds,acc,n,ρ,ht,hρ,h=>ht d Re ρ n (λy n2 ρ1=>EM b tt te P ds (acc++[y]) n2 ρ1) (λn2 ρ1=>EM b tt te P ds acc n2 ρ1) hρ
  (λρ' hρ' hc=>Fp c g I ds (acc++[g d]) n ρ' (λd hd=>ht d (Sc _ hd)) hρ' (by rw [List.filter_cons_of_pos hc] at h; rw [Zg]; exact h))
  (λρ' hρ' hc=>Fp c g I ds acc n ρ' (λd hd=>ht d (Sc _ hd)) hρ' (by rw [List.filter_cons_of_neg (by rw [hc]; decide)] at h; exact h))
noncomputable def XO:D->D
 | .tup [_,_,l]=>l
 | d=>d
end
theorem OT{ts:List Tie}(h:GL CJ (ts.map Ao)):F6 ts:=by
 unfold GL at h;rw [aZ] at h;exact h.imp λ{s t} z=>z _ _ rfl rfl
theorem Rc{N:Net}(ok:N.Ok){ts:List Tie}(h:∀t∈ts,t∈N.ts):Ds (.tup (ts.map Ao))/\Ds (.lst (ts.map Ao)):=by
 have it:∀d∈ts.map Ao,item d:=λd hd=>by
  obtain⟨t,ht,rfl⟩:=TW.mp hd;exact ML ok _ (TW.mpr ⟨t,h t ht,rfl⟩)
 have d1:QC (ts.map Ao)<=1:=dps_le.mpr λd hd=>(it d hd).2.2;exact⟨Nc (B:=1000001) (by decide) (fines_iff.mpr λd hd=>(it d hd).1) (by show QC (ts.map Ao)+1<=100; omega),Jz it⟩
theorem Tl{N:Net}(ok:N.Ok){t:Tie}(h:t∈N.ts):Ds (Ao t):=by
 have it:=ML ok _ (TW.mpr ⟨t,h,rfl⟩);exact Nc (B:=1000001) (by decide) it.1 (by have:=it.2.2; omega)
theorem UL{ts:List Tie}{t:Tie}:((ts.map Ao).any λy=>KC y (Ao t))=decide (t∈ts):=by
 rw [ay,bP,decide_eq_true_eq];constructor
 ·rintro ⟨d,hd,e⟩
  obtain⟨s,hs,rfl⟩:=TW.mp hd;rw [← (Og s t).mp e];exact hs
 ·intro h
  exact⟨Ao t,TW.mpr ⟨t,h,rfl⟩,(Og t t).mpr rfl⟩
section
variable {ss:List Slot}{n:Nat}{Pd:D->Nat->Prop}
end
section
variable {ss:List Slot}{n:Nat}{Pd:D->Nat->Prop}
end
theorem Qp{s t:Tie}(h:C8 s=C8 t):s=t:=by
 obtain⟨a,b,l⟩:=s;obtain⟨a',b',l'⟩:=t;unfold C8 at h;simp only [List.cons.injEq,Sum.inl.injEq,Sum.inr.injEq,and_true] at h;obtain⟨rfl,rfl,rfl⟩:=h;rfl
theorem M8{l1 l2:List Tie}(p:l1.Perm l2)(h1:F6 l1)(h2:F6 l2):l1=l2:=HK (λa b x y=>Qp (CI _ _ y x)) p h1 h2
theorem Nv{ts:List Tie}(h:ts.Pairwise Bv):F6 ts:=h.imp λ{s t} z=>by
 cases e:BY (C8 t) (C8 s) with
 | false=>rfl
 | true =>
  have:=Cq _ _ _ (Ke z) e
  rw [CP] at this;cases this
noncomputable def D4:W2:=λss n P=>∃l t b x:Int,ss=[.sh (.int l),.sh (.tup [.int t,.int b]),.sh (.int x)]/\1<=b/\b<=1000000/\1<=t/\t<=1000000/\P (.bl (decide (l*b<=x*t))) n
noncomputable def G5:AW:=(Ba (AY Tx (AY Gz (AD 0) (AY BG (AD 1) (wC (D.int 1)))) (AY Gz (AD 2) (AY BG (AD 1) (wC (D.int 0))))))
section
variable {ss:List Slot}{n:Nat}{Pd:D->Nat->Prop}
theorem Y8{i j:Int}(h0:0<=j)(h1:j<=1000000):CMul i j:=.inr ⟨by omega,by omega⟩
theorem Fj(h:D4 ss n Pd):G5 (EE Pd) n (ss++Zd 0 .no):=by
 obtain⟨l,t,b,x,rfl,b0,b1,t0,t1,p⟩:=h;unfold G5;exact⟨_,AJ (j:=1) rfl,Y8 (by omega) b1,_,AJ (j:=0) rfl,Y8 (by omega) t1,p⟩
end
end Nt
namespace L2
open PySem PySem.Spec PyProof.Rows PySem.W
section
variable {prog:Program}{w:World}{A:Around}{E:Value->Shared->Prop}{R:Result->Shared->Prop}{I:Addr}{fp wr:List Addr}{n:Nat}{P:Nat->Value->Prop}{St:Nat->Heap->Prop}
noncomputable def U4(prog:Zs)(w:Zz)(A:aB)(op:CmpOp)(P:Nat->FM->Prop)(Cm:Zk->Prop)(bt:Nat->Nat->Bool):Prop :=
 ∀i j vi vj (s:Rs) (Q:FM->Rs->Prop) (E:FM->Rs->Prop),Cm s.heap->P i vi->P j vj->Q (.bool (bt i j)) s->wpAny (model prog w) A (richCompare op vi vj) Q E s
theorem Pp(W:Walks prog w A.in1 I fp wr n P St)(bt:Nat->Nat->Bool)(Cm:Zk->Prop)(hcmp:U4 prog w A.in1 .Lt P Cm bt)(S:Ev)(hSf:S∉fp)(hmono:∀h h':Zk,Cm h->(∀b o,b∉wr->b≠S->h.get? b=some o->h'.get? b=some o)->Cm h') :
  ∀(k j:Nat) (s:Rs) (vb:FM) (c:Nat),n - (j+1)=k->j+1<=n->St (j+1) s.heap->Cm s.heap->P (argBest bt j) vb ->
  s.heap.get? S=some { cls:=.type "list",dict:=none,data:=.seq #[vb,vb] c,slots:=#[] } ->
  (∀v h' tk,P (argBest bt (n - 1)) v->(∀b o,b∉wr->b≠S->s.heap.get? b=some o->h'.get? b=some o)->R (.ok (.ret v)) { s with heap:=h',toks:=tk }) ->
  codeAny (model prog w) A (.builtin "min.loop" ⟨[.ref I,.none,.ref S],[]⟩) R s:=by
 have hSw:S∉wr:=λh=>hSf (W.sub _ h);have hname:(toString "min"++toString ".loop" : String) = "min.loop":=by decide
 intro k
 induction k with
 | zero =>
  intro j s vb c hk hj hst hcm hPb hS hR;have hin:j+1=n:=by omega
  refine ae PySem.F.entry_min_loop ?_;rw [aU PySem.F.plain_min_loop _];show wpAny _ A.in1 (seqItems? (.ref S) >>= _) _ _ s;refine Db (aY hS rfl ?_);show wpAny _ A.in1 (tryCatch (pyNext (.ref I)) _ >>= _) _ _ s;refine Db (dn (W.done s _ _ (hin▸hst) λh' tk hk'=>?_));have hS':=hk' S _ hSw hS;show wpAny _ A.in1 (updateSeq S (λ_=>#[]) >>= _) _ _ _;refine Db ?_;refine dZ hS' rfl (Db (bo (TM ?_)));refine hR vb _ tk (by rw [← hin]; exact hPb) λb o hbw hbS e=>(Zm _ _ (aI hbS)).trans (hk' b o hbw e)
 | succ k ih =>
  intro j s vb c hk hj hst hcm hPb hS hR;have hlt:j+1<n:=by omega
  refine ae PySem.F.entry_min_loop ?_;rw [aU PySem.F.plain_min_loop _];show wpAny _ A.in1 (seqItems? (.ref S) >>= _) _ _ s;refine Db (aY hS rfl ?_);show wpAny _ A.in1 (tryCatch (pyNext (.ref I)) _ >>= _) _ _ s;refine Db (dn (W.item (j+1) s _ _ hlt hst λv h' tk hP hst' hk'=>?_));have hS':=hk' S _ hSw hS;have hcm':Cm h':=hmono _ _ hcm λb o h1 _ e=>hk' b o h1 e;show wpAny _ A.in1 (tryCatch (holding [v,v] (richCompare .Lt v vb >>= _)) _ >>= _) _ _ _;refine Db (dn (aN (Db (hcmp (j+1) (argBest bt j) v vb _ _ _ hcm' hP hPb ?_))));refine Db (aN (bH ?_));refine Db (bo (TM ?_));cases hb:bt (j+1) (argBest bt j) with
  | true =>
   simp only [if_true];refine Db ?_;refine dZ hS' rfl (Db (bo ?_));rw [hname]
   refine TM ⟨bK PySem.F.plain_min_loop _,ih (j+1) _ v _ (by omega) hlt (W.frame _ _ _ hst' λb hbf o e=>?_) (hmono _ _ hcm' λb o _ h2 e=>(Zm _ _ (aI h2)).trans e) (by simp only [argBest,hb,if_true]; exact hP) (bY _ hS' rfl)
    λv' h'' tk'' hP' hk''=>?_⟩
   ·exact(Zm _ _ (λh:S=b=>hSf (by rw [h]; exact hbf))).trans e
   ·exact hR v' h'' tk'' hP' λb o hbw hbS e=>hk'' b o hbw hbS ((Zm _ _ (aI hbS)).trans (hk' b o hbw e))
  | false =>
   simp only [aS,if_false];refine Db (bo ?_);rw [hname];refine TM ⟨bK PySem.F.plain_min_loop _,ih (j+1) _ vb c (by omega) hlt hst' hcm' (by simp only [argBest,hb,aS,if_false]; exact hPb) hS' λv' h'' tk'' hP' hk''=>?_⟩;exact hR v' h'' tk'' hP' λb o hbw hbS e=>hk'' b o hbw hbS (hk' b o hbw e)
theorem NY(W:Walks prog w A.in1 I fp wr n P St)(bt:Nat->Nat->Bool)(Cm:Zk->Prop)(hcmp:U4 prog w A.in1 .Lt P Cm bt)(S:Ev)(hSf:S∉fp)(hmono:∀h h':Zk,Cm h->(∀b o,b∉wr->b≠S->h.get? b=some o->h'.get? b=some o)->Cm h')(hn:0<n){s:Rs}{c:Nat}(hst:St 0 s.heap)(hcm:Cm s.heap)
  (hS:s.heap.get? S=some { cls:=.type "list",dict:=none,data:=.seq #[] c,slots:=#[] })
  (hR:∀v h' tk,P (argBest bt (n - 1)) v->(∀b o,b∉wr->b≠S->s.heap.get? b=some o->h'.get? b=some o)->R (.ok (.ret v)) { s with heap:=h',toks:=tk }) :
  codeAny (model prog w) A (.builtin "min.loop" ⟨[.ref I,.none,.ref S],[]⟩) R s:=by
 have hSw:S∉wr:=λh=>hSf (W.sub _ h);have hname:(toString "min"++toString ".loop" : String) = "min.loop":=by decide
 refine ae PySem.F.entry_min_loop ?_;rw [aU PySem.F.plain_min_loop _];show wpAny _ A.in1 (seqItems? (.ref S) >>= _) _ _ s;refine Db (aY hS rfl ?_);show wpAny _ A.in1 (tryCatch (pyNext (.ref I)) _ >>= _) _ _ s;refine Db (dn (W.item 0 s _ _ hn hst λv h' tk hP hst' hk'=>?_));have hS':=hk' S _ hSw hS;have hcm':Cm h':=hmono _ _ hcm λb o h1 _ e=>hk' b o h1 e;show wpAny _ A.in1 (updateSeq S (λ_=>#[v,v]) >>= _) _ _ _;refine Db ?_;refine dZ hS' rfl ?_;rw [hname];refine TM ⟨bK PySem.F.plain_min_loop _,Pp W bt Cm hcmp S hSf hmono _ 0 _ v _ rfl hn (W.frame _ _ _ hst' λb hbf o e=>?_) (hmono _ _ hcm' λb o _ h2 e=>(Zm _ _ (aI h2)).trans e) hP (bY _ hS' rfl) λv' h'' tk'' hP' hk''=>?_⟩
 ·exact(Zm _ _ (λh:S=b=>hSf (by rw [h]; exact hbf))).trans e
 ·exact hR v' h'' tk'' hP' λb o hbw hbS e=>hk'' b o hbw hbS ((Zm _ _ (aI hbS)).trans (hk' b o hbw e))
theorem min_list{s:Rs}{l:Ev}{items:Array FM}{Q:FM->Rs->Prop}(bt:Nat->Nat->Bool)(hh:A.handled=none)(hl:s.heap.IsList l items)(hn:0<items.size)
  (hcmp:∀i j vi vj (s':Rs) (Q:FM->Rs->Prop) (E:FM->Rs->Prop),(∀b o,s.heap.get? b=some o->s'.heap.get? b=some o)->items[i]?=some vi->items[j]?=some vj->Q (.bool (bt i j)) s'->wpAny (model prog w) A.in1 (richCompare .Lt vi vj) Q E s')
  (h:∀v h' tk,items[argBest bt (items.size - 1)]?=some v->(∀b o,s.heap.get? b=some o->h'.get? b=some o)->Q v { s with heap:=h',toks:=tk }):wpAny (model prog w) A (call (.builtin "min") [.ref l]) Q E s:=by
 have hname:(toString "min"++toString ".loop" : String) = "min.loop":=by decide
 have hlt:l<s.heap.objs.size:=by obtain⟨_,e,_⟩:=hl; exact ZU e
 refine call_function_tree PySem.F.kind_min PySem.F.plain_min PySem.F.entry_min (PySem.F.args_min1 _) ?_;show wpAny _ A.in1 (eC "min" ["key","default"] 0 ⟨[],[]⟩ >>= _) _ _ s;refine Db (fJ (show eC "min" ["key","default"] 0 ⟨[],[]⟩=pure [none,none] from rfl) ?_);refine Db (TM ?_);refine Db (aw hl ?_);refine Db (aC ?_);rw [hname];have W:=Walks.list (prog:=prog) (w:=w) (A:=A.in1) hh s.heap.objs.size l (Zo hlt) items;have hs1:(s.heap.push { cls:=.type "list_iterator",data:=.fields #[.ref l,.int 0 0] }).objs.size=s.heap.objs.size+1:=aX _ _;refine TM ⟨bK PySem.F.plain_min_loop _,NY W bt (λh'=>∀b o,s.heap.get? b=some o->h'.get? b=some o) (λi j vi vj s' Q E hc h1 h2 q=>hcmp i j vi vj s' Q E hc h1 h2 q) (s.heap.push { cls:=.type "list_iterator",data:=.fields #[.ref l,.int 0 0] }).objs.size (λhm=>?_) (λh1 h2 hc hk b o e=>hk b o (λhm=>?_) ?_ (hc b o e)) hn ⟨⟨_,Op _ (Uf _ rfl),rfl,rfl⟩,(hl.push _).push _⟩ (λb o e=>Op _ (Op _ e)) (Uf _ rfl) λv h' tk hP hk=>?_⟩
 ·rw [hs1] at hm
  rcases XV.mp hm with e | hm
  ·exact absurd e (Nat.succ_ne_self _)
  ·rw [← Go.mp hm] at hlt
   exact absurd hlt (cx.mpr (a_ _))
 ·rw [Go.mp hm] at e
  exact absurd (ZU e) (aM _)
 ·rw [hs1]
  exact Zo (bJ (ZU e))
 ·refine h v h' tk hP λb o e=>hk b o (λhm=>?_) ?_ (Op _ (Op _ e))
  ·rw [Go.mp hm] at e
   exact absurd (ZU e) (aM _)
  ·rw [hs1]
   exact Zo (bJ (ZU e))
end
theorem I_(keys:List (List Key)):∀m:Nat,argBest (λi j=>BY (keys.getD i []) (keys.getD j [])) m<=m/\∀i,i<=m->BY (keys.getD i []) (keys.getD (argBest (λi j=>BY (keys.getD i []) (keys.getD j [])) m) [])=false
 | 0=>⟨Tk _,λi hi=>by
  have:i=0:=by omega
  subst this;exact CP _⟩
 | m+1=>by
  obtain⟨h1,h2⟩:=I_ keys m;unfold argBest
  by_cases c:BY (keys.getD (m+1) []) (keys.getD (argBest (λi j=>BY (keys.getD i []) (keys.getD j [])) m) [])=true
  ·rw [if_pos c]
   refine⟨Tk _,λi hi=>?_⟩
   by_cases e:i=m+1
   ·subst e; exact CP _
   ·cases z:BY (keys.getD i []) (keys.getD (m+1) []) with
    | false=>rfl
    | true =>
     have:=Cq _ _ _ z c
     rw [h2 i (by omega)] at this;cases this
  ·rw [if_neg c]
   refine⟨by omega,λi hi=>?_⟩
   by_cases e:i=m+1
   ·subst e
    cases z:BY (keys.getD (m+1) []) (keys.getD (argBest (λi j=>BY (keys.getD i []) (keys.getD j [])) m) []) with
    | false=>rfl
    | true=>exact absurd z c
   ·exact h2 i (by omega)
section
variable {X:Cx}
noncomputable def Uc(K:Frag):List V->Hp->VK->Prop:=λxs H Q=>∃(p:Ev) (vs:List V) (keys:List (List Key)),xs=[.ref p]/\SqL K H p vs/\0<vs.length/\KeysAt K H vs keys /\
 ∀j v,vs[j]?=some v->(∀i,i<vs.length->BY (keys.getD i []) (keys.getD j [])=false)->Q v H
theorem QL{k:Nat}(hr:Room k X.A):By X (.builtin "min") (Uc X.K):=by
 intro pins s σ H xs us Q I r h;obtain⟨p,vs,keys,rfl,hq,hn,hk,q⟩:=h;obtain⟨u,rfl,rx⟩:=vals1 r;cases rx;obtain⟨its,r',pl,hz⟩:=I.list hq;have hl:=r'.length;have tk:=hk.tups I r' λb o e=>e;have hu:=hr.un;refine min_list (λi j=>BY (keys.getD i []) (keys.getD j [])) hr.hd pl.isList (by rw [UF]; omega) (λi j vi vj s' Q' E' hold h1 h2 q'=>?_) λv h' tk' hv hold=>?_
 ·have hi:i<keys.length:=by rw [← hk.len,hl]; have:=(eO.mp h1).1; simpa using this
  have hj:j<keys.length:=by rw [← hk.len,hl]; have:=(eO.mp h2).1; simpa using this
  obtain⟨a,⟨cls,dd,data,sl⟩,xs,n,e1,e2,e3,e4,e5⟩:=tk.at_ i keys[i] (No hi);obtain⟨a',⟨cls',dd',data',sl'⟩,xs',n',e1',e2',e3',e4',e5'⟩:=tk.at_ j keys[j] (No hj);simp only at e3 e4 e3' e4';subst e3 e4 e3' e4';have e1:its.toArray[i]?=some (.ref a):=by rw [← e1]; simp
  have e1':its.toArray[j]?=some (.ref a'):=by rw [← e1']; simp
  rw [e1] at h1;rw [e1'] at h2;cases h1;cases h2;have hsm:=hk.same _ (Zw hi) _ (Zw hj);have g1:keys.getD i []=keys[i]:=by rw [Zx,No hi]; rfl
  have g2:keys.getD j []=keys[j]:=by rw [Zx,No hj]; rfl
  simp only [g1,g2] at q';rw [← HQ _ _ hsm] at q'
  exact richCompare_meets_room (op:=.Lt) ⟨_,hold _ _ e2,rfl⟩ ⟨_,hold _ _ e2',rfl⟩ PySem.F.slot_tuple_lt PySem.F.entry_tuple_lt (PySem.F.args_tuple_lt_2 _ _) (FC a a' xs xs' n n' dd dd' sl sl' keys[i] keys[j] e5 e5' hsm)
   ⟨hold _ _ e2,hold _ _ e2',show dN (EN keys[i] keys[j])≠fV/\Q' (.bool (EN keys[i] keys[j])) s' from⟨(λx=>nomatch x),q'⟩⟩ (by show X.A.units+1<cLine; omega)
 ·obtain⟨b1,b2⟩:=I_ keys (its.toArray.size - 1)
  rw [UF] at hv b1 b2;have hj:argBest (λi j=>BY (keys.getD i []) (keys.getD j [])) (its.length - 1)<vs.length:=by omega
  obtain⟨u,e1,ru⟩:=r'.get (No hj);have e2:its.toArray[argBest (λi j=>BY (keys.getD i []) (keys.getD j [])) (its.length - 1)]?=some u:=by rw [← e1]; simp
  rw [e2] at hv;cases hv;exact⟨_,H,I.kept (t':=tk') hold,ru,q _ _ (No hj) λi hi=>b2 i (by omega)⟩
end
end L2
namespace Dp
open PySem PySem.Spec PyProof.Rows L2
noncomputable def Uo(ds:List D)(P:D->Prop):Prop:=∃xs,ds=[.lst xs]/\0<xs.length/\Keyed CJ xs/\∀x∈xs,(∀y∈xs,∀kx ky,CJ x=some kx->CJ y=some ky->BY ky kx=false)->P x
theorem WH{K:Frag}:CS K .sh (Uc K) Uo:=by
 intro U M H ds vs P Q dom vM hp w q;obtain⟨xs,rfl,hn,hK,w⟩:=w;obtain⟨v,rfl,hx⟩:=DK hp;obtain⟨a,us,rfl,_,hq,hs⟩:=hx;obtain⟨keys,hl,hk⟩:=E3 hK.1;have hlen:=hs.length;refine⟨a,us,keys,rfl,.inl hq,by omega,Gg (λd k v _=>Gi) hs hK hl hk,λj v hv hle=>?_⟩;have hj:j<xs.length:=by rw [← hlen]; exact(ZB.mp hv).1
 obtain⟨v',e1,h1⟩:=hs.get (No hj);rw [hv] at e1;cases e1;refine q v H xs[j] .refl h1 (w _ (Zw hj) λy hy kx ky ex ey=>?_);obtain⟨i,hi⟩:=cI.mp hy;have hil:i<xs.length:=(ZB.mp hi).1;obtain⟨k1,a1,b1,_⟩:=hk i y hi;obtain⟨k2,a2,b2,_⟩:=hk j xs[j] (No hj)
 have:=hle i (by omega)
 rw [Zx,Zx,a1,a2] at this;rw [ey] at b1;rw [ex] at b2;cases b1;cases b2;exact this
end Dp
namespace L2
open PySem PySem.Spec PyProof.Rows
noncomputable def Yw(d:Ev)(o:Obj)(kvs:List (Key×V)):It :=
 ⟨λi H=>H d=some (.frz o (.dK kvs))/\i<kvs.length,λi H x H'=>∃T p,x=.ref T/\H T=none/\kvs[i]?=some p/\H'=Aw H T (.tup [kV p.1,p.2]),λi H=>H d=some (.frz o (.dK kvs))/\kvs.length<=i⟩
theorem Ri{P:Zs}{w:Zz}{k:Key}{u:FM}(h:(Ay P w).is k u=true):RelV (kV k) u:=by
 rcases A8 h with ⟨i,t,rfl,rfl⟩ | ⟨x,t,rfl,rfl⟩
 ·exact⟨t,rfl⟩
 ·exact⟨t,rfl⟩
theorem E5{X:Cx}{pins:List (Ev×Obj)}{σ:L2.St}{H:Hp}{s:Rs}{d:Ev}{o:Obj}{kvs:List (Key×V)}{es:Array bn}{ep:Nat}(I:Inv X pins σ H s)(h:H d=some (.frz o (.dK kvs)))(hd:o.data=.dict es ep) :
  ∃ws,KV kvs ws/\s.heap.DictAt (Ay X.prog X.w) d ws ep:=by
 obtain⟨e0,_,_,ws,kv,o',es',ep',e1,e2,e3,e4⟩:=(show ObjOk X.prog X.w H s.heap d (.frz o (.dK kvs)) from I.hok d _ h);rw [e0] at e1;cases e1;rw [hd] at e3;cases e3;exact⟨ws,kv,o,es,e0,e2,hd,e4⟩
theorem M6{P:Zs}{w:Zz}{K:Frag}{els:List Zq}{j:Nat}{pos:Pos}(d it:Ev)(o:Obj)(kvs:List (Key×V))(es:Array bn)(ep:Nat)(hdat:o.data=.dict es ep) :
  Turn P w K (.Tuple els j pos) (Yw d o kvs) [it] it (λi h=>∃ok ov,IsItemIter h it d i kvs.length ep ok ov) where
 mem:=by simp
 obj:=λi h ⟨ok,ov,st⟩ c hc=>by
  rw [Go.mp hc];exact⟨_,st,λv q=>by cases q⟩
 keep:=λi h h' ⟨ok,ov,st⟩ k=>⟨ok,ov,k it (by simp) _ st⟩
 item:=by
  intro X hP hw hK hc i pins s σ H E I hf st hg;subst hP hw hK;obtain⟨hH,hi⟩:=hg;obtain⟨ok,ov,st⟩:=st;obtain⟨ws,kv,D⟩:=E5 I hH hdat
  have hl:=kv.length;have hiw:i<ws.length:=by omega
  rw [hl] at st;obtain⟨k,v,hkv⟩:∃k v,ws[i]=(k,v):=⟨_,_,rfl⟩;have hx:ws[i]?=some (k,v):=by rw [No hiw,hkv]
  have hp:kvs[i]?=some kvs[i]:=No hi;obtain⟨ek,rv⟩:=EJ kv hp hx;have ek:kvs[i].1=k:=ek;refine wpAny_pyNext_items_item st D hx λkey h' hkey hout htup hsz hold=>⟨_,rfl,?_⟩;refine wpAny_letOwnedTupleGo_items hout λh2 hit2 hsame=>?_;have hT:H s.heap.objs.size=none:=I.hok.fresh (Tk _);have nit:s.heap.objs.size≠it:=dQ (ZU st)
  have kk:∀c o,c∉[it]->s.heap.get? c=some o->h2.get? c=some o:=λc o hc e=>by
   have hc:c≠it:=λz=>hc (by rw [z]; exact Go.mpr rfl);exact(hsame.2 c hc).trans (hold c o hc e)
  have I2:Inv X pins σ (Aw H s.heap.objs.size (.tup [kV kvs[i].1,kvs[i].2])) { s with heap:=h2 }:=by
   refine I.turnLaid (t':=s.toks) (ch:=[it]) (λc hc=>hf c hc) kk (Tk _) ?_;exact⟨by show 2<=sizeLine; decide,[key,v],.cons (Ri (by rw [ek]; exact hkey)) (.cons rv .nil),⟨_,(hsame.2 _ nit).trans htup,rfl,_,rfl,rfl,rfl⟩⟩
  refine⟨.ref s.heap.objs.size,_,I2,rfl,⟨_,_,rfl,hT,hp,rfl⟩,⟨key,v,by rw [hl]; exact hit2⟩,λc hc=>?_⟩;rw [Go.mp hc,AK (aI nit)];exact(hf it (by simp)).1
 done:=by
  intro X hP hw hK hc i pins s σ H E I hf st hg;subst hP hw hK;obtain⟨hH,hi⟩:=hg;obtain⟨ok,ov,st⟩:=st;obtain⟨ws,kv,D⟩:=E5 I hH hdat
  have hl:=kv.length;rw [hl] at st;refine wpAny_pyNext_items_end (I.ok.hd hc) st D (dJ (by omega)) λh' ext=>⟨rfl,?_⟩;exact I.turnedL (t':=s.toks) (ch:=[it]) (λc hc=>hf c hc) λc o hc e=>ext c o (λz=>hc (by rw [z]; exact Go.mpr rfl)) e
 self:=λA i s Q E ⟨ok,ov,st⟩ h=>PySem.W.kcp_self st h
noncomputable def Vz(to:TE):TI:=λσ H R=>to σ H λx H1=>∃d o kvs,x=.ref d/\H1 d=some (.frz o (.dK kvs))/\∀r,H1 r=none->R (Yw d o kvs) (Aw H1 r (.ext λh=>h.IsItemsView r d))
theorem RK{X:Cx}{e:Zq}{els:List Zq}{j:Nat}{tpos apos cpos:Pos}{to:TE}(ho:PE X e to)(hbase:autoParam (attributeBase e "items" X.env (eval e X.env)=eval e X.env) zau3._auto_1)(hline:autoParam ((apos.endLine==cpos.line)=true) zau3._auto_1) :
  PI X (.Tuple els j tpos) (.Call (.Attribute e "items" apos) [] [] cpos) (Vz to):=by
 intro pins s σ H R I h;refine wpAny_Call_method0_late hbase hline (BV (ho pins s σ H _ I h) λv s1 ⟨x,H1,I1,r1,d,o,kvs,ex,hd,q⟩=>?_);subst ex;cases r1;obtain⟨h1,h2,lo⟩:=Rt I1 (.inl ⟨kvs,.inr ⟨o,hd⟩⟩);obtain⟨_,_,ws,kv,D⟩:=EW I1.hok (.inr ⟨o,hd⟩);refine⟨"dict","dict.items",PySem.F.plainAttrs_dict,PySem.F.slot_dict_items,PySem.F.type_dict_items,h1,h2,dB rfl (PySem.evalArgs_none ?_)⟩;refine en PySem.F.slot_dict_items D.typeIs PySem.F.entry_dict_items (PySem.F.args_dict_items_1 _) (meets_dict_items (Ay X.prog X.w) d lo) ⟨⟨ws,D⟩,?_⟩;have hf:H1 s1.heap.objs.size=none:=I1.fresh;have hv:(s1.heap.push { cls:=.type "dict_items",data:=.fields #[.ref d] }).IsItemsView s1.heap.objs.size d:=⟨_,Uf _ rfl,rfl,rfl⟩
 have I2:Inv X pins σ (Aw H1 s1.heap.objs.size (.ext λh=>h.IsItemsView s1.heap.objs.size d)) { s1 with heap:=s1.heap.push { cls:=.type "dict_items",data:=.fields #[.ref d] } } :=
  I1.laid (t':=s1.toks) (λb o e=>Op _ e) (Tk _) ⟨hv,⟨_,Uf _ rfl⟩,λh1 h2 ⟨o,e,c⟩ k=>⟨o,k o e,c⟩⟩
 have hd2:(Aw H1 s1.heap.objs.size (.ext λh=>h.IsItemsView s1.heap.objs.size d)) d=some (.frz o (.dK kvs)):=by rw [AK (Ag hd hf)]; exact hd
 obtain⟨es,ep,hdat⟩:∃es ep,o.data=.dict es ep:=by
  obtain⟨e0,_,_,ws,kv,o',es',ep',e1,e2,e3,e4⟩:=(show ObjOk X.prog X.w H1 s1.heap d (.frz o (.dK kvs)) from I1.hok d _ hd);rw [e0] at e1;cases e1;exact⟨es',ep',e3⟩
 obtain⟨ws2,kv2,D2⟩:=E5 I2 hd2 hdat
 have hl:=kv2.length;refine wpAny_pyIter_items (s:={ s1 with heap:=s1.heap.push { cls:=.type "dict_items",data:=.fields #[.ref d] } }) hv D2 ?_;refine⟨_,[(s1.heap.push { cls:=.type "dict_items",data:=.fields #[.ref d] }).objs.size],_,Yw d o kvs,_,rfl,I2.kept (t':=s1.toks) (λb o e=>Op _ e),M6 d _ o kvs es ep hdat,⟨.none,.none,by rw [hl]; exact Uf _ rfl⟩,λc hc=>?_,q _ hf⟩;rw [Go.mp hc];exact I2.fpOk (Tk _) I2.fresh
end L2
namespace Dp
open PySem PySem.Spec PyProof.Rows L2
noncomputable def wItems(wa:DW):Er:=λn ρ P=>wa n ρ λd n1=>∃ks ds,d=.fdi ks ds/\(∀k∈ks,E4 k)/\P (GO (ks.map Oo) ds) n1
theorem Rj(k:Key):kV k=kOf k:=by cases k <;> rfl
section
variable {X:Cx}{a:Expr}{κa:Kd}{wa:DW}{els:List Expr}{j:Nat}{tpos apos cpos:Pos}
theorem SK(ha:DE X a κa wa)(hbase:autoParam (attributeBase a "items" X.env (eval a X.env)=eval a X.env) zau3._auto_1)(hline:autoParam ((apos.endLine==cpos.line)=true) zau3._auto_1):DI X (.Tuple els j tpos) (.Call (.Attribute a "items" apos) [] [] cpos) (wItems wa):=by
 obtain⟨t,a1,a2⟩:=ha;refine⟨_,RK a1 hbase hline,λC M H n ρ σ P Rr R w q=>?_⟩;refine a2 C M H n ρ σ _ _ R w λv H1 d n1 ee f1 r1 p=>?_;obtain⟨ks,ds,rfl,hfit,p⟩:=p;have R1:=R.step ee f1;obtain⟨ad,vs,rfl,⟨o,nM,hd⟩,hlen,hs⟩:∃a vs,v=.ref a/\NdF M H1 a ks vs/\ks.length=ds.length/\Ats X.K M H1 ds vs:=r1.tpOf R.dom R.vM;have hl:=hs.length;refine⟨ad,o,_,rfl,hd,λr hr=>?_⟩;have g:Grow H1 (Aw H1 r (.ext λh=>h.IsItemsView r ad)):=Ax hr;refine q _ _ _ n1 (ee.trans g.ext) (f1.grow g) (λi M' H' pr dom=>?_) p;have pr2:Pres M H1 M' H':=g.pres.trans pr;have hd':H' ad=some (.frz o (.dK (ks.zip vs))):=(pr2.nd nM hd).2;have zl:(ks.zip vs).length=ks.length:=by rw [af]; omega
 have zd:(GO (ks.map Oo) ds).length=ks.length:=by unfold GO; rw [cU,On]; omega
 refine⟨λe he=>?_,λhle=>⟨hd',by omega⟩⟩;have hi:i<ks.length:=by rw [← zd]; exact(ZB.mp he).1
 have hid:i<ds.length:=by omega
 refine⟨⟨hd',by omega⟩,λx H2 y=>?_⟩;obtain⟨T,pp,rfl,hT,hp,rfl⟩:=y;obtain⟨v',e1,h1⟩:=(hs.pres pr2).get (No hid)
 have e2:(ks.zip vs)[i]?=some (ks[i],v'):=by
  rw [cY];exact⟨No hi,e1⟩
 rw [e2] at hp;cases hp
 have e3:e=.tup [Oo ks[i],ds[i]]:=by
  unfold GO at he;rw [fM,ZZ,No hi,No hid] at he;exact(ZS he).symm
 subst e3;refine⟨Ax hT,DL dom hT ⟨_,_,rfl,?_,_,_,rfl,h1,rfl⟩⟩;show At X.K M' H' (Oo ks[i]) (kV ks[i]);rw [Rj];exact Nn (hfit _ (Zw hi))
end
section
variable {K:Frag}{C:Fm}{M:Addr->Prop}{H H':Hp}{n n':Nat}{ρ:List Slot}{σ:L2.St}
theorem Rel.hold(R:Rel K C M H n ρ σ){p:Ev}{o:HO}(hp:H p=none):Rel K C (λb=>M b\/b=p) (Aw H p o) n ρ σ:=by
 have g:Grow H (Aw H p o):=Ax hp;have pr:Pres M H (λb=>M b\/b=p) (Aw H p o):=FW hp;refine⟨R.len,λa z=>.inl (R.sub a z),λa z=>?_,R.ext.trans g.ext,R.fU,R.uV,λa z=>.inl (R.vM a z),(R.feed.grow g).more p (λf hf tg q=>?_),λi s q=>(R.sl i s q).pres pr (λ_ z=>.inl z) g.ext R.uV,λq hq=>(R.pin q hq).trans pr,R.br0,R.new,R.two,λq hq=>?_⟩
 ·rcases z with z | z
  ·obtain⟨u,h1⟩:=R.dom a z
   exact⟨u,g.all a u h1⟩
  ·rw [z]; exact⟨o,AT⟩
 ·rcases R.feed f hf with ⟨_,_,_,_,_,_,h3,_⟩ | ⟨_,t2,_⟩
  ·have:=h3.2
   rw [q,hp] at this; cases this
  ·rw [tg] at t2; cases t2
 ·obtain⟨h1,h2,h3,h4⟩:=R.kept q hq
  exact⟨g.all _ _ h1,.inl h2,h3,h4⟩
end
noncomputable def IX(ks:List Key)(k:Key):Bool:=ks.any λk0=>decide (k0=k)
theorem hasK_iff{ks:List Key}{k:Key}:IX ks k=true↔k∈ks:=by
 unfold IX;rw [bP];exact⟨fun⟨x,hx,e⟩=>by rw [← of_decide_eq_true e]; exact hx,λh=>⟨k,h,decide_eq_true rfl⟩⟩
noncomputable def Bx(ks:List Key)(k:Key):List Key:=if IX ks k=true then ks else ks++[k]
noncomputable def Bo{α:Type}(ks:List Key)(ds:List α)(k:Key)(d:α):List α:=if IX ks k=true then aW (λk0 d0=>if k0=k then d else d0) ks ds else ds++[d]
theorem UK{ks:List Key}{vs:List V}(hl:ks.length=vs.length)(k:Key):((ks.zip vs).any λkv=>decide (kv.1=k))=IX ks k:=by
 rw [ay,bP,hasK_iff];constructor
 ·rintro ⟨⟨a,b⟩,hm,e⟩
  have e:a=k:=of_decide_eq_true e;rw [← e];exact(cW hm).1
 ·intro h
  obtain⟨i,hi,e⟩:=cP.mp h;refine⟨(ks[i],vs[i]'(by omega)),?_,by rw [e]; exact decide_eq_true rfl⟩;exact cP.mpr ⟨i,by rw [af]; omega,by rw [List.getElem_zip]⟩
theorem Lz{ks:List Key}{vs:List V}(hl:ks.length=vs.length)(k:Key)(v:V):putK (ks.zip vs) k v=(Bx ks k).zip (Bo ks vs k v):=by
 unfold putK Bx Bo;rw [UK hl]
 by_cases h:IX ks k=true
 ·rw [if_pos h,if_pos h,if_pos h]
  have go:∀(ks:List Key) (vs:List V),((ks.zip vs).map λkv=>if kv.1=k then (kv.1,v) else kv)=ks.zip (aW (λk0 d0=>if k0=k then v else d0) ks vs):=by
   intro ks
   induction ks with
   | nil=>intro vs; rfl
   | cons a ks ih =>
    intro vs;cases vs with
    | nil=>rfl
    | cons b vs =>
     show (if a=k then (a,v) else (a,b))::_=(a,if a=k then v else b)::_;exact List.cons_eq_cons.mpr ⟨by split <;> rfl,ih vs⟩
  exact go ks vs
 ·rw [if_neg h,if_neg h,if_neg h,List.zip_append hl]
  rfl
theorem Ats.put{K:Frag}{M:Ev->Prop}{H:Hp}{k:Key}{d:D}{v:V}(hd:At K M H d v):∀{ks:List Key} {ds:List D} {vs:List V},Ats K M H ds vs->Ats K M H (aW (λk0 d0=>if k0=k then d else d0) ks ds) (aW (λk0 d0=>if k0=k then v else d0) ks vs)
 | [],ds,vs,h=>rfl
 | a::ks,[],vs,h=>by cases (show vs=[] from h); rfl
 | a::ks,e::ds,vs,h=>by
  obtain⟨u,r,rfl,h1,h2⟩:=h;refine⟨_,_,rfl,?_,Ats.put hd h2⟩;show At K M H (if a=k then d else e) (if a=k then v else u)
  by_cases e1:a=k
  ·rw [if_pos e1,if_pos e1]; exact hd
  ·rw [if_neg e1,if_neg e1]; exact h1
theorem Ats.putX{K:Frag}{M:Ev->Prop}{H:Hp}{k:Key}{d:D}{v:V}{ks:List Key}{ds:List D}{vs:List V}(hd:At K M H d v)(h:Ats K M H ds vs):Ats K M H (Bo ks ds k d) (Bo ks vs k v):=by
 unfold Bo
 split
 ·exact Ats.put hd h
 ·exact h.append (Ats.one hd)
theorem Ks{α:Type}{ks:List Key}{ds:List α}{k:Key}{d:α}(hl:ks.length=ds.length):(Bx ks k).length=(Bo ks ds k d).length:=by
 unfold Bx Bo
 split
 ·rw [cU]; omega
 ·rw [ZT,ZT]; show ks.length+1=ds.length+1; omega
theorem Jj:∀{ks:List Key} {ds:List D} {k:Key},k∉ks->BI ks ds k=none
 | [],ds,k,_=>by unfold BI; rfl
 | a::ks,[],k,_=>rfl
 | a::ks,d::ds,k,h=>by
  unfold BI;rw [if_neg (λe=>h (by rw [e]; exact Re))];exact Jj λz=>h (Sc _ z)
theorem Ji:∀{ks:List Key} {ds:List D} {k:Key},ks.length=ds.length->k∈ks->∃z,BI ks ds k=some z
 | [],ds,k,_,h=>by cases h
 | a::ks,[],k,h,_=>by cases h
 | a::ks,d::ds,k,hl,h=>by
  unfold BI
  by_cases e:a=k
  ·exact⟨d,if_pos e⟩
  ·rw [if_neg e]
   exact Ji (by simpa using hl) ((XV.mp h).resolve_left λz=>e z.symm)
theorem Qj{ks:List Key}{ds:List D}{k:Key}{d:D}(hl:ks.length=ds.length)(j:Key):BI (Bx ks k) (Bo ks ds k d) j=if j=k then some d else BI ks ds j:=by
 unfold Bx Bo
 by_cases h':IX ks k=true
 ·have h:=hasK_iff.mp h'
  rw [if_pos h',if_pos h']
  have go:∀(ks:List Key) (ds:List D),ks.length=ds.length->(j=k->k∈ks)->BI ks (aW (λk0 d0=>if k0=k then d else d0) ks ds) j=if j=k then some d else BI ks ds j:=by
   intro ks
   induction ks with
   | nil =>
    intro ds _ hm
    by_cases e:j=k
    ·exact absurd (hm e) Zf
    ·rw [if_neg e]; cases ds <;> rfl
   | cons a ks ih =>
    intro ds hl hm;cases ds with
    | nil=>cases hl
    | cons e ds =>
     show (if a=j then some (if a=k then d else e) else BI ks _ j)=if j=k then some d else if a=j then some e else BI ks ds j
     by_cases e1:a=j
     ·rw [if_pos e1,if_pos e1]
      by_cases e2:j=k
      ·rw [if_pos e2,if_pos (e1.trans e2)]
      ·rw [if_neg e2,if_neg (λz=>e2 (e1.symm.trans z))]
     ·rw [if_neg e1,if_neg e1]
      refine ih ds (by simpa using hl) λz=>(XV.mp (hm z)).resolve_left λw=>e1 (w.symm.trans z.symm)
  exact go ks ds hl λ_=>h
 ·have h:k∉ks:=λz=>h' (hasK_iff.mpr z)
  rw [if_neg h',if_neg h']
  have go:∀(ks:List Key) (ds:List D),ks.length=ds.length->k∉ks->BI (ks++[k]) (ds++[d]) j=if j=k then some d else BI ks ds j:=by
   intro ks
   induction ks with
   | nil =>
    intro ds hl _;cases ds with
    | nil =>
     show (if k=j then some d else none)=if j=k then some d else none
     by_cases e:j=k
     ·rw [if_pos e,if_pos e.symm]
     ·rw [if_neg e,if_neg (λz=>e z.symm)]
    | cons e ds=>cases hl
   | cons a ks ih =>
    intro ds hl hm;cases ds with
    | nil=>cases hl
    | cons e ds =>
     show (if a=j then some e else BI (ks++[k]) (ds++[d]) j)=if j=k then some d else if a=j then some e else BI ks ds j
     rw [ih ds (by simpa using hl) λz=>hm (Sc _ z)]
     by_cases e1:a=j
     ·rw [if_pos e1,if_pos e1,if_neg (λz=>hm (by rw [← z,← e1]; exact Re))]
     ·rw [if_neg e1,if_neg e1]
  exact go ks ds hl h
section
variable {X:Cx}{a b e:Expr}{κ κa κb:Kd}{wa wb:DW}{pos pos':Pos}
noncomputable def Kb(wk wv:DW):DW:=λn ρ P=>wk n ρ λk n1=>wv n1 ρ λd n2=>∃key,keyOf k=some key/\P (.dic [key] [d]) n2
theorem Ij(ha:DE X a κa wa)(hb:DE X b κb wb)(hk:autoParam (κb≠.tp) zau6._auto_1):DE X (.Dict [some a] [b] pos) .fr (Kb wa wb):=by
 obtain⟨t,h1,h2⟩:=ha;obtain⟨u,g1,g2⟩:=hb;refine⟨_,TX (RG h1 g1 TQ) rfl rfl (bC _ _) (by show 1<=15; decide),λC M H n ρ σ P Q R w q=>λp hp=>?_⟩;have R1:=R.hold (o:=.dK []) hp
 have np:¬C.U p:=λz=>by
  obtain⟨o,w⟩:=R.dom p (R.vM p (R.uV p z));rw [hp] at w; cases w
 refine h2 C _ _ n ρ σ _ _ R1 w λx H2 k n1 e1 f1 r1 p1=>?_;have R2:=R1.step e1 f1;refine g2 C _ _ n1 ρ σ _ _ R2 p1 λy H3 d n2 e2 f2 r2 p2=>?_;obtain⟨key,hkey,p2⟩:=p2;have R3:=R2.step e2 f2;have hat:At X.K (λb=>M b\/b=p) H3 d y:=r2.shOf R2.dom hk;have hp3:H3 p=some (.dK []):=e2.keep (e1.keep AT np) np;have hx:x=kV key:=B6 hkey (r1.tpOf R1.dom R1.vM);refine⟨hp3,[(key,y)],by rw [hx]; rfl,by show 1<=15; decide,?_⟩;show Q (.ref p) (Aw H3 p (.dK [(key,y)]));refine q _ _ (.dic [key] [d]) n2 (λb o eb=>?_) ?_ ⟨p,rfl,hp,[y],AT,rfl,?_⟩ p2
 ·have nb:b≠p:=Ag eb hp
  obtain⟨o1,z1,k1,t1⟩:=e1 b o (by rw [AK nb]; exact eb);obtain⟨o2,z2,k2,t2⟩:=e2 b o1 z1;exact⟨o2,by rw [AK nb]; exact z2,λnu=>(k2 nu).trans (k1 nu),λvs z=>(t2 vs ((t1 vs z).trans z)).trans (t1 vs z)⟩
 ·refine f2.pres ⟨λb o eb nb=>by rw [AK (λz=>nb (.inr z))]; exact eb,λb z=>.inl (.inl z),λb vs eb=>by rw [AK (λz=>by rw [z,hp3] at eb; cases eb)]; exact eb⟩ λf o hf eb=>?_
  rw [AK (λz=>np (by rw [← z]; exact R.fU f hf))];exact eb
 ·exact⟨y,[],rfl,hat.pres (Bq (.inr rfl) hp3),rfl⟩
noncomputable def DD(i:Nat)(wk wv:DW):AW:=λD2 n ρ=>∃ks ds,ρ[i]?=some (.ow (.dic ks ds))/\wv n ρ λd n1=>wk n1 ρ λk n2=>∃key,keyOf k=some key/\ks.length<sizeLine/\D2.nx n2 (ρ.set i (.ow (.dic (Bx ks key) (Bo ks ds key d))))
theorem Fz{i k:Nat}{x:Zq}(hr:Room k X.A)(hx:PE X x (BU i))(ha:DE X a κa wa)(hb:DE X b κb wb)(hk:autoParam (κb≠.tp) zau6._auto_1)
  (hs:autoParam (swapsWith b (some (.Subscript x a pos')) pos.line X.env=pure false) zau3._auto_1):DS X κ (.Assign [.Subscript x a pos'] b pos) (DD i wa wb):=by
 obtain⟨t,h1,h2⟩:=ha;obtain⟨u,g1,g2⟩:=hb;refine⟨_,Ey (FF hr) hx h1 g1 hs,λC M H n ρ σ D2 E R L w=>?_⟩;obtain⟨ks,ds,hd,w⟩:=w;refine g2 C M H n ρ σ _ _ R w λv H1 d n1 e1 f1 r1 p=>?_;have R1:=R.step e1 f1;obtain⟨ad,ea,m,nv,tt⟩:=R1.sl i _ hd;refine⟨.ref ad,getD_some ea,?_⟩;refine h2 C M H1 n1 ρ σ _ _ R1 p λy H2 kk n2 e2 f2 r2 p=>?_;obtain⟨key,hkey,hlt,p⟩:=p;have R2:=R1.step e2 f2;obtain⟨ad',ea',m',nv',tt'⟩:=R2.sl i _ hd;rw [ea] at ea';cases ea';obtain⟨vs,hH,hl,hs'⟩:=tt';have hat:At X.K M H2 d v:=(r1.shOf R.dom hk).pres (R1.pres e2);have hvl:ks.length=vs.length:=by rw [hl,hs'.length]
 refine⟨ad,_,rfl,by rw [B6 hkey (r2.tpOf R1.dom R1.vM)]; exact DPut.k hH (by rw [af]; omega),L.nx M _ n2 _ σ (R2.mut (e:=.dic (Bx ks key) (Bo ks ds key d)) hd ea ⟨Bo ks vs key v,by rw [AT,Lz hvl],Ks hl,(hs'.putX hat).pres (Bq m' hH)⟩) p⟩
noncomputable def Wf:D->Option Bool
 | .lst xs=>some (!xs.isEmpty)
 | .tup xs=>some (!xs.isEmpty)
 | .bl b=>some b
 | .non=>some false
 | _=>none
noncomputable def VA(wa:DW):Gw:=λn ρ P=>wa n ρ λd n1=>∃c,Wf d=some c/\P c n1
theorem KR{K:Frag}{M:Ev->Prop}{H:Hp}{ds:List D}{vs:List V}(h:Ats K M H ds vs):vs.isEmpty=ds.isEmpty:=by
 have:=h.length
 cases vs <;> cases ds <;> first | rfl | cases this
theorem VG{U M:Ev->Prop}{H:Hp}{K:Frag}{d:D}{x:V}{c:Bool}(h:AtT K U M H d x)(e:Wf d=some c):WN K x H c:=by
 cases d with
 | lst ds=>cases e; obtain⟨a,vs,rfl,_,hq,hs⟩:=h; exact .inl ⟨vs,.inl hq,by rw [KR hs]⟩
 | tup ds=>cases e; obtain⟨a,vs,rfl,hq,hs⟩:=h; exact .inr (.inl ⟨vs,.inl (.inl hq),by rw [KR hs]⟩)
 | bl b=>cases e; rw [h.bl]; exact rfl
 | non=>cases e; rw [show x=.non from h]; exact rfl
 | _=>cases e
theorem V6(h:DE X e κ wa)(he:autoParam (∀whole,isTrue e X.env whole=(do let v ← whole; standAt e.pos; holding [v] (truthy v))) zau2._auto_1):DT X e (VA wa):=by
 obtain⟨t,h1,h2⟩:=h;refine⟨_,RD h1 he,λC M H n ρ σ P Q R w q=>?_⟩;refine h2 C M H n ρ σ _ _ R w λv H' d n' e1 f1 r1 p=>?_;obtain⟨c,hc,p⟩:=p;exact⟨c,VG (r1.tpOf R.dom R.vM) hc,q c H' n' e1 f1 p⟩
noncomputable def MS(neg:Bool)(d e:D)(P:D->Prop):Prop:=e=.non/\P (.bl (if neg then !MP d else MP d))
theorem Xo{K:Frag}:FK K .sh (λx y H Q=>y=.non/\Q (.bl (decide (x=.non))) H) (MS false):=λU M H d e x y P Q dom vM hx hy w q=>by
 obtain⟨rfl,w⟩:=w;exact⟨hy,q _ H (.bl (MP d)) .refl (by rw [MO hx]; rfl) w⟩
theorem Sl{K:Frag}:FK K .sh (λx y H Q=>y=.non/\Q (.bl (!decide (x=.non))) H) (MS true):=λU M H d e x y P Q dom vM hx hy w q=>by
 obtain⟨rfl,w⟩:=w;exact⟨hy,q _ H (.bl (!MP d)) .refl (by rw [MO hx]; rfl) w⟩
variable {apos cpos:Pos}{f:Expr}{κf:Kd}{wf:DW}
noncomputable def Qf(wa wk wx:DW):DW:=λn ρ P=>wa n ρ λd n1=>∃ks ds,G1 d=some (ks,ds)/\wk n1 ρ λk n2=>wx n2 ρ λz n3=>∃key,keyOf k=some key/\P ((BI ks ds key).getD z) n3
theorem VC{U M:Ev->Prop}{H:Hp}{K:Frag}{d z:D}{x v:V}{ks:List Key}{ds:List D}{key:Key}(e:G1 d=some (ks,ds))(h:AtT K U M H d x)(hz:At K M H z v):∃a o,x=.ref a/\DGet H a (kV key) o/\At K M H ((BI ks ds key).getD z) (o.getD v):=by
 obtain⟨a,vs,rfl,ha,hs⟩:=FX e h;refine⟨a,Bg (ks.zip vs) key,rfl,HU ha,?_⟩;have h:=DV (k:=key) (ks:=ks) hs;cases c:BI ks ds key with
 | none=>rw [c] at h; rw [show Bg (ks.zip vs) key=none from h]; exact hz
 | some y=>rw [c] at h; obtain⟨u,h1,h2⟩:=h; rw [h1]; exact h2
theorem Vx{U M:Ev->Prop}{H:Hp}{K:Frag}{d:D}{x:V}{ks:List Key}{ds:List D}(e:G1 d=some (ks,ds))(h:AtT K U M H d x):∃a,x=.ref a/\Yx H a:=by
 obtain⟨a,vs,rfl,ha,hs⟩:=FX e h;exact⟨a,rfl,.inl ⟨_,ha⟩⟩
theorem UB{k:Nat}(hr:Room k X.A)(ha:DE X a κa wa)(hb:DE X b κb wb)(hf:DE X f κf wf)(hk:autoParam (κf≠.tp) zau6._auto_1)(m:autoParam (M2 X a "get" apos b f cpos) zau8._auto_1):DE X (.Call (.Attribute a "get" apos) [b,f] [] cpos) .sh (Qf wa wb wf):=by
 obtain⟨t,h1,h2⟩:=ha;obtain⟨u,g1,g2⟩:=hb;obtain⟨u2,k1,k2⟩:=hf;refine⟨_,RP (FF hr) h1 g1 k1 m,λC M H n ρ σ P Q R w q=>?_⟩;refine h2 C M H n ρ σ _ _ R w λv H1 d n1 e1 f1 r1 p=>?_;obtain⟨ks,ds,hd,p⟩:=p;have R1:=R.step e1 f1;obtain⟨ad,rfl,hI⟩:=Vx hd (r1.tpOf R.dom R.vM);refine⟨ad,rfl,hI,?_⟩;refine g2 C M H1 n1 ρ σ _ _ R1 p λy H2 kk n2 e2 f2 r2 p=>?_;have R2:=R1.step e2 f2;refine k2 C M H2 n2 ρ σ _ _ R2 p λz H3 dz n3 e3 f3 r3 p=>?_;obtain⟨key,hkey,p⟩:=p;have R3:=R2.step e3 f3;have hat:=((r1.tpOf R.dom R.vM).pres (R1.pres e2) e2 R.uV).pres (R2.pres e3) e3 R.uV;have hy:=(r2.tpOf R1.dom R1.vM).pres (R2.pres e3) e3 R.uV;obtain⟨ad',o,ex,g,hz⟩:=VC (key:=key) hd hat (r3.shOf R2.dom hk);cases ex;exact⟨o,by rw [B6 hkey hy]; exact g,q _ H3 _ n3 ((e1.trans e2).trans e3) f3 hz p⟩
end
end Dp
namespace L2
open PySem PySem.Spec PyProof.Rows
open AutoSeq1 (wpAny_loadPart')
theorem Pj:typeLookup (.type "list_reverseiterator") "__len__"=pure none:=by rw [typeLookup_type,builtinLookup_eq_fast]; kernel_rfl
theorem Rw:typeLookup (.type "list_reverseiterator") "__length_hint__"=pure (some (.builtin "list_reverseiterator.__length_hint__")):=by rw [typeLookup_type,builtinLookup_eq_fast]; kernel_rfl
theorem boot_reversed:bootBuiltins "reversed"=some (.type "reversed"):=by decide +kernel
section
variable {prog:Program}{w:World}{A:Around}{E:Value->Shared->Prop}{s:Shared}{I:Addr}{fp wr:List Addr}{G:Array GenState->Array GenState->Prop}{n:Nat}{P:Nat->Value->Prop}{St:Nat->Shared->Prop}
theorem Ma{Q:List FM->Rs->Prop}
  (W:WalksS prog w A.in1 I fp wr G n P St) (hT:∀i s,St i s->s.TypeIs (.ref I) "list_reverseiterator") (hst:St 0 s) (hfp:∀b∈fp,b<s.heap.objs.size) (hI:I∈fp)
  (hQ:∀s' acc,Moved wr G s s'->ItemsOf P acc n->Q acc.toList s') (hn:n<=sizeLine):wpAny (model prog w) A (collect (.ref I)) Q E s:=by
 have hSf:s.heap.objs.size∉fp:=λhm=>aM _ (hfp _ hm);have hSI:s.heap.objs.size≠I:=λe=>hSf (e▸hI);unfold collect;refine Db (wpAny_runValue (ae F.entry_proto_collect ?_));rw [aU F.plain_proto_collect _];show wpAny _ A.in1 (newList [] >>= λl=>again (.builtin "list.__iadd__" ⟨[l,.ref I],[]⟩)) _ _ s;refine Db (aC ?_);refine TM ⟨bK F.plain_list_iadd _,ae F.entry_list_iadd ?_⟩;rw [aU F.plain_list_iadd _];have hst₁:=W.frame 0 s (s.heap.push { cls:=.type "list",data:=.seq ([]:List FM).toArray }) s.toks hst (Tk _) λb _ o e=>Op _ e;have hS₁:(s.heap.push { cls:=.type "list",data:=.seq ([]:List FM).toArray }).get? s.heap.objs.size=some { cls:=.type "list",data:=.seq ([]:List FM).toArray }:=Uf _ rfl;have h1:e9 (.ref s.heap.objs.size) (.ref I)=false:=by simp [e9,hSI]
 show wpAny _ A.in1 (bW (.ref s.heap.objs.size) (.ref I) (.ref s.heap.objs.size)) _ _ _;unfold bW;refine Db (cZ (hT 0 _ hst₁) ?_);rw [if_neg (by rw [h1]; decide)];refine Db (W.self 0 _ _ _ hst₁ ?_);refine Db (aN ?_);unfold Builtin.List.listLengthHint;refine Db (fD (hT 0 _ hst₁) Pj ?_);show wpAny _ A.in1 (specialOf (Z4 I) (aV "__length_hint__") >>= _) _ _ _;refine Db (fD (hT 0 _ hst₁) Rw ?_)
 (generalize hid:("list_reverseiterator.__length_hint__" : String)=id0; wp_delta; rw [show splitId id0=some ("list_reverseiterator","__length_hint__") from by subst hid; decide +kernel]; subst hid)
 refine Db (e7 (b:=true) (hT 0 _ hst₁) (by rw [isSubtype_type]; kernel_rfl) ?_);refine TM ?_;rw [if_neg (by decide)];refine TM ⟨bK F.plain_extend_loop _,codeAny_extend_loopS W hn _ hSf _ n 0 _ _ _ rfl (Zi _) hst₁ hS₁ (ItemsOf.nil P) λs' acc' c' hm hS' hacc=>?_⟩;show wpAny _ A (load s.heap.objs.size >>= _) _ _ s';refine Db (wpAny_load hS' ?_);exact TM (hQ s' acc' (Moved.drop_new (o:={ cls:=.type "list",data:=.seq ([]:List FM).toArray }) (tk:=s.toks) hm (Tk _)) hacc)
theorem Io{Q₁:FM->Rs->Prop}(W:WalksS prog w A.in1.in1 I fp wr G n P St)(hT:∀i s,St i s->s.TypeIs (.ref I) "list_reverseiterator")(hst:St 0 s)(hfp:∀b∈fp,b<s.heap.objs.size)(hI:I∈fp)
  (h:∀s' acc,Moved wr G s s'->ItemsOf P acc n->Q₁ (.ref s'.heap.objs.size) { s' with heap:=s'.heap.push { cls:=.type "tuple",data:=.seq acc } }) (hsz:n<=sizeLine) :
  codeAny (model prog w) A (.call (.builtin "tuple.__new__") ⟨[.type "tuple",.ref I],[]⟩) (wants Q₁ E) s:=by
 refine codeAny_of_tree ?_;show wpAny _ A.in1 (do checkBuiltinCall "tuple.__new__" ⟨[.type "tuple",.ref I],[]⟩; again (.builtin "tuple.__new__" ⟨[.type "tuple",.ref I],[]⟩)) _ _ s;refine Db (fJ (F.newCall_tuple_1 _) (TM ⟨bK F.plain_tuple_new _,ae F.entry_tuple_new ?_⟩));rw [aU F.plain_tuple_new _];have hsub:=sub_tuple_self;have hinit:=init_tuple_lookup;have hmh:=madeHere_tuple;have hTI:=hT 0 s hst
 wp_walk using cZ hTI,Ma (hn:=hsz) W hT hst hfp hI
 intro s' acc hm hacc;show wpAny _ _ (aj acc.toList.toArray >>= λv=>ret v) _ _ _;unfold aj;refine Db (aC ?_ (by show acc.toList.toArray.size<=sizeLine; simp only [Array.toArray_toList]; rw [hacc.1]; exact hsz));refine TM ?_;have e:acc.toList.toArray=acc:=by simp
 rw [e];exact h s' acc hm hacc
theorem Iq{Q:FM->Rs->Prop}(W:WalksS prog w A.in1.in1.in1 I fp wr G n P St)(hT:∀i s,St i s->s.TypeIs (.ref I) "list_reverseiterator")(hst:St 0 s)(hfp:∀b∈fp,b<s.heap.objs.size)(hI:I∈fp)
  (hQ:∀s' acc,Moved wr G s s'->ItemsOf P acc n->Q (.ref s'.heap.objs.size) { s' with heap:=s'.heap.push { cls:=.type "tuple",data:=.seq acc } }) (hsz:n<=sizeLine) :
  wpAny (model prog w) A (call (.type "tuple") [.ref I]) Q E s:=by
 refine callType_codes (Q₁:=λobj s₁=>s₁.TypeIs obj "tuple"/\Q obj s₁) fO (F.typeCall_tuple_1 _) F.entry_object_init
  (Io (hsz:=hsz) W hT hst hfp hI λs' acc hm hacc=>⟨⟨_,Uf _ rfl,rfl⟩,hQ s' acc hm hacc⟩) λobj s₁ h₁=>?_
 exact⟨h₁.1,F.args_object_init_2 obj _,object_init_meets fO.init.lookup fO.made (by decide) prog w A.in1 _ s₁ ⟨h₁.1,rfl,h₁.2⟩⟩
end
section
variable {X:Cx}{e:Expr}{te:TE}{p1 p2 q1 q2:Pos}
noncomputable def S9(K:Frag)(te:TE):TE:=λσ H Q=>te σ H λx H1=>∃l xs,x=.ref l/\SqL K H1 l xs/\∀r,H1 r=none->Q (.ref r) (Aw H1 r (.tup xs.reverse))
theorem PY(hc:X.calm=true)(he:PE X e te)(hg1:Gl X "tuple")(hm1:X.mg "tuple"=none)(hg2:Gl X "reversed")(hm2:X.mg "reversed"=none)(h1:autoParam (starEach [fq (.Name "reversed" p2) [e] [] q2] X.env=[(false,eval (fq (.Name "reversed" p2) [e] [] q2) X.env)]) zau3._auto_1)
  (h2:autoParam (starEach [e] X.env=[(false,eval e X.env)]) zau3._auto_1):PE X (.Call (.Name "tuple" p1) [.Call (.Name "reversed" p2) [e] [] q2] [] q1) (S9 X.K te):=by
 intro pins s σ H Q I h;refine bU (Dr I hg1 hm1 cz ?_);refine aR ?_ h1 rfl;rw [h1];refine b9 ?_;refine bU (Dr I hg2 hm2 boot_reversed ?_);refine aR ?_ h2 rfl;rw [h2];refine b9 (BV (he pins s σ H _ I h) λu s1 ⟨x,H1,I1,r1,l,xs,ex,hq,q⟩=>c5 ?_);subst ex;cases r1;obtain⟨its,r',pl,hz⟩:=I1.list hq;have hlen:=r'.length;have hl:s1.heap.IsList l its.toArray:=pl.isList;have hlt:l<s1.heap.objs.size:=by obtain⟨_,e,_⟩:=id hl; exact ZU e
 refine call_reversed_list hl (c5 ?_);have hn1:H1 s1.heap.objs.size=none:=I1.fresh;have I2:Inv X pins σ H1 { s1 with heap:=s1.heap.push (revObj l ((its.toArray.size:Int) - 1)) }:=I1.kept (t':=s1.toks) λb o e=>Op _ e;have fpk:GN X pins H1 s1.heap.objs.size:=I1.fpOk (Tk _) hn1;refine Iq (s:={ s1 with heap:=s1.heap.push (revObj l ((its.toArray.size:Int) - 1)) }) (Walks.listRev (A:=X.A.in1.in1.in1) (I1.ok.hd hc) s1.heap.objs.size l (Zo hlt) its.toArray).toS (λi s' hs=>hs.2.1.typeIs) ⟨Zi _,⟨_,Uf _ rfl,rfl,by show Data.fields _=_; simp [revObj]⟩,hl.push _⟩ (λb hb=>?_) Re (λs' acc hm hacc=>?_) (by rw [UF,← hlen]; exact hz)
 ·rcases XV.mp hb with rfl | hb
  ·exact ZU (Uf _ rfl)
  ·obtain rfl:=Go.mp hb
   exact Zv hlt (by show s1.heap.objs.size<=(s1.heap.push _).objs.size; rw [eS]; exact a_ _)
 ·obtain⟨h',g',d',tk',os'⟩:=s'
  have e1:g'=s1.gens:=hm.gens;have e2:d'=s1.drawn:=hm.drawn;have e3:os'=s1.os:=hm.os;subst e1 e2 e3;have I3':=I2.turnedL (h':=h') (t':=tk') (ch:=[s1.heap.objs.size]) (λc hc=>by rw [Go.mp hc]; exact fpk) λb o hb e=>hm.heap b o hb e;have I3:Inv X pins σ H1 { s1 with heap:=h',toks:=tk' }:=I3'
  have hv:acc.toList=its.reverse:=by
   refine List.ext_getElem? λi=>?_;obtain⟨a1,a2⟩:=hacc;have e0:acc.toList[i]?=acc[i]?:=by simp
   rw [e0]
   by_cases hi:i<its.length
   ·have hi2:i<acc.size:=by rw [a1,UF]; exact hi
    have a3:=a2 i acc[i] (bi hi2);rw [List.getElem?_reverse hi,bi hi2,← a3,UF];simp
   ·rw [dJ (by rw [dh]; omega)]
    exact fK (by rw [a1,UF]; omega)
  have hv2:acc=its.reverse.toArray:=by rw [← hv]
  have rr:Vals xs.reverse its.reverse:=r'.reverse;refine⟨.ref h'.objs.size,Aw H1 h'.objs.size (.tup xs.reverse),I3.laid (t':=tk') (λb o e=>Op _ e) (Tk _) (show ObjOk X.prog X.w _ _ _ (.tup xs.reverse) from⟨by rw [dh]; exact hz,its.reverse,rr,by rw [hv2]; exact IsTupN.new _ _⟩),rfl,q _ (I3.hok.fresh (Tk _))⟩
end
end L2
namespace Dp
open PySem PySem.Spec PyProof.Rows L2
noncomputable def N_(wa:DW):DW:=λn ρ P=>wa n ρ λd n1=>∃xs,d=.lst xs/\P (.tup xs.reverse) n1
section
variable {X:Cx}{a:Expr}{κa:Kd}{wa:DW}{p1 p2 q1 q2:Pos}
theorem QE(hc:X.calm=true)(ha:DE X a κa wa)(hg1:Gl X "tuple")(hm1:X.mg "tuple"=none)(hg2:Gl X "reversed")(hm2:X.mg "reversed"=none)(h1:autoParam (starEach [fq (.Name "reversed" p2) [a] [] q2] X.env=[(false,eval (fq (.Name "reversed" p2) [a] [] q2) X.env)]) zau3._auto_1)
  (h2:autoParam (starEach [a] X.env=[(false,eval a X.env)]) zau3._auto_1):DE X (.Call (.Name "tuple" p1) [.Call (.Name "reversed" p2) [a] [] q2] [] q1) .sh (N_ wa):=by
 obtain⟨t,a1,a2⟩:=ha;refine⟨_,PY hc a1 hg1 hm1 hg2 hm2 h1 h2,λC M H n ρ σ P Q R w q=>?_⟩;refine a2 C M H n ρ σ _ _ R w λv H1 d n1 e1 f1 r1 p=>?_;obtain⟨xs,rfl,p⟩:=p;have R1:=R.step e1 f1;obtain⟨ad,vs,rfl,nV,hq,hs⟩:=r1.tpOf R.dom R.vM;refine⟨ad,vs,rfl,.inl hq,λr hr=>?_⟩;have g:Grow H1 (Aw H1 r (.tup vs.reverse)):=Ax hr;exact q _ _ (.tup xs.reverse) n1 (e1.trans g.ext) (f1.grow g) (DL R1.dom hr (hs.reverse)) p
end
end Dp
namespace Nt
open PySem PySem.Spec PyProof.Rows L2 Dp
noncomputable def Ed(N:Net)(x y:Str)(l:Int):Prop:=(y,l)∈Cu N.ts x
inductive Wk (N:Net) (s:Str):Str->Int->Prop
 | nil:Wk N s s 0
 | snoc {x y:Str} {d l:Int}:Wk N s x d->Ed N x y l->Wk N s y (d+l)
noncomputable def Least(N:Net)(s x:Str)(d:Int):Prop:=Wk N s x d/\∀d',Wk N s x d'->d<=d'
theorem Ed.pos{N:Net}(ok:N.Ok){x y:Str}{l:Int}(h:Ed N x y l):1<=l/\l<=1000000:=by
 obtain⟨_,h1,h2,_⟩:=Do ok h;exact⟨h1,h2⟩
theorem Ed.ins{N:Net}(ok:N.Ok){x y:Str}{l:Int}(h:Ed N x y l):y∈N.ps:=(Do ok h).1
theorem Wk.pos{N:Net}(ok:N.Ok){s x:Str}{d:Int}(h:Wk N s x d):0<=d:=by
 induction h with
 | nil=>exact Z6 _
 | snoc _ he ih=>have:=he.pos ok; omega
theorem Least.unique{N:Net}{s x:Str}{d d':Int}(h:Least N s x d)(h':Least N s x d'):d=d':=by
 have:=h.2 d' h'.1
 have:=h'.2 d h.1
 omega
theorem F3{N:Net}{s:Str}{F:Str->Option Int}(h0:∃d,F s=some d/\d<=0)(hw:∀x d,F x=some d->Wk N s x d)(hc:∀x d y l,F x=some d->Ed N x y l->∃d',F y=some d'/\d'<=d+l) :
  (∀x d,F x=some d->Least N s x d)/\∀x d,Wk N s x d->F x≠none:=by
 have main:∀x d,Wk N s x d->∃d',F x=some d'/\d'<=d:=by
  intro x d h
  induction h with
  | nil=>exact h0
  | snoc _ he ih =>
   obtain⟨d1,e1,h1⟩:=ih;obtain⟨d2,e2,h2⟩:=hc _ _ _ _ e1 he;exact⟨d2,e2,by omega⟩
 refine⟨λx d e=>⟨hw x d e,λd' h=>?_⟩,λx d h e=>?_⟩
 ·obtain⟨d1,e1,h1⟩:=main x d' h
  rw [e] at e1;cases e1;exact h1
 ·obtain⟨d1,e1,_⟩:=main x d h
  rw [e] at e1;cases e1
theorem B8{N:Net}{t:Tie}(ht:t∈N.ts):Ed N t.a t.b t.len/\Ed N t.b t.a t.len:=by
 constructor
 ·exact Z3.mpr ⟨t,ht,Zt _ (by rw [if_pos rfl]; exact Go.mpr rfl)⟩
 ·exact Z3.mpr ⟨t,ht,ZW _ (by rw [if_pos rfl]; exact Go.mpr rfl)⟩
theorem Ed.tie{N:Net}(ok:N.Ok){x y:Str}{l:Int}(h:Ed N x y l):∃t∈N.ts,t.len=l/\((t.a=x/\t.b=y)\/(t.b=x/\t.a=y)):=by
 obtain⟨_,_,_,t,ht,e,h⟩:=Do ok h;exact⟨t,ht,e,h⟩
structure Dmap (ks:List Key) (ds:List D) (enc:α->D) (F:Str->Option α):Prop where
 len:ks.length=ds.length
 at_:∀x:Str,BI ks ds (.inr x)=(F x).map enc
 dom:∀k∈ks,∃x:Str,k=.inr x
 nd:ks.Nodup
theorem Dmap.mem{α:Type}{ks:List Key}{ds:List D}{enc:α->D}{F:Str->Option α}(h:Dmap ks ds enc F)(x:Str):(.inr x∈ks)↔F x≠none:=by
 constructor
 ·intro hm e
  obtain⟨z,hz⟩:=Ji h.len hm;rw [h.at_,e] at hz;cases hz
 ·intro hn
  by_cases hm:(aD x:Key)∈ks
  ·exact hm
  ·have:=Jj (ds:=ds) hm
   rw [h.at_] at this;cases e:F x with
   | none=>exact absurd e hn
   | some a=>rw [e] at this; cases this
theorem Dmap.one{α:Type}{enc:α->D}{s:Str}{a:α}:Dmap [.inr s] [enc a] enc (λx=>if x=s then some a else none):=by
 refine⟨rfl,λx=>?_,λk hk=>⟨s,Go.mp hk⟩,ZY.mpr ⟨Zf,Zp⟩⟩;show (if (aD s:Key)=.inr x then some (enc a) else none)=(if x=s then some a else none).map enc
 by_cases e:x=s
 ·rw [if_pos e,if_pos (by rw [e])]; rfl
 ·rw [if_neg e,if_neg (λz=>e (am z).symm)]; rfl
noncomputable def CA{α:Type}(F:Str->Option α)(x:Str)(a:α):Str->Option α:=λy=>if y=x then some a else F y
theorem BA{α:Type}{F:Str->Option α}{x:Str}{a:α}:CA F x a x=some a:=if_pos rfl
theorem A6{α:Type}{F:Str->Option α}{x y:Str}{a:α}(h:y≠x):CA F x a y=F y:=if_neg h
theorem Dmap.put{α:Type}{ks:List Key}{ds:List D}{enc:α->D}{F:Str->Option α}(h:Dmap ks ds enc F)(x:Str)(a:α):Dmap (Bx ks (.inr x)) (Bo ks ds (.inr x) (enc a)) enc (CA F x a):=by
 refine⟨Ks h.len,λy=>?_,λk hk=>?_,?_⟩
 ·rw [Qj h.len]
  unfold CA
  by_cases e:y=x
  ·rw [if_pos e,if_pos (by rw [e])]; rfl
  ·rw [if_neg e,if_neg (λz=>e (am z)),h.at_]
 ·unfold Bx at hk
  split at hk
  ·exact h.dom k hk
  ·rcases Zb.mp hk with hk | hk
   ·exact h.dom k hk
   ·exact⟨x,Go.mp hk⟩
 ·unfold Bx
  split
  ·exact h.nd
  ·rename_i hn
   rw [Zh];refine⟨h.nd,ZY.mpr ⟨Zf,Zp⟩,λa ha b hb e=>hn (hasK_iff.mpr ?_)⟩;rw [← Go.mp hb,← e];exact ha
theorem Dmap.le{α:Type}{ks:List Key}{ds:List D}{enc:α->D}{F:Str->Option α}(h:Dmap ks ds enc F){ps:List Str}(hp:∀x,F x≠none->x∈ps):ks.length<=ps.length:=by
 have:∀(ks:List Key) (ps:List Str),ks.Nodup->(∀k∈ks,∃x:Str,k=.inr x/\x∈ps)->ks.length<=ps.length:=by
  intro ks
  induction ks with
  | nil=>intro ps _ _; exact Zi _
  | cons k ks ih =>
   intro ps hn hm;obtain⟨x,rfl,hx⟩:=hm k Re;have hn:=ZY.mp hn
   have h1:=ih (ps.erase x) hn.2 λj hj=>by
    obtain⟨y,rfl,hy⟩:=hm j (Sc _ hj);refine⟨y,rfl,(List.mem_erase_of_ne λe=>?_).mpr hy⟩;rw [e] at hj;exact hn.1 hj
   rw [cj hx] at h1
   have:=dE hx
   rw [Za];omega
 refine this ks ps h.nd λk hk=>?_;obtain⟨x,rfl⟩:=h.dom k hk;exact⟨x,rfl,hp x ((h.mem x).mp hk)⟩
noncomputable abbrev B_:=Str->Option (Int×Option Str)
structure Dj (N:Net) (s:Str) (F:B_) (Wt:List Str):Prop where
 start:F s=some (0,none)
 ins:∀x,F x≠none->x∈N.ps
 wk:∀x d p,F x=some (d,p)->Wk N s x d
 prev:∀x d p,F x=some (d,p)->(p=none/\x=s)\/∃y dy q l,p=some y/\F y=some (dy,q)/\y∉Wt/\Ed N y x l/\d=dy+l
 wfound:∀x∈Wt,F x≠none
 nd:Wt.Nodup
 done:∀x d p y l,F x=some (d,p)->x∉Wt->Ed N x y l->∃dy q,F y=some (dy,q)/\dy<=d+l
 near:∀x d p y dy q,F x=some (d,p)->x∉Wt->F y=some (dy,q)->y∈Wt->d<=dy
theorem Dj.init{N:Net}{s:Str}(hs:s∈N.ps):Dj N s (λx=>if x=s then some (0,none) else none) [s]:=by
 have iff:∀x d p,(if x=s then some ((0:Int),(none:Option Str)) else none)=some (d,p)->x=s/\d=0/\p=none:=λx d p e=>by
  by_cases h:x=s
  ·rw [if_pos h] at e; cases e; exact⟨h,rfl,rfl⟩
  ·rw [if_neg h] at e; cases e
 refine⟨if_pos rfl,λx e=>?_,λx d p e=>?_,λx d p e=>?_,λx hx=>?_,ZY.mpr ⟨Zf,Zp⟩,λx d p y l e hx=>?_,λx d p y dy q e hx=>?_⟩
 ·by_cases h:x=s
  ·rw [h]; exact hs
  ·exact absurd (if_neg h) e
 ·obtain⟨rfl,rfl,rfl⟩:=iff x d p e
  exact .nil
 ·obtain⟨rfl,rfl,rfl⟩:=iff x d p e
  exact .inl ⟨rfl,rfl⟩
 ·rw [Go.mp hx,if_pos rfl]
  intro z; cases z
 ·exact absurd (Go.mpr (iff x d p e).1) hx
 ·exact absurd (Go.mpr (iff x d p e).1) hx
structure Dm (N:Net) (s:Str) (F:B_) (Wt:List Str) (v:Str) (dv:Int) (seen:List (Str×Int)):Prop where
 start:F s=some (0,none)
 ins:∀x,F x≠none->x∈N.ps
 wk:∀x d p,F x=some (d,p)->Wk N s x d
 prev:∀x d p,F x=some (d,p)->(p=none/\x=s)\/∃y dy q l,p=some y/\F y=some (dy,q)/\y∉Wt/\Ed N y x l/\d=dy+l
 wfound:∀x∈Wt,F x≠none
 nd:Wt.Nodup
 done:∀x d p y l,F x=some (d,p)->x∉Wt->x≠v->Ed N x y l->∃dy q,F y=some (dy,q)/\dy<=d+l
 near:∀x d p y dy q,F x=some (d,p)->x∉Wt->F y=some (dy,q)->y∈Wt->d<=dy
 here:∃p,F v=some (dv,p)
 out:v∉Wt
 least:∀x d p,F x=some (d,p)->x∉Wt->d<=dv
 gone:∀y l,(y,l)∈seen->∃dy q,F y=some (dy,q)/\dy<=dv+l
theorem Dj.take{N:Net}{s:Str}{F:B_}{Wt:List Str}(h:Dj N s F Wt){v:Str}{dv:Int}{p:Option Str}(hv:v∈Wt)(e:F v=some (dv,p))(hmin:∀y∈Wt,∀dy q,F y=some (dy,q)->dv<=dy):Dm N s F (Wt.erase v) v dv []:=by
 have sub:∀x,x∈Wt.erase v->x∈Wt:=λx hx=>fP hx;have out:v∉Wt.erase v:=λz=>(h.nd.mem_erase_iff.mp z).1 rfl
 have back:∀x,x∉Wt.erase v->x=v\/x∉Wt:=λx hx=>by
  by_cases e:x=v
  ·exact .inl e
  ·exact .inr λz=>hx (h.nd.mem_erase_iff.mpr ⟨e,z⟩)
 refine⟨h.start,h.ins,h.wk,λx d q ex=>?_,λx hx=>h.wfound x (sub x hx),h.nd.erase v,λx d q y l ex hx nx he=>?_,λx d q y dy q2 ex hx ey hy=>?_,⟨p,e⟩,out,λx d q ex hx=>?_,λy l hy=>by cases hy⟩
 ·rcases h.prev x d q ex with z | ⟨y,dy,q2,l,e1,e2,e3,e4,e5⟩
  ·exact .inl z
  ·exact .inr ⟨y,dy,q2,l,e1,e2,λz=>e3 (sub y z),e4,e5⟩
 ·rcases back x hx with z | z
  ·exact absurd z nx
  ·exact h.done x d q y l ex z he
 ·rcases back x hx with z | z
  ·subst z
   rw [e] at ex;cases ex;exact hmin y (sub y hy) dy q2 ey
  ·exact h.near x d q y dy q2 ex z ey (sub y hy)
 ·rcases back x hx with z | z
  ·subst z
   rw [e] at ex;cases ex;exact Z6 _
  ·exact h.near x d q v dv p ex z e hv
theorem Dm.finish{N:Net}{s:Str}{F:B_}{Wt:List Str}{v:Str}{dv:Int}{seen:List (Str×Int)}(h:Dm N s F Wt v dv seen)(hs:∀y l,Ed N v y l->(y,l)∈seen):Dj N s F Wt:=by
 refine⟨h.start,h.ins,h.wk,h.prev,h.wfound,h.nd,λx d p y l e hx he=>?_,h.near⟩
 by_cases z:x=v
 ·subst z
  obtain⟨p',e'⟩:=h.here;rw [e'] at e;cases e;exact h.gone y l (hs y l he)
 ·exact h.done x d p y l e hx z he
theorem Dm.find{N:Net}(ok:N.Ok){s:Str}{F:B_}{Wt:List Str}{v:Str}{dv:Int}{seen:List (Str×Int)}(h:Dm N s F Wt v dv seen){y:Str}{l:Int}(he:Ed N v y l)(hy:F y=none):Dm N s (CA F y (dv+l,some v)) (Wt++[y]) v dv (seen++[(y,l)]):=by
 have hpos:=(he.pos ok).1;obtain⟨pv,ev⟩:=h.here;have ne:∀x d p,F x=some (d,p)->x≠y:=λx d p e z=>by rw [z,hy] at e; cases e
 have keep:∀x d p,F x=some (d,p)->CA F y (dv+l,some v) x=some (d,p):=λx d p e=>by rw [A6 (ne x d p e)]; exact e
 have yW:y∉Wt:=λz=>h.wfound y z hy
 have cases_:∀x d p,CA F y (dv+l,some v) x=some (d,p)->(x=y/\d=dv+l/\p=some v)\/(x≠y/\F x=some (d,p)):=λx d p e=>by
  by_cases z:x=y
  ·rw [z,BA] at e; cases e; exact .inl ⟨z,rfl,rfl⟩
  ·rw [A6 z] at e; exact .inr ⟨z,e⟩
 have inW:∀x,x∉Wt++[y]->x∉Wt/\x≠y:=λx hx=>⟨λz=>hx (Zt _ z),λz=>hx (ZW _ (by rw [z]; exact Go.mpr rfl))⟩
 have vW:v∉Wt++[y]:=λz=>by
  rcases Zb.mp z with z | z
  ·exact h.out z
  ·exact ne v dv pv ev (Go.mp z)
 refine⟨keep _ _ _ h.start,λx hx=>?_,λx d p e=>?_,λx d p e=>?_,λx hx=>?_,?_,λx d p z l2 e hx nx he2=>?_,λx d p z dz q e hx ez hz=>?_,⟨pv,keep _ _ _ ev⟩,vW,λx d p e hx=>?_,λz l2 hz=>?_⟩
 ·by_cases z:x=y
  ·rw [z]; exact he.ins ok
  ·rw [A6 z] at hx; exact h.ins x hx
 ·rcases cases_ x d p e with ⟨rfl,rfl,_⟩ | ⟨_,e⟩
  ·exact .snoc (h.wk v dv pv ev) he
  ·exact h.wk x d p e
 ·rcases cases_ x d p e with ⟨rfl,rfl,rfl⟩ | ⟨_,e⟩
  ·exact .inr ⟨v,dv,pv,l,rfl,keep _ _ _ ev,vW,he,rfl⟩
  ·rcases h.prev x d p e with z | ⟨u,du,q,l2,e1,e2,e3,e4,e5⟩
   ·exact .inl z
   ·refine .inr ⟨u,du,q,l2,e1,keep _ _ _ e2,λz=>?_,e4,e5⟩
    rcases Zb.mp z with z | z
    ·exact e3 z
    ·exact ne u du q e2 (Go.mp z)
 ·rcases Zb.mp hx with hx | hx
  ·have:=h.wfound x hx
   cases e:F x with
   | none=>exact absurd e this
   | some a=>rw [keep x a.1 a.2 e]; intro z; cases z
  ·rw [Go.mp hx,BA]; intro z; cases z
 ·rw [Zh]
  exact⟨h.nd,ZY.mpr ⟨Zf,Zp⟩,λa ha b hb e=>yW (by rw [← Go.mp hb,← e]; exact ha)⟩
 ·obtain⟨w1,w2⟩:=inW x hx
  rcases cases_ x d p e with ⟨z,_⟩ | ⟨_,e⟩
  ·exact absurd z w2
  ·obtain⟨d3,q3,e3,h3⟩:=h.done x d p z l2 e w1 nx he2
   exact⟨d3,q3,keep _ _ _ e3,h3⟩
 ·obtain⟨w1,w2⟩:=inW x hx
  rcases cases_ x d p e with ⟨z,_⟩ | ⟨_,ex⟩
  ·exact absurd z w2
  ·rcases cases_ z dz q ez with ⟨_,e2,_⟩ | ⟨nz,ez⟩
   ·have:=h.least x d p ex w1
    omega
   ·rcases Zb.mp hz with hz | hz
    ·exact h.near x d p z dz q ex w1 ez hz
    ·exact absurd (Go.mp hz) nz
 ·obtain⟨w1,w2⟩:=inW x hx
  rcases cases_ x d p e with ⟨z,_⟩ | ⟨_,e⟩
  ·exact absurd z w2
  ·exact h.least x d p e w1
 ·rcases Zb.mp hz with hz | hz
  ·obtain⟨d3,q3,e3,h3⟩:=h.gone z l2 hz
   exact⟨d3,q3,keep _ _ _ e3,h3⟩
  ·cases Go.mp hz
   exact⟨_,_,BA,Z6 _⟩
theorem Dm.nearer{N:Net}(ok:N.Ok){s:Str}{F:B_}{Wt:List Str}{v:Str}{dv:Int}{seen:List (Str×Int)}(h:Dm N s F Wt v dv seen){y:Str}{l dy:Int}{qy:Option Str}(he:Ed N v y l)(hy:F y=some (dy,qy))(hlt:dv+l<dy):Dm N s (CA F y (dv+l,some v)) Wt v dv (seen++[(y,l)]):=by
 have hpos:=(he.pos ok).1;obtain⟨pv,ev⟩:=h.here
 have yW:y∈Wt:=by
  by_cases z:y∈Wt
  ·exact z
  ·have:=h.least y dy qy hy z
   omega
 have vy:v≠y:=λz=>h.out (by rw [z]; exact yW);have keep:∀x,x∉Wt->CA F y (dv+l,some v) x=F x:=λx hx=>A6 λz=>hx (by rw [z]; exact yW)
 have cases_:∀x d p,CA F y (dv+l,some v) x=some (d,p)->(x=y/\d=dv+l/\p=some v)\/(x≠y/\F x=some (d,p)):=λx d p e=>by
  by_cases z:x=y
  ·rw [z,BA] at e; cases e; exact .inl ⟨z,rfl,rfl⟩
  ·rw [A6 z] at e; exact .inr ⟨z,e⟩
 have less:∀x d p,F x=some (d,p)->∃d' q,CA F y (dv+l,some v) x=some (d',q)/\d'<=d:=λx d p e=>by
  by_cases z:x=y
  ·subst z
   rw [hy] at e;cases e;exact⟨_,_,BA,by omega⟩
  ·exact⟨d,p,by rw [A6 z]; exact e,Z6 _⟩
 have sy:s≠y:=λz=>by
  have:=h.start
  rw [z,hy] at this;cases this
  have:=(h.wk v dv pv ev).pos ok
  omega
 refine⟨by rw [A6 sy]; exact h.start,λx hx=>?_,λx d p e=>?_,λx d p e=>?_,λx hx=>?_,h.nd,λx d p z l2 e hx nx he2=>?_,λx d p z dz q e hx ez hz=>?_,⟨pv,by rw [A6 vy]; exact ev⟩,h.out,λx d p e hx=>?_,λz l2 hz=>?_⟩
 ·by_cases z:x=y
  ·rw [z]; exact he.ins ok
  ·rw [A6 z] at hx; exact h.ins x hx
 ·rcases cases_ x d p e with ⟨rfl,rfl,_⟩ | ⟨_,e⟩
  ·exact .snoc (h.wk v dv pv ev) he
  ·exact h.wk x d p e
 ·rcases cases_ x d p e with ⟨rfl,rfl,rfl⟩ | ⟨_,e⟩
  ·exact .inr ⟨v,dv,pv,l,rfl,by rw [A6 vy]; exact ev,h.out,he,rfl⟩
  ·rcases h.prev x d p e with z | ⟨u,du,q,l2,e1,e2,e3,e4,e5⟩
   ·exact .inl z
   ·exact .inr ⟨u,du,q,l2,e1,by rw [keep u e3]; exact e2,e3,e4,e5⟩
 ·by_cases z:x=y
  ·rw [z,BA]; intro w; cases w
  ·rw [A6 z]; exact h.wfound x hx
 ·rw [keep x hx] at e
  obtain⟨d3,q3,e3,h3⟩:=h.done x d p z l2 e hx nx he2;obtain⟨d4,q4,e4,h4⟩:=less z d3 q3 e3;exact⟨d4,q4,e4,by omega⟩
 ·rw [keep x hx] at e
  rcases cases_ z dz q ez with ⟨rfl,rfl,_⟩ | ⟨nz,ez⟩
  ·have:=h.least x d p e hx
   omega
  ·exact h.near x d p z dz q e hx ez hz
 ·rw [keep x hx] at e
  exact h.least x d p e hx
 ·rcases Zb.mp hz with hz | hz
  ·obtain⟨d3,q3,e3,h3⟩:=h.gone z l2 hz
   obtain⟨d4,q4,e4,h4⟩:=less z d3 q3 e3;exact⟨d4,q4,e4,by omega⟩
  ·cases Go.mp hz
   exact⟨_,_,BA,Z6 _⟩
theorem Dm.skip{N:Net}{s:Str}{F:B_}{Wt:List Str}{v:Str}{dv:Int}{seen:List (Str×Int)}(h:Dm N s F Wt v dv seen){y:Str}{l dy:Int}{qy:Option Str}(hy:F y=some (dy,qy))(hle:dy<=dv+l):Dm N s F Wt v dv (seen++[(y,l)]):=by
 refine⟨h.start,h.ins,h.wk,h.prev,h.wfound,h.nd,h.done,h.near,h.here,h.out,h.least,λz l2 hz=>?_⟩
 rcases Zb.mp hz with hz | hz
 ·exact h.gone z l2 hz
 ·cases Go.mp hz
  exact⟨_,_,hy,hle⟩
structure Told (N:Net) (s:Str) (F:B_):Prop where
 start:F s=some (0,none)
 ins:∀x,F x≠none->x∈N.ps
 least:∀x d p,F x=some (d,p)->Least N s x d
 all:∀x d,Wk N s x d->F x≠none
 prev:∀x d p,F x=some (d,p)->(p=none/\x=s)\/∃y dy q l,p=some y/\F y=some (dy,q)/\Ed N y x l/\d=dy+l
theorem Dj.told{N:Net}{s:Str}{F:B_}(h:Dj N s F []):Told N s F:=by
 have cl:=F3 (N:=N) (s:=s) (F:=λx=>(F x).map (·.1)) ⟨0,by rw [h.start]; rfl,Z6 _⟩ (λx d e=>by
  obtain⟨⟨d',p⟩,e1,e2⟩:=Zy.mp e;cases e2;exact h.wk x _ p e1) (λx d y l e he=>by
  obtain⟨⟨d',p⟩,e1,e2⟩:=Zy.mp e;cases e2;obtain⟨dy,q,e3,h3⟩:=h.done x _ p y l e1 Zf he;exact⟨dy,by rw [e3]; rfl,h3⟩)
 refine⟨h.start,h.ins,λx d p e=>cl.1 x d (by rw [e]; rfl),λx d hw e=>cl.2 x d hw (by rw [e]; rfl),λx d p e=>?_⟩
 rcases h.prev x d p e with z | ⟨y,dy,q,l,e1,e2,_,e4,e5⟩
 ·exact .inl z
 ·exact .inr ⟨y,dy,q,l,e1,e2,e4,e5⟩
noncomputable abbrev Kn:=Str->Option Int
structure Bf (N:Net) (s:Str) (c:Nat) (K:Kn):Prop where
 start:∃d,K s=some d/\d<=0
 ins:∀x,K x≠none->x∈N.ps
 wk:∀x d,K x=some d->Wk N s x d
 top:∀x d,K x=some d->d<=1000000*(c:Int)
noncomputable def big:Nat:=27000001
noncomputable def wt(K:Kn)(x:Str):Nat:=match K x with
 | some d=>d.toNat
 | none=>big
noncomputable def QY(ps:List Str)(K:Kn):Nat:=(ps.map (wt K)).sum
theorem Qt{f g:Str->Nat}:∀{ps:List Str},(∀x∈ps,f x<=g x)->(ps.map f).sum<=(ps.map g).sum
 | [],_=>Tk _
 | x::ps,h=>by
  have h1:=h x Re;have h2:=Qt λy hy=>h y (Sc _ hy);rw [ZX,ZX,ao,ao];omega
theorem Qs{f g:Str->Nat}:∀{ps:List Str},(∀x∈ps,f x<=g x)->(∃x∈ps,f x<g x)->(ps.map f).sum<(ps.map g).sum
 | [],_,⟨x,hx,_⟩=>by cases hx
 | x::ps,h,⟨y,hy,hl⟩=>by
  have h1:=h x Re;rw [ZX,ZX,ao,ao]
  rcases XV.mp hy with rfl | hy
  ·have h2:=Qt λy hy=>h y (Sc _ hy)
   omega
  ·have h2:=Qs (λy hy=>h y (Sc _ hy)) ⟨y,hy,hl⟩
   omega
theorem Bf.put {N : Net} (ok : N.Ok) {s : Str} {c c' : Nat} {K : Kn} (h : Bf N s c K) (hc : c' ≤ 26) (hcc : c ≤ c') {x y : Str} {d l : Int} (hx : K x = some d) (he : Ed N x y l) (hn : K y = none → c' = c + 1) (hl : ∀ d', K y = some d' → d + l < d') : Bf N s c' (CA K y (d + l)) ∧ QY N.ps (CA K y (d + l)) < QY N.ps K := by
  have hp := he.pos ok;have hd := (h.wk x d hx).pos ok;have hw : Wk N s y (d + l) := .snoc (h.wk x d hx) he;have td := h.top x d hx
  have ht : d + l ≤ 1000000 * (c' : Int) := by
    cases e : K y with
    | none => rw [hn e]; have : ((c + 1 : Nat) : Int) = (c : Int) + 1 := by omega
              rw [this, d8]; omega
    | some d' =>
      have h1 := hl d' e;have h2 := h.top y d' e;have : (1000000 : Int) * (c : Int) ≤ 1000000 * (c' : Int) := ag (by omega) (by omega);omega
  refine ⟨⟨?_, λz hz => ?_, λz dz e => ?_, λz dz e => ?_⟩, Qs (λz _ => ?_) ⟨y, he.ins ok, ?_⟩⟩
  · obtain ⟨d0, e0, h0⟩ := h.start
    by_cases z : s = y
    · have := hl d0 (by rw [← z]; exact e0)
      omega
    · exact ⟨d0, by rw [A6 z]; exact e0, h0⟩
  · by_cases e : z = y
    · rw [e]; exact he.ins ok
    · rw [A6 e] at hz; exact h.ins z hz
  · by_cases w : z = y
    · rw [w, BA] at e; cases e; rw [w]; exact hw
    · rw [A6 w] at e; exact h.wk z dz e
  · by_cases w : z = y
    · rw [w, BA] at e; cases e; exact ht
    · rw [A6 w] at e
      have h2 := h.top z dz e;have : (1000000 : Int) * (c : Int) ≤ 1000000 * (c' : Int) := ag (by omega) (by omega);omega
  · unfold wt
    by_cases w : z = y
    · rw [w, BA]
      cases e : K y with
      | none => show (d + l).toNat ≤ big; unfold big; omega
      | some d' => show (d + l).toNat ≤ d'.toNat; have := hl d' e; omega
    · rw [A6 w]
      exact Tk _
  · unfold wt
    rw [BA];cases e : K y with
    | none => show (d + l).toNat < big; unfold big; omega
    | some d' => show (d + l).toNat < d'.toNat; have := hl d' e; omega
theorem Bf.init{N:Net}{s:Str}(hs:s∈N.ps):Bf N s 1 (λx=>if x=s then some 0 else none):=by
 have iff:∀x d,(if x=s then some (0:Int) else none)=some d->x=s/\d=0:=λx d e=>by
  by_cases h:x=s
  ·rw [if_pos h] at e; cases e; exact⟨h,rfl⟩
  ·rw [if_neg h] at e; cases e
 refine⟨⟨0,if_pos rfl,Z6 _⟩,λx e=>?_,λx d e=>?_,λx d e=>?_⟩
 ·by_cases h:x=s
  ·rw [h]; exact hs
  ·exact absurd (if_neg h) e
 ·obtain⟨rfl,rfl⟩:=iff x d e
  exact .nil
 ·obtain⟨rfl,rfl⟩:=iff x d e
  decide
noncomputable def Hq(K:Kn)(e:Str×Str×Int):Prop:=∀d,K e.1=some d->∃d',K e.2.1=some d'/\d'<=d+e.2.2
structure U1 (N:Net) (s:Str) (K:Kn):Prop where
 ins:∀x,K x≠none->x∈N.ps
 least:∀x d,K x=some d->Least N s x d
 all:∀x d,Wk N s x d->K x≠none
 top:∀x d,K x=some d->d<=30000000
theorem Bf.told{N:Net}(ok:N.Ok){s:Str}{c:Nat}{K:Kn}(h:Bf N s c K)(hc:c<=26)(ht:∀t∈N.ts,Hq K (t.a,t.b,t.len)/\Hq K (t.b,t.a,t.len)):U1 N s K:=by
 have cl:=F3 h.start h.wk (λx d y l e he=>by
  obtain⟨t,hm,e1,h2⟩:=he.tie ok;subst e1
  rcases h2 with ⟨rfl,rfl⟩ | ⟨rfl,rfl⟩
  ·exact(ht t hm).1 d e
  ·exact(ht t hm).2 d e)
 exact⟨h.ins,cl.1,cl.2,λx d e=>by have:=h.top x d e; omega⟩
noncomputable def walk(N:Net):List Str->Int->Prop
 | [],_=>False
 | [_],d=>d=0
 | x::y::r,d=>∃l e,Ed N x y l/\walk N (y::r) e/\d=l+e
theorem O7{N:Net}{x y:Str}{r:List Str}{d l:Int}(he:Ed N x y l)(h:walk N (y::r) d):walk N (x::y::r) (l+d):=⟨l,d,he,h,rfl⟩
noncomputable def Yz(N:Net)(a b:Str):Option Int->Prop
 | some d=>Least N a b d
 | none=>∀d,¬Wk N a b d
theorem Told.far{N:Net}{s:Str}{F:B_}(h:Told N s F)(x:Str):Yz N s x ((F x).map (·.1)):=by
 cases e:F x with
 | none=>exact λd hw=>h.all x d hw e
 | some a=>exact h.least x a.1 a.2 e
noncomputable def Way(N:Net)(a b:Str)(o:Option (List Str)):Prop:=match o with
 | some w=>∃d r,w=a::r/\w.getLast?=some b/\walk N w d/\Least N a b d/\w.length<=30/\∀x∈w,x∈N.ps
 | none=>∀d,¬Wk N a b d
noncomputable def L7:Option Str->D
 | some y=>.str y
 | none=>.non
noncomputable def YS:Option Int->D
 | some y=>.int y
 | none=>.non
noncomputable def YR:Option (List Str)->D
 | some w=>.tup (w.map .str)
 | none=>.non
noncomputable def Bw(p:Int×Option Str):D:=.tup [.int p.1,L7 p.2]
noncomputable def okN(N:Net):Prop:=N.Ok/\N.ps.length<=25/\N.ts.length<=60
noncomputable def O3:W2:=λss n P=>∃(Wt:List Str) (ks:List Key) (ds:List D) (F:B_),ss=[.br (.lst (Wt.map .str)),.br (.dic ks ds)]/\Dmap ks ds Bw F/\(∀x∈Wt,F x≠none)/\Wt≠[]/\Wt.length<=100 /\
 ∀v∈Wt,(∀y∈Wt,∀dv pv dy py,F v=some (dv,pv)->F y=some (dy,py)->dv<=dy)->P (.str v) n
noncomputable def Gu:W2:=λss n P=>∃(N:Net) (s:Str),ss=[.sh (enc N),.sh (.str s)]/\okN N/\s∈N.ps/\∀(ks:List Key) (ds:List D) (F:B_),Dmap ks ds Bw F->Told N s F->P (.dic ks ds) n
noncomputable def Sv:W2:=λss n P=>∃(N:Net) (a b:Str),ss=[.sh (enc N),.sh (.str a),.sh (.str b)]/\okN N/\a∈N.ps/\b∈N.ps/\∀o,Yz N a b o->P (YS o) n
noncomputable def UN:W2:=λss n P=>∃(N:Net) (a b:Str),ss=[.sh (enc N),.sh (.str a),.sh (.str b)]/\okN N/\a∈N.ps/\b∈N.ps/\∀o,Way N a b o->P (YR o) n
noncomputable def F7:AW:=(Ba (AY BG (CB Uo (AC (DF [some 1,none] (BQ (Al 0)) (Aa 1) Fb (A3 (AC (AY BG (AY A4 (Al 0) (AD 1)) (wC (D.int 0))) (AC (AD 1) AQ)))) AQ)) (wC (D.int 1))))
noncomputable def F8:AW:=(Ae (BE 2 (AZ Gq (AF (AR (AD 0)) Ac)))
 (Ae (CO 3 (Kb (AD 1) (A3 (AC (wC (D.int 0)) (AC (wC D.non) AQ)))))
 (Ae (CO 4 (DU (AC (AD 1) AQ)))
 (Ae (Hf (VA (Al 4)) (Ae (BE 5 (AZ O3 (AF (Cf (Al 4)) (AF (Cf (Al 3)) Ac))))
 (Ae (Jf 4 "list" Xb (AC (AD 5) AQ))
 (Cg (wItems (AY A4 (AD 2) (AD 5))) (FA 2 (Am (Aa 6) (Am (Aa 7) CV))) (Ae (BE 8 (AY BN (AY BG (AY A4 (Al 3) (AD 5)) (wC (D.int 0))) (AD 7)))
 (Be (Aj (AY (LF true) (AD 6) (Al 3))) (Ae (Jf 4 "list" ET (AC (AD 6) AQ))
 (DD 3 (AD 6) (A3 (AC (AD 8) (AC (AD 5) AQ))))) (Be (Aj (AY Fx (AD 8) (AY BG (AY A4 (Al 3) (AD 6)) (wC (D.int 0))))) (DD 3 (AD 6) (A3 (AC (AD 8) (AC (AD 5) AQ)))) A_)))))))
 (Hg 3)))))
noncomputable def Uw:AW:=(Ae (BE 3 (AZ Gu (AF (AR (AD 0)) (AF (AR (AD 1)) Ac))))
 (Ba (Y2 (Aj (AY (LF false) (AD 2) (AD 3))) (AY BG (AY A4 (AD 3) (AD 2)) (wC (D.int 0))) (wC D.non))))
noncomputable def Mh:AW:=(Ae (BE 3 (AZ Gu (AF (AR (AD 0)) (AF (AR (AD 1)) Ac))))
 (Ae (Be (Aj (AY (LF true) (AD 2) (AD 3))) (Ba (wC D.non)) A_)
 (Ae (CO 4 (DU AQ))
 (Ae (BE 5 (AD 2))
 (Ae (Hf (Aj (AY (MS true) (AD 5) (wC D.non))) (Ae (Jf 4 "list" ET (AC (AD 5) AQ))
 (BE 5 (AY BG (AY A4 (AD 3) (AD 5)) (wC (D.int 1))))))
 (Ba (N_ (Al 4))))))))
theorem Ym{i j:Int}{x y:Str}(h:BY [.inl j,.inr y] [.inl i,.inr x]=false):i<=j:=by
 have h:(if (cG j:Key)=.inl i then (if (aD y:Key)=.inr x then false else decide (y.cps.toList<x.cps.toList)) else decide (j<i))=false:=h
 by_cases e:j=i
 ·omega
 ·rw [if_neg (λz=>e (fu z)),decide_eq_false_iff_not] at h
  omega
section
variable {ss:List Slot}{n:Nat}{Pd:D->Nat->Prop}
theorem JL(h:O3 ss n Pd):F7 (EE Pd) n (ss++Zd 0 .no):=by
 obtain⟨Wt,ks,ds,F,rfl,M,hF,hne,hl,p⟩:=h;unfold F7;refine⟨by show (Wt.map D.str).length<=10000000; rw [On]; omega,?_⟩
 have dist:∀x∈Wt,∃d q,F x=some (d,q):=λx hx=>by
  cases e:F x with
  | none=>exact absurd e (hF x hx)
  | some a=>exact⟨a.1,a.2,rfl⟩
 refine Bk (λd=>match d with | .str x=>.tup [.int ((F x).getD (0,none)).1,.str x] | d=>d) (λρ=>∃s,ρ=[.br (.dic ks ds),s]) _ _ _ _ ?_ ⟨_,rfl⟩ ?_
 ·rintro d hd ρ m nx ⟨s,rfl⟩ hnx
  obtain⟨x,hx,rfl⟩:=TW.mp hd;obtain⟨dx,q,ex⟩:=dist x hx;refine⟨ks,ds,_,Bw (dx,q),rfl,rfl,by rw [M.at_,ex]; rfl,_,AJ (j:=0) rfl,(by decide:2<=sizeLine),?_⟩;have this:nx (.tup [.int ((F x).getD (0,none)).1,.str x]) m [.br (.dic ks ds),.sh (.str x)]:=hnx [.br (.dic ks ds),.sh (.str x)] ⟨_,rfl⟩;rw [show ((F x).getD (0,none)).1=dx by rw [ex]; rfl] at this;exact this
 rw [aA,aO];refine⟨_,rfl,?_,⟨λx hx=>?_,λx hx y hy ka kb ea eb=>?_⟩,λx hx hmin=>?_⟩
 ·rw [On]
  cases Wt with
  | nil=>exact absurd rfl hne
  | cons a r=>exact Nat.succ_pos _
 ·obtain⟨z,_,rfl⟩:=TW.mp hx
  exact⟨_,rfl,bC _ _⟩
 ·obtain⟨z,_,rfl⟩:=TW.mp hx
  obtain⟨u,_,rfl⟩:=TW.mp hy;cases (show some [cG _,aD _]=some ka from ea);cases (show some [cG _,aD _]=some kb from eb);rfl
 ·obtain⟨v,hv,rfl⟩:=TW.mp hx
  refine⟨_,AJ (j:=1) rfl,p v hv λy hy dv pv dy py ev ey=>?_⟩
  have:=Ym (hmin _ (TW.mpr ⟨y,hy,rfl⟩) _ _ rfl rfl)
  rw [ev,ey] at this;exact this
theorem AX(x:Str):keyOf (.str x)=some (.inr x):=rfl
theorem Pm{N:Net}(ok:N.Ok){xs:List Str}(h:∀x∈xs,x∈N.ps):Ds (.lst (xs.map .str)):=by
 have it:∀d∈xs.map D.str,item d:=λd hd=>by
  obtain⟨x,hx,rfl⟩:=TW.mp hd;exact Gj (ok.names x (h x hx))
 exact Jz it
theorem Mq{N:Net}{Wt:List Str}(hn:Wt.Nodup)(h:∀x∈Wt,x∈N.ps):Wt.length<=N.ps.length:=by
 have:∀(xs ps:List Str),xs.Nodup->(∀x∈xs,x∈ps)->xs.length<=ps.length:=by
  intro xs
  induction xs with
  | nil=>intro ps _ _; exact Zi _
  | cons x xs ih =>
   intro ps hn hm;have hx:=hm x Re;have hn:=ZY.mp hn;have h1:=ih (ps.erase x) hn.2 λj hj=>(List.mem_erase_of_ne λe=>hn.1 (by rw [← e]; exact hj)).mpr (hm j (Sc _ hj));rw [cj hx] at h1
   have:=dE hx
   rw [Za];omega
 exact this Wt N.ps hn h
theorem IG(ks:List Key)(k:Key):(Bx ks k).length=if IX ks k=true then ks.length else ks.length+1:=by
 unfold Bx
 split
 ·rfl
 ·rw [ZT]; rfl
theorem Dmap.has{α:Type}{ks:List Key}{ds:List D}{enc:α->D}{F:Str->Option α}(h:Dmap ks ds enc F){x:Str}:(F x=none->IX ks (.inr x)=false)/\(F x≠none->IX ks (.inr x)=true):=by
 constructor
 ·intro e
  cases c:IX ks (.inr x) with
  | false=>rfl
  | true=>exact absurd e ((h.mem x).mp (hasK_iff.mp c))
 ·intro e
  exact hasK_iff.mpr ((h.mem x).mpr e)
theorem Eu{N:Net}{x:Str}(hx:x∈N.ps):BI (N.ps.map .inr) (N.ps.map (QX N.ts)) (.inr x)=some (QX N.ts x):=by
 have go:∀ps:List Str,x∈ps->BI (ps.map .inr) (ps.map (QX N.ts)) (.inr x)=some (QX N.ts x):=by
  intro ps
  induction ps with
  | nil=>intro h; cases h
  | cons q ps ih =>
   intro h;show (if (aD q:Key)=.inr x then some (QX N.ts q) else BI (ps.map .inr) (ps.map (QX N.ts)) (.inr x))=_
   by_cases e:q=x
   ·rw [if_pos (by rw [e]),e]
   ·rw [if_neg (λz=>e (am z))]
    exact ih ((XV.mp h).resolve_left λz=>e z.symm)
 exact go N.ps hx
theorem S4(l:List (Str×Int)):GO ((l.map λx=>(.inr x.1:Key)).map Oo) (l.map λx=>.int x.2)=l.map X9:=by
 induction l with
 | nil=>rfl
 | cons p l ih =>
  show D.tup [.str p.1,.int p.2]::GO _ _=X9 p::l.map X9;rw [← ih];rfl
theorem JM(h:Gu ss n Pd):F8 (EF Pd) n (ss++Zd 7 .no):=by
 obtain⟨N,s,rfl,⟨ok,lp,lt⟩,hs,p⟩:=h;have szl:=PySem.sizeLine_eq;unfold F8;refine⟨N,rfl,ok,by omega,by omega,?_⟩;refine⟨(by decide:2<=sizeLine),_,AX s,(by decide:1<=sizeLine),?_⟩;refine GP (λm n' ρ=>n'=n/\∃(Wt:List Str) (ks:List Key) (ds:List D) (F:B_) (s5 s6 s7 s8:Slot),ρ=[.sh (enc N),.sh (.str s),.sh (B0 N),.ow (.dic ks ds),.ow (.lst (Wt.map .str)),s5,s6,s7,s8]/\Dmap ks ds Bw F/\Dj N s F Wt/\m+ks.length=N.ps.length+Wt.length) (N.ps.length) ⟨rfl,[s],[.inr s],[Bw (0,none)],_,_,_,_,_,rfl,Dmap.one,Dj.init hs,rfl⟩ ?_ ?_
 ·rintro m n' ρ N' ⟨rfl,Wt,ks,ds,F,s5,s6,s7,s8,rfl,M,J,hm⟩ hN
  cases Wt with
  | nil =>
   exact⟨false,rfl,_,rfl,p ks ds F M J.told⟩
  | cons w0 Wr =>
   refine⟨true,rfl,?_⟩;have insW:∀x∈w0::Wr,x∈N.ps:=λx hx=>J.ins x (J.wfound x hx);have wl:=Mq J.nd insW;refine⟨w0::Wr,ks,ds,F,rfl,M,J.wfound,bC _ _,by omega,λv hv hmin=>?_⟩
   obtain⟨dv,pv,ev⟩:∃d q,F v=some (d,q):=by
    cases e:F v with
    | none=>exact absurd e (J.wfound v hv)
    | some a=>exact⟨a.1,a.2,rfl⟩
   have D0:=J.take hv ev λy hy dy q ey=>hmin y hy dv pv dy q ev ey;have hvp:=insW v hv;have hidx:(w0::Wr).idxOf v<(w0::Wr).length:=List.idxOf_lt_length_of_mem hv;have hget:(w0::Wr)[(w0::Wr).idxOf v]?=some v:=by rw [No hidx,List.getElem_idxOf]
   have ee:((w0::Wr).map D.str).eraseIdx ((w0::Wr).idxOf v)=((w0::Wr).erase v).map D.str:=by
    rw [List.erase_eq_eraseIdx_of_idxOf (rfl:(w0::Wr).idxOf v=_),Gm]
   refine⟨_,rfl,rfl,_,_,(w0::Wr).idxOf v,rfl,rfl,Pm ok insW,Fq (ok.names v hvp),⟨.str v,by rw [ZZ,hget]; rfl,by show (v==v)=true; exact beq_self_eq_true v⟩,λk x hk hx=>?_,?_⟩
   ·rw [ZZ] at hx
    obtain⟨t,ht,rfl⟩:=Zy.mp hx;have hkl:k<(w0::Wr).length:=(ZB.mp ht).1;have hh:=List.not_of_lt_findIdx (p:=λy=>y==v) (xs:=w0::Wr) hk;have e2:(w0::Wr)[k]=t:=(ZB.mp ht).2;have h3:((w0::Wr)[k]==v)=false:=hh;rw [e2] at h3;exact h3
   rw [ee];refine⟨_,_,_,QX N.ts v,rfl,AX v,Eu hvp,_,_,rfl,λk hk=>?_,?_⟩
   ·obtain⟨q,hq,rfl⟩:=TW.mp hk
    have:=(ok.names _ (Do ok hq).1).2.1
    show q.1.length<=sizeLine;omega
   rw [S4];have el:=cj hv
   have inner:∀(rest seen:List (Str×Int)) (Wt:List Str) (ks:List Key) (ds:List D) (F:B_) (s6 s7 s8:Slot),seen++rest=Cu N.ts v->Dmap ks ds Bw F->Dm N s F Wt v dv seen->m+ks.length=N.ps.length+Wt.length+1 ->
     A0 (FA 2 (Am (Aa 6) (Am (Aa 7) CV))) (Ae (BE 8 (AY BN (AY BG (AY A4 (Al 3) (AD 5)) (wC (D.int 0))) (AD 7)))
 (Be (Aj (AY (LF true) (AD 6) (Al 3))) (Ae (Jf 4 "list" ET (AC (AD 6) AQ))
 (DD 3 (AD 6) (A3 (AC (AD 8) (AC (AD 5) AQ))))) (Be (Aj (AY Fx (AD 8) (AY BG (AY A4 (Al 3) (AD 6)) (wC (D.int 0))))) (DD 3 (AD 6) (A3 (AC (AD 8) (AC (AD 5) AQ)))) A_))) { EF Pd with nx:=N',ct:=N',bk:=Hg 3 (EF Pd) } (rest.map X9) n' [.sh (enc N),.sh (.str s),.sh (B0 N),.ow (.dic ks ds),.ow (.lst (Wt.map .str)),.sh (.str v),s6,s7,s8]:=by
    intro rest
    induction rest with
    | nil =>
     intro seen Wt ks ds F s6 s7 s8 e M D0 hm;rw [Zn] at e;exact hN (m - 1) n' _ (by have:=M.le D0.ins; omega) ⟨rfl,Wt,ks,ds,F,_,_,_,_,rfl,M,D0.finish λy l hy=>by rw [e]; exact hy,by have:=M.le D0.ins; omega⟩
    | cons q rest ih =>
     intro seen Wt ks ds F s6 s7 s8 e M D0 hm;obtain⟨y,l⟩:=q;have he:Ed N v y l:=by show (y,l)∈Cu N.ts v; rw [← e]; exact ZW _ Re
     have e':(seen++[(y,l)])++rest=Cu N.ts v:=by rw [Zg]; exact e
     obtain⟨pv,ev⟩:=D0.here;have kl:=M.le D0.ins;have hyp:=he.ins ok;have insW:∀x∈Wt,x∈N.ps:=λx hx=>D0.ins x (D0.wfound x hx);have wl:=Mq D0.nd insW;refine⟨rfl,rfl,?_⟩;refine⟨ks,ds,_,Bw (dv,pv),rfl,AX v,by rw [M.at_,ev]; rfl,_,AJ (j:=0) rfl,?_⟩;refine⟨ks,ds,_,rfl,AX y,?_⟩;show if (!(BI ks ds (.inr y)).isSome)=true then _ else _
     cases ey:F y with
     | none =>
      have hno:=(M.has (x:=y)).1 ey;rw [M.at_,ey];refine Fw ⟨_,rfl,rfl,_,_,rfl,rfl,by rw [On]; omega,?_⟩;refine⟨ks,ds,rfl,(by decide:2<=sizeLine),_,AX y,by omega,?_⟩
      have:=ih (seen++[(y,l)]) (Wt++[y]) (Bx ks (.inr y)) (Bo ks ds (.inr y) (Bw (dv+l,some v))) _ (.sh (.str y)) (.sh (.int l)) (.sh (.int (dv+l))) e' (M.put y (dv+l,some v)) (D0.find ok he ey) (by rw [IG,if_neg (by rw [hno]; decide),ZT,Zc]; omega)
      rw [Z1] at this;exact this
     | some a =>
      obtain⟨dy,qy⟩:=a;have hyes:=(M.has (x:=y)).2 (by rw [ey]; intro z; cases z);rw [M.at_,ey];refine EA ⟨ks,ds,_,Bw (dy,qy),rfl,AX y,by rw [M.at_,ey]; rfl,_,AJ (j:=0) rfl,?_⟩;show if decide (dv+l<dy)=true then _ else _
      by_cases c:dv+l<dy
      ·rw [decide_eq_true c]
       refine Fw ⟨ks,ds,rfl,(by decide:2<=sizeLine),_,AX y,by omega,?_⟩;exact ih (seen++[(y,l)]) Wt (Bx ks (.inr y)) (Bo ks ds (.inr y) (Bw (dv+l,some v))) _ (.sh (.str y)) (.sh (.int l)) (.sh (.int (dv+l))) e' (M.put y (dv+l,some v)) (D0.nearer ok he ey c) (by rw [IG,if_pos hyes]; omega)
      ·rw [decide_eq_false c]
       exact EA (ih (seen++[(y,l)]) Wt ks ds F (.sh (.str y)) (.sh (.int l)) (.sh (.int (dv+l))) e' M (D0.skip ey (by omega)) hm)
   exact inner (Cu N.ts v) [] ((w0::Wr).erase v) ks ds F _ _ _ rfl M D0 (by have:=dE hv; omega)
 ·rintro n' ρ P Q hPQ h
  unfold VA Al at h ⊢
  split at h
  all_goals first
   | exact h.elim
   | (obtain⟨c,hc,h⟩:=h; exact⟨c,hc,hPQ _ _ h⟩)
theorem VT(h:Sv ss n Pd):Uw (EE Pd) n (ss++Zd 1 .no):=by
 obtain⟨N,a,b,rfl,okn,ha,hb,p⟩:=h;unfold Uw;refine⟨N,a,rfl,okn,ha,λks ds F M T=>?_⟩;refine⟨ks,ds,_,rfl,AX b,?_⟩;show if ((BI ks ds (.inr b)).isSome)=true then _ else _
 have hp:=p _ (T.far b);cases e:F b with
 | none =>
  rw [M.at_,e];rw [e] at hp;exact EA hp
 | some x =>
  rw [M.at_,e];rw [e] at hp;exact Fw ⟨ks,ds,_,Bw x,rfl,AX b,by rw [M.at_,e]; rfl,_,AJ (j:=0) rfl,hp⟩
end
structure WInv (N:Net) (F:B_) (b:Str) (db:Int) (acc:List Str) (pl:Option Str):Prop where
 st:(acc=[]/\pl=some b)\/∃z r dz,acc.reverse=z::r/\F z=some (dz,pl)/\walk N acc.reverse (db - dz)/\acc.reverse.getLast?=some b
 nd:acc.Nodup
 ins:∀x∈acc,x∈N.ps
 less:∀y dy q,pl=some y->F y=some (dy,q)->∀x∈acc,∃dx qx,F x=some (dx,qx)/\dy<dx
 fnd:∀y,pl=some y->F y≠none
noncomputable def wm(F:B_):Option Str->Nat
 | none=>0
 | some y=>((F y).getD (0,none)).1.toNat+1
theorem WInv.step{N:Net}(ok:N.Ok){a:Str}{F:B_}(T:Told N a F){b:Str}{db:Int}{qb:Option Str}(eb:F b=some (db,qb)){acc:List Str}{y:Str}{dy:Int}{qy:Option Str}(h:WInv N F b db acc (some y))(ey:F y=some (dy,qy)):WInv N F b db (acc++[y]) qy/\wm F qy<wm F (some y):=by
 have hy0:=(T.least y dy qy ey).1.pos ok
 have nx:∀w dw q,qy=some w->F w=some (dw,q)->dw<dy:=λw dw q e ew=>by
  rcases T.prev y dy qy ey with ⟨z,_⟩ | ⟨w',dw',q',l,e1,e2,e3,e4⟩
  ·rw [e] at z; cases z
  ·rw [e] at e1
   cases e1;rw [ew] at e2;cases e2
   have:=(e3.pos ok).1
   omega
 have hf:∀w,qy=some w->F w≠none:=λw e=>by
  rcases T.prev y dy qy ey with ⟨z,_⟩ | ⟨w',dw',q',l,e1,e2,_⟩
  ·rw [e] at z; cases z
  ·rw [e] at e1
   cases e1;rw [e2];intro z; cases z
 refine⟨⟨.inr ?_,?_,λx hx=>?_,λw dw q e ew x hx=>?_,hf⟩,?_⟩
 ·rw [List.reverse_append,List.reverse_singleton,dI]
  rcases h.st with ⟨rfl,e⟩ | ⟨z,r,dz,e1,e2,e3,e4⟩
  ·cases e
   rw [eb] at ey;cases ey;exact⟨_,_,_,rfl,eb,(by show db - db=0; omega),rfl⟩
  ·refine⟨y,acc.reverse,dy,rfl,ey,?_,?_⟩
   ·rw [e1] at e3 ⊢
    rcases T.prev z dz (some y) e2 with ⟨w,_⟩ | ⟨w',dw',q',l,k1,k2,k3,k4⟩
    ·cases w
    ·cases k1
     rw [ey] at k2;cases k2
     have:=O7 k3 e3
     rw [show l+(db - dz)=db - dy by omega] at this;exact this
   ·rw [e1] at e4 ⊢
    exact e4
 ·rw [Zh]
  refine⟨h.nd,ZY.mpr ⟨Zf,Zp⟩,λx hx z hz e=>?_⟩;rw [Go.mp hz] at e;obtain⟨dx,qx,ex,hlt⟩:=h.less y dy qy rfl ey x hx;rw [e,ey] at ex;cases ex;omega
 ·rcases Zb.mp hx with hx | hx
  ·exact h.ins x hx
  ·rw [Go.mp hx]
   exact T.ins y (by rw [ey]; intro z; cases z)
 ·have h1:=nx w dw q e ew
  rcases Zb.mp hx with hx | hx
  ·obtain⟨dx,qx,ex,hlt⟩:=h.less y dy qy rfl ey x hx
   exact⟨dx,qx,ex,by omega⟩
  ·rw [Go.mp hx]
   exact⟨dy,qy,ey,h1⟩
 ·cases qy with
  | none=>exact Nat.succ_pos _
  | some w =>
   cases ew:F w with
   | none=>exact absurd ew (hf w rfl)
   | some p =>
    have h1:=nx w p.1 p.2 rfl ew;have h2:=(T.least w p.1 p.2 ew).1.pos ok;show ((F w).getD (0,none)).1.toNat+1<((F y).getD (0,none)).1.toNat+1;rw [ew,ey];show p.1.toNat+1<dy.toNat+1;omega
section
variable {ss:List Slot}{n:Nat}{Pd:D->Nat->Prop}
theorem PL(h:UN ss n Pd):Mh (EE Pd) n (ss++Zd 3 .no):=by
 obtain⟨N,a,b,rfl,okn,ha,hb,p⟩:=h;have szl:=PySem.sizeLine_eq;have ok:=okn.1;unfold Mh;refine⟨N,a,rfl,okn,ha,λks ds F M T=>?_⟩;refine⟨ks,ds,_,rfl,AX b,?_⟩;show if (!(BI ks ds (.inr b)).isSome)=true then _ else _
 have hfar:=T.far b;cases eb:F b with
 | none =>
  rw [M.at_,eb];rw [eb] at hfar;exact Fw (p none hfar)
 | some x =>
  obtain⟨db,qb⟩:=x;rw [M.at_,eb];refine EA ⟨z0,?_⟩;refine GP (λm n' ρ=>n'=n/\∃(acc:List Str) (pl:Option Str),ρ=[.sh (enc N),.sh (.str a),.sh (.str b),.sh (.dic ks ds),.ow (.lst (acc.map .str)),.sh (L7 pl)]/\WInv N F b db acc pl/\m=wm F pl) (wm F (some b)) ⟨rfl,[],some b,rfl,⟨.inl ⟨rfl,rfl⟩,Zp,(λx hx=>by cases hx),(λ_ _ _ _ _ x hx=>by cases hx),λy e=>by cases e; rw [eb]; intro z; cases z⟩,rfl⟩ ?_ ?_
  ·rintro m n' ρ N' ⟨rfl,acc,pl,rfl,J,rfl⟩ hN
   have wl:=Mq J.nd J.ins;have l25:=okn.2.1;cases pl with
   | none =>
    refine⟨rfl,_,rfl,?_⟩
    rcases J.st with ⟨_,e⟩ | ⟨z,r,dz,e1,e2,e3,e4⟩
    ·cases e
    ·have hz:z=a:=by
      rcases T.prev z dz none e2 with ⟨_,w⟩ | ⟨w',dw',q',l,k1,_⟩
      ·exact w
      ·cases k1
     subst hz;rw [T.start] at e2;cases e2;rw [← List.map_reverse];refine p (some acc.reverse) ⟨db - 0,r,e1,e4,e3,?_,by rw [dh]; omega,λx hx=>J.ins x (List.mem_reverse.mp hx)⟩;rw [show db - 0=db by omega];exact T.least b db qb eb
   | some y =>
    cases ey:F y with
    | none=>exact absurd ey (J.fnd y rfl)
    | some q =>
     obtain⟨dy,qy⟩:=q;obtain⟨J2,lt2⟩:=J.step ok T eb ey;refine⟨rfl,?_⟩;refine⟨_,rfl,rfl,_,_,rfl,rfl,by rw [On]; omega,?_⟩;refine⟨ks,ds,_,Bw (dy,qy),rfl,AX y,by rw [M.at_,ey]; rfl,_,AJ (j:=1) rfl,?_⟩;refine hN (wm F qy) _ _ lt2 ⟨rfl,acc++[y],qy,?_,J2,rfl⟩;rw [Z1];rfl
  ·rintro n' ρ P Q hPQ h
   unfold Aj AY AD wC MS at h ⊢
   split at h
   ·exact⟨h.1,hPQ _ _ h.2⟩
   ·exact h.elim
end
section
variable {ss:List Slot}{n:Nat}{Pd:D->Nat->Prop}
end
noncomputable def ends(t:Tie):Str×Str:=(t.a,t.b)
noncomputable def eL(p q:Str×Str):Prop:=cs p.1<cs q.1\/(p.1=q.1/\cs p.2<cs q.2)
section
variable {ss:List Slot}{n:Nat}{Pd:D->Nat->Prop}
end
end Nt
namespace Dp
open PySem PySem.Spec PyProof.Rows L2
noncomputable def US(i:Nat)(b:BW)(body:AW):AW:=λD2 n ρ=>∃d ds,ρ[i]?=some (.br d)/\G9 d=some ds/\A0 b body D2 ds n ρ
section
variable {X:Cx}{κ:Kd}{tg:Expr}{body:List Stmt}{b:BW}{wb:AW}{pos p:Pos}{x:Str}{i:Nat}
theorem Rel.lessKp{K:Frag}{C:Fm}{q:Ev×HO}{M:Ev->Prop}{H:Hp}{n:Nat}{ρ:List Slot}{σ:L2.St}(R:Rel K { C with kp:=q::C.kp } M H n ρ σ):Rel K C M H n ρ σ :=
 ⟨R.len,R.sub,R.dom,R.ext,R.fU,R.uV,R.vM,R.feed,R.sl,R.pin,R.br0,R.new,R.two,λp hp=>R.kept p (Sc _ hp)⟩
theorem T7(hp:d9 (model X.prog X.w) X.A X.env X.xe)(hc:X.calm=true)(h:PE X (.Name x p) (BU i))(hg:DG X tg b)(hb:Mo X κ body wb)
  (hs:autoParam (∀y,foldedSetIterable (.Name x p) X.env y=pure y) zau2._auto_1):DS X κ (.For tg (.Name x p) body [] pos) (US i b wb):=by
 obtain⟨g,g1,g2⟩:=hg;obtain⟨tb,b1,b2⟩:=hb;refine⟨_,IH hp hc (Kw h) g1 b1 hs,λC M H n ρ σ D2 E R L w=>?_⟩;obtain⟨d,ds,hi,hd,w⟩:=w;obtain⟨v,e1,hAt⟩:=R.sl i _ hi;cases d with
 | tup ds' =>
  cases hd;obtain⟨a,vs,rfl,hn,hat⟩:=hAt;refine⟨.ref a,getD_some e1,.inr (.inl ⟨a,rfl,⟨vs,hn.sq⟩,?_⟩)⟩;obtain⟨kp',ek⟩:∃kp',kp'=C.kp:=⟨_,rfl⟩;have R1:Rel X.K { C with kp:=kp' } M H n ρ σ:=by rw [ek]; exact R
  have less:∀{M H n ρ σ},Rel X.K { C with kp:=kp' } M H n ρ σ->Rel X.K C M H n ρ σ:=λR=>by rw [ek] at R; exact R
  have st:∀M' H' n' ρ' σ',Rel X.K { C with kp:=kp',pins:=(M,H)::C.pins } M' H' n' ρ' σ'->SqT X.K H' a vs:=λM' H' n' ρ' σ' R'=>(hn.pres (R'.pin (M,H) Re)).sq;refine⟨λi m σ' H'=>m=ds.length - i/\i<=ds.length/\∃M' n' ρ',Rel X.K { C with kp:=kp',pins:=(M,H)::C.pins } M' H' n' ρ' σ'/\A0 b wb D2 (ds.drop i) n' ρ',⟨ds.length,by simp,Zi _,M,n,ρ,R1.pinned,w⟩,?_⟩;rintro i m σ' H' ⟨rfl,hil,M',n',ρ',R',w'⟩;have pr:Pres M H M' H':=R'.pin (M,H) Re;have hq:=st M' H' n' ρ' σ' R'
  by_cases hlt:i<ds.length
  ·have ed:ds.drop i=ds[i]::ds.drop (i+1):=aa hlt
   rw [ed] at w';obtain⟨v,ev,hv⟩:=(hat.pres pr).get (No hlt);refine .inr ⟨⟨vs,v,hq,ev⟩,λσ2 H2=>∃M2 n2 ρ2,Rel X.K { C with kp:=kp',pins:=(M,H)::C.pins } M2 H2 n2 ρ2 σ2/\A0 b wb D2 (ds.drop (i+1)) n2 ρ2,λσ2 H2 ⟨M2,n2,ρ2,R2',w2⟩=>⟨ds.length - (i+1),by omega,rfl,hlt,M2,n2,ρ2,R2',w2⟩,λy H2 hy=>?_⟩;obtain⟨e2,hy⟩:=hy;subst e2
   have:some v=some y:=ev.symm.trans (hy vs hq)
   cases this;refine g2 _ M' H2 n' ρ' σ' ds[i] v _ _ R' hv w' λρ3 σ3 R3 w3=>?_;refine b2 _ M' H2 n' ρ3 σ3 { D2 with nx:=A0 b wb D2 (ds.drop (i+1)),ct:=A0 b wb D2 (ds.drop (i+1)),bk:=D2.nx } _ R3 ⟨λM4 H4 n4 ρ4 σ4 R4 w4=>⟨M4,n4,ρ4,R4,w4⟩,L.rt,λM4 H4 n4 ρ4 σ4 R4 w4=>L.nx M4 H4 n4 ρ4 σ4 (less R4.unpin) w4,λM4 H4 n4 ρ4 σ4 R4 w4=>⟨M4,n4,ρ4,R4,w4⟩⟩ w3
  ·have e:i=ds.length:=by omega
   subst e;rw [cM] at w';exact .inl ⟨⟨vs,hq,by rw [hat.length]; exact Tk _⟩,L.nx M' H' n' ρ' σ' (less R'.unpin) w'⟩
 | lst ds' =>
  cases hd;obtain⟨a,vs,rfl,nV,hH,hat⟩:=hAt
  obtain⟨o,ho,hro⟩:∃o,H a=some o/\∀H':Hp,H' a=some o->SqL X.K H' a vs:=by
   rcases hH with z | ⟨u,z⟩
   ·exact⟨_,z,λH' e=>.inl (.inl e)⟩
   ·exact⟨_,z,λH' e=>.inl (.inr ⟨u,e⟩)⟩
  refine⟨.ref a,getD_some e1,.inl ⟨a,rfl,⟨vs,hro H ho⟩,?_⟩⟩
  obtain⟨kp',R1,less,st⟩:∃kp',Rel X.K { C with kp:=kp' } M H n ρ σ/\(∀{M H n ρ σ},Rel X.K { C with kp:=kp' } M H n ρ σ->Rel X.K C M H n ρ σ)/\(∀M' H' n' ρ' σ',Rel X.K { C with kp:=kp',pins:=(M,H)::C.pins } M' H' n' ρ' σ'->SqL X.K H' a vs):=by
   by_cases hM:M a
   ·refine⟨(a,o)::C.kp,⟨R.len,R.sub,R.dom,R.ext,R.fU,R.uV,R.vM,R.feed,R.sl,R.pin,R.br0,R.new,R.two,λq hq=>?_⟩,λR=>R.lessKp,λM' H' n' ρ' σ' R'=>hro H' (R'.kept (a,o) Re).1⟩
    rcases XV.mp hq with rfl | hq
    ·refine⟨ho,hM,nV,λj e q z=>?_⟩
     obtain⟨u,hu⟩:=R.br0 i _ a hi e1
     have:=(R.new j _ a q rfl z).2
     rw [hu] at this;cases this
    ·exact R.kept q hq
   ·exact⟨C.kp,R,λR=>R,λM' H' n' ρ' σ' R'=>hro H' ((R'.pin (M,H) Re).1 a o ho hM)⟩
  refine⟨λi m σ' H'=>m=ds.length - i/\i<=ds.length/\∃M' n' ρ',Rel X.K { C with kp:=kp',pins:=(M,H)::C.pins } M' H' n' ρ' σ'/\A0 b wb D2 (ds.drop i) n' ρ',⟨ds.length,by simp,Zi _,M,n,ρ,R1.pinned,w⟩,?_⟩;rintro i m σ' H' ⟨rfl,hil,M',n',ρ',R',w'⟩;have pr:Pres M H M' H':=R'.pin (M,H) Re;have hq:=st M' H' n' ρ' σ' R'
  by_cases hlt:i<ds.length
  ·have ed:ds.drop i=ds[i]::ds.drop (i+1):=aa hlt
   rw [ed] at w';obtain⟨v,ev,hv⟩:=(hat.pres pr).get (No hlt);refine .inr ⟨⟨vs,v,hq,ev⟩,λσ2 H2=>∃M2 n2 ρ2,Rel X.K { C with kp:=kp',pins:=(M,H)::C.pins } M2 H2 n2 ρ2 σ2/\A0 b wb D2 (ds.drop (i+1)) n2 ρ2,λσ2 H2 ⟨M2,n2,ρ2,R2',w2⟩=>⟨ds.length - (i+1),by omega,rfl,hlt,M2,n2,ρ2,R2',w2⟩,λy H2 hy=>?_⟩;obtain⟨e2,hy⟩:=hy;subst e2
   have:some v=some y:=ev.symm.trans (hy vs hq)
   cases this;refine g2 _ M' H2 n' ρ' σ' ds[i] v _ _ R' hv w' λρ3 σ3 R3 w3=>?_;refine b2 _ M' H2 n' ρ3 σ3 { D2 with nx:=A0 b wb D2 (ds.drop (i+1)),ct:=A0 b wb D2 (ds.drop (i+1)),bk:=D2.nx } _ R3 ⟨λM4 H4 n4 ρ4 σ4 R4 w4=>⟨M4,n4,ρ4,R4,w4⟩,L.rt,λM4 H4 n4 ρ4 σ4 R4 w4=>L.nx M4 H4 n4 ρ4 σ4 (less R4.unpin) w4,λM4 H4 n4 ρ4 σ4 R4 w4=>⟨M4,n4,ρ4,R4,w4⟩⟩ w3
  ·have e:i=ds.length:=by omega
   subst e;rw [cM] at w';exact .inl ⟨⟨vs,hq,by rw [hat.length]; exact Tk _⟩,L.nx M' H' n' ρ' σ' (less R'.unpin) w'⟩
 | _=>cases hd
end
end Dp
namespace Nt
open PySem PySem.Spec PyProof.Rows L2 Dp
noncomputable def sub(N:Net)(kept:List Tie):Net:=⟨N.ps,N.ts.filter λu=>decide (u∈kept)⟩
noncomputable def XI(N:Net)(t b:Int)(u:Tie):Prop:=∃d,Least N u.a u.b d/\d*b<=u.len*t
noncomputable def D5:W2:=λss n P=>∃(N:Net) (z:D) (ts:List Tie),ss=[.sh (enc N),.br z]/\G9 z=some (ts.map Ao)/\ts.length<64/\∀ts':List Tie,ts'.Perm ts->F6 ts'->P (enc ⟨N.ps,ts'⟩) n
noncomputable def Eo:W2:=λss n P=>∃(N:Net) (s:Str) (z:D) (us:List Tie),ss=[.br z,.sh (.str s)]/\G9 z=some (us.map Ao)/\(∀u,u∈us↔u∈N.ts)/\okN N/\s∈N.ps/\∀(ks:List Key) (ds:List D) (K:Kn),Dmap ks ds D.int K->U1 N s K->P (.dic ks ds) n
noncomputable def Mj:AW:=(Ba (A3 (AC (AY BG (AD 0) (wC (D.int 0))) (AC (CB BZ (AC (CB Bn (AC (Al 1) AQ)) AQ)) AQ))))
theorem sub_mem{N:Net}{kept:List Tie}{u:Tie}:u∈(sub N kept).ts↔u∈N.ts/\u∈kept:=by
 show u∈N.ts.filter _↔_;rw [ax,decide_eq_true_eq]
theorem Fi{N:Net}(okn:okN N)(kept:List Tie):okN (sub N kept):=⟨VN okn.1 (λt h=>(sub_mem.mp h).1) (okn.1.trise.filter _),okn.2.1,Zu (cJ _ _) okn.2.2⟩
theorem Kg{N:Net}(ok:N.Ok){kept ts:List Tie}(hk:∀t∈kept,t∈N.ts)(nd:kept.Nodup)(hp:ts.Perm kept)(hb:F6 ts):(⟨N.ps,ts⟩:Net)=sub N kept:=by
 unfold sub
 congr 1
 refine M8 ((bA (hp.nodup_iff.mpr nd) ((A5 ok.trise).filter _)).mpr λt=>?_) hb (Nv (ok.trise.filter _));rw [ax,decide_eq_true_eq,hp.mem_iff];exact⟨λh=>⟨hk t h,h⟩,λh=>h.2⟩
theorem Wk.mono{N N':Net}(h:∀t∈N.ts,t∈N'.ts){s x:Str}{d:Int}(hw:Wk N s x d):Wk N' s x d:=by
 induction hw with
 | nil=>exact .nil
 | snoc _ he ih =>
  refine .snoc ih ?_;obtain⟨t,ht,z⟩:=Z3.mp he;exact Z3.mpr ⟨t,h t ht,z⟩
theorem IP{α β:Type}:∀{l:List (α×β)},(l.map (·.1)).Nodup->∀{p q:α×β},p∈l->q∈l->p.1=q.1->p=q
 | a::l,nd,p,q,hp,hq,e=>by
  rw [ZX,ZY] at nd
  rcases XV.mp hp with hp2 | hp2 <;> rcases XV.mp hq with hq2 | hq2
  ·rw [hp2,hq2]
  ·exact absurd (TW.mpr ⟨q,hq2,by rw [← e,hp2]⟩:a.1∈l.map (·.1)) nd.1
  ·exact absurd (TW.mpr ⟨p,hp2,by rw [e,hq2]⟩:a.1∈l.map (·.1)) nd.1
  ·exact IP nd.2 hp2 hq2 e
theorem K8{N:Net}(ok:N.Ok){x y:Str}{l:Int}(h:Ed N x y l):look N.ts x y=some l:=by
 unfold look;cases e:(Cu N.ts x).find? λz=>decide (z.1=y) with
 | none=>exact absurd (List.find?_eq_none.mp e (y,l) h) (by simp)
 | some q =>
  have h1:decide (q.1=y)=true:=List.find?_some (p:=λz:Str×Int=>decide (z.1=y)) e;have e1:q.1=y:=of_decide_eq_true h1;rw [IP (GY ok x) (eT e) h e1];rfl
section
variable {ss:List Slot}{n:Nat}{Pd:D->Nat->Prop}
theorem PM(h:D5 ss n Pd):Mj (EE Pd) n (ss++Zd 0 .no):=by
 obtain⟨N,z,ts,rfl,hz,h64,p⟩:=h;unfold Mj;refine⟨_,AJ (j:=0) rfl,z,_,rfl,hz,by rw [On]; exact h64,⟨λx hx=>?_,λx hx y hy ka kb ea eb=>?_⟩,λxs' hp ho=>?_⟩
 ·obtain⟨t,_,rfl⟩:=TW.mp hx
  exact⟨C8 t,rfl,bC _ _⟩
 ·obtain⟨t,_,rfl⟩:=TW.mp hx
  obtain⟨u,_,rfl⟩:=TW.mp hy;cases (show some (C8 t)=some ka from ea);cases (show some (C8 u)=some kb from eb);rfl
 ·obtain⟨ts',h1,rfl⟩:=OC (g:=V9) (λ_=>rfl) hp
  exact⟨z2,p ts' h1 (OT ho)⟩
end
section
variable {ss:List Slot}{n:Nat}{Pd:D->Nat->Prop}
end
section
variable {ss:List Slot}{n:Nat}{Pd:D->Nat->Prop}
end
inductive Cn (K:List Tie) (x:Str):Str->Prop
 | refl:Cn K x x
 | step {y z:Str}:Cn K x y->(∃t∈K,(t.a=y/\t.b=z)\/(t.b=y/\t.a=z))->Cn K x z
theorem Cn.trans{K:List Tie}{x y z:Str}(h:Cn K x y)(g:Cn K y z):Cn K x z:=by
 induction g with
 | refl=>exact h
 | step _ e ih=>exact .step ih e
theorem Cn.tie{K:List Tie}{t:Tie}(h:t∈K):Cn K t.a t.b/\Cn K t.b t.a:=⟨.step .refl ⟨t,h,.inl ⟨rfl,rfl⟩⟩,.step .refl ⟨t,h,.inr ⟨rfl,rfl⟩⟩⟩
theorem Cn.symm{K:List Tie}{x y:Str}(h:Cn K x y):Cn K y x:=by
 induction h with
 | refl=>exact .refl
 | step _ e ih =>
  obtain⟨t,ht,e⟩:=e;refine Cn.trans (.step .refl ⟨t,ht,?_⟩) ih;exact e.elim (λe=>.inr ⟨e.2,e.1⟩) λe=>.inl ⟨e.2,e.1⟩
theorem Cn.bridge{K K':List Tie}(hk:∀t∈K,Cn K' t.a t.b){x y:Str}(h:Cn K x y):Cn K' x y:=by
 induction h with
 | refl=>exact .refl
 | step _ e ih =>
  obtain⟨t,ht,⟨rfl,rfl⟩ | ⟨rfl,rfl⟩⟩:=e
  ·exact ih.trans (hk t ht)
  ·exact ih.trans (hk t ht).symm
theorem Cn.mono{K K':List Tie}(hk:∀t∈K,t∈K'){x y:Str}(h:Cn K x y):Cn K' x y:=h.bridge λt ht=>(Cn.tie (hk t ht)).1
theorem Cn.add{B K:List Tie}{t:Tie}(hk:∀s∈K,s∈B\/s=t){x y:Str}(h:Cn K x y):Cn B x y\/(Cn B x t.a/\Cn B t.b y)\/(Cn B x t.b/\Cn B t.a y):=by
 induction h with
 | refl=>exact .inl .refl
 | step _ e ih =>
  obtain⟨s,hs,e⟩:=e
  rcases hk s hs with hb | rfl
  ·have st:∀{w y z:Str},((s.a=y/\s.b=z)\/(s.b=y/\s.a=z))->Cn B w y->Cn B w z:=λe h=>.step h ⟨s,hb,e⟩
   rcases ih with h | ⟨h1,h2⟩ | ⟨h1,h2⟩
   ·exact .inl (st e h)
   ·exact .inr (.inl ⟨h1,st e h2⟩)
   ·exact .inr (.inr ⟨h1,st e h2⟩)
  ·rcases e with ⟨rfl,rfl⟩ | ⟨rfl,rfl⟩
   ·rcases ih with h | ⟨h1,h2⟩ | ⟨h1,h2⟩
    ·exact .inr (.inl ⟨h,.refl⟩)
    ·exact .inr (.inl ⟨h1,.refl⟩)
    ·exact .inl h1
   ·rcases ih with h | ⟨h1,h2⟩ | ⟨h1,h2⟩
    ·exact .inr (.inr ⟨h,.refl⟩)
    ·exact .inl h1
    ·exact .inr (.inr ⟨h1,.refl⟩)
theorem Wk.cn{N:Net}(ok:N.Ok){s x:Str}{d:Int}(h:Wk N s x d):Cn N.ts s x:=by
 induction h with
 | nil=>exact .refl
 | snoc _ he ih =>
  obtain⟨t,ht,_,e⟩:=he.tie ok;exact .step ih ⟨t,ht,e⟩
theorem Cn.wk{N:Net}{s x:Str}(h:Cn N.ts s x):∃d,Wk N s x d:=by
 induction h with
 | refl=>exact⟨0,.nil⟩
 | step _ e ih =>
  obtain⟨d,hd⟩:=ih;obtain⟨t,ht,⟨rfl,rfl⟩ | ⟨rfl,rfl⟩⟩:=e
  ·exact⟨_,.snoc hd (B8 ht).1⟩
  ·exact⟨_,.snoc hd (B8 ht).2⟩
theorem V0{N:Net}(ok:N.Ok){a b:Str}{o:Option Int}(h:Yz N a b o):o=none↔¬Cn N.ts a b:=by
 cases o with
 | none=>exact⟨λ_ z=>by obtain⟨d,hd⟩:=z.wk; exact h d hd,λ_=>rfl⟩
 | some d=>exact⟨(λz=>by cases z),λz=>absurd (Wk.cn ok (show Wk N a b d from h.1)) z⟩
noncomputable def SW(K:List Tie)(x y:Str):Bool:=@decide (Cn K x y) (bz _)
theorem cnB_iff{K:List Tie}{x y:Str}:SW K x y=true↔Cn K x y:=by
 unfold SW;exact @decide_eq_true_iff _ (bz _)
noncomputable def Bp:List Tie->List Tie->List Tie
 | kept,[]=>kept
 | kept,u::r=>if SW kept u.a u.b=true then Bp kept r else Bp (kept++[u]) r
theorem Cd{kept r:List Tie}{u:Tie}:Bp kept (u::r)=if SW kept u.a u.b=true then Bp kept r else Bp (kept++[u]) r:=rfl
noncomputable def D_(K:List Tie):Int:=(K.map Tie.len).sum
theorem Ho{K L:List Tie}(h:K.Perm L):D_ K=D_ L:=by
 induction h with
 | nil=>rfl
 | @cons t l1 l2 _ ih=>show t.len+D_ l1=t.len+D_ l2; rw [ih]
 | swap s t l=>show t.len+(s.len+D_ l)=s.len+(t.len+D_ l); omega
 | trans _ _ ih1 ih2=>exact ih1.trans ih2
theorem Fs:∀{rest kept:List Tie},(∀u∈Bp kept rest,u∈kept\/u∈rest)
 | [],kept,u,hu=>.inl hu
 | v::rest,kept,u,hu=>by
  rw [Cd] at hu
  split at hu
  ·exact(Fs u hu).imp id λh=>Sc _ h
  ·rcases Fs u hu with h | h
   ·rcases Zb.mp h with h | h
    ·exact .inl h
    ·rw [Go.mp h]; exact .inr Re
   ·exact .inr (Sc _ h)
theorem Dt:∀{rest kept:List Tie},(kept++rest).Nodup->(Bp kept rest).Nodup
 | [],kept,h=>by rw [Zn] at h; exact h
 | v::rest,kept,h=>by
  rw [Cd]
  split
  ·refine Dt (h.sublist ?_)
   exact(List.Sublist.refl kept).append (List.sublist_cons_self _ _)
  ·refine Dt ?_
   rw [Zg];exact h
end Nt
namespace Dp
open PySem PySem.Spec PyProof.Rows L2
noncomputable def VB(i:Nat)(we:DW)(b:BW):AW:=λD2 n ρ=>∃xs,ρ[i]?=some (.ow (.lst xs))/\we n ρ λd n1=>∃(k:Nat) (x:D),d=.int (k:Int)/\xs[k]?=some x/\k<2 ^ 60/\b x (ρ.set i (.ow (.lst (xs.eraseIdx k)))) λρ1=>D2.nx n1 ρ1
section
variable {X:Cx}{κ κe:Kd}{tg e:Expr}{b:BW}{we:DW}{pos p apos cpos:Pos}{x:Str}{i:Nat}
theorem PF{k n:Nat}(h:k<n):seqIndex? (k:Int) n=some k:=by
 refine(K9 ?_).1;unfold Tq;rw [if_pos (by omega),if_pos (by omega)];simp
theorem T5(h:PE X (.Name x p) (BU i))(ha:DE X e κe we)(hg:DG X tg b)
  (hs:autoParam (swapsWithSole [tg] (.Call (.Attribute (.Name x p) "pop" apos) [e] [] cpos) pos.line X.env=pure false) zau3._auto_1) (hw:autoParam (swappedStores [tg] (.Call (.Attribute (.Name x p) "pop" apos) [e] [] cpos) X.env=pure none) zau3._auto_1)
  (h1:autoParam ((assignEach [tg] X.env).map (·.2)=[assign tg X.env]) zau3._auto_1)
  (hbase:autoParam (attributeBase (.Name x p) "pop" X.env (eval (.Name x p) X.env)=eval (.Name x p) X.env) zau3._auto_1)
  (hfew:autoParam (((backTo cpos (starEach [e] X.env)).all (λx=>!x.1)&&(backToKw cpos (keywordEach [] X.env)).all (λx=>x.1.isSome)
   && decide ([e].length+([]:List cu).length+(if ([]:List cu).isEmpty then 0 else 1)<30))=true) zau3._auto_1)
  (hline:autoParam ((apos.endLine==cpos.line)=true) zau3._auto_1) (hst:autoParam (starEach [e] X.env=(false,eval e X.env)::starEach [] X.env) zau3._auto_1) (hplain:autoParam ((backTo cpos (starEach [] X.env)).any (·.1)=false) zau3._auto_1) :
  DS X κ (.Assign [tg] (.Call (.Attribute (.Name x p) "pop" apos) [e] [] cpos) pos) (VB i we b):=by
 obtain⟨t,a1,a2⟩:=ha;obtain⟨g,g1,g2⟩:=hg;refine⟨_,Kv (Uj PySem.F.plainAttrs_list PySem.F.slot_list_pop PySem.F.type_list_pop RW h (BM a1 CG hst) hbase hfew hline hst hplain) g1 hs hw h1,λC M H n ρ σ D2 E R L w=>?_⟩;obtain⟨xs,hi,w⟩:=w;obtain⟨a,e1,m,nv,tt⟩:=R.sl i _ hi;refine⟨.ref a,getD_some e1,Rm (show YY "list" (.lst xs) from rfl) (tt.att nv),?_⟩;refine a2 C M H n ρ σ _ _ R w λv H1 d n1 ee f1 r1 p=>?_;obtain⟨k,y,rfl,hx,hk,p⟩:=p;have R1:=R.step ee f1;obtain⟨a',e1',m',nv',vs,hH,hat⟩:=R1.sl i _ hi;rw [e1] at e1';cases e1';obtain⟨v',ev,hv⟩:=hat.get hx;have hkl:k<vs.length:=(ZB.mp ev).1;refine⟨a,vs,(k:Int),k,v',rfl,by rw [Rv r1],hH,by omega,by omega,PF hkl,ev,?_⟩;have R2:=R1.mut (e:=.lst (xs.eraseIdx k)) hi e1 (o:=.lst (vs.eraseIdx k)) ⟨vs.eraseIdx k,AT,(hat.eraseIdx k).pres (Bq m' hH)⟩;exact g2 C M _ n1 _ σ y v' _ _ R2 (hv.pres (Bq m' hH)) p λρ' σ' R' w'=>L.nx M _ n1 ρ' σ' R' w'
end
section
variable {X:Cx}{κ κe:Kd}{e:Expr}{we:DW}{pos p apos cpos p2 apos2 cpos2:Pos}{x y:Str}{i j:Nat}
end
end Dp
namespace Nt
open PySem PySem.Spec PyProof.Rows L2 Dp
noncomputable def En:W2:=λss n P=>∃m:Nat,ss=[.fd,.sh (.int m)]/\m<=24/\1<=n/\∀xs:List Str,xs.length=m->(∀x∈xs,S1 x)->rising xs->P (.tup (xs.map .str)) (n - 1)
noncomputable def JG:W2:=λss n P=>∃s:Int,ss=[.fd,.sh (.int s)]/\0<=s/\1<=n/\∀r:Int,1<=r->r<=1000000->P (.int r) (n - 1)
noncomputable def Gs:W2:=λss n P=>∃most ties:Nat,ss=[.fd,.sh (.int most),.sh (.int ties)]/\2<=most/\most<=24/\3<=ties/\ties<=60/\130<=n/\∀(N:Net) (n':Nat),N.Ok->2<=N.ps.length->N.ps.length<=most->N.ts.length<=ties->n - 130<=n'->P (enc N) n'
noncomputable def Ef:AW:=(Ae (BE 2 (DU (AC (wC (D.str "a")) (AC (wC (D.str "ab")) (AC (wC (D.str "aba")) (AC (wC (D.str "b")) (AC (wC (D.str "in")) (AC (wC (D.str "out")) (AC (wC (D.str "place")) (AC (wC (D.str "tie")) (AC (wC (D.str "c")) (AC (wC (D.str "ca")) (AC (wC (D.str "near")) (AC (wC (D.str "z")) AQ))))))))))))))
 (Ae (BE 2 (AY BN (AD 2) (DU (AC (wC (D.str "za")) (AC (wC (D.str "zb")) (AC (wC (D.str "x")) (AC (wC (D.str "xy")) (AC (wC (D.str "y")) (AC (wC (D.str "q")) (AC (wC (D.str "qq")) (AC (wC (D.str "d")) (AC (wC (D.str "e")) (AC (wC (D.str "f")) (AC (wC (D.str "g")) (AC (wC (D.str "h")) AQ)))))))))))))))
 (Ae (BE 3 (AZ BO (AF (Az 0) (AF (AR (wC (D.int 24))) Ac))))
 (Ba (CB BZ (AC (CB R0 (AC (DF [some 2,some 3,none] (Gx (AC (AD 1) AQ)) (Aa 2) Fb (AY BG (AD 0) (AY (V4 (λ_ j=>0<j) λi j=>D.int (i % j)) (AY BN (AD 1) (AD 2)) (wC (D.int 24))))) AQ)) AQ))))))
noncomputable def D9:AW:=(Ae (Be (Aj (AY Fx (AD 1) (wC (D.int 3)))) (Ba (AY BN (wC (D.int 1)) (AZ BO (AF (Az 0) (AF (AR (AY BG (DU (AC (wC (D.int 2)) (AC (wC (D.int 4)) (AC (wC (D.int 9)) AQ)))) (AD 1))) Ac))))) A_)
 (Ae (Be (Aj (AY (Nk false) (AD 1) (wC (D.int 3)))) (Ba (AY BN (wC (D.int 1)) (AZ BO (AF (Az 0) (AF (AR (wC (D.int 60))) Ac))))) A_)
 (Ba (AY FG (AY (V4 N7 λi j=>D.int (i ^ j.toNat)) (wC (D.int 10)) (wC (D.int 6))) (AZ BO (AF (Az 0) (AF (AR (wC (D.int 3))) Ac)))))))
noncomputable def F_:AW:=(Ae (BE 3 (AZ En (AF (Az 0) (AF (AR (AY BN (wC (D.int 2)) (AZ BO (AF (Az 0) (AF (AR (AY FG (AD 1) (wC (D.int 1)))) Ac))))) Ac))))
 (Ae (CO 4 (DU AQ))
 (Ae (Cg (BQ (AD 3)) (Aa 5) (Jf 4 "list" V3 (AC (DF [some 5,none] (BQ (AD 3)) (Aa 1) (Aj (AY Fx (AD 0) (AD 1))) (A3 (AC (AD 0) (AC (AD 1) AQ)))) AQ)))
 (Ae (BE 6 (AZ BO (AF (Az 0) (AF (AR (wC (D.int 5))) Ac))))
 (Ae (BE 7 (AY FG (AD 2) (AZ BO (AF (Az 0) (AF (AR (AY BN (AY (V4 Sz λi j=>D.int (i / j)) (AD 2) (wC (D.int 2))) (wC (D.int 1)))) Ac)))))
 (Ae (Be (Aj (AY (Nk false) (AZ BO (AF (Az 0) (AF (AR (wC (D.int 6))) Ac))) (wC (D.int 0)))) (BE 7 (AZ BO (AF (Az 0) (AF (AR (wC (D.int 4))) Ac)))) A_)
 (Ae (CO 8 (DU AQ))
 (Ae (Cg (Gx (AC (CB MR (AC (AD 7) (AC (CB ES (AC (Al 4) AQ)) AQ))) AQ)) (Aa 9) (Ae (VB 4 (AZ BO (AF (Az 0) (AF (AR (CB ES (AC (Al 4) AQ))) Ac))) (FA 2 (Am (Aa 5) (Am (Aa 10) CV))))
 (Jf 8 "list" ET (AC (A3 (AC (AD 5) (AC (AD 10) (AC (AZ JG (AF (Az 0) (AF (AR (AD 6)) Ac))) AQ)))) AQ))))
 (Ba (A3 (AC (AD 3) (AC (CB BZ (AC (CB Bn (AC (Al 8) AQ)) AQ)) AQ))))))))))))
noncomputable def words24:List Str:=["a","ab","aba","b","in","out","place","tie","c","ca","near","z","za","zb","x","xy","y","q","qq","d","e","f","g","h"]
noncomputable def Cw(i:Nat):Str:=words24.getD i "a"
theorem Mr:∀i,i<24->S1 (Cw i):=by
 have h:∀i∈Z7 24,1<=(Cw i).length/\(Cw i).length<=8/\∀c∈cs (Cw i),97<=c/\c<=122:=by decide +kernel
 exact λi hi=>h i (bM.mpr hi)
theorem O6:∀i j,i<24->j<24->Cw i=Cw j->i=j:=by
 have h:∀i∈Z7 24,∀j∈Z7 24,cs (Cw i)=cs (Cw j)->i=j:=by decide +kernel
 exact λi j hi hj e=>h i (bM.mpr hi) j (bM.mpr hj) (congrArg cs e)
theorem Qa(i:Nat)(h:i<24):(words24.map D.str)[i]?=some (.str (Cw i)):=by
 have hl:i<words24.length:=h;unfold Cw;rw [ZZ,Zx,No hl];rfl
section
variable {ss:List Slot}{n:Nat}{Pd:D->Nat->Prop}
theorem ID(h:En ss n Pd):Ef (EE Pd) n (ss++Zd 2 .no):=by
 obtain⟨m,rfl,hm,hn,p⟩:=h;unfold Ef;refine⟨(by decide:12<=sizeLine),(by decide:12<=sizeLine),(by decide:24<=sizeLine),?_⟩;refine⟨24,rfl,by decide,by decide,hn,λfirst f0 f1=>?_⟩;obtain⟨f,rfl⟩:∃f:Nat,first=(f:Int):=⟨first.toNat,(by first | exact u0 | exact u1 | exact u2 | exact w0 | exact w1 | omega)⟩
 refine⟨(m:Int),rfl,⟨(by first | exact u0 | exact u1 | exact u2 | exact w0 | exact w1 | omega),(by first | exact u0 | exact u1 | exact u2 | exact w0 | exact w1 | omega)⟩,by rw [B4]; omega,?_⟩;refine Bk (λd=>match d with | .int k=>.str (Cw ((f+k.toNat) % 24)) | _=>.non) (λρ=>∃s,ρ=[.sh (.lst (words24.map .str)),.sh (.int f),s]) _ _ _ _ ?_ ⟨_,rfl⟩ ?_
 ·rintro d hd ρ n' nx ⟨s,rfl⟩ hnx
  obtain⟨k,hk,rfl⟩:=Lq hd;have hlt:(f+k) % 24<24:=fW _ (by decide);refine⟨by show (0:Int)<24; decide,.str (Cw ((f+k) % 24)),?_,?_⟩
  ·rw [show ((f:Int)+(0+(k:Int))) % 24=(((f+k) % 24:Nat):Int) by omega]
   exact AJ (Qa _ hlt)
  ·have:=hnx [.sh (.lst (words24.map .str)),.sh (.int f),.sh (.int (0+(k:Int)))] ⟨_,rfl⟩
   rw [show (0+(k:Int))=k by omega] at this ⊢;exact this
 ·have e:[]++(Co 0 ((m:Int)).toNat).map (λd=>match d with | .int k=>D.str (Cw ((f+k.toNat) % 24)) | _=>.non)=((Z7 m).map λk:Nat=>Cw ((f+k) % 24)).map .str:=by
   unfold Co;rw [aA,aO,aO,av];refine bv λk _=>?_
   have:(0+(k:Int)).toNat=k:=by omega
   simp only [Function.comp,this]
  rw [e];refine⟨_,_,rfl,Sf _,by rw [On,c7]; omega,λss' hp hs=>p ss' ?_ ?_ ?_⟩
  ·rw [hp.length_eq,On,c7]
  ·intro y hy
   obtain⟨k,_,rfl⟩:=TW.mp (hp.mem_iff.mp hy);exact Mr _ (fW _ (by decide))
  ·refine C_ hs (hp.nodup_iff.mpr (Ju List.nodup_range λj hj k hk e=>?_))
   exact Ti hm (bM.mp hj) (bM.mp hk) (O6 _ _ (fW _ (by decide)) (fW _ (by decide)) e)
theorem HB(h:JG ss n Pd):D9 (EE Pd) n (ss++Zd 0 .no):=by
 obtain⟨s,rfl,hs,hn,p⟩:=h;have e6:((10:Int) ^ (6:Int).toNat)=1000000:=by decide
 unfold D9;refine Cv (λc=>?_) λ_=>?_
 ·have c:s<3:=of_decide_eq_true c
  obtain⟨z,hz,w,rfl,hw⟩:=Iz (p:=λd=>∃w:Int,d=.int w/\1<=w/\w<=9) (xs:=[D.int 2,D.int 4,D.int 9]) (λd hd=>by
   simp only [XV,Zf,or_false] at hd
   rcases hd with rfl | rfl | rfl <;> exact⟨_,rfl,by decide,by decide⟩) hs (by show s<3; exact c)
  exact⟨(by decide:3<=sizeLine),_,hz,w,rfl,(by first | exact u0 | exact u1 | exact u2 | exact w0 | exact w1 | omega),(by first | exact u0 | exact u1 | exact u2 | exact w0 | exact w1 | omega),hn,λr r0 r1=>p _ ((by first | exact u0 | exact u1 | exact u2 | exact w0 | exact w1 | omega)) ((by first | exact u0 | exact u1 | exact u2 | exact w0 | exact w1 | omega))⟩
 refine Cv (λ_=>⟨60,rfl,by decide,by decide,hn,λr r0 r1=>p _ ((by first | exact u0 | exact u1 | exact u2 | exact w0 | exact w1 | omega)) ((by first | exact u0 | exact u1 | exact u2 | exact w0 | exact w1 | omega))⟩) λ_=>?_;exact⟨⟨by decide,by decide,by decide⟩,3,rfl,by decide,by decide,hn,λr r0 r1=>p _ (by rw [e6]; omega) (by rw [e6]; omega)⟩
end
noncomputable def pairD(p:Str×Str):D:=.tup [.str p.1,.str p.2]
noncomputable def B9(a:Str)(xs:List Str):List (Str×Str):=(xs.filter λb=>decide (cs a<cs b)).map λb=>(a,b)
noncomputable def pairsOf(pre xs:List Str):List (Str×Str):=pre.flatMap λa=>B9 a xs
noncomputable def Sh(a:Str):D->Bool
 | .str b=>decide (cs a<cs b)
 | _=>false
theorem Sg(a:Str)(xs:List Str):[]++((xs.map D.str).filter (Sh a)).map (λd=>D.tup [.str a,d])=(B9 a xs).map pairD:=by
 rw [aA,List.filter_map,aO];unfold B9;rw [aO];rfl
theorem L6{pre xs:List Str}{p:Str×Str}(h:p∈pairsOf pre xs):p.1∈pre/\p.2∈xs/\cs p.1<cs p.2:=by
 obtain⟨a,ha,h⟩:=Z3.mp h;obtain⟨b,hb,rfl⟩:=TW.mp h;obtain⟨h1,h2⟩:=ax.mp hb;exact⟨ha,h1,of_decide_eq_true h2⟩
theorem Kz{pre xs:List Str}(hp:rising pre)(hx:rising xs):(pairsOf pre xs).Pairwise eL:=by
 unfold pairsOf;rw [List.pairwise_flatMap];refine⟨λa _=>?_,hp.imp λ{a b} h x hx y hy=>?_⟩
 ·unfold B9
  rw [aZ];exact(hx.filter _).imp λ{b c} h=>.inr ⟨rfl,h⟩
 ·obtain⟨_,_,rfl⟩:=TW.mp hx
  obtain⟨_,_,rfl⟩:=TW.mp hy;exact .inl h
theorem SS(x:Str):¬cs x<cs x:=aK _
theorem SG{l:List (Str×Str)}(h:l.Pairwise eL):l.Nodup:=h.imp λ{p q} h e=>by
 subst e
 rcases h with h | ⟨_,h⟩ <;> exact SS _ h
theorem EI{xs:List Str}:∀{pre:List Str},(pairsOf pre xs).length<=pre.length*xs.length
 | []=>Zi _
 | a::pre=>by
  have ih:=@EI xs pre;show (B9 a xs++pairsOf pre xs).length<=_;rw [ZT,Za,Nat.add_mul,Nat.one_mul]
  have:(B9 a xs).length<=xs.length:=by unfold B9; rw [On]; exact cJ _ _
  omega
theorem Ic{α:Type}:∀{l:List α} {k:Nat} {x:α},l[k]?=some x->(x::l.eraseIdx k).Perm l
 | [],k,x,e=>by simp at e
 | a::l,0,x,e=>by cases e; exact .refl _
 | a::l,k+1,x,e=>(List.Perm.swap a x _).trans ((Ic (l:=l) e).cons a)
theorem Iu{ts:List Tie}(h:F6 ts)(nd:(ts.map ends).Nodup):ts.Pairwise Bv:=by
 have h2:ts.Pairwise λs t=>ends s≠ends t:=aZ.mp nd;refine(h.and h2).imp λ{s t} ⟨a,b⟩=>bD λc=>?_
 by_cases d:Bv t s
 ·have:=Ke d
  rw [this] at a;cases a
 ·refine b ?_
  have e:=CI (Nl s) (Nl t) (by rw [c9]; exact λz=>c (ekey_iff.mp z)) (by rw [c9]; exact λz=>d (ekey_iff.mp z));unfold Nl at e;injection e with e1 e2
  injection e2 with e3 _
  injection e1 with e1
  injection e3 with e3
  unfold ends;rw [e1,e3]
theorem u0{n k j:Nat}(h:autoParam (k<=n) zau9._auto_1)(e:autoParam (fQ j k=true) zau3._auto_1):j<=n:=Zu (Nat.le_of_ble_eq_true e) h
theorem u1{n k j a:Nat}(h:autoParam (k<=n) zau9._auto_1)(e:autoParam (fQ (j+a) k=true) zau3._auto_1):j<=n - a:=bj (Zu (Nat.le_of_ble_eq_true e) h)
theorem u2{n k j a b:Nat}(h:autoParam (k<=n) zau9._auto_1)(e:autoParam (fQ (j+b+a) k=true) zau3._auto_1):j<=n - a - b:=bj (u1 h e)
theorem u3{n k j a b c:Nat}(h:autoParam (k<=n) zau9._auto_1)(e:autoParam (fQ (j+c+b+a) k=true) zau3._auto_1):j<=n - a - b - c:=bj (u2 h e)
theorem u4{n k j a b c d:Nat}(h:autoParam (k<=n) zau9._auto_1)(e:autoParam (fQ (j+d+c+b+a) k=true) zau3._auto_1):j<=n - a - b - c - d:=bj (u3 h e)
theorem u5{n k j a b c d f:Nat}(h:autoParam (k<=n) zau9._auto_1)(e:autoParam (fQ (j+f+d+c+b+a) k=true) zau3._auto_1):j<=n - a - b - c - d - f:=bj (u4 h e)
theorem v1{a n m j:Nat}(h:a<=n)(e:n - j<=m):a - j<=m:=Zu (Nat.sub_le_sub_right h j) e
theorem Ye{n m j c:Nat}(h1:124<=n)(h2:n - 2*j<=m)(h3:j<c)(h4:c<=60):3<=m/\n - 2*(j+1)<=m - 1 - 1:=by omega
theorem Yg{n n' m c:Nat}(h:n - 6<=n')(h2:n' - 2*c<=m)(h4:c<=60):n - 130<=m:=by omega
theorem Y7(n:Nat):n - 6<=n - 1 - 1 - 1 - 1 - 1/\n - 6<=n - 1 - 1 - 1 - 1 - 1 - 1:=by omega
theorem DY{ts:List Tie}{z:D}{P:D->Prop}(hz:G9 z=some (ts.map Ao))(h64:ts.length<64)(p:∀ts':List Tie,ts'.Perm ts->F6 ts'->P (.lst (ts'.map Ao))):Bn [z] P:=by
 refine⟨z,_,rfl,hz,by rw [On]; exact h64,⟨λx hx=>?_,λx hx y hy ka kb ea eb=>?_⟩,λxs' hp ho=>?_⟩
 ·obtain⟨t,_,rfl⟩:=TW.mp hx
  exact⟨C8 t,rfl,bC _ _⟩
 ·obtain⟨t,_,rfl⟩:=TW.mp hx
  obtain⟨u,_,rfl⟩:=TW.mp hy;cases (show some (C8 t)=some ka from ea);cases (show some (C8 u)=some kb from eb);rfl
 ·obtain⟨ts',h1,rfl⟩:=OC (g:=V9) (λ_=>rfl) hp
  exact p ts' h1 (OT ho)
theorem NX{α:Type}{a:List α}{x:α}{l:List α}{k:Nat}(e:l[k]?=some x):((a++[x])++l.eraseIdx k).Perm (a++l):=by
 rw [Zg];exact(Ic e).append_left a
section
variable {ss:List Slot}{n:Nat}{Pd:D->Nat->Prop}
theorem J9{D2:E2}{m:Nat}{xs:List Str}(hl:xs.length<=24){tg:BW}{mk:List D->Slot->List Slot}(body:AW)
  (hstep:∀(fr:List D) (s:Slot) (a:Str) (nx:Nat->List Slot->Prop),fr.length+24<=1000->(∀s',nx m (mk (fr++(B9 a xs).map pairD) s'))->tg (.str a) (mk fr s) λρ1=>body { D2 with nx:=nx,ct:=nx,bk:=D2.nx } m ρ1)
  (hend:∀s,D2.nx m (mk ((pairsOf xs xs).map pairD) s)):∀(rest pre:List Str) (s:Slot),pre++rest=xs->A0 tg body D2 (rest.map .str) m (mk ((pairsOf pre xs).map pairD) s)
 | [],pre,s,e=>by
  rw [Zn] at e;subst e;exact hend s
 | a::rest,pre,s,e=>by
  have hp:=@EI xs pre;have l1:pre.length<=24:=by rw [← e,ZT] at hl; omega
  have l2:pre.length*xs.length<=24*24:=Nat.mul_le_mul l1 hl;refine hstep _ s a _ (by rw [On]; omega) λs'=>?_;have ih:=J9 hl body hstep hend rest (pre++[a]) s' (by rw [Zg]; exact e);have e2:pairsOf (pre++[a]) xs=pairsOf pre xs++B9 a xs:=by unfold pairsOf; rw [cV]; simp
  rw [e2,Z1] at ih;exact ih
theorem Kq(h:Gs ss n Pd):F_ (EE Pd) n (ss++Zd 8 .no):=by
 obtain⟨most,ties,rfl,hm1,hm2,ht1,ht2,hn,p⟩:=h;have szl:=PySem.sizeLine_eq;unfold F_;refine⟨_,rfl,by omega,by omega,u0,λr r0 r1=>?_⟩;refine⟨(2+r).toNat,by rw [show (((2+r).toNat:Nat):Int)=2+r by omega],by omega,by omega,λxs hl hx hr=>⟨(by decide:0<=sizeLine),?_⟩⟩;have hxs:xs.length<=24:=by omega
 have hx2:2<=xs.length:=by omega
 have hxm:xs.length<=most:=by omega
 clear hl r0 r1;refine J9 (m:=n - 1 - 1) hxs (mk:=λfr s=>[.fd,.sh (.int most),.sh (.int ties),.sh (.tup (xs.map .str)),.ow (.lst fr),s,.no,.no,.no,.no,.no]) _ (λfr s a nx hfl hnx=>?_) (λs5=>?_) xs [] .no rfl
 ·refine⟨_,rfl,rfl,by rw [On]; omega,?_⟩
  refine Fp (Sh a) (λd=>.tup [.str a,d]) (λρ=>∃s,ρ=[.sh (.str a),s]) _ _ _ _ ?_ ⟨_,rfl⟩ ?_
  ·rintro d hd ρ m nx2 sk ⟨s2,rfl⟩ h1 h2
   obtain⟨b,hb,rfl⟩:=TW.mp hd;refine Cv (λc=>⟨z2,h1 _ ⟨_,rfl⟩ c⟩) λc=>h2 _ ⟨_,rfl⟩ (c9.mpr c)
  ·rw [Sg]
   have hal:(B9 a xs).length<=24:=by unfold B9; rw [On]; exact Zu (cJ _ _) hxs
   exact⟨fr,_,rfl,rfl,by rw [On]; omega,hnx _⟩
 refine⟨5,rfl,by decide,by decide,(by first | exact u0 | exact u1 | exact u2 | exact u3 | exact u4 | exact u5 | exact u6),λway w0 w1=>?_⟩;refine⟨⟨by decide,by decide⟩,_,rfl,by omega,by omega,(by first | exact u0 | exact u1 | exact u2 | exact u3 | exact u4 | exact u5 | exact u6),λq q0 q1=>?_⟩;refine⟨6,rfl,by decide,by decide,(by first | exact u0 | exact u1 | exact u2 | exact u3 | exact u4 | exact u5 | exact u6),λr6 _ _=>?_⟩;have rest:∀(many:Int) (n':Nat),0<=many->many<=ties->n - 6<=n'->(Ae (CO 8 (DU AQ))
 (Ae (Cg (Gx (AC (CB MR (AC (AD 7) (AC (CB ES (AC (Al 4) AQ)) AQ))) AQ)) (Aa 9) (Ae (VB 4 (AZ BO (AF (Az 0) (AF (AR (CB ES (AC (Al 4) AQ))) Ac))) (FA 2 (Am (Aa 5) (Am (Aa 10) CV))))
 (Jf 8 "list" ET (AC (A3 (AC (AD 5) (AC (AD 10) (AC (AZ JG (AF (Az 0) (AF (AR (AD 6)) Ac))) AQ)))) AQ))))
 (Ba (A3 (AC (AD 3) (AC (CB BZ (AC (CB Bn (AC (Al 8) AQ)) AQ)) AQ)))))) (EE Pd) n' [.fd,.sh (.int most),.sh (.int ties),.sh (.tup (xs.map .str)),.ow (.lst ((pairsOf xs xs).map pairD)),s5,.sh (.int way),.sh (.int many),.no,.no,.no]:=by
  intro many n' hmany0 hmany hn';clear q0 q1 hm1 hm2 ht1;have pl:=@EI xs xs;have pl2:xs.length*xs.length<=24*24:=Nat.mul_le_mul hxs hxs;refine⟨(by decide:0<=sizeLine),_,_,rfl,rfl,?_⟩;obtain⟨cnt,hcnt⟩:∃cnt:Int,cnt=(if (((pairsOf xs xs).map pairD).length:Int)<many then (((pairsOf xs xs).map pairD).length:Int) else many):=⟨_,rfl⟩;have hc1:cnt<=many:=by rw [hcnt]; split <;> omega
  have hc2:cnt<=(pairsOf xs xs).length:=by rw [hcnt,On]; split <;> omega
  have hc0:0<=cnt:=by rw [hcnt]; split <;> omega
  refine⟨cnt,by rw [hcnt],⟨by omega,by omega⟩,?_⟩;clear hcnt;obtain⟨c,rfl⟩:∃c:Nat,cnt=(c:Int):=⟨cnt.toNat,by omega⟩;have hc60:c<=60:=by omega
  have hct:c<=ties:=by omega
  have hcp:c<=(pairsOf xs xs).length:=by omega
  have p576:(pairsOf xs xs).length<=576:=Zu pl pl2;have hn124:124<=n':=v1 hn hn';clear hc1 hc2 hc0 hmany hmany0 pl pl2;rw [av]
  refine CH (all:=Co 0 c) (λpre m ρ=>n' - 2*pre.length<=m/\∃(found:List Tie) (free:List (Str×Str)) (s5 s9 s10:Slot),found.length=pre.length/\(found.map ends++free).Perm (pairsOf xs xs)/\(∀t∈found,1<=t.len/\t.len<=1000000) /\
   ρ=[.fd,.sh (.int most),.sh (.int ties),.sh (.tup (xs.map .str)),.ow (.lst (free.map pairD)),s5,.sh (.int way),.sh (.int many),.ow (.lst (found.map Ao)),s9,s10]) ?_ ?_ _ [] _ _ rfl ⟨by simp,[],pairsOf xs xs,_,_,_,rfl,.refl _,(λ_ h=>by cases h),rfl⟩
  ·rintro m ρ ⟨hm,found,free,s5,s9,s10,h1,h2,h3,rfl⟩
   rw [B4] at h1 hm;show Bn [D.lst (found.map Ao)] λz=>BZ [z] λy=>2<=sizeLine/\Pd (.tup [.tup (xs.map .str),y]) m;refine DY (ts:=found) rfl (by rw [h1]; exact b_ hc60 (by decide)) λts' p1 p2=>?_
   have hmem:∀t∈ts',(t.a∈xs/\t.b∈xs/\cs t.a<cs t.b)/\1<=t.len/\t.len<=1000000:=λt ht=>by
    have hf:=p1.mem_iff.mp ht
    have:ends t∈pairsOf xs xs:=h2.mem_iff.mp (Zt _ (List.mem_map_of_mem hf))
    exact⟨L6 this,h3 t hf⟩
   have nd:(ts'.map ends).Nodup:=by
    have a:=h2.nodup_iff.mpr (SG (Kz hr hr));exact((p1.map ends).nodup_iff).mpr (Zh.mp a).1
   refine⟨z2,p ⟨xs,ts'⟩ m ⟨hx,hr,λt ht=>?_,Iu p2 nd⟩ hx2 hxm (by show ts'.length<=ties; rw [p1.length_eq,h1]; exact hct) (Yg hn' hm hc60)⟩;obtain⟨⟨a,b,c⟩,d⟩:=hmem t ht;exact⟨a,b,c,d⟩
  ·rintro pre d post m ρ nx hall ⟨hm,found,free,s5,s9,s10,h1,h2,h3,rfl⟩ hnx
   obtain⟨rfl,hk⟩:=Ew hall;have hlen:=h2.length_eq;rw [ZT,On] at hlen;rw [ZT,Zc] at hnx;have hfl:(free.map pairD).length=free.length:=On ..;obtain⟨f3,f4⟩:=Ye hn124 hm hk hc60;have ff:1<=free.length/\free.length<=576/\found.length<=576:=by clear hm hn' hn f3 f4; omega
   clear hm;refine⟨_,rfl,_,_,rfl,rfl,_,rfl,by rw [hfl]; exact Int.ofNat_le.mpr ff.1,by rw [hfl]; exact Int.ofNat_lt.mpr (b_ ff.2.1 (by decide)),u0,λr r0 r1=>?_⟩;obtain⟨k,rfl⟩:∃k:Nat,r=(k:Int):=⟨r.toNat,by omega⟩;have hkf:k<free.length:=by omega
   have e1:free[k]?=some free[k]:=No hkf;refine⟨k,pairD free[k],rfl,by rw [ZZ,e1]; rfl,by omega,rfl,rfl,?_⟩;refine⟨_,rfl,rfl,way,rfl,w0,u1,λl l0 l1=>⟨z3,_,_,rfl,rfl,by rw [On,szl]; exact b_ ff.2.2 (by decide),?_⟩⟩;rw [Gm];refine hnx _ _ ⟨f4,found++[⟨free[k].1,free[k].2,l⟩],free.eraseIdx k,_,_,_,by rw [ZT,Zc,h1],?_,λt ht=>?_,by rw [Z1]; rfl⟩
   ·rw [Z1]
    exact(NX (a:=found.map ends) e1).trans h2
   ·rcases Zb.mp ht with ht | ht
    ·exact h3 t ht
    ·rw [Go.mp ht]
     exact⟨l0,l1⟩
 refine Cv (λ_=>⟨4,rfl,by decide,by decide,(by first | exact u0 | exact u1 | exact u2 | exact u3 | exact u4 | exact u5 | exact u6),λr4 _ _=>rest _ _ (by omega) (by omega) (Y7 n).2⟩) λ_=>rest _ _ (by omega) (by omega) (Y7 n).1
end
noncomputable def DN:AW:=(Ae (CO 2 (Kb (AD 1) (wC (D.int 0))))
 (Ae (BE 3 (wC (D.bl true)))
 (Ae (Hf (Aj (AD 3)) (Ae (BE 3 (wC (D.bl false)))
 (US 0 (FA 3 (Am (Aa 4) (Am (Aa 5) (Am (Aa 6) CV)))) (Cg (BQ (DU (AC (A3 (AC (AD 4) (AC (AD 5) AQ))) (AC (A3 (AC (AD 5) (AC (AD 4) AQ))) AQ)))) (FA 2 (Am (Aa 7) (Am (Aa 8) CV))) (Be (Jg (Aj (AY (LF false) (AD 7) (Al 2))) (Aj (AY Fx (AY BN (AY A4 (Al 2) (AD 7)) (AD 6)) (Qf (Al 2) (AD 8) (AY (V4 N7 λi j=>D.int (i ^ j.toNat)) (wC (D.int 10)) (wC (D.int 20))))))) (Ae (DD 2 (AD 8) (AY BN (AY A4 (Al 2) (AD 7)) (AD 6)))
 (BE 3 (wC (D.bl true)))) A_)))))
 (Hg 2))))
noncomputable def Ee:AW:=(Ae (BE 1 (CB Bn (AC (DF [none] (BQ (AD 0)) (Aa 0) Fb (A3 (AC (AY BG (AD 0) (wC (D.int 2))) (AC (AY BG (AD 0) (wC (D.int 0))) (AC (AY BG (AD 0) (wC (D.int 1))) AQ))))) AQ)))
 (Ba (DF [none,none,none] (BQ (AD 1)) (FA 3 (Am (Aa 0) (Am (Aa 1) (Am (Aa 2) CV)))) Fb (A3 (AC (AD 1) (AC (AD 2) (AC (AD 0) AQ)))))))
noncomputable abbrev SX:AW:=(Be (Jg (Aj (AY (LF false) (AD 7) (Al 2))) (Aj (AY Fx (AY BN (AY A4 (Al 2) (AD 7)) (AD 6)) (Qf (Al 2) (AD 8) (AY (V4 N7 λi j=>D.int (i ^ j.toNat)) (wC (D.int 10)) (wC (D.int 20))))))) (Ae (DD 2 (AD 8) (AY BN (AY A4 (Al 2) (AD 7)) (AD 6)))
 (BE 3 (wC (D.bl true)))) A_)
theorem ZI:((10:Int) ^ (20:Int).toNat)=100000000000000000000:=by decide +kernel
section
variable {ss:List Slot}{n:Nat}{Pd:D->Nat->Prop}
theorem GW(h:Eo ss n Pd):DN (EF Pd) n (ss++Zd 7 .no):=by
 obtain⟨N,s,zz,us,rfl,hzz,hus,okn,hs,p⟩:=h;have szl:=PySem.sizeLine_eq;have ok:=okn.1;have l25:=okn.2.1;unfold DN;refine⟨_,AX s,?_⟩
 have step:∀(D3:E2) (x y:Str) (l:Int),Ed N x y l->∀(ks:List Key) (ds:List D) (K:Kn) (g:Bool) (s4 s5 s7 s8:Slot),Dmap ks ds D.int K->Bf N s ks.length K ->
   (∀(ks':List Key) (ds':List D) (K':Kn) (g':Bool) (t7 t8:Slot),Dmap ks' ds' D.int K'->Bf N s ks'.length K'->((g'=g/\K'=K/\Hq K (x,y,l))\/(g'=true/\QY N.ps K'<QY N.ps K)) ->
    D3.nx n [.br zz,.sh (.str s),.ow (.dic ks' ds'),.sh (.bl g'),s4,s5,.sh (.int l),t7,t8]) ->
   SX D3 n [.br zz,.sh (.str s),.ow (.dic ks ds),.sh (.bl g),s4,s5,.sh (.int l),.sh (.str x),.sh (.str y)]:=by
  intro D3 x y l he ks ds K g s4 s5 s7 s8 M B hD;have kl:=M.le B.ins;refine⟨ks,ds,_,rfl,AX x,?_⟩;show if ((BI ks ds (.inr x)).isSome)=true then _ else _
  cases ex:K x with
  | none =>
   rw [M.at_,ex];exact EA (hD ks ds K g _ _ M B (.inl ⟨rfl,rfl,λd e=>by rw [show K x=some d from e] at ex; cases ex⟩))
  | some d =>
   have top:=B.top x d ex;have lp:=(he.pos ok).2;rw [M.at_,ex];refine Fw ⟨ks,ds,_,_,rfl,AX x,by rw [M.at_,ex]; rfl,?_⟩;refine⟨ks,ds,rfl,⟨by decide,by decide,by decide⟩,_,AX y,?_⟩
   have put:(K y=none\/∃d',K y=some d'/\d+l<d')->(Ae (DD 2 (AD 8) (AY BN (AY A4 (Al 2) (AD 7)) (AD 6))) (BE 3 (wC (D.bl true)))) D3 n [.br zz,.sh (.str s),.ow (.dic ks ds),.sh (.bl g),s4,s5,.sh (.int l),.sh (.str x),.sh (.str y)]:=λhy=>by
    refine⟨ks,ds,rfl,ks,ds,_,.int d,rfl,AX x,by rw [M.at_,ex]; rfl,_,AX y,by omega,?_⟩;have hlen:=IG ks (.inr y)
    have key:=B.put ok (c':=(Bx ks (.inr y)).length) (by rw [hlen]; split <;> omega) (by rw [hlen]; split <;> omega) ex he (λe=>by rw [hlen,if_neg (by rw [(M.has (x:=y)).1 e]; decide)]) (λd' e=>by
     rcases hy with hy | ⟨d2,hy,hlt⟩
     ·rw [e] at hy; cases hy
     ·rw [e] at hy; cases hy; exact hlt)
    exact hD _ _ _ true _ _ (M.put y (d+l)) key.1 (.inr ⟨rfl,key.2⟩)
   rw [M.at_];cases ey:K y with
   | none =>
    show if decide (d+l<(10:Int) ^ (20:Int).toNat)=true then _ else _
    rw [decide_eq_true (by rw [ZI]; omega)];exact Fw (put (.inl ey))
   | some d' =>
    show if decide (d+l<d')=true then _ else _
    by_cases c:d+l<d'
    ·rw [decide_eq_true c]
     exact Fw (put (.inr ⟨d',ey,c⟩))
    ·rw [decide_eq_false c]
     refine EA (hD ks ds K g _ _ M B (.inl ⟨rfl,rfl,λd2 e=>?_⟩));rw [show K x=some d2 from e] at ex;cases ex;exact⟨d',ey,by show d'<=d+l; omega⟩
 refine GP (λm n' ρ=>n'=n/\∃(ks:List Key) (ds:List D) (K:Kn) (g:Bool) (s4 s5 s6 s7 s8:Slot),ρ=[.br zz,.sh (.str s),.ow (.dic ks ds),.sh (.bl g),s4,s5,s6,s7,s8]/\Dmap ks ds D.int K/\Bf N s ks.length K/\((g=true/\m=QY N.ps K+1)\/(g=false/\m=0/\∀t∈N.ts,Hq K (t.a,t.b,t.len)/\Hq K (t.b,t.a,t.len)))) _ ⟨rfl,_,_,_,true,_,_,_,_,_,rfl,Dmap.one (enc:=D.int) (a:=(0:Int)),Bf.init hs,.inl ⟨rfl,rfl⟩⟩ ?_ ?_
 ·rintro m n' ρ N' ⟨rfl,ks,ds,K,g,s4,s5,s6,s7,s8,rfl,M,B,hg⟩ hN
  rcases hg with ⟨rfl,hm⟩ | ⟨rfl,_,ht⟩
  ·have outer:∀(rest done:List Tie) (ks:List Key) (ds:List D) (K':Kn) (g:Bool) (s4 s5 s6 s7 s8:Slot),done++rest=us->Dmap ks ds D.int K'->Bf N s ks.length K'->((g=true/\QY N.ps K'<QY N.ps K)\/(g=false/\QY N.ps K'<=QY N.ps K/\∀t∈done,Hq K' (t.a,t.b,t.len)/\Hq K' (t.b,t.a,t.len))) ->
     A0 (FA 3 (Am (Aa 4) (Am (Aa 5) (Am (Aa 6) CV)))) (Cg (BQ (DU (AC (A3 (AC (AD 4) (AC (AD 5) AQ))) (AC (A3 (AC (AD 5) (AC (AD 4) AQ))) AQ)))) (FA 2 (Am (Aa 7) (Am (Aa 8) CV))) SX) { EF Pd with nx:=N',ct:=N',bk:=Hg 2 (EF Pd) } (rest.map Ao) n' [.br zz,.sh (.str s),.ow (.dic ks ds),.sh (.bl g),s4,s5,s6,s7,s8]:=by
    intro rest
    induction rest with
    | nil =>
     intro done ks ds K' g s4 s5 s6 s7 s8 e M B hg;rw [Zn] at e;subst e
     rcases hg with ⟨rfl,hlt⟩ | ⟨rfl,_,ht⟩
     ·exact hN (QY N.ps K'+1) _ _ (by omega) ⟨rfl,ks,ds,K',true,_,_,_,_,_,rfl,M,B,.inl ⟨rfl,rfl⟩⟩
     ·exact hN 0 _ _ (by omega) ⟨rfl,ks,ds,K',false,_,_,_,_,_,rfl,M,B,.inr ⟨rfl,rfl,λt h=>ht t ((hus t).mpr h)⟩⟩
    | cons t rest ih =>
     intro done ks ds K' g s4 s5 s6 s7 s8 e M B hg;have hmem:t∈N.ts:=(hus t).mp (by rw [← e]; exact ZW _ Re);have e':(done++[t])++rest=us:=by rw [Zg]; exact e
     have ed:=B8 hmem;refine⟨rfl,rfl,z2,z2,z2,?_⟩;refine⟨rfl,rfl,?_⟩;refine step _ t.a t.b t.len ed.1 ks ds K' g _ _ s7 s8 M B λks1 ds1 K1 g1 t7 t8 M1 B1 h1=>?_;refine⟨rfl,rfl,?_⟩;refine step _ t.b t.a t.len ed.2 ks1 ds1 K1 g1 _ _ t7 t8 M1 B1 λks2 ds2 K2 g2 u7 u8 M2 B2 h2=>?_;refine ih (done++[t]) ks2 ds2 K2 g2 _ _ _ _ _ e' M2 B2 ?_
     rcases h1 with ⟨rfl,rfl,t1⟩ | ⟨rfl,lt1⟩
     ·rcases h2 with ⟨rfl,rfl,t2⟩ | ⟨rfl,lt2⟩
      ·rcases hg with z | ⟨z1,z2,z3⟩
       ·exact .inl z
       ·refine .inr ⟨z1,z2,λu hu=>?_⟩
        rcases Zb.mp hu with hu | hu
        ·exact z3 u hu
        ·rw [Go.mp hu]; exact⟨t1,t2⟩
      ·refine .inl ⟨rfl,?_⟩
       rcases hg with ⟨_,z⟩ | ⟨_,z,_⟩ <;> omega
     ·have base:QY N.ps K1<QY N.ps K:=by rcases hg with ⟨_,z⟩ | ⟨_,z,_⟩ <;> omega
      rcases h2 with ⟨rfl,rfl,t2⟩ | ⟨rfl,lt2⟩
      ·exact .inl ⟨rfl,base⟩
      ·exact .inl ⟨rfl,by omega⟩
   exact⟨zz,_,rfl,hzz,outer us [] ks ds K false _ _ _ _ _ rfl M B (.inr ⟨rfl,Tk _,λt h=>by cases h⟩)⟩
  ·exact⟨_,rfl,p ks ds K M (B.told ok (by have:=M.le B.ins; omega) ht)⟩
 ·rintro n' ρ P Q hPQ h
  unfold Aj AD at h ⊢
  split at h
  ·rename_i d hd
   cases d with
   | bl b=>exact hPQ _ _ h
   | _=>exact h.elim
  ·exact h.elim
theorem IC(h:Em ss n Pd):Ee (EF Pd) n (ss++Zd 1 .no):=by
 obtain⟨d,ts,rfl,hd,h64,p⟩:=h;have szl:=PySem.sizeLine_eq;unfold Ee
 have go:(ts.map Ao).length<=10000000/\EM (Aa 0) Fb (A3 (AC (AY BG (AD 0) (wC (D.int 2))) (AC (AY BG (AD 0) (wC (D.int 0))) (AC (AY BG (AD 0) (wC (D.int 1))) AQ)))) (λacc n2=>Bn [.lst acc] λz=>BQ (wC z) n2 [] λds n1=>ds.length<=10000000/\EM (FA 3 (Am (Aa 0) (Am (Aa 1) (Am (Aa 2) CV)))) Fb (A3 (AC (AD 1) (AC (AD 2) (AC (AD 0) AQ)))) (λacc n2=>Pd (.lst acc) n2) ds [] n1 [.no,.no,.no]) (ts.map Ao) [] n [.no]:=by
  refine⟨by rw [On]; omega,?_⟩;refine Bk Lv (λρ=>∃s,ρ=[s]) _ _ _ _ ?_ ⟨_,rfl⟩ ?_
  ·rintro d hd ρ m nx ⟨s,rfl⟩ hnx
   obtain⟨t,ht,rfl⟩:=TW.mp hd;exact⟨_,AJ (j:=2) rfl,_,AJ (j:=0) rfl,_,AJ (j:=1) rfl,z3,hnx _ ⟨_,rfl⟩⟩
  rw [aA,aO];refine⟨_,_,rfl,rfl,by rw [On]; exact h64,⟨λx hx=>?_,λx hx y hy ka kb ea eb=>?_⟩,λxs' hp ho=>?_⟩
  ·obtain⟨t,_,rfl⟩:=TW.mp hx
   exact⟨Hy t,rfl,bC _ _⟩
  ·obtain⟨t,_,rfl⟩:=TW.mp hx
   obtain⟨u,_,rfl⟩:=TW.mp hy;cases (show some (Hy t)=some ka from ea);cases (show some (Hy u)=some kb from eb);rfl
  ·obtain⟨ts',h1,rfl⟩:=OC (f:=Lv∘Ao) (g:=λd=>match d with | .tup [.int l,.str a,.str b]=>⟨a,b,l⟩ | _=>⟨"","",0⟩) (λ_=>rfl) hp
   have ho:Dx ts':=by
    unfold GL at ho;rw [aZ] at ho;exact ho.imp λ{s t} z=>z _ _ rfl rfl
   refine⟨by show (ts'.map (Lv∘Ao)).length<=10000000; rw [On,h1.length_eq]; omega,?_⟩;refine Bk (λd=>match d with | .tup [l,a,b]=>.tup [a,b,l] | d=>d) (λρ=>∃a b c,ρ=[a,b,c]) _ _ _ _ ?_ ⟨_,_,_,rfl⟩ ?_
   ·rintro d hd ρ m nx ⟨a,b,c,rfl⟩ hnx
    obtain⟨t,ht,rfl⟩:=TW.mp hd;exact⟨rfl,rfl,z3,hnx _ ⟨_,_,_,rfl⟩⟩
   ·rw [aA,aO]
    exact p ts' h1 ho
 cases d with
 | lst ys=>cases hd; exact go
 | tup ys=>cases hd; exact go
 | _=>cases hd
end
end Nt
namespace Dp
open PySem PySem.Spec PyProof.Rows L2
section
variable {X:Cx}{pos:Pos}
noncomputable def Qi:DW:=λn _ P=>P (.dic [] []) n
theorem SR:DE X (.Dict [] [] pos) .fr Qi:=by
 refine⟨_,IK,λC M H n ρ σ P Q R w q=>λp hp=>?_⟩;have g:Grow H (Aw H p (.dK [])):=Ax hp;exact q _ _ (.dic [] []) n g.ext (R.feed.grow g) ⟨p,rfl,hp,[],AT,rfl,rfl⟩ w
end
end Dp
namespace Nt
open PySem PySem.Spec PyProof.Rows L2 Dp
noncomputable def GJ:W2:=λss n P=>∃N:Net,ss=[.sh (enc N)]/\okN N/\∀ord:List Tie,ord.Perm N.ts->Dx ord->P (enc (sub N (Bp [] ord))) n
noncomputable def Ea:AW:=(Ae (CO 1 (DU AQ))
 (Ae (Cg (BQ (AZ Em (AF (AR (AY BG (AD 0) (wC (D.int 1)))) Ac))) (Aa 2) (Be (Aj (AY (MS false) (AZ Sv (AF (AR (AZ D5 (AF (AR (AD 0)) (AF (Cf (Al 1)) Ac)))) (AF (AR (AY BG (AD 2) (wC (D.int 0)))) (AF (AR (AY BG (AD 2) (wC (D.int 1)))) Ac)))) (wC D.non))) (Jf 1 "list" ET (AC (AD 2) AQ)) A_))
 (Ba (AZ D5 (AF (AR (AD 0)) (AF (Cf (Al 1)) Ac))))))
noncomputable def CW:AW:=(Ae (CO 1 Qi)
 (Ae (Cg (BQ (AY BG (AD 0) (wC (D.int 0)))) (Aa 2) (DD 1 (AD 2) (AD 2)))
 (Ae (CO 3 (DU AQ))
 (Ae (Cg (BQ (AZ Em (AF (AR (AY BG (AD 0) (wC (D.int 1)))) Ac))) (Aa 4) (Ae (BE 5 (AY A4 (Al 1) (AY BG (AD 4) (wC (D.int 0)))))
 (Ae (BE 6 (AY A4 (Al 1) (AY BG (AD 4) (wC (D.int 1)))))
 (Be (Aj (AY (Nk true) (AD 5) (AD 6))) (Ae (Jf 3 "list" ET (AC (AD 4) AQ))
 (Cg (BQ (AY BG (AD 0) (wC (D.int 0)))) (Aa 2) (Be (Aj (AY (Nk false) (AY A4 (Al 1) (AD 2)) (AD 6))) (DD 1 (AD 2) (AD 5)) A_))) A_))))
 (Ba (A3 (AC (AY BG (AD 0) (wC (D.int 0))) (AC (CB BZ (AC (CB Bn (AC (Al 3) AQ)) AQ)) AQ))))))))
theorem sub_cn{N:Net}{kept:List Tie}(hk:∀t∈kept,t∈N.ts){x y:Str}:Cn (sub N kept).ts x y↔Cn kept x y :=
 ⟨λh=>h.mono λt ht=>(sub_mem.mp ht).2,λh=>h.mono λt ht=>sub_mem.mpr ⟨hk t ht,ht⟩⟩
section
variable {ss:List Slot}{n:Nat}{Pd:D->Nat->Prop}
theorem G_(h:GJ ss n Pd):Ea (EE Pd) n (ss++Zd 2 .no):=by
 obtain⟨N,rfl,okn,p⟩:=h;have ok:=okn.1;have l60:=okn.2.2;have szl:=PySem.sizeLine_eq;unfold Ea;refine⟨z0,_,AJ (j:=1) rfl,_,N.ts,rfl,rfl,by omega,λord o1 o2=>?_⟩;have ndo:ord.Nodup:=o1.nodup_iff.mpr (A5 ok.trise)
 have go:∀(rest done kept:List Tie) (s2:Slot),done++rest=ord->(∀u∈kept,u∈done)->kept.Nodup->Bp kept rest=Bp [] ord ->
   A0 (Aa 2) (Be (Aj (AY (MS false) (AZ Sv (AF (AR (AZ D5 (AF (AR (AD 0)) (AF (Cf (Al 1)) Ac)))) (AF (AR (AY BG (AD 2) (wC (D.int 0)))) (AF (AR (AY BG (AD 2) (wC (D.int 1)))) Ac)))) (wC D.non))) (Jf 1 "list" ET (AC (AD 2) AQ)) A_) { EE Pd with nx:=Ba (AZ D5 (AF (AR (AD 0)) (AF (Cf (Al 1)) Ac))) (EE Pd) } (rest.map Ao) n [.sh (enc N),.ow (.lst (kept.map Ao)),s2]:=by
  intro rest
  induction rest with
  | nil =>
   intro done kept s2 e h1 h2 h3;rw [Zn] at e;subst e;have hin:∀u∈kept,u∈N.ts:=λu hu=>o1.mem_iff.mp (h1 u hu);have hkl:=sub_len h2 (A5 ok.trise) hin;refine⟨N,_,kept,rfl,rfl,by omega,λts' p1 p2=>?_⟩;rw [Kg ok hin h2 p1 p2,show kept=Bp [] done from h3];exact p done o1 o2
  | cons u rest ih =>
   intro done kept s2 e h1 h2 h3;have hin:∀v∈kept,v∈N.ts:=λv hv=>o1.mem_iff.mp (by rw [← e]; exact Zt _ (h1 v hv));have hkl:=sub_len h2 (A5 ok.trise) hin;have hu:u∈N.ts:=o1.mem_iff.mp (by rw [← e]; exact ZW _ Re)
   have hud:u∉done:=by
    rw [← e,Zh] at ndo;exact λz=>ndo.2.2 u z u Re rfl
   have e':(done++[u])++rest=ord:=by rw [Zg]; exact e
   obtain⟨m1,m2,_⟩:=ok.tin u hu;refine⟨N,_,kept,rfl,rfl,by omega,λts' p1 p2=>?_⟩;rw [Kg ok hin h2 p1 p2];refine⟨_,AJ (j:=0) rfl,_,AJ (j:=1) rfl,sub N kept,u.a,u.b,rfl,Fi okn kept,m1,m2,λo ho=>⟨rfl,?_⟩⟩;have fc:=V0 (Fi okn kept).1 ho;rw [sub_cn hin] at fc;rw [Cd] at h3;cases o with
   | some d =>
    have c:Cn kept u.a u.b:=bD λz=>by cases fc.mpr z
    rw [if_pos (cnB_iff.mpr c)] at h3;exact ih (done++[u]) kept _ e' (λv hv=>Zt _ (h1 v hv)) h2 h3
   | none =>
    rw [if_neg λz=>(fc.mp rfl) (cnB_iff.mp z)] at h3;refine⟨_,rfl,rfl,_,_,rfl,rfl,by rw [On]; omega,?_⟩
    have:=ih (done++[u]) (kept++[u]) (.sh (Ao u)) e' (λv hv=>by
     rcases Zb.mp hv with hv | hv
     ·exact Zt _ (h1 v hv)
     ·exact ZW _ hv) (by
     rw [Zh];exact⟨h2,ZY.mpr ⟨Zf,Zp⟩,λx hx y hy z=>hud (by rw [← Go.mp hy,← z]; exact h1 x hx)⟩) h3
    rw [Z1] at this;exact this
 exact go ord [] [] _ rfl (λu h=>by cases h) Zp rfl
structure Pcs (N:Net) (ks:List Key) (ds:List D) (F:Str->Option Str):Prop where
 m:Dmap ks ds D.str F
 i:∀x,F x≠none->x∈N.ps
theorem Pcs.put{N:Net}{ks:List Key}{ds:List D}{F:Str->Option Str}(h:Pcs N ks ds F){x:Str}(hx:x∈N.ps)(a:Str):Pcs N (Bx ks (.inr x)) (Bo ks ds (.inr x) (.str a)) (CA F x a):=⟨h.m.put x a,λy hy=>by
 by_cases e:y=x
 ·rw [e]; exact hx
 ·rw [A6 e] at hy; exact h.i y hy⟩
theorem Pcs.len{N:Net}(okn:okN N){ks:List Key}{ds:List D}{F:Str->Option Str}(h:Pcs N ks ds F):ks.length<sizeLine:=by
 have:=h.m.le h.i
 have:=okn.2.1
 rw [PySem.sizeLine_eq];omega
theorem Jt{N:Net}(okn:okN N){D2:E2}{s0 s3 s4 s5 s6:Slot}:∀(rest done:List Str) (ks:List Key) (ds:List D) (F:Str->Option Str) (s2:Slot),done++rest=N.ps->Pcs N ks ds F->(∀x∈done,F x=some x) ->
  (∀ks ds F s2,Pcs N ks ds F->(∀x∈N.ps,F x=some x)->D2.nx n [s0,.ow (.dic ks ds),s2,s3,s4,s5,s6])->A0 (Aa 2) (DD 1 (AD 2) (AD 2)) D2 (rest.map .str) n [s0,.ow (.dic ks ds),s2,s3,s4,s5,s6]
 | [],done,ks,ds,F,s2,e,h,ht,hD=>by
  rw [Zn] at e;subst e;exact hD ks ds F s2 h ht
 | x::rest,done,ks,ds,F,s2,e,h,ht,hD=>by
  have hx:x∈N.ps:=by rw [← e]; exact ZW _ Re
  refine⟨ks,ds,rfl,_,AX x,h.len okn,?_⟩;refine Jt okn rest (done++[x]) _ _ _ _ (by rw [Zg]; exact e) (h.put hx x) (λy hy=>?_) hD
  by_cases ey:y=x
  ·rw [ey,BA]
  ·rw [A6 ey]
   rcases Zb.mp hy with hy | hy
   ·exact ht y hy
   ·exact absurd (Go.mp hy) ey
noncomputable def Jl(F:Str->Option Str)(a b:Str)(x:Str):Option Str:=if F x=some b then some a else F x
theorem FT{N:Net}(okn:okN N){D2:E2}{s0 s3 s4:Slot}{a b:Str}{F:Str->Option Str}:∀(rest done:List Str) (ks:List Key) (ds:List D) (G:Str->Option Str) (s2:Slot),done++rest=N.ps->Pcs N ks ds G->(∀x∈N.ps,F x≠none)->(∀x∈done,G x=Jl F a b x)->(∀x∈rest,G x=F x) ->
  (∀ks ds G s2,Pcs N ks ds G->(∀x∈N.ps,G x=Jl F a b x)->D2.nx n [s0,.ow (.dic ks ds),s2,s3,s4,.sh (.str a),.sh (.str b)]) ->
  A0 (Aa 2) (Be (Aj (AY (Nk false) (AY A4 (Al 1) (AD 2)) (AD 6))) (DD 1 (AD 2) (AD 5)) A_) D2 (rest.map .str) n [s0,.ow (.dic ks ds),s2,s3,s4,.sh (.str a),.sh (.str b)]
 | [],done,ks,ds,G,s2,e,h,tF,hd,_,hD=>by
  rw [Zn] at e;subst e;exact hD ks ds G s2 h hd
 | x::rest,done,ks,ds,G,s2,e,h,tF,hd,hr,hD=>by
  have hx:x∈N.ps:=by rw [← e]; exact ZW _ Re
  have nd:(done++x::rest).Nodup:=by rw [e]; exact okn.1.rise.imp λ{a b} h z=>by rw [z] at h; exact SS _ h
  have hxr:x∉rest:=by
   rw [Zh,ZY] at nd;exact nd.2.1.1
  have hxd:x∉done:=λz=>(Zh.mp nd).2.2 x z x Re rfl;have e':(done++[x])++rest=N.ps:=by rw [Zg]; exact e
  cases ex:G x with
  | none=>exact absurd ((hr x Re).symm.trans ex) (tF x hx)
  | some y =>
   have eF:F x=some y:=(hr x Re).symm.trans ex;refine⟨ks,ds,_,.str y,rfl,AX x,by rw [h.m.at_,ex]; rfl,?_⟩;show if (y==b)=true then _ else _
   by_cases c:y=b
   ·rw [c,beq_self_eq_true]
    refine Fw ⟨ks,ds,rfl,_,AX x,h.len okn,?_⟩;refine FT okn rest (done++[x]) _ _ _ _ e' (h.put hx a) tF (λz hz=>?_) (λz hz=>?_) hD
    ·by_cases ez:z=x
     ·rw [ez,BA]; unfold Jl; rw [eF,c,if_pos rfl]
     ·rw [A6 ez]
      rcases Zb.mp hz with hz | hz
      ·exact hd z hz
      ·exact absurd (Go.mp hz) ez
    ·rw [A6 λez=>hxr (by rw [← ez]; exact hz)]
     exact hr z (Sc _ hz)
   ·rw [beq_eq_false_iff_ne.mpr c]
    refine EA (FT okn rest (done++[x]) ks ds G _ e' h tF (λz hz=>?_) (λz hz=>hr z (Sc _ hz)) hD)
    rcases Zb.mp hz with hz | hz
    ·exact hd z hz
    ·rw [Go.mp hz]
     unfold Jl;rw [eF,if_neg λz=>c (ZS z)];exact ex
theorem IE(h:GJ ss n Pd):CW (EE Pd) n (ss++Zd 6 .no):=by
 obtain⟨N,rfl,okn,p⟩:=h;have ok:=okn.1;have l60:=okn.2.2;have szl:=PySem.sizeLine_eq;unfold CW;refine⟨_,AJ (j:=0) rfl,?_⟩;refine Jt okn N.ps [] [] [] (λ_=>none) _ rfl ⟨⟨rfl,λx=>rfl,λk hk=>(by cases hk),Zp⟩,λx hx=>absurd rfl hx⟩ (λx hx=>by cases hx) λks ds F s2 hF tF=>?_;refine⟨z0,_,AJ (j:=1) rfl,_,N.ts,rfl,rfl,by omega,λord o1 o2=>?_⟩;have ndo:ord.Nodup:=o1.nodup_iff.mpr (A5 ok.trise)
 have go:∀(rest done kept:List Tie) (ks:List Key) (ds:List D) (F:Str->Option Str) (s2 s4 s5 s6:Slot),done++rest=ord->(∀u∈kept,u∈done)->kept.Nodup->Pcs N ks ds F->(∀x∈N.ps,F x≠none)->(∀x∈N.ps,∀y∈N.ps,F x=F y↔Cn kept x y)->Bp kept rest=Bp [] ord ->
   A0 (Aa 4) (Ae (BE 5 (AY A4 (Al 1) (AY BG (AD 4) (wC (D.int 0)))))
 (Ae (BE 6 (AY A4 (Al 1) (AY BG (AD 4) (wC (D.int 1)))))
 (Be (Aj (AY (Nk true) (AD 5) (AD 6))) (Ae (Jf 3 "list" ET (AC (AD 4) AQ))
 (Cg (BQ (AY BG (AD 0) (wC (D.int 0)))) (Aa 2) (Be (Aj (AY (Nk false) (AY A4 (Al 1) (AD 2)) (AD 6))) (DD 1 (AD 2) (AD 5)) A_))) A_))) { EE Pd with nx:=Ba (A3 (AC (AY BG (AD 0) (wC (D.int 0))) (AC (CB BZ (AC (CB Bn (AC (Al 3) AQ)) AQ)) AQ))) (EE Pd) } (rest.map Ao) n [.sh (enc N),.ow (.dic ks ds),s2,.ow (.lst (kept.map Ao)),s4,s5,s6]:=by
  intro rest
  induction rest with
  | nil =>
   intro done kept ks ds F s2 s4 s5 s6 e h1 h2 hF tF _ h3;rw [Zn] at e;subst e;have hin:∀u∈kept,u∈N.ts:=λu hu=>o1.mem_iff.mp (h1 u hu);have hkl:=sub_len h2 (A5 ok.trise) hin;refine⟨_,AJ (j:=0) rfl,?_⟩;show Bn [D.lst (kept.map Ao)] λz=>BZ [z] λy=>2<=sizeLine/\Pd (.tup [.tup (N.ps.map .str),y]) n;refine DY (ts:=kept) rfl (by omega) λts' p1 p2=>⟨z2,?_⟩;have es:=Kg ok hin h2 p1 p2
   have:Pd (enc (sub N kept)) n:=by rw [show kept=Bp [] done from h3]; exact p done o1 o2
   rw [← es] at this;exact this
  | cons u rest ih =>
   intro done kept ks ds F s2 s4 s5 s6 e h1 h2 hF tF hC h3;have hu:u∈N.ts:=o1.mem_iff.mp (by rw [← e]; exact ZW _ Re);have hin:∀v∈kept,v∈N.ts:=λv hv=>o1.mem_iff.mp (by rw [← e]; exact Zt _ (h1 v hv));have hkl:=sub_len h2 (A5 ok.trise) hin;have e':(done++[u])++rest=ord:=by rw [Zg]; exact e
   have hud:u∉done:=by
    rw [← e,Zh] at ndo;exact λz=>ndo.2.2 u z u Re rfl
   obtain⟨m1,m2,_⟩:=ok.tin u hu;rw [Cd] at h3;cases ea:F u.a with
   | none=>exact absurd ea (tF _ m1)
   | some x =>
    cases eb:F u.b with
    | none=>exact absurd eb (tF _ m2)
    | some y =>
     refine⟨_,AJ (j:=0) rfl,ks,ds,_,.str x,rfl,AX u.a,by rw [hF.m.at_,ea]; rfl,?_⟩;refine⟨_,AJ (j:=1) rfl,ks,ds,_,.str y,rfl,AX u.b,by rw [hF.m.at_,eb]; rfl,?_⟩;show if (!(x==y))=true then _ else _
     by_cases c:x=y
     ·rw [c,beq_self_eq_true]
      have cc:Cn kept u.a u.b:=(hC _ m1 _ m2).mp (by rw [ea,eb,c]);rw [if_pos (cnB_iff.mpr cc)] at h3;exact EA (ih (done++[u]) kept ks ds F _ _ _ _ e' (λv hv=>Zt _ (h1 v hv)) h2 hF tF hC h3)
     ·have cc:¬Cn kept u.a u.b:=λz=>c (ZS (by rw [← ea,← eb]; exact(hC _ m1 _ m2).mpr z))
      rw [if_neg λz=>cc (cnB_iff.mp z)] at h3;rw [beq_eq_false_iff_ne.mpr c];refine Fw ⟨_,rfl,rfl,_,_,rfl,rfl,by rw [On]; omega,?_⟩;refine⟨_,AJ (j:=0) rfl,?_⟩;refine FT okn (F:=F) N.ps [] ks ds F _ rfl hF tF (λx hx=>by cases hx) (λx _=>rfl) λks' ds' G s2' hG tG=>?_
      have tt:∀w∈N.ps,G w≠none:=λw hw=>by
       rw [tG w hw];unfold Jl
       split
       ·exact λz=>by cases z
       ·exact tF w hw
      have hC':∀v∈N.ps,∀w∈N.ps,G v=G w↔Cn (kept++[u]) v w:=λv hv w hw=>by
       have mono:∀{p q:Str},Cn kept p q->Cn (kept++[u]) p q:=λh=>h.mono λs hs=>Zt _ hs;have hu':=Cn.tie (K:=kept++[u]) (ZW _ Re:u∈kept++[u]);have toA:∀z∈N.ps,F z=some x->Cn kept z u.a:=λz hz e=>(hC z hz _ m1).mp (by rw [e,ea]);have toB:∀z∈N.ps,F z=some y->Cn kept z u.b:=λz hz e=>(hC z hz _ m2).mp (by rw [e,eb]);rw [tG v hv,tG w hw];unfold Jl;constructor
       ·intro he
        by_cases cv:F v=some y
        ·by_cases cw:F w=some y
         ·exact mono ((hC v hv w hw).mp (by rw [cv,cw]))
         ·rw [if_pos cv,if_neg cw] at he
          exact((mono (toB v hv cv)).trans hu'.2).trans (mono (toA w hw he.symm).symm)
        ·by_cases cw:F w=some y
         ·rw [if_neg cv,if_pos cw] at he
          exact((mono (toA v hv he)).trans hu'.1).trans (mono (toB w hw cw).symm)
         ·rw [if_neg cv,if_neg cw] at he
          exact mono ((hC v hv w hw).mp he)
       ·intro hc
        have fa:∀z∈N.ps,Cn kept z u.a->F z=some x:=λz hz h=>by rw [(hC z hz _ m1).mpr h,ea]
        have fb:∀z∈N.ps,Cn kept z u.b->F z=some y:=λz hz h=>by rw [(hC z hz _ m2).mpr h,eb]
        have nxy:some x≠some y:=λz=>c (ZS z)
        rcases Cn.add (B:=kept) (t:=u) (λs hs=>by
         rcases Zb.mp hs with hs | hs
         ·exact .inl hs
         ·exact .inr (Go.mp hs)) hc with h | ⟨h1,h2⟩ | ⟨h1,h2⟩
        ·rw [(hC v hv w hw).mpr h]
        ·rw [fa v hv h1,fb w hw h2.symm,if_neg nxy,if_pos rfl]
        ·rw [fb v hv h1,fa w hw h2.symm,if_pos rfl,if_neg nxy]
      have:=ih (done++[u]) (kept++[u]) ks' ds' G s2' (.sh (Ao u)) (.sh (.str x)) (.sh (.str y)) e' (λv hv=>by
       rcases Zb.mp hv with hv | hv
       ·exact Zt _ (h1 v hv)
       ·exact ZW _ hv) (by
       rw [Zh];exact⟨h2,ZY.mpr ⟨Zf,Zp⟩,λx hx y hy z=>hud (by rw [← Go.mp hy,← z]; exact h1 x hx)⟩) hG tt hC' h3
      rw [Z1] at this;exact this
 refine go ord [] [] ks ds F _ _ _ _ rfl (λu h=>by cases h) Zp hF (λx hx=>by rw [tF x hx]; exact λz=>by cases z) (λx hx y hy=>?_) rfl;rw [tF x hx,tF y hy];constructor
 ·intro h
  rw [ZS h];exact .refl
 ·intro h
  cases h with
  | refl=>rfl
  | step _ e=>obtain⟨t,ht,_⟩:=e; cases ht
end
end Nt
set_option maxHeartbeats 400000
namespace Nt
open PySem PySem.Spec PyProof.Rows L2 Dp
noncomputable def Adj(K:List Tie)(x y:Str):Prop:=∃t∈K,(t.a=x/\t.b=y)\/(t.b=x/\t.a=y)
theorem Adj.symm{K:List Tie}{x y:Str}(h:Adj K x y):Adj K y x:=by
 obtain⟨t,ht,h⟩:=h;exact⟨t,ht,h.elim (fun⟨a,b⟩=>.inr ⟨b,a⟩) fun⟨a,b⟩=>.inl ⟨b,a⟩⟩
noncomputable def NB(K:List Tie):List Str->Prop
 | []=>True
 | [_]=>True
 | x::y::r=>Adj K x y/\r.head?≠some x/\NB K (y::r)
theorem NB.tail{K:List Tie}{x:Str}:∀{r:List Str},NB K (x::r)->NB K r
 | [],_=>trivial
 | _::_,h=>h.2.2
theorem NB.left{K:List Tie}:∀{l m:List Str},NB K (l++m)->NB K l
 | [],_,_=>trivial
 | [_],_,_=>trivial
 | x::y::r,m,h=>⟨h.1,λz=>h.2.1 (by
   cases r with
   | nil=>cases z
   | cons w r=>exact z),NB.left (l:=y::r) h.2.2⟩
inductive CM:List Tie->Prop
 | nil:CM []
 | add {K:List Tie} {u:Tie}:CM K->¬Cn K u.a u.b->CM (K++[u])
theorem ER:∀(rest:List Tie) {kept:List Tie},CM kept->CM (Bp kept rest)
 | [],_,h=>h
 | u::rest,kept,h=>by
  rw [Cd]
  split
  ·exact ER rest h
  ·rename_i c
   exact ER rest (.add h λz=>c (cnB_iff.mpr z))
theorem Adj.cn{K:List Tie}{x y:Str}(h:Adj K x y):Cn K x y:=by
 obtain⟨t,ht,⟨rfl,rfl⟩ | ⟨rfl,rfl⟩⟩:=h
 ·exact(Cn.tie ht).1
 ·exact(Cn.tie ht).2
noncomputable def Ch(K:List Tie):List Str->Prop
 | x::y::r=>Adj K x y/\Ch K (y::r)
 | _=>True
theorem Ch.cn{K:List Tie}{z:Str}:∀{l:List Str} {x:Str},Ch K (x::l++[z])->Cn K x z
 | [],x,h=>h.1.cn
 | y::l,x,h=>h.1.cn.trans (Ch.cn (l:=l) (x:=y) h.2)
noncomputable def XQ(u:Tie)(x y:Str):Prop:=(u.a=x/\u.b=y)\/(u.b=x/\u.a=y)
theorem Adj.last{K:List Tie}{u:Tie}{x y:Str}(h:Adj (K++[u]) x y):Adj K x y\/XQ u x y:=by
 obtain⟨t,ht,h⟩:=h
 rcases Zb.mp ht with ht | ht
 ·exact .inl ⟨t,ht,h⟩
 ·rw [Go.mp ht] at h; exact .inr h
theorem LC{K:List Tie}{u:Tie}:∀{l:List Str},NB (K++[u]) l->Ch K l\/∃c e1 e2 d,l=c++e1::e2::d/\Ch K (c++[e1])/\XQ u e1 e2
 | [],_=>.inl trivial
 | [_],_=>.inl trivial
 | x::y::r,h=>by
  rcases h.1.last with a | a
  ·rcases LC h.2.2 with z | ⟨c,e1,e2,d,e,hc,hu⟩
   ·exact .inl ⟨a,z⟩
   ·refine .inr ⟨x::c,e1,e2,d,by rw [e]; rfl,?_,hu⟩
    cases c with
    | nil=>cases e; exact⟨a,trivial⟩
    | cons w c=>cases e; exact⟨a,hc⟩
  ·exact .inr ⟨[],x,y,r,rfl,trivial,a⟩
theorem NB.right{K:List Tie}:∀{l m:List Str},NB K (l++m)->NB K m
 | [],_,h=>h
 | _::l,m,h=>NB.right (l:=l) h.tail
theorem XM{K:List Tie}{l:List Str}(hc:Ch K l){K':List Tie}(h:NB K' l):NB K l:=by
 induction l with
 | nil=>trivial
 | cons x r ih =>
  cases r with
  | nil=>trivial
  | cons y r=>exact⟨hc.1,h.2.1,ih hc.2 h.2.2⟩
theorem Gk{K:List Tie}(hF:CM K)(hne:∀t∈K,t.a≠t.b):∀{l:List Str},NB K l->l.Nodup:=by
 induction hF with
 | nil =>
  intro l h
  match l,h with
  | [],_=>exact Zp
  | [x],_=>exact ZY.mpr ⟨Zf,Zp⟩
  | x::y::r,h=>obtain⟨t,ht,_⟩:=h.1; cases ht
 | @add K u _ hcn ih =>
  have ih:=@ih λt ht=>hne t (Zt _ ht)
  have hsym:∀{e1 e2:Str},XQ u e1 e2->¬Cn K e1 e2:=λ{e1 e2} h z=>by
   rcases h with ⟨rfl,rfl⟩ | ⟨rfl,rfl⟩
   ·exact hcn z
   ·exact hcn z.symm
  intro l
  induction l with
  | nil=>exact λ_=>Zp
  | cons x t iht =>
   intro h;have hnt:=iht h.tail;refine ZY.mpr ⟨λhx=>?_,hnt⟩;obtain⟨p,s,rfl⟩:=List.append_of_mem hx
   have hcyc:NB (K++[u]) (x::p++[x]):=NB.left (l:=x::p++[x]) (m:=s) (by
    rw [Zg];exact h)
   have hpx:(p++[x]).Nodup:=by
    have:(p++[x]++s).Nodup:=by rw [Zg]; exact hnt
    exact(Zh.mp this).1
   have hxp:(x::p).Nodup:=(List.perm_append_singleton x p).nodup_iff.mp hpx
   rcases LC hcyc with hc | ⟨c,e1,e2,d,e,hc,hu⟩
   ·have:=ih (XM hc hcyc)
    rw [List.cons_append,ZY] at this;exact this.1 (ZW _ (Go.mpr rfl))
   ·have hd:NB (K++[u]) (e2::d):=by
     rw [e] at hcyc;exact(NB.right (l:=c++[e1]) (m:=e2::d) (by rw [Zg]; exact hcyc))
    have htl:(e2::d).Nodup:=by
     have et:=congrArg List.tail e;rw [List.cons_append,List.tail_cons] at et;rw [et] at hpx;cases c with
     | nil=>exact hpx
     | cons w c=>exact(Zh.mp (show (c++([e1]++e2::d)).Nodup from hpx)).2.1.sublist (List.sublist_append_right [e1] (e2::d))
    have head:Cn K x e1:=by
     cases c with
     | nil =>
      have ew:x=e1:=(List.cons.inj e).1;rw [ew];exact .refl
     | cons w c =>
      have ew:x=w:=(List.cons.inj e).1;subst ew;exact Ch.cn hc
    rcases LC hd with hc2 | ⟨c',f1,f2,d',e',hc',hu'⟩
    ·have back:Cn K e2 x:=by
      have el:=congrArg List.getLast? e;rw [cQ] at el;cases d with
      | nil =>
       rw [show c++[e1,e2]=(c++[e1])++[e2] by rw [Zg]; rfl,cQ] at el;cases el; exact .refl
      | cons w d =>
       obtain⟨d0,z,hz⟩:∃d0 z,w::d=d0++[z]:=⟨_,_,(List.dropLast_concat_getLast (by simp)).symm⟩;rw [hz,show c++e1::e2::(d0++[z])=(c++e1::e2::d0)++[z] by rw [Zg]; rfl,cQ] at el;cases el;rw [hz] at hc2;exact Ch.cn (l:=d0) hc2
     exact hsym hu (head.symm.trans back.symm)
    ·have two:(f1=e1/\f2=e2)\/(f1=e2/\f2=e1):=by
      rcases hu with ⟨h1,h2⟩ | ⟨h1,h2⟩ <;> rcases hu' with ⟨h3,h4⟩ | ⟨h3,h4⟩
      ·exact .inl ⟨h3.symm.trans h1,h4.symm.trans h2⟩
      ·exact .inr ⟨h3.symm.trans h2,h4.symm.trans h1⟩
      ·exact .inr ⟨h3.symm.trans h2,h4.symm.trans h1⟩
      ·exact .inl ⟨h3.symm.trans h1,h4.symm.trans h2⟩
     rcases two with ⟨rfl,rfl⟩ | ⟨rfl,rfl⟩
     ·have ed:=congrArg List.dropLast e
      rw [List.dropLast_concat,e',da (by simp),show f1::(c'++f1::f2::d')=(f1::(c'++[f1]))++f2::d' by simp,da (by simp)] at ed;rw [ed] at hxp;have h2:=((Zh.mp hxp).2.1.sublist (List.sublist_append_left _ _));exact(ZY.mp h2).1 (ZW _ (Go.mpr rfl))
     ·cases c' with
      | nil =>
       cases e';rw [e] at hcyc;exact(NB.right (l:=c) hcyc).2.1 rfl
      | cons w c' =>
       have ew:f1=w:=by cases e'; rfl
       subst ew;cases e';exact(ZY.mp htl).1 (ZW _ Re)
theorem K6{K:List Tie}{x:Str}{B:List Str}:∀{A:List Str},NB K (A++[x])->NB K (x::B)->(∀a,A.getLast?=some a->B.head?≠some a)->NB K (A++x::B)
 | [],_,h,_=>h
 | [a],h1,h2,h3=>⟨h1.1,h3 a rfl,h2⟩
 | a::b::A,h1,h2,h3=>⟨h1.1,by
   have:=h1.2.1
   cases A with
   | nil=>exact this
   | cons c A=>exact this,K6 (A:=b::A) h1.2.2 h2 λz hz=>h3 z (by rw [fB]; exact hz)⟩
theorem NB.rev{K:List Tie}:∀{l:List Str},NB K l->NB K l.reverse
 | [],_=>trivial
 | [_],_=>trivial
 | x::y::r,h=>by
  have ih:=NB.rev h.2.2;rw [bc] at ih ⊢;rw [bc,Zg];refine K6 (x:=y) (B:=[x]) ih ⟨h.1.symm,(by intro z; cases z),trivial⟩ λa ha=>?_;rw [List.getLast?_reverse] at ha;intro z;cases z;exact h.2.1 ha
section
variable {nb:Str->List Str}
noncomputable def Bm(nb:Str->List Str):Nat->Str->Option Str->List (Str×Str)
 | 0,_,_=>[]
 | k+1,x,p=>(nb x).flatMap λy=>if some y=p then [] else (x,y)::(Bm nb k y (some x)++[(y,x)])
noncomputable def Ih(nb:Str->List Str):Nat->Str->Option Str->List (Str×Str)
 | 0,_,_=>[]
 | k+1,x,p=>(nb x).flatMap λy=>if some y=p then [] else (x,y)::Ih nb k y (some x)
noncomputable def YE(nb:Str->List Str):Nat->Str->Option Str->Prop
 | 0,x,p=>∀y∈nb x,some y=p
 | k+1,x,p=>∀y∈nb x,some y≠p->YE nb k y (some x)
theorem Nb{K:List Tie}(hF:CM K)(hne:∀t∈K,t.a≠t.b)(hnb:∀x y,y∈nb x->Adj K x y){ps:List Str}(hps:∀x y,y∈nb x->y∈ps):∀(k:Nat) (x:Str) (r:List Str),NB K (x::r)->(∀z∈x::r,z∈ps)->ps.length<=k+(x::r).length->YE nb k x r.head?
 | 0,x,r,h,hin,hl=>λy hy=>bD λc=>by
  have h2:NB K (y::x::r):=⟨(hnb x y hy).symm,λz=>c z.symm,h⟩;have nd:=Gk hF hne h2
  have:(y::x::r).length<=ps.length:=by
   refine nd.length_le_of_subset λz hz=>?_
   rcases XV.mp hz with rfl | hz
   ·exact hps x _ hy
   ·exact hin z hz
  rw [Za] at this;omega
 | k+1,x,r,h,hin,hl=>λy hy c=>Nb hF hne hnb hps k y (x::r) ⟨(hnb x y hy).symm,λz=>c z.symm,h⟩ (λz hz=>by
   rcases XV.mp hz with rfl | hz
   ·exact hps x _ hy
   ·exact hin z hz) (by rw [Za]; omega)
noncomputable def S3(K:List Tie)(x:Str)(r:List Str)(v:Str):Prop:=∃m,NB K (m++r)/\m.head?=some v/\m.getLast?=some x
theorem SY{K:List Tie}{x y v:Str}{r:List Str}(h:S3 K y (x::r) v):S3 K x r v:=by
 obtain⟨m,h1,h2,h3⟩:=h;refine⟨m++[x],by rw [Zg]; exact h1,?_,cQ⟩;cases m with
 | nil=>cases h2
 | cons w m=>exact h2
theorem LM{K:List Tie}(hnb:∀x y,y∈nb x->Adj K x y):∀(k:Nat) (x:Str) (r:List Str),NB K (x::r)->∀e∈Ih nb k x r.head?,Adj K e.1 e.2/\S3 K x r e.1/\S3 K x r e.2
 | 0,_,_,_,_,h=>by cases h
 | k+1,x,r,hx,e,h=>by
  obtain⟨y,hy,h⟩:=Z3.mp h
  by_cases c:some y=r.head?
  ·rw [if_pos c] at h; cases h
  ·rw [if_neg c] at h
   have hyx:NB K (y::x::r):=⟨(hnb x y hy).symm,λz=>c z.symm,hx⟩
   rcases XV.mp h with rfl | h
   ·exact⟨hnb x y hy,⟨[x],hx,rfl,rfl⟩,⟨[y,x],hyx,rfl,rfl⟩⟩
   ·obtain⟨h1,h2,h3⟩:=LM hnb k y (x::r) hyx e h
    exact⟨h1,SY h2,SY h3⟩
theorem Ou{K:List Tie}(hF:CM K)(hne:∀t∈K,t.a≠t.b){x y z v:Str}{r:List Str}(hyz:y≠z)(h1:S3 K y (x::r) v)(h2:S3 K z (x::r) v):False:=by
 obtain⟨m,a1,a2,a3⟩:=h1;obtain⟨l,b1,b2,b3⟩:=h2;have n1:NB K (m++[x]):=NB.left (l:=m++[x]) (m:=r) (by rw [Zg]; exact a1);have n2:NB K (l++[x]):=NB.left (l:=l++[x]) (m:=r) (by rw [Zg]; exact b1);have n3:=n2.rev;rw [List.reverse_append] at n3
 have n4:NB K (m++x::l.reverse):=K6 n1 n3 λa ha=>by
  rw [a3] at ha;cases ha;rw [List.head?_reverse,b3];intro e;cases e;exact hyz rfl
 have nd:=Gk hF hne n4;have v1:v∈m:=dL a2;have v2:v∈l.reverse:=List.mem_reverse.mpr (dL b2);exact(Zh.mp nd).2.2 v v1 v (Sc _ v2) rfl
theorem Iv{K:List Tie}(hF:CM K)(hne:∀t∈K,t.a≠t.b){x y:Str}{r:List Str}(h:S3 K y (x::r) x):False:=by
 obtain⟨m,h1,h2,_⟩:=h;exact(Zh.mp (Gk hF hne h1)).2.2 x (dL h2) x Re rfl
theorem Ig{K:List Tie}(hF:CM K)(hne:∀t∈K,t.a≠t.b)(hnb:∀x y,y∈nb x->Adj K x y)(hnd:∀x,(nb x).Nodup)(T:Str×Str->Tie)(hT:∀x y,Adj K x y->XQ (T (x,y)) x y):∀(k:Nat) (x:Str) (r:List Str),NB K (x::r)->((Ih nb k x r.head?).map T).Nodup
 | 0,_,_,_=>Zp
 | k+1,x,r,hx=>by
  have ends:∀{e f:Str×Str},Adj K e.1 e.2->Adj K f.1 f.2->T e=T f->f.1=e.1\/f.1=e.2:=λ{e f} he hf heq=>by
   have h1:=hT _ _ he;have h2:=hT _ _ hf;rw [show ((e.1,e.2):Str×Str)=e from rfl,heq] at h1;rw [show ((f.1,f.2):Str×Str)=f from rfl] at h2
   rcases h1 with ⟨a,b⟩ | ⟨a,b⟩ <;> rcases h2 with ⟨c,d⟩ | ⟨c,d⟩
   ·exact .inl (c.symm.trans a)
   ·exact .inr (c.symm.trans b)
   ·exact .inr (c.symm.trans b)
   ·exact .inl (c.symm.trans a)
  have main:∀(l:List Str),l.Nodup->(∀y∈l,y∈nb x)->((l.flatMap λy=>if some y=r.head? then [] else (x,y)::Ih nb k y (some x)).map T).Nodup:=by
   intro l
   induction l with
   | nil=>exact λ_ _=>Zp
   | cons y l ih =>
    intro hl hin;obtain⟨hyl,hl⟩:=ZY.mp hl;have ih:=ih hl λz hz=>hin z (Sc _ hz);rw [aL,Z1]
    by_cases c:some y=r.head?
    ·rw [if_pos c]; exact ih
    ·rw [if_neg c]
     have hy:=hin y Re;have hyx:NB K (y::x::r):=⟨(hnb x y hy).symm,λz=>c z.symm,hx⟩;have sub:=Ig hF hne hnb hnd T hT k y (x::r) hyx;have bel:=LM hnb k y (x::r) hyx
     have part:∀e∈(x,y)::Ih nb k y (some x),Adj K e.1 e.2/\S3 K y (x::r) e.2/\(e.1=x\/S3 K y (x::r) e.1):=λe he=>by
      rcases XV.mp he with rfl | he
      ·exact⟨hnb x y hy,⟨[y],hyx,rfl,rfl⟩,.inl rfl⟩
      ·obtain⟨h1,h2,h3⟩:=bel e he
       exact⟨h1,h3,.inr h2⟩
     refine Zh.mpr ⟨ZY.mpr ⟨λz=>?_,sub⟩,ih,λa ha b hb eab=>?_⟩
     ·obtain⟨e,he,eq⟩:=TW.mp z
      obtain⟨h1,h2,h3⟩:=bel e he
      have:=ends (e:=(x,y)) (f:=e) (hnb x y hy) h1 eq.symm
      have h2e:=ends (e:=e) (f:=(x,y)) h1 (hnb x y hy) eq
      rcases h2e with z | z
      ·have z:x=e.1:=z
       rw [← z] at h2;exact Iv hF hne h2
      ·have z:x=e.2:=z
       rw [← z] at h3;exact Iv hF hne h3
     ·subst eab
      obtain⟨e,he,rfl⟩:=TW.mp ha;obtain⟨f,hf,eq⟩:=TW.mp hb;obtain⟨p1,p2,p3⟩:=part e he;obtain⟨z,hz,hf⟩:=Z3.mp hf;have hyz:y≠z:=λq=>hyl (q▸hz)
      by_cases c2:some z=r.head?
      ·rw [if_pos c2] at hf; cases hf
      ·rw [if_neg c2] at hf
       have hz':=hin z (Sc _ hz);have hzx:NB K (z::x::r):=⟨(hnb x z hz').symm,λq=>c2 q.symm,hx⟩
       have q:Adj K f.1 f.2/\S3 K z (x::r) f.2:=by
        rcases XV.mp hf with rfl | hf
        ·exact⟨hnb x z hz',⟨[z],hzx,rfl,rfl⟩⟩
        ·obtain⟨h1,_,h3⟩:=LM hnb k z (x::r) hzx f hf
         exact⟨h1,h3⟩
       have fe:f.2=e.1\/f.2=e.2:=by
        have g1:=hT _ _ p1;have g2:=hT _ _ q.1;rw [show ((f.1,f.2):Str×Str)=f from rfl,eq] at g2;rw [show ((e.1,e.2):Str×Str)=e from rfl] at g1
        rcases g1 with ⟨a,b⟩ | ⟨a,b⟩ <;> rcases g2 with ⟨c,d⟩ | ⟨c,d⟩
        ·exact .inr (d.symm.trans b)
        ·exact .inl (d.symm.trans a)
        ·exact .inl (d.symm.trans a)
        ·exact .inr (d.symm.trans b)
       rcases fe with w | w
       ·rcases p3 with p3 | p3
        ·rw [w,p3] at q
         exact Iv hF hne q.2
        ·rw [w] at q
         exact Ou hF hne hyz p3 q.2
       ·rw [w] at q
        exact Ou hF hne hyz p2 q.2
  exact main (nb x) (hnd x) λ_ z=>z
end
end Nt
set_option maxHeartbeats 4000000
namespace L2
open PySem PySem.Spec PyProof.Rows
open AutoSeq1 (wpAny_loadPart')
section
variable {prog:Program}{w:World}{A:Around}{E:Value->Shared->Prop}{s:Shared}
end
structure Y0 (κ:Bool) (e it a:Ev) (k:Nat) (h:Zk):Prop where
 e:∃old,IsEnum h e it (k:Int) old
 i:ItAt κ h it a k
section
variable {X:Cx}{e1:Expr}{es:List Expr}{j:Nat}{tpos p pos:Pos}{te:TE}
end
end L2
namespace Dp
open PySem PySem.Spec PyProof.Rows L2
section
variable {K:Frag}
end
section
variable {X:Cx}{e1:Expr}{es:List Expr}{j:Nat}{tpos p pos:Pos}{κ:Kd}{wa:DW}
end
section
variable {X:Cx}{κ κe:Kd}{e:Expr}{st:Stmt}{we:DW}{pos p apos cpos:Pos}{x:Str}{i:Nat}
end
end Dp
namespace Nt
open PySem PySem.Spec PyProof.Rows L2 Dp
theorem MG{N:Net}(ok:N.Ok){s x:Str}:∀(k:Nat) (d:Int),d.toNat<=k->Wk N s x d->∃e,Least N s x e/\e<=d
 | k,d,hk,h=>by
  by_cases c:∃d',Wk N s x d'/\d'<d
  ·obtain⟨d',h',lt⟩:=c
   have p':=h'.pos ok
   match k with
   | 0=>omega
   | k+1 =>
    obtain⟨e,he,hle⟩:=MG ok k d' (by omega) h';exact⟨e,he,by omega⟩
  ·exact⟨d,⟨h,λd' h'=>bD λz=>c ⟨d',h',by omega⟩⟩,Z6 _⟩
section
variable {ss:List Slot}{n:Nat}{Pd:D->Nat->Prop}
end
end Nt
set_option maxHeartbeats 400000
namespace Nt
open PySem PySem.Spec PyProof.Rows L2 Dp
noncomputable def CY(N:Net)(x y:Str):Int:=(look N.ts x y).getD 0
theorem CN{N:Net}(ok:N.Ok){x y:Str}{l:Int}(h:Ed N x y l):CY N x y=l:=by
 unfold CY;rw [K8 ok h];rfl
noncomputable def CC(N:Net)(F:B_)(x y:Str):B_:=match F x with
 | some (dx,_)=>match F y with
  | some (dy,_)=>if dx+CY N x y<dy then CA F y (dx+CY N x y,some x) else F
  | none=>CA F y (dx+CY N x y,some x)
 | none=>F
structure Lt (N:Net) (s:Str) (F:B_):Prop where
 start:F s=some (0,none)
 ins:∀x,F x≠none->x∈N.ps
 low:∀x d p,F x=some (d,p)->Wk N s x d
 prev:∀x d p,F x=some (d,p)->(p=none/\x=s)\/∃y dy q l,p=some y/\F y=some (dy,q)/\Ed N y x l/\dy+l<=d
noncomputable def Le34(G F:B_):Prop:=∀x d p,F x=some (d,p)->∃d' p',G x=some (d',p')/\d'<=d
theorem Le34.refl(F:B_):Le34 F F:=λ_ d p h=>⟨d,p,h,Z6 _⟩
theorem Le34.trans{F G H:B_}(h1:Le34 H G)(h2:Le34 G F):Le34 H F:=λx d p h=>by
 obtain⟨d',p',e,l⟩:=h2 x d p h;obtain⟨d2,p2,e2,l2⟩:=h1 x d' p' e;exact⟨d2,p2,e2,e_ l2 l⟩
theorem Qu{N:Net}(ok:N.Ok){s:Str}{F:B_}(h:Lt N s F){x y:Str}{dx l:Int}{q:Option Str}(hx:F x=some (dx,q))(he:Ed N x y l)(hy:∀dy p,F y=some (dy,p)->dx+l<dy):Lt N s (CA F y (dx+l,some x))/\Le34 (CA F y (dx+l,some x)) F:=by
 have hl:1<=l:=by
  obtain⟨t,ht,rfl,_⟩:=he.tie ok;exact(ok.tin t ht).2.2.2.1
 have px:=(h.low x dx q hx).pos ok
 have hs:y≠s:=λe=>by
  have:=hy 0 none (by rw [e]; exact h.start)
  omega
 have at_y:CA F y (dx+l,some x) y=some (dx+l,some x):=if_pos rfl;have at_o:∀z,z≠y->CA F y (dx+l,some x) z=F z:=λz hz=>if_neg hz
 have le:Le34 (CA F y (dx+l,some x)) F:=λz d p hz=>by
  by_cases e:z=y
  ·subst e
   exact⟨_,_,at_y,Int.le_of_lt (hy d p hz)⟩
  ·exact⟨d,p,by rw [at_o z e]; exact hz,Z6 _⟩
 have hxy:x≠y:=λe=>by
  subst e
  have:=hy dx q hx
  omega
 refine⟨⟨by rw [at_o s (aI hs)]; exact h.start,λz hz=>?_,λz d p hz=>?_,λz d p hz=>?_⟩,le⟩
 ·by_cases e:z=y
  ·rw [e]; exact he.ins ok
  ·rw [at_o z e] at hz; exact h.ins z hz
 ·by_cases e:z=y
  ·subst e
   rw [at_y] at hz;cases hz;exact .snoc (h.low x dx q hx) he
  ·rw [at_o z e] at hz; exact h.low z d p hz
 ·by_cases e:z=y
  ·subst e
   rw [at_y] at hz;cases hz;exact .inr ⟨x,dx,q,l,rfl,by rw [at_o x hxy]; exact hx,he,Z6 _⟩
  ·rw [at_o z e] at hz
   rcases h.prev z d p hz with h1 | ⟨w,dw,qw,lw,e1,e2,e3,e4⟩
   ·exact .inl h1
   ·obtain⟨dw',qw',g1,g2⟩:=le w dw qw e2
    exact .inr ⟨w,dw',qw',lw,e1,g1,e3,by omega⟩
theorem Ko{N:Net}(ok:N.Ok){s:Str}{F:B_}(h:Lt N s F){x y:Str}{dx l:Int}{q:Option Str}(hx:F x=some (dx,q))(he:Ed N x y l):Lt N s (CC N F x y)/\Le34 (CC N F x y) F/\∃d p,CC N F x y y=some (d,p)/\d<=dx+l:=by
 have el:=CN ok he;unfold CC;rw [hx]
 dsimp only
 cases ey:F y with
 | none =>
  dsimp only
  rw [el];obtain⟨h1,h2⟩:=Qu ok h hx he (λdy p z=>by rw [ey] at z; cases z);exact⟨h1,h2,_,_,if_pos rfl,Z6 _⟩
 | some dyp =>
  obtain⟨dy,p⟩:=dyp
  dsimp only
  rw [el]
  split
  ·rename_i c
   obtain⟨h1,h2⟩:=Qu ok h hx he (λdy' p' z=>by rw [ey] at z; cases z; exact c);exact⟨h1,h2,_,_,if_pos rfl,Z6 _⟩
  ·rename_i c
   exact⟨h,.refl F,dy,p,ey,by omega⟩
noncomputable def Hz(N:Net):B_->List Str->B_
 | F,x::y::r=>Hz N (CC N F x y) (y::r)
 | F,_=>F
theorem OG{N:Net}(ok:N.Ok){s z:Str}:∀{r:List Str} {x:Str} {F:B_} {e dx:Int} {q:Option Str},Lt N s F->F x=some (dx,q)->walk N (x::r) e->(x::r).getLast?=some z->Lt N s (Hz N F (x::r))/\Le34 (Hz N F (x::r)) F/\∃d p,Hz N F (x::r) z=some (d,p)/\d<=dx+e
 | [],x,F,e,dx,q,h,hx,hw,hl=>by
  have he:e=0:=hw;have hz:x=z:=ZS hl;subst hz;exact⟨h,.refl F,dx,q,hx,by omega⟩
 | y::r,x,F,e,dx,q,h,hx,hw,hl=>by
  obtain⟨l,e',hed,hw',rfl⟩:=hw;obtain⟨h1,h2,d,p,h3,h4⟩:=Ko ok h hx hed;obtain⟨g1,g2,d',p',g3,g4⟩:=OG ok (z:=z) h1 h3 hw' (by rw [fB] at hl; exact hl);exact⟨g1,g2.trans h2,d',p',g3,by omega⟩
end Nt
set_option maxHeartbeats 4000000
namespace L2
open PySem PySem.Spec PyProof.Rows
section
variable {X:Cx}{e1 tg:Expr}{p pos:Pos}{te:TE}
end
end L2
namespace Dp
open PySem PySem.Spec PyProof.Rows L2
section
variable {X:Cx}{e1 tg:Expr}{p pos:Pos}{κ:Kd}{wa:DW}
end
end Dp
namespace Nt
open PySem PySem.Spec PyProof.Rows L2 Dp
section
variable {ss:List Slot}{n:Nat}{Pd:D->Nat->Prop}
end
noncomputable def tj(t:Tie)(x y:Str):Prop:=(t.a=x/\t.b=y)\/(t.b=x/\t.a=y)
inductive Us (K:List Tie) (x:Str):Str->Nat->Prop
 | nil:Us K x x 0
 | snoc {y z:Str} {n:Nat} {t:Tie}:Us K x y n->t∈K->tj t y z->Us K x z (n+1)
noncomputable def firm(N:Net)(t b:Int)(L:List Tie):Prop:=∀pre z post,L=pre++z::post->¬XI (sub N pre) t b z
structure Kept (N:Net) (t b:Int) (L:List Tie):Prop where
 ok:okN N
 firm:firm N t b L
 ins:∀u∈L,u∈N.ts
 up:L.Pairwise λu v=>u.len<=v.len
 b1:1<=b
end Nt
namespace L2
open PySem PySem.Spec PyProof.Rows
section
variable {prog:Program}{w:World}{A:Around}{E:Value->Shared->Prop}{s:Shared}{x y:Str}{t u:Tok}
noncomputable def Qm(x y:Str)(i:Nat):Str:=if i=0 then x else y
theorem OD{i:Nat}{v:FM}(h:(#[bT x t,bT y u]:Array FM)[i]?=some v):∃k,v=.str (Qm x y i) k:=by
 match i with
 | 0=>exact⟨t,(ZS h).symm⟩
 | 1=>exact⟨u,(ZS h).symm⟩
 | i+2=>simp at h
theorem QI:CmpOf prog w A .Lt (λi v=>(#[bT x t,bT y u]:Array FM)[i]?=some v) (λi j=>decide ((Qm x y i).cps.toList<(Qm x y j).cps.toList)):=λi j vi vj s Q E hi hj h=>by
 obtain⟨a,rfl⟩:=OD hi;obtain⟨b,rfl⟩:=OD hj;exact richCompare_gives (op:=.Lt) (cr s _ a) (cr s _ b) PySem.F.slot_str_lt PySem.F.entry_str_lt (PySem.F.args_str_lt_2 _ _) (gives_str_lt _ _ a b) (λe=>nomatch e) h
theorem QJ:CmpOf prog w A .Gt (λi v=>(#[bT x t,bT y u]:Array FM)[i]?=some v) (λi j=>decide ((Qm x y j).cps.toList<(Qm x y i).cps.toList)):=λi j vi vj s Q E hi hj h=>by
 obtain⟨a,rfl⟩:=OD hi;obtain⟨b,rfl⟩:=OD hj;exact richCompare_gives (op:=.Gt) (cr s _ a) (cr s _ b) PySem.F.slot_str_gt PySem.F.entry_str_gt (PySem.F.args_str_gt_2 _ _) (gives_str_gt _ _ a b) (λe=>nomatch e) h
theorem Qn{n c:Nat}(h:c∈[n+1,n]):c<n+1+1:=by
 simp only [XV,Zf,or_false] at h;omega
theorem Li{bt:Nat->Nat->Bool}{v:FM}(h:(#[bT x t,bT y u]:Array FM)[argBest bt 1]?=some v):v=if bt 1 0=true then .str y u else .str x t:=by
 have e:argBest bt 1=if bt 1 0=true then 1 else 0:=rfl
 rw [e] at h;cases c:bt 1 0 with
 | true=>rw [c] at h; exact(ZS h).symm
 | false=>rw [c] at h; exact(ZS h).symm
theorem Po{Q:FM->Rs->Prop}(hh:A.handled=none)(h:∀h' tk,(∀c o,s.heap.get? c=some o->h'.get? c=some o)->Q (if decide (y.cps.toList<x.cps.toList)=true then .str y u else .str x t) { s with heap:=h',toks:=tk }) :
  wpAny (model prog w) A (call (.builtin "min") [.str x t,.str y u]) Q E s:=by
 have hT:(s.heap.push { cls:=.type "tuple",data:=.seq #[.str x t,.str y u] }).IsTuple s.heap.objs.size #[.str x t,.str y u]:=⟨_,Uf _ rfl,rfl,0,rfl⟩;refine call_min_two (ah hT ?_);have z1:(s.heap.push { cls:=.type "tuple",data:=.seq #[.str x t,.str y u] }).objs.size=s.heap.objs.size+1:=aX ..;refine⟨_,[_,s.heap.objs.size],[_],_,_,_,_,rfl,Walks.tuple (A:=A.in1) hh _ s.heap.objs.size (by rw [z1]; exact Zo (cL _)) #[.str x t,.str y u],⟨⟨_,Uf _ rfl,rfl,rfl⟩,hT.push _⟩,λc hc=>?_,by simp,QI,λv h' tk hP k=>?_⟩
 ·rw [aX,z1]; rw [z1] at hc; exact Qn hc
 ·rw [Li hP]
  refine h h' tk λc o e=>k c o (λm=>?_) (Op _ (Op _ e));have l:=ZU e;rw [Go.mp m,z1] at l;exact absurd l (cx.mpr (a_ _))
theorem Pq{Q:FM->Rs->Prop}(hh:A.handled=none)(h:∀h' tk,(∀c o,s.heap.get? c=some o->h'.get? c=some o)->Q (if decide (x.cps.toList<y.cps.toList)=true then .str y u else .str x t) { s with heap:=h',toks:=tk }) :
  wpAny (model prog w) A (call (.builtin "max") [.str x t,.str y u]) Q E s:=by
 have hT:(s.heap.push { cls:=.type "tuple",data:=.seq #[.str x t,.str y u] }).IsTuple s.heap.objs.size #[.str x t,.str y u]:=⟨_,Uf _ rfl,rfl,0,rfl⟩;refine call_max_two (ah hT ?_);have z1:(s.heap.push { cls:=.type "tuple",data:=.seq #[.str x t,.str y u] }).objs.size=s.heap.objs.size+1:=aX ..;refine⟨_,[_,s.heap.objs.size],[_],_,_,_,_,rfl,Walks.tuple (A:=A.in1) hh _ s.heap.objs.size (by rw [z1]; exact Zo (cL _)) #[.str x t,.str y u],⟨⟨_,Uf _ rfl,rfl,rfl⟩,hT.push _⟩,λc hc=>?_,by simp,QJ,λv h' tk hP k=>?_⟩
 ·rw [aX,z1]; rw [z1] at hc; exact Qn hc
 ·rw [Li hP]
  refine h h' tk λc o e=>k c o (λm=>?_) (Op _ (Op _ e));have l:=ZU e;rw [Go.mp m,z1] at l;exact absurd l (cx.mpr (a_ _))
end
section
variable {X:Cx}
noncomputable def Ub:List V->Hp->VK->Prop:=λxs H Q=>∃x y:Str,xs=[.str x,.str y]/\Q (.str (if decide (y.cps.toList<x.cps.toList)=true then y else x)) H
noncomputable def Ud:List V->Hp->VK->Prop:=λxs H Q=>∃x y:Str,xs=[.str x,.str y]/\Q (.str (if decide (x.cps.toList<y.cps.toList)=true then y else x)) H
theorem QK(hc:X.calm=true):By X (.builtin "min") Ub:=by
 intro pins s σ H xs us Q I r h;obtain⟨x,y,rfl,q⟩:=h;obtain⟨u,w',rfl,⟨t,rfl⟩,⟨t',rfl⟩⟩:=vals2 r;refine Po (I.ok.hd hc) λh' tk k=>⟨_,H,I.kept k,?_,q⟩;cases decide (y.cps.toList<x.cps.toList) <;> exact⟨_,rfl⟩
theorem QM(hc:X.calm=true):By X (.builtin "max") Ud:=by
 intro pins s σ H xs us Q I r h;obtain⟨x,y,rfl,q⟩:=h;obtain⟨u,w',rfl,⟨t,rfl⟩,⟨t',rfl⟩⟩:=vals2 r;refine Pq (I.ok.hd hc) λh' tk k=>⟨_,H,I.kept k,?_,q⟩;cases decide (x.cps.toList<y.cps.toList) <;> exact⟨_,rfl⟩
end
end L2
namespace Dp
open PySem PySem.Spec PyProof.Rows L2
section
variable {K:Frag}
noncomputable def R6(ds:List D)(P:D->Prop):Prop:=∃x y:Str,ds=[.str x,.str y]/\P (.str (if decide (y.cps.toList<x.cps.toList)=true then y else x))
noncomputable def R7(ds:List D)(P:D->Prop):Prop:=∃x y:Str,ds=[.str x,.str y]/\P (.str (if decide (x.cps.toList<y.cps.toList)=true then y else x))
theorem Lh{U M:Ev->Prop}{H:Hp}{x y:Str}{vs:List V}(hp:Paired (λv d=>AtT K U M H d v) vs [.str x,.str y]):vs=[.str x,.str y]/\x.length<=sizeLine/\y.length<=sizeLine:=by
 cases hp with
 | cons r1 r2=>cases r2 with
  | cons r3 r4 =>
   cases r4;obtain⟨rfl,l1⟩:=r1.str;obtain⟨rfl,l2⟩:=r3.str;exact⟨rfl,l1,l2⟩
theorem WG:CS K .sh Ub R6:=by
 intro U M H ds vs P Q dom vM hp w q;obtain⟨x,y,rfl,w⟩:=w;obtain⟨e,l1,l2⟩:=Lh hp;exact⟨x,y,e,q _ H (.str _) .refl ⟨rfl,by split <;> assumption⟩ w⟩
theorem WI:CS K .sh Ud R7:=by
 intro U M H ds vs P Q dom vM hp w q;obtain⟨x,y,rfl,w⟩:=w;obtain⟨e,l1,l2⟩:=Lh hp;exact⟨x,y,e,q _ H (.str _) .refl ⟨rfl,by split <;> assumption⟩ w⟩
end
end Dp
namespace L2
open PySem PySem.Spec PyProof.Rows PySem.W
section
variable {prog:Program}{w:World}{A:Around}{E:Value->Shared->Prop}{I:Addr}{fp wr:List Addr}{N:Nat}{P:Nat->Value->Prop}{St:Nat->Heap->Prop}
end
section
variable {X:Cx}{pos:Pos}
end
end L2
namespace Dp
open PySem PySem.Spec PyProof.Rows L2
section
variable {X:Cx}{es:List Expr}{pos:Pos}
end
section
variable {X:Cx}{κ κe:Kd}{tg tg2 iter e:Expr}{sc:Scope}{pos cp p apos cpos:Pos}{x:Str}{src:Er}{b:BW}{we:DW}{i f:Nat}
end
end Dp
namespace Nt
open PySem PySem.Spec PyProof.Rows L2 Dp
section
variable {ss:List Slot}{n:Nat}{Pd:D->Nat->Prop}
end
end Nt
set_option maxHeartbeats 400000
namespace Nt
open PySem PySem.Spec PyProof.Rows L2 Dp
theorem Vm{ps:List Str}(h:rising ps):ps.Nodup:=List.Pairwise.imp (λ{a b} z e=>by rw [e] at z; exact Bl _ z) h
noncomputable def Nz(K:List Tie)(x y:Str):Bool:=@decide (Adj K x y) (bz _)
theorem adjB_iff{K:List Tie}{x y:Str}:Nz K x y=true↔Adj K x y:=by
 unfold Nz;exact @decide_eq_true_iff _ (bz _)
noncomputable def QV(N:Net)(K:List Tie)(F:B_)(x:Str):Int:=match F x with
 | some (_,some y)=>if Nz K y x=true then 0 else CY N y x
 | _=>0
noncomputable def DC(N:Net)(K:List Tie)(F:B_):Int:=(N.ps.map (QV N K F)).sum
theorem MF{N:Net}(ok:N.Ok)(x y:Str):0<=CY N x y:=by
 unfold CY;cases e:look N.ts x y with
 | none=>exact Z6 _
 | some l=>have:=(RZ ok e).2.1; show 0<=l; omega
theorem U9{N:Net}(ok:N.Ok)(K:List Tie)(F:B_)(x:Str):0<=QV N K F x:=by
 unfold QV
 split
 ·split
  ·exact Z6 _
  ·exact MF ok _ _
 ·exact Z6 _
theorem Kf{f g:Str->Int}{y:Str}{c:Int}(hc:0<=c):∀{ps:List Str},ps.Nodup->(∀x∈ps,x≠y->f x=g x)->f y<=g y+c->(ps.map f).sum<=(ps.map g).sum+c
 | [],_,_,_=>by show (0:Int)<=0+c; omega
 | x::ps,nd,h,hy=>by
  obtain⟨n1,n2⟩:=ZY.mp nd;rw [ZX,ZX,ao,ao]
  by_cases e:x=y
  ·subst e
   have:ps.map f=ps.map g:=bv λz hz=>h z (Sc _ hz) λq=>n1 (q▸hz)
   rw [this];omega
  ·have ih:=Kf hc n2 (λz hz=>h z (Sc _ hz)) hy
   rw [h x Re e];omega
theorem OH{N:Net}(ok:N.Ok){K:List Tie}{F:B_}{x y:Str}{l:Int}(he:Ed N x y l):DC N K (CC N F x y)<=DC N K F+l/\(Adj K x y->DC N K (CC N F x y)<=DC N K F):=by
 have el:=CN ok he;have hl:=(he.pos ok).1;have nd:=Vm ok.rise
 have set:∀d,DC N K (CA F y (d,some x))<=DC N K F+l/\(Adj K x y->DC N K (CA F y (d,some x))<=DC N K F):=λd=>by
  have wy:QV N K (CA F y (d,some x)) y=if Nz K x y=true then 0 else l:=by
   unfold QV;rw [BA]
   dsimp only
   rw [el]
  have wo:∀z,z≠y->QV N K (CA F y (d,some x)) z=QV N K F z:=λz hz=>by
   unfold QV;rw [A6 hz]
  have p:=U9 ok K F y;refine⟨Kf (by omega) nd (λz _ hz=>wo z hz) (by rw [wy]; split <;> omega),λha=>?_⟩
  have:=Kf (c:=0) (Z6 _) nd (λz _ hz=>wo z hz) (by rw [wy,if_pos (adjB_iff.mpr ha)]; omega)
  unfold DC;omega
 have keep:DC N K F<=DC N K F+l/\(Adj K x y->DC N K F<=DC N K F):=⟨by omega,λ_=>Z6 _⟩;unfold CC
 split
 ·split
  ·split
   ·exact set _
   ·exact keep
  ·exact set _
 ·exact keep
theorem OF{N:Net}(ok:N.Ok){K:List Tie}:∀{r:List Str} {x:Str} {F:B_} {e:Int},walk N (x::r) e->DC N K (Hz N F (x::r))<=DC N K F+e
 | [],x,F,e,hw=>by
  have he:e=0:=hw;show DC N K F<=_;omega
 | y::r,x,F,e,hw=>by
  obtain⟨l,e',hed,hw',rfl⟩:=hw;have h1:=(OH ok (K:=K) (F:=F) hed).1;have h2:=OF ok (K:=K) (F:=CC N F x y) hw';show DC N K (Hz N (CC N F x y) (y::r))<=_;omega
noncomputable def C7(N:Net)(L:List (Str×Str)):Int:=(L.map λe=>CY N e.1 e.2).sum
theorem Fh(N:Net)(A B:List (Str×Str)):C7 N (A++B)=C7 N A+C7 N B:=by
 unfold C7;rw [Z1,List.sum_append]
structure Pot (N:Net) (K:List Tie) (s:Str) (t b:Int) (pre:List (Str×Str)) (c:Str) (F:B_):Prop where
 lt:Lt N s F
 pot:∃(S dc:Int) (q:Option Str),0<=S/\DC N K F<=S/\F c=some (dc,q)/\(t - b)*S+b*dc<=b*C7 N pre
 vis:∀v,(v=s\/∃e∈pre,e.2=v)->∃d q m,F v=some (d,q)/\Least N s v m/\d*b<=m*t
theorem Fe{N:Net}{s:Str}{t b:Int}(hb:0<=b){F G:B_}(h:Le34 G F){v:Str}(hv:∃d q m,F v=some (d,q)/\Least N s v m/\d*b<=m*t):∃d q m,G v=some (d,q)/\Least N s v m/\d*b<=m*t:=by
 obtain⟨d,q,m,h1,h2,h3⟩:=hv;obtain⟨d',q',g1,g2⟩:=h v d q h1;exact⟨d',q',m,g1,h2,e_ (bG g2 hb) h3⟩
theorem Pot.step{N:Net}(ok:N.Ok){K:List Tie}{s:Str}{t b:Int}(hb:1<=b)(hbt:b<=t){pre:List (Str×Str)}{c y:Str}{F:B_}(h:Pot N K s t b pre c F){l:Int}(he:Ed N c y l)(ha:Adj K c y) :
  ∃d q m,CC N F c y y=some (d,q)/\Least N s y m/\Lt N s (CC N F c y)/\(d*b<=m*t->Pot N K s t b (pre++[(c,y)]) y (CC N F c y)) /\
  (¬d*b<=m*t->∀w,Way N s y (some w)->Pot N K s t b (pre++[(c,y)]) y (Hz N (CC N F c y) w)):=by
 obtain⟨S,dc,q,S0,hS,hc,hp⟩:=h.pot;obtain⟨h1,h2,d,p,h3,h4⟩:=Ko ok h.lt hc he;obtain⟨m,hm,_⟩:=MG ok _ d (Tk _) (h1.low y d p h3);have nT:=(OH ok (K:=K) (F:=F) he).2 ha
 have el:C7 N (pre++[(c,y)])=C7 N pre+l:=by
  rw [Fh];show C7 N pre+(CY N c y+0)=_;rw [CN ok he,Int.add_zero]
 have e1:b*d<=b*dc+b*l:=by
  have:=ag h4 (show 0<=b by omega)
  rw [d8] at this;exact this
 refine⟨d,p,m,h3,hm,h1,λc1=>⟨h1,⟨S,d,p,S0,by omega,h3,by rw [el,d8]; omega⟩,λv hv=>?_⟩,λc1 w hw=>?_⟩
 ·rcases hv with rfl | ⟨e,he',rfl⟩
  ·exact Fe (by omega) h2 (h.vis _ (.inl rfl))
  ·rcases Zb.mp he' with z | z
   ·exact Fe (by omega) h2 (h.vis _ (.inr ⟨e,z,rfl⟩))
   ·rw [Go.mp z]; exact⟨d,p,m,h3,hm,c1⟩
 ·obtain⟨m',r,rfl,w1,w2,w3,_,_⟩:=hw
  have em:m'=m:=w3.unique hm;subst em;obtain⟨g1,g2,d',p',g3,g4⟩:=OG ok (z:=y) h1 h1.start w2 w1;have ge:m'<=d':=hm.2 d' (g1.low y d' p' g3);have ed:d'=m':=by omega
  subst ed;have wt:=OF ok (K:=K) (F:=CC N F c y) w2;have c2:d'*t<d*b:=by omega
  have m0:0<=d':=hm.1.pos ok;refine⟨g1,⟨S+d',d',p',by omega,by omega,g3,?_⟩,λv hv=>?_⟩
  ·rw [el,d8,d8,Int.sub_mul t b d']
   have e2:b*d'=d'*b:=cm _ _;have e3:t*d'=d'*t:=cm _ _;have e4:b*d=d*b:=cm _ _;omega
  ·rcases hv with rfl | ⟨e,he',rfl⟩
   ·exact Fe (by omega) (g2.trans h2) (h.vis _ (.inl rfl))
   ·rcases Zb.mp he' with z | z
    ·exact Fe (by omega) (g2.trans h2) (h.vis _ (.inr ⟨e,z,rfl⟩))
    ·rw [Go.mp z]
     exact⟨d',p',d',g3,hm,ag hbt m0⟩
noncomputable def Seq:Str->List (Str×Str)->Str->Prop
 | c,[],z=>c=z
 | c,e::L,z=>e.1=c/\Seq e.2 L z
theorem Seq.app:∀{A B:List (Str×Str)} {a b c:Str},Seq a A b->Seq b B c->Seq a (A++B) c
 | [],_,_,_,_,h1,h2=>by rw [show _=_ from h1]; exact h2
 | _::_,_,_,_,_,h1,h2=>⟨h1.1,Seq.app h1.2 h2⟩
section
variable {nb:Str->List Str}
theorem Hc:∀(k:Nat) (x:Str) (p:Option Str),Seq x (Bm nb k x p) x
 | 0,_,_=>rfl
 | k+1,x,p=>by
  unfold Bm
  induction nb x with
  | nil=>rfl
  | cons y l ih =>
   rw [aL];refine Seq.app ?_ ih
   split
   ·rfl
   ·exact⟨rfl,(Hc k y (some x)).app ⟨rfl,rfl⟩⟩
theorem He{K:List Tie}(hnb:∀x y,y∈nb x->Adj K x y):∀(k:Nat) (x:Str) (p:Option Str),∀e∈Bm nb k x p,Adj K e.1 e.2
 | 0,_,_,_,h=>by cases h
 | k+1,x,p,e,h=>by
  obtain⟨y,hy,h⟩:=Z3.mp h
  split at h
  ·cases h
  ·rcases XV.mp h with rfl | h
   ·exact hnb x y hy
   ·rcases Zb.mp h with h | h
    ·exact He hnb k y _ e h
    ·rw [Go.mp h]; exact(hnb x y hy).symm
theorem LL:∀(k:Nat) (x:Str) (p:Option Str),∀e∈Ih nb k x p,e∈Bm nb k x p
 | 0,_,_,_,h=>by cases h
 | k+1,x,p,e,h=>by
  obtain⟨y,hy,h⟩:=Z3.mp h;refine Z3.mpr ⟨y,hy,?_⟩
  split at h
  ·cases h
  ·rename_i c
   rw [if_neg c]
   rcases XV.mp h with rfl | h
   ·exact Re
   ·exact Sc _ (Zt _ (LL k y _ e h))
theorem Lb{N:Net}(hs:∀x y,y∈nb x->CY N y x=CY N x y):∀(k:Nat) (x:Str) (p:Option Str),C7 N (Bm nb k x p)=2*C7 N (Ih nb k x p)
 | 0,_,_=>rfl
 | k+1,x,p=>by
  have main:∀l:List Str,(∀y∈l,y∈nb x)->C7 N (l.flatMap λy=>if some y=p then [] else (x,y)::(Bm nb k y (some x)++[(y,x)]))=2*C7 N (l.flatMap λy=>if some y=p then [] else (x,y)::Ih nb k y (some x)):=by
   intro l
   induction l with
   | nil=>exact λ_=>rfl
   | cons y l ih =>
    intro hin;rw [aL,aL,Fh,Fh,ih λz hz=>hin z (Sc _ hz)]
    split
    ·show (0:Int)+_=2*(0+_); omega
    ·have e1:C7 N ((x,y)::(Bm nb k y (some x)++[(y,x)]))=CY N x y+(C7 N (Bm nb k y (some x))+(CY N y x+0)):=by
      show CY N x y+C7 N (Bm nb k y (some x)++[(y,x)])=_;rw [Fh];rfl
     have e2:C7 N ((x,y)::Ih nb k y (some x))=CY N x y+C7 N (Ih nb k y (some x)):=rfl;rw [e1,e2,Lb hs k y (some x),hs x y (hin y Re)];omega
  exact main (nb x) λ_ z=>z
theorem Uu:∀(k:Nat) (x:Str) (p:Option Str),YE nb k x p->∀v,(v=x\/∃e∈Ih nb (k+1) x p,e.2=v)->∀w∈nb v,(w=x\/∃e∈Ih nb (k+1) x p,e.2=w)\/(v=x/\some w=p)
 | 0,x,p,hl,v,hv,w,hw=>by
  have none:∀e∈Ih nb 1 x p,False:=λe he=>by
   obtain⟨y,hy,h⟩:=Z3.mp he;rw [if_pos (hl y hy)] at h;cases h
  rcases hv with rfl | ⟨e,he,_⟩
  ·exact .inr ⟨rfl,hl w hw⟩
  ·exact(none e he).elim
 | k+1,x,p,hl,v,hv,w,hw=>by
  have child:∀y∈nb x,some y≠p->∀z,(z=y\/∃e∈Ih nb (k+1) y (some x),e.2=z)->∃e∈Ih nb (k+2) x p,e.2=z:=λy hy c z hz=>by
   rcases hz with rfl | ⟨e,he,rfl⟩
   ·exact⟨(x,z),Z3.mpr ⟨z,hy,by rw [if_neg c]; exact Re⟩,rfl⟩
   ·exact⟨e,Z3.mpr ⟨y,hy,by rw [if_neg c]; exact Sc _ he⟩,rfl⟩
  rcases hv with rfl | ⟨e,he,rfl⟩
  ·by_cases c:some w=p
   ·exact .inr ⟨rfl,c⟩
   ·exact .inl (.inr (child w hw c w (.inl rfl)))
  ·obtain⟨y,hy,h⟩:=Z3.mp he
   by_cases c:some y=p
   ·rw [if_pos c] at h; cases h
   ·rw [if_neg c] at h
    have hv:e.2=y\/∃f∈Ih nb (k+1) y (some x),f.2=e.2:=by
     rcases XV.mp h with rfl | h
     ·exact .inl rfl
     ·exact .inr ⟨e,h,rfl⟩
    rcases Uu k y (some x) (hl y hy c) e.2 hv w hw with z | ⟨z1,z2⟩
    ·exact .inl (.inr (child y hy c w z))
    ·exact .inl (.inl (ZS z2))
theorem SU{K:List Tie}(hnb:∀x y,Adj K x y->y∈nb x){k:Nat}{s:Str}(hl:YE nb k s none){v:Str}(h:Cn K s v):v=s\/∃e∈Ih nb (k+1) s none,e.2=v:=by
 induction h with
 | refl=>exact .inl rfl
 | step _ e ih =>
  rcases Uu k s none hl _ ih _ (hnb _ _ e) with z | ⟨_,z⟩
  ·exact z
  ·cases z
end
theorem M7:∀{m:List Tie},(∀t∈m,0<=t.len)->0<=D_ m
 | [],_=>Z6 _
 | u::m,h=>by
  have h1:=M7 λt ht=>h t (Sc _ ht);have h2:=h u Re;show 0<=u.len+D_ m;omega
theorem Jo:∀l:List Str,(l.map λ_=>(0:Int)).sum=0
 | []=>rfl
 | x::l=>by rw [ZX,ao,Jo l]; rfl
theorem Es:∀{l m:List Tie},l.Nodup->(∀t∈l,t∈m)->(∀t∈m,0<=t.len)->D_ l<=D_ m
 | [],m,_,_,h=>M7 h
 | u::l,m,nd,hin,h=>by
  obtain⟨n1,n2⟩:=ZY.mp nd;have hu:=hin u Re;have hp:=List.perm_cons_erase hu
  have ih:=Es n2 (m:=m.erase u) (λt ht=>by
   have:=hp.subset (hin t (Sc _ ht))
   exact(XV.mp this).resolve_left λe=>n1 (e▸ht)) λt ht=>h t (fP ht)
  rw [Ho hp];show u.len+D_ l<=u.len+D_ (m.erase u);omega
theorem EQ:∀(rest:List Tie) {kept:List Tie},(∀t∈kept,t∈Bp kept rest)/\∀u∈rest,Cn (Bp kept rest) u.a u.b
 | [],_=>⟨λ_ h=>h,λ_ h=>by cases h⟩
 | v::rest,kept=>by
  rw [Cd]
  split
  ·rename_i c
   obtain⟨h1,h2⟩:=EQ rest (kept:=kept);refine⟨h1,λu hu=>?_⟩
   rcases XV.mp hu with rfl | hu
   ·exact(cnB_iff.mp c).mono h1
   ·exact h2 u hu
  ·obtain⟨h1,h2⟩:=EQ rest (kept:=kept++[v])
   refine⟨λt ht=>h1 t (Zt _ ht),λu hu=>?_⟩
   rcases XV.mp hu with rfl | hu
   ·exact(Cn.tie (h1 _ (ZW _ (Go.mpr rfl)))).1
   ·exact h2 u hu
theorem Pot.begin{N:Net}(ok:N.Ok){K:List Tie}{s:Str}(hs:s∈N.ps){t b:Int}(hb:0<=b)(hbt:b<=t):Pot N K s t b [] s (λx=>if x=s then some (0,none) else none):=by
 have at_s:(λx=>if x=s then some ((0:Int),(none:Option Str)) else none) s=some (0,none):=if_pos rfl
 have only:∀x d p,(λx=>if x=s then some ((0:Int),(none:Option Str)) else none) x=some (d,p)->x=s/\d=0/\p=none:=λx d p h=>by
  by_cases e:x=s
  ·have h:(if x=s then some ((0:Int),(none:Option Str)) else none)=some (d,p):=h
   rw [if_pos e] at h; cases h; exact⟨e,rfl,rfl⟩
  ·have h:(if x=s then some ((0:Int),(none:Option Str)) else none)=some (d,p):=h
   rw [if_neg e] at h; cases h
 refine⟨⟨at_s,λx hx=>?_,λx d p h=>?_,λx d p h=>.inl ⟨(only x d p h).2.2,(only x d p h).1⟩⟩,⟨0,0,none,Z6 _,?_,at_s,?_⟩,λv hv=>?_⟩
 ·by_cases e:x=s
  ·rw [e]; exact hs
  ·exact absurd (if_neg e) hx
 ·obtain⟨rfl,rfl,_⟩:=only x d p h
  exact .nil
 ·have:∀x∈N.ps,QV N K (λx=>if x=s then some ((0:Int),(none:Option Str)) else none) x=0:=λx _=>by
   unfold QV
   split
   ·rename_i e
    obtain⟨_,_,z⟩:=only _ _ _ e;cases z
   ·rfl
  unfold DC;rw [bv this,Jo];exact Z6 _
 ·show (t - b)*0+b*0<=b*0
  rw [Int.mul_zero,Int.mul_zero];exact Z6 _
 ·rcases hv with rfl | ⟨e,he,_⟩
  ·exact⟨0,none,0,at_s,⟨.nil,λd hd=>hd.pos ok⟩,by rw [Int.zero_mul,Int.zero_mul]; exact Z6 _⟩
  ·cases he
noncomputable def HP(N:Net)(e:Str×Str):Tie:=if cs e.1<cs e.2 then ⟨e.1,e.2,CY N e.1 e.2⟩ else ⟨e.2,e.1,CY N e.1 e.2⟩
theorem IQ{N:Net}(ok:N.Ok){t:Tie}(ht:t∈N.ts){x y:Str}(h:(t.a=x/\t.b=y)\/(t.b=x/\t.a=y)):HP N (x,y)=t:=by
 have hlt:=(ok.tin t ht).2.2.1;obtain⟨d1,d2⟩:=B8 ht
 rcases h with ⟨rfl,rfl⟩ | ⟨rfl,rfl⟩
 ·unfold HP
  rw [if_pos hlt,CN ok d1]
 ·unfold HP
  rw [if_neg λz=>aK _ (b7 z hlt),CN ok d2]
theorem Jv{N:Net}(ok:N.Ok){K:List Tie}(hK:∀t∈K,t∈N.ts){x y:Str}(h:Adj K x y):HP N (x,y)∈K/\XQ (HP N (x,y)) x y:=by
 obtain⟨t,ht,h⟩:=h;rw [IQ ok (hK t ht) h];exact⟨ht,h⟩
theorem SF{N:Net}(ok:N.Ok){x y:Str}{l:Int}(h:Ed N x y l):Adj N.ts x y:=by
 obtain⟨t,ht,_,e⟩:=h.tie ok;exact⟨t,ht,e⟩
theorem Si{N:Net}{x y:Str}(h:Adj N.ts x y):∃l,Ed N x y l:=by
 obtain⟨t,ht,⟨rfl,rfl⟩ | ⟨rfl,rfl⟩⟩:=h
 ·exact⟨_,(B8 ht).1⟩
 ·exact⟨_,(B8 ht).2⟩
theorem K7(N:Net)(e:Str×Str):(HP N e).len=CY N e.1 e.2:=by
 unfold HP
 split <;> rfl
noncomputable def QW(N:Net)(F:B_)(c:Str->Str->Bool)(l:List Str):List Tie:=l.filterMap λx=>match F x with
 | some (_,some y)=>if c y x=true then some (HP N (y,x)) else none
 | _=>none
theorem Hl{N:Net}{F:B_}{c:Str->Str->Bool}{l:List Str}{t:Tie}(h:t∈QW N F c l):∃x d y,x∈l/\F x=some (d,some y)/\c y x=true/\t=HP N (y,x):=by
 obtain⟨x,hx,e⟩:=b8.mp h
 split at e
 ·rename_i d y ey
  split at e
  ·rename_i hc
   exact⟨x,d,y,hx,ey,hc,(ZS e).symm⟩
  ·cases e
 ·cases e
theorem Mw(N:Net)(F:B_)(c:Str->Str->Bool):∀l:List Str,D_ (QW N F c l)=(l.map λx=>match F x with | some (_,some y)=>if c y x=true then CY N y x else 0 | _=>0).sum
 | []=>rfl
 | x::l=>by
  have ih:=Mw N F c l;unfold QW at ih ⊢;rw [bu,ZX,ao];cases e:F x with
  | none=>dsimp only; rw [ih]; omega
  | some dp =>
   obtain⟨d,p⟩:=dp;cases p with
   | none=>dsimp only; rw [ih]; omega
   | some y =>
    dsimp only
    by_cases hc:c y x=true
    ·rw [if_pos hc,if_pos hc]
     dsimp only
     show (HP N (y,x)).len+D_ _=_;rw [K7,ih]
    ·rw [if_neg hc,if_neg hc]
     dsimp only
     rw [ih]; omega
theorem Qk{N:Net}(ok:N.Ok){s:Str}{F:B_}(h:Lt N s F){x x' y y':Str}{d d':Int}(h1:F x=some (d,some y))(h2:F x'=some (d',some y'))(e:HP N (y,x)=HP N (y',x')):x=x':=by
 rcases h.prev x d _ h1 with ⟨z,_⟩ | ⟨w,dw,q,l,ew,ey,hed,hle⟩
 ·cases z
 cases ew
 rcases h.prev x' d' _ h2 with ⟨z,_⟩ | ⟨w,dw',q',l',ew,ey',hed',hle'⟩
 ·cases z
 cases ew;have u1:=(Jv ok (λ_ z=>z) (SF ok hed)).2;have u2:=(Jv ok (λ_ z=>z) (SF ok hed')).2;rw [← e] at u2;have p1:=(hed.pos ok).1;have p2:=(hed'.pos ok).1
 have cross:x'=y->y'=x->x=x':=λa b=>by
  subst a b;rw [h2] at ey;rw [h1] at ey';cases ey;cases ey';omega
 rcases u1 with ⟨a1,a2⟩ | ⟨a1,a2⟩ <;> rcases u2 with ⟨b1,b2⟩ | ⟨b1,b2⟩
 ·exact a2.symm.trans b2
 ·exact cross (b2.symm.trans a1) (b1.symm.trans a2)
 ·exact cross (b2.symm.trans a1) (b1.symm.trans a2)
 ·exact a2.symm.trans b2
theorem Fg{N:Net}(ok:N.Ok){s:Str}{F:B_}(h:Lt N s F)(c:Str->Str->Bool):∀{l:List Str},l.Nodup->(QW N F c l).Nodup
 | [],_=>Zp
 | x::l,nd=>by
  obtain⟨n1,n2⟩:=ZY.mp nd;have ih:=Fg ok h c n2;unfold QW;rw [bu]
  split
  ·exact ih
  ·rename_i t e
   refine ZY.mpr ⟨λz=>?_,ih⟩;obtain⟨x',d',y',hx',e1,_,e2⟩:=Hl (N:=N) (F:=F) (c:=c) z
   split at e
   ·rename_i d y ey
    split at e
    ·have e:=ZS e
     rw [e2] at e;exact n1 (Qk ok h ey e1 e▸hx')
    ·cases e
   ·cases e
theorem seq_cn{K:List Tie}:∀{L:List (Str×Str)} {c z:Str},Seq c L z->(∀e∈L,Adj K e.1 e.2)->∀e∈L,Cn K c e.1
 | [],_,_,_,_,_,h=>by cases h
 | f::L,c,z,h,ha,e,he=>by
  have hc:f.1=c:=h.1
  rcases XV.mp he with rfl | he
  ·rw [hc]; exact .refl
  ·have:=(ha f Re).cn
   rw [hc] at this;exact this.trans (seq_cn h.2 (λg hg=>ha g (Sc _ hg)) e he)
noncomputable def CU(N:Net)(K:List Tie)(s:Str):List Tie:=K.filter λu=>SW N.ts s u.a
theorem XN{N:Net}(ok:N.Ok){K:List Tie}(hK:∀t∈K,t∈N.ts)(nK:K.Nodup)(hF:CM K){nb:Str->List Str}(hnb:∀x y,y∈nb x↔Adj K x y)(hnd:∀x,(nb x).Nodup){s:Str}{t b:Int}(hb:1<=b)(hbt:b<=t){k:Nat}{F:B_}(h:Pot N K s t b (Bm nb k s none) s F){T:List Tie}(nT:T.Nodup)(hT:∀u∈T,∃x d y,F x=some (d,some y)/\u=HP N (y,x)):D_ T*(t - b)<=(t+b)*D_ (CU N K s):=by
 have nd:=Vm ok.rise;have lenN:∀u∈N.ts,0<=u.len:=λu hu=>by have:=(ok.tin u hu).2.2.2.1; omega
 have hne:∀u∈K,u.a≠u.b:=λu hu e=>by
  have:=(ok.tin u (hK u hu)).2.2.1
  rw [e] at this;exact aK _ this
 obtain⟨S,dc,q,S0,hS,hc,hp⟩:=h.pot;have dc0:=(h.lt.low s dc q hc).pos ok;have cnx:∀x d p,F x=some (d,p)->Cn N.ts s x:=λx d p e=>(h.lt.low x d p e).cn ok
 have inC:∀{x y:Str},Adj K x y->Cn N.ts s x->HP N (x,y)∈CU N K s:=λ{x y} ha hx=>by
  obtain⟨m1,m2⟩:=Jv ok hK ha;have hxy:Cn N.ts s y:=hx.trans ((ha.cn).mono hK);refine ax.mpr ⟨m1,cnB_iff.mpr ?_⟩
  rcases m2 with ⟨e,_⟩ | ⟨_,e⟩
  ·rw [e]; exact hx
  ·rw [e]; exact hxy
 have lenC:∀u∈CU N K s,0<=u.len:=λu hu=>lenN u (hK u (ax.mp hu).1);have adjW:=He (K:=K) (λx y=>(hnb x y).mp) k s none
 have dnW:C7 N (Ih nb k s none)<=D_ (CU N K s):=by
  have e:C7 N (Ih nb k s none)=D_ ((Ih nb k s none).map (HP N)):=by
   unfold C7 D_;rw [aO]
   congr 1
   exact bv λe _=>(K7 N e).symm
  rw [e];refine Es (Ig hF hne (λx y=>(hnb x y).mp) hnd (HP N) (λx y ha=>(Jv ok hK ha).2) k s [] trivial) (λu hu=>?_) lenC;obtain⟨e,he,rfl⟩:=TW.mp hu;have hw:=LL k s none e he;exact inC (adjW e hw) ((seq_cn (Hc k s none) adjW e hw).mono hK)
 have symE:∀x y,y∈nb x->CY N y x=CY N x y:=λx y hy=>by
  obtain⟨l,hl⟩:=Si (N:=N) (by obtain⟨u,hu,z⟩:=(hnb x y).mp hy; exact⟨u,hK u hu,z⟩);obtain⟨u,hu,rfl,z⟩:=hl.tie ok;obtain⟨d1,d2⟩:=B8 hu
  rcases z with ⟨rfl,rfl⟩ | ⟨rfl,rfl⟩
  ·rw [CN ok d1,CN ok d2]
  ·rw [CN ok d1,CN ok d2]
 rw [Lb symE k s none] at hp
 have tA:D_ T<=D_ (QW N F (λ_ _=>true) N.ps):=Es nT (λu hu=>by
  obtain⟨x,d,y,e1,e2⟩:=hT u hu;refine b8.mpr ⟨x,h.lt.ins x (by rw [e1]; exact λz=>by cases z),?_⟩;rw [e1,e2]
  rfl) λu hu=>by
   obtain⟨x,d,y,_,e1,_,rfl⟩:=Hl hu;rw [K7];exact MF ok _ _
 have tB:D_ (QW N F (Nz K) N.ps)<=D_ (CU N K s):=Es (Fg ok h.lt _ nd) (λu hu=>by
  obtain⟨x,d,y,_,e1,hc,rfl⟩:=Hl hu
  rcases h.lt.prev x d _ e1 with ⟨z,_⟩ | ⟨w,dw,q,l,ew,ey,_,_⟩
  ·cases z
  ·cases ew
   exact inC (adjB_iff.mp hc) (cnx _ _ _ ey)) lenC
 have split:D_ (QW N F (λ_ _=>true) N.ps)=DC N K F+D_ (QW N F (Nz K) N.ps):=by
  rw [Mw,Mw];unfold DC
  have:∀l:List Str,(l.map λx=>match F x with | some (_,some y)=>if (λ_ _=>true:Str->Str->Bool) y x=true then CY N y x else 0 | _=>0).sum=(l.map (QV N K F)).sum+(l.map λx=>match F x with | some (_,some y)=>if Nz K y x=true then CY N y x else 0 | _=>0).sum:=by
   intro l
   induction l with
   | nil=>rfl
   | cons x l ih =>
    rw [ZX,ZX,ZX,ao,ao,ao,ih];unfold QV;cases e:F x with
    | none=>dsimp only; omega
    | some dp =>
     obtain⟨d,p⟩:=dp;cases p with
     | none=>dsimp only; omega
     | some y =>
      dsimp only
      rw [if_pos rfl]
      split <;> omega
  exact this N.ps
 have w0:0<=D_ (CU N K s):=M7 lenC;have le1:D_ T<=S+D_ (CU N K s):=by omega
 have le2:=bG le1 (show 0<=t - b by omega);have b0:0<=b*dc:=Int.mul_nonneg (by omega) dc0;have le3:b*(2*C7 N (Ih nb k s none))<=b*(2*D_ (CU N K s)):=ag (by omega) (by omega);have e1:(S+D_ (CU N K s))*(t - b)=(t - b)*S+(t - b)*D_ (CU N K s):=by rw [Int.add_mul,cm S,cm (D_ (CU N K s))]
 have e2:(t+b)*D_ (CU N K s)=(t - b)*D_ (CU N K s)+b*(2*D_ (CU N K s)):=by
  rw [Int.sub_mul,Int.add_mul,← Int.mul_assoc,cm b 2,Int.mul_assoc];omega
 omega
end Nt
set_option maxHeartbeats 4000000
namespace L2
open PySem PySem.Spec PyProof.Rows
noncomputable def Yv(d:Ev)(o:Obj)(kvs:List (Key×V)):It :=
 ⟨λi H=>H d=some (.frz o (.dK kvs))/\i<kvs.length,λi H x H'=>H'=H/\∃p,kvs[i]?=some p/\x=kV p.1,λi H=>H d=some (.frz o (.dK kvs))/\kvs.length<=i⟩
theorem O_{P:Zs}{w:Zz}{K:Frag}{tg:Zq}(d it:Ev)(o:Obj)(kvs:List (Key×V))(es:Array bn)(ep:Nat)(hdat:o.data=.dict es ep) :
  Turn P w K tg (Yv d o kvs) [it] it (λi h=>h.IsKeyIter it d i kvs.length ep) where
 mem:=by simp
 obj:=λi h st c hc=>by
  rw [Go.mp hc];obtain⟨u,hu,_,hd⟩:=st;exact⟨u,hu,λv q=>by rw [hd] at q; cases q⟩
 keep:=λi h h' st k=>st.at λu e=>k it (by simp) u e
 item:=by
  intro X hP hw hK hc i pins s σ H E I hf st hg;subst hP hw hK;obtain⟨hH,hi⟩:=hg;obtain⟨ws,kv,D⟩:=E5 I hH hdat
  have hl:=kv.length;have hiw:i<ws.length:=by omega
  rw [hl] at st;obtain⟨k,v,hkv⟩:∃k v,ws[i]=(k,v):=⟨_,_,rfl⟩;have hx:ws[i]?=some (k,v):=by rw [No hiw,hkv]
  have hp:kvs[i]?=some kvs[i]:=No hi;obtain⟨ek,rv⟩:=EJ kv hp hx;have ek:kvs[i].1=k:=ek;refine wpAny_pyNext_dict_item st D hx λkey h' hkey hit hsame=>⟨_,rfl,?_⟩;obtain⟨u,hu,hcu,hdu⟩:=id hit;refine J7 hu hcu hdu (by decide) ?_;have I2:Inv X pins σ H { s with heap:=h' }:=I.turnedL (t':=s.toks) (ch:=[it]) hf λc o hc e=>hsame.extBut c o (λz=>hc (by rw [z]; exact Go.mpr rfl)) e;exact⟨_,H,I2,Ri (by rw [← ek] at hkey; exact hkey),⟨rfl,_,hp,rfl⟩,by rw [hl]; exact hit,λb hb=>(hf b hb).1⟩
 done:=by
  intro X hP hw hK hc i pins s σ H E I hf st hg;subst hP hw hK;obtain⟨hH,hi⟩:=hg;obtain⟨ws,kv,D⟩:=E5 I hH hdat
  have hl:=kv.length;rw [hl] at st;refine wpAny_pyNext_dict_end (I.ok.hd hc) st D (dJ (by omega)) λh' ext=>⟨rfl,?_⟩;exact I.turnedL (t':=s.toks) (ch:=[it]) hf λc o hc e=>ext c o (λz=>hc (by rw [z]; exact Go.mpr rfl)) e
 self:=λA i s Q E st h=>wpAny_pyIter_keyiter st h
noncomputable def XU(te:TE):TI:=λσ H R=>te σ H λx H1=>∃d o kvs,x=.ref d/\H1 d=some (.frz o (.dK kvs))/\R (Yv d o kvs) H1
theorem TV{X:Cx}{e tg:Zq}{te:TE}(he:PE X e te):PI X tg e (XU te):=by
 intro pins s σ H R I h;refine BV (he pins s σ H _ I h) λu s1 ⟨x,H1,I1,r1,d,o,kvs,ex,hd,q⟩=>?_;subst ex;cases r1;obtain⟨_,lo,_⟩:=EW I1.hok (.inr ⟨o,hd⟩)
 obtain⟨es,ep,hdat⟩:∃es ep,o.data=.dict es ep:=by
  obtain⟨e0,_,_,ws,kv,o',es',ep',e1,e2,e3,e4⟩:=(show ObjOk X.prog X.w H1 s1.heap d (.frz o (.dK kvs)) from I1.hok d _ hd);rw [e0] at e1;cases e1;exact⟨es',ep',e3⟩
 obtain⟨ws,kv,D⟩:=E5 I1 hd hdat
 have hl:=kv.length;refine wpAny_pyIter_dict lo D ?_;refine⟨s1.heap.objs.size,[s1.heap.objs.size],_,Yv d o kvs,H1,rfl,I1.kept (t':=s1.toks) λb o e=>Op _ e,O_ d _ o kvs es ep hdat,⟨_,Uf _ rfl,rfl,by rw [hl]; rfl⟩,λc hc=>?_,q⟩;rw [Go.mp hc];exact I1.fpOk (Tk _) (I1.hok.fresh (Tk _))
section
variable {X:Cx}
end
end L2
namespace Dp
open PySem PySem.Spec PyProof.Rows L2
section
variable {X:Cx}{a tg:Expr}{κa:Kd}{wa:DW}
noncomputable def OB(wa:DW):Er:=λn ρ P=>wa n ρ λd n1=>∃ks ds,d=.fdi ks ds/\(∀k∈ks,E4 k)/\P (ks.map Oo) n1
theorem HS(ha:DE X a κa wa):DI X tg a (OB wa):=by
 obtain⟨t,a1,a2⟩:=ha;refine⟨_,TV a1,λC M H n ρ σ P Rr R w q=>?_⟩;refine a2 C M H n ρ σ _ _ R w λv H1 d n1 ee f1 r1 p=>?_;obtain⟨ks,ds,rfl,hfit,p⟩:=p;have R1:=R.step ee f1;obtain⟨ad,vs,rfl,⟨o,nM,hd⟩,hlen,hs⟩:∃a vs,v=.ref a/\NdF M H1 a ks vs/\ks.length=ds.length/\Ats X.K M H1 ds vs:=r1.tpOf R.dom R.vM;have hl:=hs.length;refine⟨ad,o,_,rfl,hd,q _ _ _ n1 ee f1 (λi M' H' pr dom=>?_) p⟩;have hd':H' ad=some (.frz o (.dK (ks.zip vs))):=(pr.nd nM hd).2;have zl:(ks.zip vs).length=ks.length:=by rw [af]; omega
 refine⟨λe he=>?_,λhle=>⟨hd',by rw [On] at hle; omega⟩⟩;have hi:i<ks.length:=by have:=(ZB.mp he).1; rw [On] at this; exact this
 refine⟨⟨hd',by omega⟩,λx H2 y=>?_⟩;obtain⟨rfl,pp,hp,rfl⟩:=y
 have e2:(ks.zip vs)[i]?=some (ks[i],vs[i]'(by omega)):=by
  rw [cY];exact⟨No hi,No (by omega)⟩
 rw [e2] at hp;cases hp
 have e3:e=Oo ks[i]:=by
  rw [ZZ,No hi] at he;exact(ZS he).symm
 subst e3;refine⟨.refl,?_⟩;rw [Rj];exact Nn (hfit _ (Zw hi))
noncomputable def Qg(wa:DW):DW:=λn ρ P=>wa n ρ λd n1=>∃ks ds,d=.dic ks ds/\Bi ds=true/\P (.fdi ks ds) n1
mutual
theorem At.frz{K:Frag}{M:Ev->Prop}{H:Hp}{a:Ev}{f:Ev->Obj}{kvs:List (Key×V)}(ha:H a=some (.dK kvs)):∀{d:D} {v:V},D7 d=true->At K M H d v->At K M (E_ H [a] f) d v
 | .non,v,_,h=>h
 | .bl b,v,_,h=>h
 | .int i,v,_,h=>h
 | .str x,v,_,h=>h
 | .tup ds,v,hn,h=>by
  obtain⟨b,vs,e,n2,hs⟩:=h;refine⟨b,vs,e,?_,Ats.frz ha hn hs⟩;unfold NdT at n2 ⊢;rw [Cr λz=>by rw [Go.mp z,ha] at n2; cases n2];exact n2
 | .lst ds,v,hn,h=>by
  obtain⟨b,vs,e,⟨n1,n2⟩,hs⟩:=h;refine⟨b,vs,e,⟨n1,?_⟩,Ats.frz ha hn hs⟩;rw [Cr λz=>by rw [Go.mp z,ha] at n2; cases n2];exact n2
 | .dic _ _,v,hn,h=>by cases hn
 | .fdi _ _,v,hn,h=>by cases hn
 | .dit _ _,v,hn,h=>by cases hn
theorem Ats.frz{K:Frag}{M:Ev->Prop}{H:Hp}{a:Ev}{f:Ev->Obj}{kvs:List (Key×V)}(ha:H a=some (.dK kvs)):∀{ds:List D} {vs:List V},Bi ds=true->Ats K M H ds vs->Ats K M (E_ H [a] f) ds vs
 | [],vs,_,h=>h
 | d::ds,vs,hn,h=>by
  obtain⟨v,r,e,h1,h2⟩:=h;have hn:(D7 d&&Bi ds)=true:=hn;rw [Zl] at hn;exact⟨v,r,e,At.frz ha hn.1 h1,Ats.frz ha hn.2 h2⟩
end
theorem SO(ha:DE X a .fr wa):DE X a .sh (Qg wa):=by
 obtain⟨t,a1,a2⟩:=ha;refine⟨_,RN a1,λC M H n ρ σ P Q R w q=>?_⟩;refine a2 C M H n ρ σ _ _ R w λv H1 d n1 e1 f1 r1 p=>?_;obtain⟨ks,ds,rfl,hnd,p⟩:=p;obtain⟨b,rfl,hb,vs,hH,hl,hs⟩:=r1;refine⟨[b],λc hc=>by rw [Go.mp hc]; exact⟨_,hH⟩,λf=>?_⟩;have nM:¬M b:=λz=>by obtain⟨o,w⟩:=R.dom b z; rw [hb] at w; cases w
 have out:∀{c:Ev},c≠b->E_ H1 [b] f c=H1 c:=λh=>Cr λz=>h (Go.mp z);refine q _ _ (.fdi ks ds) n1 (λc o ec=>?_) ?_ ⟨b,vs,rfl,⟨f b,nM,LB (Go.mpr rfl) hH⟩,hl,Ats.frz hH hnd ?_⟩ p
 ·have nb:c≠b:=Ag ec hb
  obtain⟨o1,z1,k1⟩:=e1 c o ec;exact⟨o1,by rw [out nb]; exact z1,k1⟩
 ·intro g hg
  rcases f1 g hg with ⟨t,at_,rest,cells,h1,h2,⟨n3,h3⟩,h4⟩ | ⟨S,t,ks',ds',vs',h1,h2,h3,h4,h6⟩
  ·exact .inl ⟨t,at_,rest,cells,by rw [out λz=>by rw [z,hH] at h1; cases h1]; exact h1,h2,⟨n3,by rw [out λz=>by rw [z,hH] at h3; cases h3]; exact h3⟩,h4⟩
  ·have nb:g.1≠b:=λz=>nM (z▸R.vM _ (R.uV _ (R.fU g hg)))
   exact .inr ⟨S,t,ks',ds',vs',by rw [out nb]; exact h1,h2,h3.frz hH (IY h6),h4,h6⟩
 ·exact hs.pres (Pres.less (M':=M) λ_ z=>.inl z)
noncomputable def Uq(ds:List D)(P:D->Prop):Prop:=∃d ks es,ds=[d]/\G1 d=some (ks,es)/\ks.length=es.length/\P (.int (ks.length:Int))
theorem QO:By X (.builtin "len") (λxs H Q=>∃a kvs,xs=[V.ref a]/\Rd H a (.dK kvs)/\Q (.int kvs.length) H):=by
 intro pins s σ H xs us Q I r h;obtain⟨a,kvs,rfl,ha,q⟩:=h;obtain⟨u,rfl,ru⟩:=vals1 r;cases ru;exact Xj I ha λt s' I'=>⟨.int kvs.length,H,I',⟨t,rfl⟩,q⟩
theorem WK:CS X.K .sh (λxs H Q=>∃a kvs,xs=[V.ref a]/\Rd H a (.dK kvs)/\Q (.int kvs.length) H) Uq:=by
 intro U M H ds vs P Q dom vM hp w q;obtain⟨d,ks,es,rfl,hd,l1,w⟩:=w;obtain⟨v,rfl,hx⟩:=DK hp;obtain⟨a,us,rfl,ha,hs⟩:=FX hd hx;have m1:=hs.length;refine⟨a,_,rfl,ha,?_⟩;rw [show (ks.zip us).length=ks.length by rw [af]; omega];exact q _ H (.int _) .refl rfl w
end
end Dp
namespace Nt
open PySem PySem.Spec PyProof.Rows L2 Dp
structure Y_ (N:Net) (s:Str) (F:B_) (c:Nat) (T:List Tie):Prop where
 ins:∀t∈T,t∈N.ts
 nd:T.Nodup
 many:T.length+1=c
 wk:∀x d q,F x=some (d,q)->Wk (sub N T) s x d
noncomputable def HY:W2:=λss n P=>∃(N:Net) (ts:List Tie),ss=[.sh (enc N),.sh (enc ⟨N.ps,ts⟩)]/\okN N/\(∀t∈ts,t∈N.ts)/\ts.Pairwise Bv/\ts.length<=60/\P (.bl true) n
noncomputable def G4:AW:=(Ae (BE 2 (AZ Gq (AF (AR (AD 0)) Ac)))
 (Ae (CO 3 (DU AQ))
 (Ae (Cg (OB (AD 1)) (Aa 4) (Ae (BE 5 (AY BG (AY A4 (AD 1) (AD 4)) (wC (D.int 1))))
 (Be (Aj (AY (MS true) (AD 5) (wC D.non))) (Jf 3 "list" ET (AC (A3 (AC (CB R6 (AC (AD 4) (AC (AD 5) AQ))) (AC (CB R7 (AC (AD 4) (AC (AD 5) AQ))) (AC (AY A4 (AY A4 (AD 2) (AD 4)) (AD 5)) AQ)))) AQ)) A_)))
 (Ba (AZ D5 (AF (AR (AD 0)) (AF (Cf (Al 3)) Ac)))))))
noncomputable def DP:AW:=(Ae (Be (JH (Fc (Aj (O8 "tuple" (AD 1)))) (JH (Aj (AY Nj (CB ES (AC (AD 1) AQ)) (wC (D.int 2)))) (JH (Aj (AY Nj (AY BG (AD 1) (wC (D.int 0))) (AY BG (AD 0) (wC (D.int 0))))) (Fc (Aj (O8 "tuple" (AY BG (AD 1) (wC (D.int 1))))))))) (Ba (wC (D.bl false))) A_)
 (Ae (Cg (BQ (AY BG (AD 1) (wC (D.int 1)))) (Aa 2) (Be (JH (Fc (Aj (O8 "tuple" (AD 2)))) (JH (Aj (AY Nj (CB ES (AC (AD 2) AQ)) (wC (D.int 3)))) (JH (Fc (Aj (AZ LW (AF (AR (AY BG (AD 2) (wC (D.int 2)))) Ac)))) (Aj (AY (Xd true) (AD 2) (AY BG (AD 0) (wC (D.int 1)))))))) (Ba (wC (D.bl false))) A_))
 (Ba (CB R_ (AC (DF [some 1,none] (Gx (AC (AY FG (CB ES (AC (AY BG (AD 1) (wC (D.int 1))) AQ)) (wC (D.int 1))) AQ)) (Aa 1) Fb (AY Fx (AY BG (AY BG (AD 0) (wC (D.int 1))) (AD 1)) (AY BG (AY BG (AD 0) (wC (D.int 1))) (AY BN (AD 1) (wC (D.int 1)))))) AQ)))))
theorem FO{N:Net}(ok:N.Ok){K:List Tie}(hk:∀t∈K,t∈N.ts)(nd:K.Nodup):(sub N K).ts.Perm K:=by
 refine(bA ((A5 ok.trise).filter _) nd).mpr λt=>?_;rw [ax,decide_eq_true_eq];exact⟨λh=>h.2,λh=>⟨hk t h,h⟩⟩
theorem SI{α:Type}{ks:List Key}{ds:List D}{enc:α->D}{F:Str->Option α}(M:Dmap ks ds enc F){i:Nat}{d:D}{y:Str}(hd:ds[i]?=some d)(hk:ks[i]?=some (.inr y)):∃a,d=enc a/\F y=some a:=by
 have nd:=M.nd
 have key:∀(ks:List Key) (ds:List D) (i:Nat),ks.Nodup->ks[i]?=some (.inr y)->ds[i]?=some d->BI ks ds (.inr y)=some d:=by
  intro ks
  induction ks with
  | nil=>intro ds i _ h _; simp at h
  | cons k ks ih =>
   intro ds i nd h1 h2;cases ds with
   | nil=>simp at h2
   | cons e ds =>
    rw [ZY] at nd;cases i with
    | zero =>
     cases h1;cases h2;show (if (aD y:Key)=.inr y then some d else _)=_;rw [if_pos rfl]
    | succ i =>
     have h1:ks[i]?=some (.inr y):=h1;have h2:ds[i]?=some d:=h2;have hne:k≠.inr y:=λz=>nd.1 (by rw [z]; exact aT h1);show (if k=.inr y then some e else BI ks ds (.inr y))=_;rw [if_neg hne];exact ih ds i nd.2 h1 h2
 have h:=key ks ds i nd hk hd;rw [M.at_] at h;obtain⟨a,e1,e2⟩:=Zy.mp h;exact⟨a,e2.symm,e1⟩
theorem MV{α:Type}{ks:List Key}{ds:List D}{enc:α->D}{F:Str->Option α}(M:Dmap ks ds enc F){i:Nat}{d:D}{y:Str}(hd:ds[i]?=some d)(hk:ks[i]?=some (.inr y)):∃a,d=enc a:=let ⟨a,e,_⟩:=SI M hd hk; ⟨a,e⟩
theorem IU{ks:List Key}{ds:List D}{F:B_}(M:Dmap ks ds Bw F):∃xs:List Str,ks=xs.map .inr:=by
 have:∀l:List Key,(∀k∈l,∃x:Str,k=.inr x)->∃xs:List Str,l=xs.map .inr:=by
  intro l
  induction l with
  | nil=>exact λ_=>⟨[],rfl⟩
  | cons k l ih =>
   intro h;obtain⟨x,rfl⟩:=h k Re;obtain⟨xs,rfl⟩:=ih λk hk=>h k (Sc _ hk);exact⟨x::xs,rfl⟩
 exact this ks M.dom
section
variable {ss:List Slot}{n:Nat}{Pd:D->Nat->Prop}
theorem GX(h:HY ss n Pd):DP (EE Pd) n (ss++Zd 1 .no):=by
 obtain⟨N,ts,rfl,okn,h1,h2,l60,p⟩:=h;have ok:=okn.1;have szl:=PySem.sizeLine_eq;have layi:∀i:Int,Ds (.int i):=λi=>⟨rfl,rfl,Zi _⟩;have layp:Ds (.tup (N.ps.map .str)):=J0 ok.names;unfold DP;refine⟨_,_,rfl,rfl,layi _,layi _,?_⟩;refine Cv (λc=>absurd c (by show ¬(!KC (.int 2) (.int 2))=true; decide)) λ_=>?_;refine⟨_,AJ (j:=0) rfl,_,AJ (j:=0) rfl,layp,layp,?_⟩;refine Cv (λc=>absurd c (by rw [eqD_strs.mpr rfl]; decide)) λ_=>?_;refine⟨_,AJ (j:=1) rfl,_,AJ (j:=1) rfl,?_⟩;refine Ga (λk m ρ=>m=n/\∃s2,ρ=[.sh (enc N),.sh (enc ⟨N.ps,ts⟩),s2]) ?_ _ _ _ ?_ ⟨rfl,_,rfl⟩
 ·rintro m ρ ⟨rfl,s2,rfl⟩
  have tl:((({ ps:=N.ps,ts:=ts }:Net).ts.map Ao).length)=ts.length:=On ..;refine⟨_,AJ (j:=1) rfl,_,_,rfl,rfl,_,rfl,⟨by omega,by omega⟩,by rw [B4]; omega,?_⟩;refine Bk (λ_=>.bl true) (λρ=>∃s,ρ=[.sh (enc ⟨N.ps,ts⟩),s]) _ _ _ _ ?_ ⟨_,rfl⟩ ?_
  ·rintro d hd ρ m' nx ⟨s,rfl⟩ hnx
   obtain⟨k,hk,rfl⟩:=Lq hd;have k1:k<ts.length:=by omega
   have k2:k+1<ts.length:=by omega
   have g1:(ts.map Ao)[k]?=some (Ao ts[k]):=by rw [ZZ,No k1]; rfl
   have g2:(ts.map Ao)[k+1]?=some (Ao ts[k+1]):=by rw [ZZ,No k2]; rfl
   have lt:BY (C8 ts[k]) (C8 ts[k+1])=true:=Ke (bh.mp h2 k (k+1) k1 k2 (cL _));refine⟨_,AJ (j:=1) rfl,Ao ts[k],by rw [show (0+(k:Int))=((k:Nat):Int) by omega]; exact AJ g1,_,AJ (j:=1) rfl,Ao ts[k+1],by rw [show (0+(k:Int)+1)=((k+1:Nat):Int) by omega]; exact AJ g2,?_⟩;refine Tw (Vn _ _) ?_;rw [lt];exact hnx _ ⟨_,rfl⟩
  ·rw [aA]
   show R_ [D.lst ((Co 0 (((ts.map Ao).length:Int) - 1).toNat).map λ_=>D.bl true)] λz=>Pd z m;refine R9 (l:=Co 0 (((ts.map Ao).length:Int) - 1).toNat) (p:=λ_=>true) ?_;rw [show ((Co 0 (((ts.map Ao).length:Int) - 1).toNat).all λ_=>true)=true from bO.mpr λ_ _=>rfl];exact p
 ·rintro k d m ρ nx hd ⟨rfl,s2,rfl⟩ hnx
  obtain⟨t,ht,rfl⟩:=TW.mp hd;refine⟨_,_,rfl,rfl,layi _,layi _,?_⟩;refine Cv (λc=>absurd c (by show ¬(!KC (.int 3) (.int 3))=true; decide)) λ_=>?_;refine⟨_,AJ (j:=2) rfl,[_],rfl,rfl,?_⟩;refine⟨_,AJ (j:=1) rfl,Tl ok (h1 t ht),(Rc ok λ_ h=>h).1,_,rfl,?_⟩;refine Cv (λc=>absurd c ?_) λ_=>hnx _ _ ⟨rfl,_,rfl⟩;show ¬(!((N.ts.map Ao).any λy=>KC y (Ao t)))=true;rw [UL,decide_eq_true (h1 t ht)];decide
end
end Nt
set_option maxHeartbeats 400000
namespace Dp
open PySem PySem.Spec PyProof.Rows L2
theorem Rel.world{K:Frag}{C:Fm}{M:Ev->Prop}{H:Hp}{n:Nat}{ρ:List Slot}{σ:L2.St}(R:Rel K C M H n ρ σ){i:Nat}{S:Nat->List Key->List D->Prop}(hd:ρ[i]?=some (.wd S)):∃f,σ[i]?=some (some (.ref f.1))/\C.F=some f/\f.t=some S/\U2 K M H f.1 S n:=by
 obtain⟨f,e1,hF,ht⟩:=R.sl i _ hd;refine⟨f,getD_some e1,hF,ht,?_⟩
 rcases R.feed f hF with ⟨t2,_⟩ | ⟨S',t2,h⟩
 ·rw [ht] at t2; cases t2
 ·rw [ht] at t2; cases t2; exact h
section
variable {X:Cx}{x a b e:Expr}{κ κa κb:Kd}{wa wb:DW}{pos pos':Pos}{i k:Nat}
noncomputable def Lc(i:Nat)(wb:DW):DW:=λn ρ P=>∃S,ρ[i]?=some (.wd S)/\wb n ρ λk n1=>∃key,keyOf k=some key/\∀ks ds,S n1 ks ds->∃z,BI ks ds key=some z/\P z n1
theorem Om(hr:Room k X.A)(hx:PE X x (BU i))(hb:DE X b κb wb)(hs:autoParam (Sw b) zau5._auto_1):DE X (.Subscript x b pos) .sh (Lc i wb):=by
 obtain⟨tb,hb1,hb2⟩:=hb;refine⟨_,Fn (FF hr) hx hb1 hs,λC M H n ρ σ P Q R w q=>?_⟩;obtain⟨S,hd,w⟩:=w;obtain⟨f,e1,hF,ht,_⟩:=R.world hd;refine⟨.ref f.1,e1,?_⟩;refine hb2 C M H n ρ σ _ _ R w λy H1 kk n1 ee ff rr p=>?_;obtain⟨key,hk,p⟩:=p;have R1:=R.step ee ff;obtain⟨f',_,hF',_,ks,ds,vs,hH,hl,hs',hS,_⟩:=R1.world hd;rw [hF] at hF';cases hF';obtain⟨z,hz,p⟩:=p ks ds hS;have hv:=DV (k:=key) (ks:=ks) hs';rw [hz] at hv;obtain⟨v,hv,hat⟩:=hv;refine⟨f.1,v,rfl,?_,q v H1 z n1 ee ff hat p⟩;rw [B6 hk (rr.tpOf R.dom R.vM),← hv];exact DGet.k hH
noncomputable def Qc(i:Nat)(wa:DW):Gw:=λn ρ P=>∃S,ρ[i]?=some (.wd S)/\wa n ρ λk n1=>∃key,keyOf k=some key/\∀ks ds,S n1 ks ds->P (!(BI ks ds key).isSome) n1
theorem T3(hr:Room k X.A)(ha:DE X a κa wa)(hx:PE X x (BU i))(hm:autoParam (behindInMarks .NotIn x=false) zau3._auto_1):DT X (.Compare a [.NotIn] [x] pos) (Qc i wa):=by
 obtain⟨ta,h1,h2⟩:=ha;refine⟨_,Ex (Ez hr) h1 hx hm,λC M H n ρ σ P Q R w q=>?_⟩;obtain⟨S,hd,w⟩:=w;refine h2 C M H n ρ σ _ _ R w λy H1 kk n1 ee ff rr p=>?_;obtain⟨key,hk,p⟩:=p;have R1:=R.step ee ff;obtain⟨f,e1,hF,ht,ks,ds,vs,hH,hl,hs',hS,_⟩:=R1.world hd;refine⟨.ref f.1,e1,f.1,Bg (ks.zip vs) key,rfl,by rw [B6 hk (rr.tpOf R.dom R.vM)]; exact DGet.k hH,!(Bg (ks.zip vs) key).isSome,rfl,?_⟩;have hv:=DV (k:=key) (ks:=ks) hs'
 have e:(Bg (ks.zip vs) key).isSome=(BI ks ds key).isSome:=by
  cases c:BI ks ds key with
  | none=>rw [c] at hv; rw [show Bg (ks.zip vs) key=none from hv]; rfl
  | some z=>rw [c] at hv; obtain⟨v,hv,_⟩:=hv; rw [hv]; rfl
 rw [e];exact q _ H1 n1 ee ff (p ks ds hS)
noncomputable def Qb(i:Nat)(wk wv:DW):AW:=λD2 n ρ=>∃S,ρ[i]?=some (.wd S)/\wv n ρ λd n1=>wk n1 ρ λk n2=>flat d=true/\∃key,keyOf k=some key/\∃n3,(∀ks ds,ks.length=ds.length->S n2 ks ds->ks.length<sizeLine/\S n3 (Bx ks key) (Bo ks ds key d))/\D2.nx n3 ρ
theorem KA:∀{ds es:List D},B7 ds=true->B7 es=true->B7 (ds++es)=true
 | [],es,_,h=>h
 | d::ds,es,h,g=>by
  have h:=(Zl _ _▸h:_/\_);show (flat d&&B7 (ds++es))=true;rw [h.1,KA h.2 g]; rfl
theorem J_{k:Key}{d:D}(hd:flat d=true):∀{ks:List Key} {ds:List D},B7 ds=true->B7 (aW (λk0 d0=>if k0=k then d else d0) ks ds)=true
 | [],ds,h=>rfl
 | a::ks,[],h=>rfl
 | a::ks,e::ds,h=>by
  have h:=(Zl _ _▸h:_/\_);show (flat (if a=k then d else e)&&B7 (aW _ ks ds))=true;rw [J_ hd h.2,fZ]
  split
  ·exact hd
  ·exact h.1
theorem P7{ks:List Key}{ds:List D}{k:Key}{d:D}(hd:flat d=true)(h:B7 ds=true):B7 (Bo ks ds k d)=true:=by
 unfold Bo
 split
 ·exact J_ hd h
 ·exact KA h (by show (flat d&&true)=true; rw [hd]; rfl)
theorem T4(hr:Room k X.A)(hx:PE X x (BU i))(ha:DE X a κa wa)(hb:DE X b κb wb)(hk:autoParam (κb≠.tp) zau6._auto_1)
  (hs:autoParam (swapsWith b (some (.Subscript x a pos')) pos.line X.env=pure false) zau3._auto_1):DS X κ (.Assign [.Subscript x a pos'] b pos) (Qb i wa wb):=by
 obtain⟨t,h1,h2⟩:=ha;obtain⟨u,g1,g2⟩:=hb;refine⟨_,Ey (FF hr) hx h1 g1 hs,λC M H n ρ σ D2 E R L w=>?_⟩;obtain⟨S,hd,w⟩:=w;obtain⟨f,ea,hF,ht,_⟩:=R.world hd;refine g2 C M H n ρ σ _ _ R w λv H1 d n1 e1 f1 r1 p=>?_;have R1:=R.step e1 f1;refine⟨.ref f.1,ea,?_⟩;refine h2 C M H1 n1 ρ σ _ _ R1 p λy H2 kk n2 e2 f2 r2 p=>?_;obtain⟨fl,key,hkey,n3,hS3,p⟩:=p;have R2:=R1.step e2 f2;obtain⟨f',_,hF',_,ks,ds,vs,hH,hl,hs',hS,fls⟩:=R2.world hd;rw [hF] at hF';cases hF';obtain⟨hlt,hS3⟩:=hS3 ks ds hl hS;have hat:At X.K M H2 d v:=(r1.shOf R.dom hk).pres (R1.pres e2);have hvl:ks.length=vs.length:=by rw [hl,hs'.length]
 have mf:M f.1:=R2.vM _ (R2.uV _ (R2.fU f hF));refine⟨f.1,_,rfl,by rw [B6 hkey (r2.tpOf R1.dom R1.vM)]; exact DPut.k hH (by rw [af]; omega),?_⟩;rw [Lz hvl];have pr:Pres M H2 M (Aw H2 f.1 (.dK ((Bx ks key).zip (Bo ks vs key v)))):=Bq mf hH;refine L.nx M _ n3 _ σ (R2.step (λc o ec=>?_) λg hg=>?_) p
 ·by_cases hc:c=f.1
  ·rw [hc,hH] at ec
   cases ec;exact⟨_,by rw [hc]; exact AT,λnu=>absurd (hc▸R2.fU f hF) nu,λvs z=>by cases z⟩
  ·exact⟨o,by rw [AK hc]; exact ec,λ_=>rfl,λ_ _=>rfl⟩
 ·have:g=f:=ZS (hg.symm.trans hF)
  subst this;exact .inr ⟨S,ht,_,_,_,AT,Ks hl,(hs'.putX hat).pres pr,hS3,P7 fl fls⟩
noncomputable def Mv(W:W2)(i:Nat)(w1 w3:DW):AW:=λD2 n ρ=>∃ks ds,ρ[i]?=some (.ow (.dic ks ds))/\B7 ds=true/\w1 n ρ λd1 n1=>w3 n1 ρ λd3 n2=>∃S,S 0 ks ds/\W [.sh d1,.wd S,.sh d3] 0 λ_ m=>∀ks' ds',ks'.length=ds'.length->B7 ds'=true->S m ks' ds'->D2.nx n2 (ρ.set i (.ow (.dic ks' ds')))
theorem Jk{H:Hp}{a:Ev}{o o':HO}(h:H a=some o):Aw (Aw H a o') a o=H:=by
 funext b
 by_cases e:b=a
 ·rw [e,AT,h]
 ·rw [AK e,AK e]
theorem MT{ps:List Str}{W:W2}{fn:Str}{e1 e2 e3:Zq}{κ1 κ3:Kd}{w1 w3:DW}{p:Pos}(G:Got X.prog X.w X.K X.mg X.base fn k ps .sh W)
  (hr:Room k X.A) (hg:Gl X fn) (ha:DE X e1 κ1 w1) (hx:PE X e2 (BU i)) (hb:DE X e3 κ3 w3) (k1:autoParam (κ1≠.tp) zau6._auto_1) (k3:autoParam (κ3≠.tp) zau6._auto_1) (hps:autoParam (ps.length=3) zau3._auto_1)
  (hdb:autoParam ((fn==("__debug__":Str))=false) zau1._auto_1)
  (he:autoParam (starEach [e1,e2,e3] X.env=(false,eval e1 X.env)::starEach [e2,e3] X.env) zau3._auto_1) (he2:autoParam (starEach [e2,e3] X.env=(false,eval e2 X.env)::starEach [e3] X.env) zau3._auto_1) (he3:autoParam (starEach [e3] X.env=[(false,eval e3 X.env)]) zau3._auto_1)
  (hpl:autoParam ((backTo pos (starEach [e2,e3] X.env)).any (·.1)=false) zau3._auto_1) (hs:autoParam (swapsWith (.Call (.Name fn p) [e1,e2,e3] [] pos) none pos'.line X.env=pure false) zau3._auto_1) :
  DS X κ (.Expr (.Call (.Name fn p) [e1,e2,e3] [] pos) pos') (Mv W i w1 w3):=by
 obtain⟨f,fd,G,hm,hk,hbi,hW⟩:=G;obtain⟨t,h1,h2⟩:=ha;obtain⟨u,g1,g2⟩:=hb;refine⟨_,OP (Ky G hr hg hm hk hbi .nil RQ (BM h1 (BM hx (BM g1 CG he3) he2) he) hdb he hpl) hs,λC M H n ρ σ D2 E R L w=>?_⟩;obtain⟨ks,ds,hd,fl,w⟩:=w;refine h2 C M H n ρ σ _ _ R w λv1 H1 d1 n1 x1 f1 r1 p1=>?_;have R1:=R.step x1 f1;obtain⟨ad,ea,m,nv,tt⟩:=R1.sl i _ hd;refine⟨.ref ad,getD_some ea,?_⟩;refine g2 C M H1 n1 ρ σ _ _ R1 p1 λv3 H2 d3 n2 x3 f3 r3 p3=>?_;have R2:=R1.step x3 f3;obtain⟨S,hS,p3⟩:=p3;obtain⟨ad',ea',m',nv',vs,hH,hl,hs'⟩:=R2.sl i _ hd;rw [ea] at ea';cases ea';have a1:At X.K M H2 d1 v1:=(r1.shOf R.dom k1).pres (R1.pres x3);have a3:At X.K M H2 d3 v3:=r3.shOf R1.dom k3;show EB X.K .sh W ps.length _ H2 _ E0;refine⟨by rw [hps]; rfl,some ⟨ad,ad,some S⟩,(λb=>b=ad),(λb=>C.V b\/b=ad),M,0,_,_,⟨R2.dom,λg hg=>?_,λb z=>.inr z,λb z=>z.elim (R2.vM b) λz=>z▸m',λg hg=>?_,?_⟩,p3,λv H' d n' ex fx rx px=>?_⟩
 ·cases hg; rfl
 ·cases hg
  exact .inr ⟨S,rfl,ks,ds,vs,hH,hl,hs',hS,fl⟩
 ·exact .cons ⟨⟨_,rfl,a1⟩,rfl⟩ (.cons ⟨⟨_,rfl,rfl,rfl⟩,rfl⟩ (.cons ⟨⟨_,rfl,a3⟩,rfl⟩ .nil))
 ·rcases fx _ rfl with ⟨z,_⟩ | ⟨S',z,ks',ds',vs',hH',hl',hs2,hS',fl'⟩
  ·cases z
  cases z;have stay:∀b o,b≠ad->H2 b=some o->H' b=some o:=λb o nb e=>ex.keep e nb
  have all:∀b o,H2 b=some o->Aw H' ad (.dK (ks.zip vs)) b=some o:=λb o e=>by
   by_cases c:b=ad
   ·rw [c,hH] at e; rw [c,AT]; exact e
   ·rw [AK c]; exact stay b o c e
  have R3:Rel X.K C M (Aw H' ad (.dK (ks.zip vs))) n2 ρ σ:=R2.step (λb o e=>⟨o,all b o e,λ_=>rfl,λ_ _=>rfl⟩) (R2.feed.pres ⟨λb o e _=>all b o e,λ_ z=>.inl z,λb vs e=>all b _ e⟩ λf o _ e=>all _ o e);have R4:=R3.mut (o:=.dK (ks'.zip vs')) (e:=.dic ks' ds') hd ea ⟨vs',AT,hl',by rw [Jk hH']; exact hs2⟩;rw [Jk hH'] at R4;exact L.nx M H' n2 _ σ R4 (px ks' ds' hl' fl' hS')
end
end Dp
set_option maxHeartbeats 4000000
namespace Dp
open PySem PySem.Spec PyProof.Rows L2
noncomputable def Ci:List (List Key)->List D->List Key->Option D
 | k0::ks,d::ds,k=>if k0=k then some d else Ci ks ds k
 | _,_,_=>none
noncomputable def MK:List D->Option (List Key)
 | []=>some []
 | d::ds=>match keyOf d,MK ds with
  | some k,some ks=>some (k::ks)
  | _,_=>none
noncomputable def keysOf:D->Option (List Key)
 | .tup ds=>MK ds
 | _=>none
section
variable {K:Frag}{X:Cx}
theorem Hk{M:Ev->Prop}{H:Hp}{k:List Key}:∀{ks:List (List Key)} {ds:List D} {vs:List V},Ats K M H ds vs ->
  match Ci ks ds k with
  | some z=>∃v,Bg (ks.zip vs) k=some v/\At K M H z v
  | none=>Bg (ks.zip vs) k=none
 | [],ds,vs,h=>by unfold Ci; exact rfl
 | k0::ks,[],vs,h=>by cases h; exact rfl
 | k0::ks,d::ds,vs,h=>by
  obtain⟨v,r,rfl,h1,h2⟩:=h;have ih:=Hk (k:=k) (ks:=ks) h2;unfold Ci
  by_cases e:k0=k
  ·rw [if_pos e]
   refine⟨v,?_,h1⟩;show Bg ((k0,v)::ks.zip r) k=some v;rw [DH e]
  ·rw [if_neg e]
   have:Bg ((k0,v)::ks.zip r) k=Bg (ks.zip r) k:=DJ e
   rw [show (k0::ks).zip (v::r)=(k0,v)::ks.zip r from rfl,this];exact ih
theorem Rh{M:Ev->Prop}{H:Hp}{d:D}{v:V}{k:Key}(e:keyOf d=some k)(h:At K M H d v):v=kV k:=by
 cases d with
 | int i=>cases e; exact h
 | str x=>cases e; exact h.1
 | _=>cases e
theorem MJ{M:Ev->Prop}{H:Hp}:∀{ds:List D} {vs:List V} {ks:List Key},MK ds=some ks->Ats K M H ds vs->vs=ks.map kV
 | [],vs,ks,e,h=>by cases e; exact h
 | d::ds,vs,ks,e,h=>by
  obtain⟨v,r,rfl,h1,h2⟩:=h;unfold MK at e;cases c1:keyOf d with
  | none=>rw [c1] at e; cases e
  | some k =>
   cases c2:MK ds with
   | none=>rw [c1,c2] at e; cases e
   | some k2 =>
    rw [c1,c2] at e;cases e;rw [MJ c2 h2,Rh c1 h1];rfl
theorem Ge{U M:Ev->Prop}{H:Hp}{d:D}{v:V}{k:List Key}(e:keysOf d=some k)(h:AtT K U M H d v):∃b,v=.ref b/\H b=some (.tup (k.map kV)):=by
 cases d with
 | tup ds =>
  obtain⟨a,vs,rfl,ha,hs⟩:=h.tup;refine⟨a,rfl,?_⟩;rw [← MJ e hs];exact ha
 | _=>cases e
theorem Nm{U M:Ev->Prop}{H:Hp}{x:V}{ks:List (List Key)}{ds:List D}(h:AtT K U M H (.dit ks ds) x):∃a vs,x=.ref a/\Rd H a (.dT (ks.zip vs))/\Ats K M H ds vs:=by
 obtain⟨a,vs,rfl,_,ha,_,hs⟩:=h;exact⟨a,vs,rfl,ha,hs⟩
theorem Oj{H:Hp}{a b:Ev}{kvs:List (List Key×V)}{k:List Key}(e:Rd H a (.dT kvs))(eb:H b=some (.tup (k.map kV))):DGet H a (.ref b) (Bg kvs k):=.inr ⟨kvs,k,b,e,rfl,eb,rfl⟩
noncomputable def Xa(neg:Bool)(e d:D)(P:D->Prop):Prop:=∃ks ds k,d=.dit ks ds/\keysOf e=some k/\P (.bl (if neg then !(Ci ks ds k).isSome else (Ci ks ds k).isSome))
noncomputable def Od(d e:D)(P:D->Prop):Prop:=∃ks ds k z,d=.dit ks ds/\keysOf e=some k/\Ci ks ds k=some z/\P z
theorem Sj:FK K .sh Q8 (Xa true):=λU M H e d y x P Q dom vM hy hx w q=>by
 obtain⟨ks,ds,k,rfl,he,w⟩:=w;obtain⟨a,vs,rfl,ha,hs⟩:=Nm hx;obtain⟨b,rfl,eb⟩:=Ge he hy;refine⟨a,Bg (ks.zip vs) k,rfl,Oj ha eb,q _ H (.bl _) .refl rfl ?_⟩;have h:=Hk (k:=k) (ks:=ks) hs;cases c:Ci ks ds k with
 | none=>rw [c] at h w; rw [show Bg (ks.zip vs) k=none from h]; exact w
 | some z=>rw [c] at h w; obtain⟨v,h1,_⟩:=h; rw [h1]; exact w
theorem WF:FK K .sh OK Od:=λU M H d e x y P Q dom vM hx hy w q=>by
 obtain⟨ks,ds,k,z,rfl,he,hz,w⟩:=w;obtain⟨a,vs,rfl,ha,hs⟩:=Nm hx;obtain⟨b,rfl,eb⟩:=Ge he hy;have h:=Hk (k:=k) (ks:=ks) hs;rw [hz] at h;obtain⟨v,h1,h2⟩:=h;exact⟨a,v,rfl,by rw [← h1]; exact Oj ha eb,q v H z .refl h2 w⟩
variable {a b:Expr}{κa κb:Kd}{wa wb:DW}{pos:Pos}
theorem T_{k:Nat}(hr:Room k X.A)(ha:DE X a κa wa)(hb:DE X b κb wb)(hs:autoParam (Sw b) zau5._auto_1):DE X (.Subscript a b pos) .sh (AY Od wa wb):=by
 obtain⟨ta,ha1,ha2⟩:=ha;obtain⟨tb,hb1,hb2⟩:=hb;exact⟨C9 OK ta tb,Fn (FF hr) ha1 hb1 hs,λC M H n ρ σ P Q R w q=>Dy WF ha2 hb2 C M H n ρ σ P Q R w q⟩
end
noncomputable def J6(ks:List (List Key))(k:List Key):Bool:=ks.any λk0=>decide (k0=k)
theorem hasK_iffU{ks:List (List Key)}{k:List Key}:J6 ks k=true↔k∈ks:=by
 unfold J6;rw [bP];exact⟨fun⟨x,hx,e⟩=>by rw [← of_decide_eq_true e]; exact hx,λh=>⟨k,h,decide_eq_true rfl⟩⟩
noncomputable def CF(ks:List (List Key))(k:List Key):List (List Key):=if J6 ks k=true then ks else ks++[k]
noncomputable def CD{α:Type}(ks:List (List Key))(ds:List α)(k:List Key)(d:α):List α:=if J6 ks k=true then aW (λk0 d0=>if k0=k then d else d0) ks ds else ds++[d]
theorem Se{ks:List (List Key)}{vs:List V}(hl:ks.length=vs.length)(k:List Key):((ks.zip vs).any λkv=>decide (kv.1=k))=J6 ks k:=by
 rw [ay,bP,hasK_iffU];constructor
 ·rintro ⟨⟨a,b⟩,hm,e⟩
  have e:a=k:=of_decide_eq_true e;rw [← e];exact(cW hm).1
 ·intro h
  obtain⟨i,hi,e⟩:=cP.mp h;refine⟨(ks[i],vs[i]'(by omega)),?_,by rw [e]; exact decide_eq_true rfl⟩;exact cP.mpr ⟨i,by rw [af]; omega,by rw [List.getElem_zip]⟩
theorem PQ{ks:List (List Key)}{vs:List V}(hl:ks.length=vs.length)(k:List Key)(v:V):putK (ks.zip vs) k v=(CF ks k).zip (CD ks vs k v):=by
 unfold putK CF CD;rw [Se hl]
 by_cases h:J6 ks k=true
 ·rw [if_pos h,if_pos h,if_pos h]
  have go:∀(ks:List (List Key)) (vs:List V),((ks.zip vs).map λkv=>if kv.1=k then (kv.1,v) else kv)=ks.zip (aW (λk0 d0=>if k0=k then v else d0) ks vs):=by
   intro ks
   induction ks with
   | nil=>intro vs; rfl
   | cons a ks ih =>
    intro vs;cases vs with
    | nil=>rfl
    | cons b vs =>
     show (if a=k then (a,v) else (a,b))::_=(a,if a=k then v else b)::_;exact List.cons_eq_cons.mpr ⟨by split <;> rfl,ih vs⟩
  exact go ks vs
 ·rw [if_neg h,if_neg h,if_neg h,List.zip_append hl]
  rfl
theorem Ats.putU{K:Frag}{M:Ev->Prop}{H:Hp}{k:List Key}{d:D}{v:V}(hd:At K M H d v):∀{ks:List (List Key)} {ds:List D} {vs:List V},Ats K M H ds vs->Ats K M H (aW (λk0 d0=>if k0=k then d else d0) ks ds) (aW (λk0 d0=>if k0=k then v else d0) ks vs)
 | [],ds,vs,h=>rfl
 | a::ks,[],vs,h=>by cases (show vs=[] from h); rfl
 | a::ks,e::ds,vs,h=>by
  obtain⟨u,r,rfl,h1,h2⟩:=h;refine⟨_,_,rfl,?_,Ats.putU hd h2⟩;show At K M H (if a=k then d else e) (if a=k then v else u)
  by_cases e1:a=k
  ·rw [if_pos e1,if_pos e1]; exact hd
  ·rw [if_neg e1,if_neg e1]; exact h1
theorem Ats.putXU{K:Frag}{M:Ev->Prop}{H:Hp}{k:List Key}{d:D}{v:V}{ks:List (List Key)}{ds:List D}{vs:List V}(hd:At K M H d v)(h:Ats K M H ds vs):Ats K M H (CD ks ds k d) (CD ks vs k v):=by
 unfold CD
 split
 ·exact Ats.putU hd h
 ·exact h.append (Ats.one hd)
theorem Lx{α:Type}{ks:List (List Key)}{ds:List α}{k:List Key}{d:α}(hl:ks.length=ds.length):(CF ks k).length=(CD ks ds k d).length:=by
 unfold CF CD
 split
 ·rw [cU]; omega
 ·rw [ZT,ZT]; show ks.length+1=ds.length+1; omega
theorem FL:∀{ks:List (List Key)} {ds:List D} {k:List Key},ks.length=ds.length->k∈ks->∃z,Ci ks ds k=some z
 | [],ds,k,_,h=>by cases h
 | a::ks,[],k,h,_=>by cases h
 | a::ks,d::ds,k,hl,h=>by
  unfold Ci
  by_cases e:a=k
  ·exact⟨d,if_pos e⟩
  ·rw [if_neg e]
   exact FL (by simpa using hl) ((XV.mp h).resolve_left λz=>e z.symm)
section
variable {X:Cx}{a b e:Expr}{κ κa κb:Kd}{wa wb:DW}{pos pos':Pos}
noncomputable def Qh:DW:=λn _ P=>P (.dit [] []) n
theorem SQ:DE X (.Dict [] [] pos) .fr Qh:=by
 refine⟨_,RO,λC M H n ρ σ P Q R w q=>λp hp=>?_⟩;have g:Grow H (Aw H p (.dT [])):=Ax hp;exact q _ _ (.dit [] []) n g.ext (R.feed.grow g) ⟨p,rfl,hp,[],AT,rfl,rfl⟩ w
noncomputable def N9(i:Nat)(wk wv:DW):AW:=λD2 n ρ=>∃ks ds,ρ[i]?=some (.ow (.dit ks ds))/\wv n ρ λd n1=>wk n1 ρ λk n2=>∃key,keysOf k=some key/\ks.length<sizeLine/\D2.nx n2 (ρ.set i (.ow (.dit (CF ks key) (CD ks ds key d))))
theorem LK{i k:Nat}{x:Zq}(hr:Room k X.A)(hx:PE X x (BU i))(ha:DE X a κa wa)(hb:DE X b κb wb)(hk:autoParam (κb≠.tp) zau6._auto_1)
  (hs:autoParam (swapsWith b (some (.Subscript x a pos')) pos.line X.env=pure false) zau3._auto_1):DS X κ (.Assign [.Subscript x a pos'] b pos) (N9 i wa wb):=by
 obtain⟨t,h1,h2⟩:=ha;obtain⟨u,g1,g2⟩:=hb;refine⟨_,Ey (FF hr) hx h1 g1 hs,λC M H n ρ σ D2 E R L w=>?_⟩;obtain⟨ks,ds,hd,w⟩:=w;refine g2 C M H n ρ σ _ _ R w λv H1 d n1 e1 f1 r1 p=>?_;have R1:=R.step e1 f1;obtain⟨ad,ea,m,nv,tt⟩:=R1.sl i _ hd;refine⟨.ref ad,getD_some ea,?_⟩;refine h2 C M H1 n1 ρ σ _ _ R1 p λy H2 kk n2 e2 f2 r2 p=>?_;obtain⟨key,hkey,hlt,p⟩:=p;have R2:=R1.step e2 f2;obtain⟨ad',ea',m',nv',tt'⟩:=R2.sl i _ hd;rw [ea] at ea';cases ea';obtain⟨vs,hH,hl,hs'⟩:=tt';have hat:At X.K M H2 d v:=(r1.shOf R.dom hk).pres (R1.pres e2);have hvl:ks.length=vs.length:=by rw [hl,hs'.length]
 obtain⟨b,rfl,eb⟩:=Ge hkey (r2.tpOf R1.dom R1.vM);refine⟨ad,_,rfl,DPut.t hH eb (by rw [af]; omega),L.nx M _ n2 _ σ (R2.mut (e:=.dit (CF ks key) (CD ks ds key d)) hd ea ⟨CD ks vs key v,by rw [AT,PQ hvl],Lx hl,(hs'.putXU hat).pres (Bq m' hH)⟩) p⟩
variable {apos cpos:Pos}{f:Expr}{κf:Kd}{wf:DW}
end
end Dp
namespace L2
open PySem PySem.Spec PyProof.Rows
noncomputable def DRaw(h:Zk)(a:Ev)(es:Array bn)(ep:Nat):Prop:=∃o,h.get? a=some o/\o.ExactDict/\o.data=.dict es ep
section
variable {P:Program}{w:World}{A:Around}{E:Value->Shared->Prop}{s:Shared}{d t:Addr}{es:Array DictEntry}{ep i:Nat}
theorem DRaw.ty(x:DRaw s.heap d es ep):s.TypeIs (.ref d) "dict":=let ⟨o,h1,h2,_⟩:=x; ⟨o,h1,h2.1⟩
theorem Q3{Q:FM->Rs->Prop}(lo:(d==sysModules)=false)(x:DRaw s.heap d es ep)
  (q:Q (.ref s.heap.objs.size) { s with heap:=s.heap.push { cls:=.type "dict_keyiterator",data:=.fields #[.ref d,.int 0 0,.int es.size 0,.int ep 0] } }):wpAny (model P w) A (pyIter (.ref d)) Q E s:=by
 have T:=x.ty;obtain⟨o,h1,h2,h3⟩:=x;refine wpAny_pyIter_slot T F.slot_dict_iter (ai F.slot_dict_iter T F.entry_dict_iter ?_ (F.args_dict_iter_1 _));unfold bp.«dict.__iter__»; refine Db ?_
 unfold Builtin.Dict.dictSlotNone; refine Db (wpAny_notOrdered_dict T ?_)
 show wpAny (model P w) _ (pure (Z4 d)) _ _ s; refine TM ?_
 show wpAny (model P w) _ (fR d >>= _) _ _ s; unfold fR
 rw [if_neg (by rw [lo]; decide)]; refine Db (TM (Db (c_ h1 h3 (Db (fF h1 h3 ?_)))))
 refine Db (aC (TM ⟨_,rfl,"dict_keyiterator",_,⟨_,Uf _ rfl,rfl⟩,au.lookup,?_⟩)); simpa [rawInt] using q
theorem Q4{Q:Option FM->Rs->Prop}(x:s.heap.IsKeyIter t d i es.size ep)(y:DRaw s.heap d es ep)(hi:i<es.size)
  (q:∀h',h'.IsKeyIter t d (i+1) es.size ep->dO t s.heap h'->Q (some es[i].key) { s with heap:=h' }):wpAny (model P w) A (pyNext (.ref t)) Q E s:=by
 have T:=x.typeIs;obtain⟨o,g1,g2,g3⟩:=x;obtain⟨od,h1,h2,h3⟩:=y;unfold pyNext; refine Db (dG (aF (name:=aV "__next__") T au (ai au T df ?_ (de _))))
 refine Db (TM (Db (Db ?_)))
 first | refine Db (bL T (TM ?_)) | refine Db (bq T (TM ?_))
 refine Db (wpAny_fieldsOf g1 g3 ?_);have ow:dq "dict_keyiterator"=false:=by decide
 simp only [ow,aS,if_false];show wpAny (model P w) _ (if (Z4 d==Z0)=true then _ else _) _ _ s;rw [if_neg (show ¬(Z4 d==Z0)=true by intro z; cases z)]; refine Db (TM (Db (c_ h1 h3 ?_)))
 rw [if_neg (by simp)]; refine Db (TM (Db (fF h1 h3 ?_)))
 rw [if_neg (by simp)]; refine TM ?_
 simp only [show ¬(i:Int)<0 by omega,if_false,av,bi hi]; refine Db ?_
 first | refine Db (bL T (TM ?_)) | refine Db (bq T (TM ?_))
 refine Db (wpAny_isOneOf_keyiter T ?_); show wpAny (model P w) _ (setField (.ref t) 1 (rawInt ((i:Int)+1)) >>= _) _ _ s
 refine Db (dk g1 g3 (by simp) ?_);have g':(s.heap.update t (Obj.mapFields (·.setIfInBounds 1 (rawInt ((i:Int)+1))))).IsKeyIter t d (i+1) es.size ep:=⟨_,bY _ g1 (Obj.isFreed_of_fields (cf g3 _)),(Obj.cls_mapFields ..).trans g2,by rw [cf g3]; simp [rawInt]⟩;refine Db (aN (Db (wpAny_isOneOf_keyiter (s:={ s with heap:=s.heap.update t (Obj.mapFields (·.setIfInBounds 1 (rawInt ((i:Int)+1)))) }) g'.typeIs ?_)));show wpAny (model P w) _ (pure es[i].key) _ _ _; exact TM (TM ⟨_,rfl,TM (q _ g' (cT ..))⟩)
theorem TK{Q:Option FM->Rs->Prop}(hh:A.handled=none)(x:s.heap.IsKeyIter t d i es.size ep)(y:DRaw s.heap d es ep)(hi:es.size<=i)
  (q:∀h',fI t s.heap h'->Q none { s with heap:=h' }):wpAny (model P w) A (pyNext (.ref t)) Q E s:=by
 have T:=x.typeIs;obtain⟨o,g1,g2,g3⟩:=x;obtain⟨od,h1,h2,h3⟩:=y;unfold pyNext; refine Db (dG (aF (name:=aV "__next__") T au (ai au T df ?_ (de _))))
 refine Db (TM (Db (Db ?_)))
 first | refine Db (bL T (TM ?_)) | refine Db (bq T (TM ?_))
 refine Db (wpAny_fieldsOf g1 g3 ?_);have ow:dq "dict_keyiterator"=false:=by decide
 simp only [ow,aS,if_false];show wpAny (model P w) _ (if (Z4 d==Z0)=true then _ else _) _ _ s;rw [if_neg (show ¬(Z4 d==Z0)=true by intro z; cases z)]; refine Db (TM (Db (c_ h1 h3 ?_)))
 rw [if_neg (by simp)]; refine Db (TM (Db (fF h1 h3 ?_)))
 rw [if_neg (by simp)]; refine TM ?_
 simp only [show ¬(i:Int)<0 by omega,if_false,av,fK hi]; refine Db ?_
 first | refine Db (bL T (TM ?_)) | refine Db (bq T (TM ?_))
 show wpAny (model P w) _ (setField (.ref t) 0 .none >>= _) _ _ s; refine Db (dk g1 g3 (by simp) ?_)
 show wpAny (model P w) _ (newExc (.type "StopIteration") [] >>= _) _ _ _; refine Db ?_
 simp only [newExc,newTuple]; refine Db (aC ?_ (by size_fits))
 refine Db (m:=firstArgMember _ _) (fJ (a:=Z0) (by first | rfl | (simp only [firstArgMember]; rfl)) (aC ?_ (by size_fits)));simp only [raiseNew]; refine Db (wpAny_handled ?_)
 rw [show A.in1.handled=none from hh]; refine Db (TM (wpAny_throw ?_)); refine Db (e7 (T := "StopIteration") (b:=true) ⟨_,Uf _ rfl,rfl⟩ isSubtype_stop ?_)
 exact TM (q _ (((cT ..).extBut.push _).push _))
end
end L2
namespace L2
open PySem PySem.Spec PyProof.Rows PySem.W
theorem Tp(k:Key):kOf k=kV k:=by cases k <;> rfl
section
variable {X:Cx}
theorem Oh{P:Zs}{w:Zz}{H:Hp}{h:Zk}{d:Ev}{kvs:List (List Key×V)}(ok:HOk P w H h)(hd:Rd H d (.dT kvs)) :
  ∃(o:Obj) (es:Array bn) (ep:Nat) (as:List Ev),h.get? d=some o/\o.ExactDict/\o.data=.dict es ep/\as.length=kvs.length/\es.size=kvs.length /\
   (∀(i:Nat) (e:bn),es[i]?=some e->∃a,as[i]?=some a/\e.key=.ref a)/\∀(i:Nat) (a:Ev) (p:List Key×V),as[i]?=some a->kvs[i]?=some p->H a=some (.tup (p.1.map kV)):=by
 obtain⟨_,_,xs,r,o,es,ep,h1,h2,h3,h4,h5,h6⟩:=FH ok hd
 have hl:kvs.length=xs.length:=by
  have:∀{l:List (List Key×V)} {m:List (List Key×Ev×FM)},KT H l m->l.length=m.length:=λq=>q.length
  exact this r
 have hes:es.size=xs.length:=by rw [← Z5,h4,On]
 refine⟨o,es,ep,xs.map λx=>x.2.1,h1,h2,h3,by rw [On,hl],by rw [hes,hl],λi e he=>?_,λi a p ha hp=>?_⟩
 ·rw [← cH,h4,ZZ] at he
  obtain⟨x,hx,rfl⟩:=Zy.mp he;exact⟨x.2.1,by rw [ZZ,hx]; rfl,rfl⟩
 ·rw [ZZ] at ha
  obtain⟨x,hx,rfl⟩:=Zy.mp ha
  have:=EJ r hp hx
  exact this.2.1
end
end L2
namespace Dp
open PySem PySem.Spec PyProof.Rows L2
noncomputable def tupK(k:List Key):D:=.tup (k.map Oo)
theorem MI{K:Frag}{M:Ev->Prop}{H:Hp}:∀{k:List Key},(∀x∈k,E4 x)->Ats K M H (k.map Oo) (k.map kV)
 | [],_=>rfl
 | x::k,h=>⟨kV x,k.map kV,rfl,by rw [← Tp]; exact Nn (h x Re),MI λy hy=>h y (Sc _ hy)⟩
section
variable {X:Cx}
end
end Dp
set_option maxHeartbeats 400000
namespace L2
open PySem PySem.Spec PyProof.Rows
section
variable {X:Cx}{pins:List (Addr×Obj)}{σ:L2.St}{H:Hp}{s:Shared}
theorem Inv.frzU{a:Ev}{u:HO}(I:Inv X pins σ H s)(ha:H a=some u)(hu:(∃kvs,u=.dK kvs)\/∃kvs,u=.dT kvs):∃o,Inv X pins σ (Aw H a (.frz o u)) s:=by
 have keep:∀(f:Obj) b o,H b=some o->o≠u->Aw H a (.frz f u) b=some o:=λf b o e n=>by
  rw [AK (λz=>by rw [z,ha] at e; exact n (ZS e).symm)];exact e
 have nu:∀o:HO,(∀kvs,o≠.dK kvs)->(∀kvs,o≠.dT kvs)->o≠u:=λo n1 n2 z=>by
  rcases hu with ⟨kvs,e⟩ | ⟨kvs,e⟩
  ·exact n1 kvs (z.trans e)
  ·exact n2 kvs (z.trans e)
 refine⟨(s.heap.get? a).getD { cls:=.none,data:=.fields #[] },?_⟩;refine I.step (g':=s.gens) (d':=s.drawn) (t':=s.toks) (h':=s.heap) (ch:=[]) (λ_ z=>nomatch z) (λ_ _ _ _ _ e _=>e) (λb o _ _ _ e _=>⟨o.slots,e⟩) (λb o _ e n=>?_) (λb o _ e=>⟨o,e⟩) (λb xs e=>keep _ b _ e (nu _ (λ_ z=>by cases z) λ_ z=>by cases z)) (λb o u e=>keep _ b _ e (nu _ (λ_ z=>by cases z) λ_ z=>by cases z)) (λb ps e=>⟨#[],by rw [keep _ b _ e (nu _ (λ_ z=>by cases z) λ_ z=>by cases z)]; simp⟩) (λ_ h=>h) (λb u' e=>?_) I.bare
 ·rw [AK (λz=>by rw [z,ha] at n; cases n)]; exact n
 ·have stay:∀{b:Ev} {w:HO},ObjOk X.prog X.w H s.heap b w->ObjOk X.prog X.w (Aw H a (.frz ((s.heap.get? a).getD { cls:=.none,data:=.fields #[] }) u)) s.heap b w:=λx=>x.stay (λ_ _ _ q=>q) (λc q=>keep _ c _ q (nu _ (λ_ z=>by cases z) λ_ z=>by cases z)) λc xs q=>keep _ c _ q (nu _ (λ_ z=>by cases z) λ_ z=>by cases z)
  by_cases hb:b=a
  ·rw [hb,AT] at e
   cases e;rw [hb];have ok:=I.hok a _ ha;have lt:=ok.lt
   obtain⟨o,eo⟩:∃o,s.heap.get? a=some o:=by
    rcases hu with ⟨kvs,rfl⟩ | ⟨kvs,rfl⟩
    ·obtain⟨_,_,_,_,o,_,_,e,_⟩:=(show ObjOk X.prog X.w H s.heap a (.dK kvs) from ok); exact⟨o,e⟩
    ·obtain⟨_,_,_,_,o,_,_,e,_⟩:=(show ObjOk X.prog X.w H s.heap a (.dT kvs) from ok); exact⟨o,e⟩
   exact⟨by rw [eo]; rfl,stay ok⟩
  ·rw [AK hb] at e
   exact stay (I.hok b u' e)
noncomputable def Wl(t:TS):TS:=λD σ H=>∃a u,H a=some u/\((∃kvs,u=.dK kvs)\/∃kvs,u=.dT kvs)/\∀o,t D σ (Aw H a (.frz o u))
theorem OO{st:List Z9}{t:TS}(h:PSs X st t):PSs X st (Wl t):=by
 intro pins s σ H D I ⟨a,u,ha,hu,q⟩;obtain⟨o,I2⟩:=I.frzU ha hu;exact h pins s σ _ D I2 (q o)
noncomputable def Yy(d:Ev)(o:Obj)(kvs:List (List Key×V)):It :=
 ⟨λi H=>H d=some (.frz o (.dT kvs))/\i<kvs.length,λi H x H'=>H'=H/\∃p b,kvs[i]?=some p/\x=.ref b/\H b=some (.tup (p.1.map kV)),λi H=>H d=some (.frz o (.dT kvs))/\kvs.length<=i⟩
theorem NJ{d:Ev}{o:Obj}{kvs:List (List Key×V)}{es:Array bn}{ep:Nat}(I:Inv X pins σ H s)(hH:H d=some (.frz o (.dT kvs)))(hdat:o.data=.dict es ep):DRaw s.heap d es ep/\es.size=kvs.length/\∃as:List Ev,as.length=kvs.length /\
  (∀(i:Nat) (e:bn),es[i]?=some e->∃a,as[i]?=some a/\e.key=.ref a)/\∀(i:Nat) (a:Ev) (p:List Key×V),as[i]?=some a->kvs[i]?=some p->H a=some (.tup (p.1.map kV)):=by
 obtain⟨o',es',ep',as,h1,h2,h3,h4,h5,h6,h7⟩:=Oh I.hok (.inr ⟨o,hH⟩);obtain⟨e0,_⟩:=(show ObjOk X.prog X.w H s.heap d (.frz o (.dT kvs)) from I.hok d _ hH);rw [e0] at h1;cases h1;rw [hdat] at h3;cases h3;exact⟨⟨o,e0,h2,hdat⟩,h5,as,h4,h6,h7⟩
theorem M5{P:Zs}{w:Zz}{K:Frag}{tg:Zq}(d it:Ev)(o:Obj)(kvs:List (List Key×V))(es:Array bn)(ep:Nat)(hdat:o.data=.dict es ep) :
  Turn P w K tg (Yy d o kvs) [it] it (λi h=>h.IsKeyIter it d i kvs.length ep) where
 mem:=by simp
 obj:=λi h st c hc=>by
  rw [Go.mp hc];obtain⟨u,hu,_,hd⟩:=st;exact⟨u,hu,λv q=>by rw [hd] at q; cases q⟩
 keep:=λi h h' st k=>st.at λu e=>k it (by simp) u e
 item:=by
  intro X hP hw hK hc i pins s σ H E I hf st hg;subst hP hw hK;obtain⟨hH,hi⟩:=hg;obtain⟨dr,hes,as,hal,h6,h7⟩:=NJ I hH hdat
  rw [← hes] at st;have hie:i<es.size:=by omega
  refine Q4 st dr hie λh' hit hsame=>⟨_,rfl,?_⟩;obtain⟨u,hu,hcu,hdu⟩:=id hit;refine J7 hu hcu hdu (by decide) ?_;obtain⟨b,hb,Nl⟩:=h6 i es[i] (bi hie);have hp:kvs[i]?=some kvs[i]:=No hi;have I2:Inv X pins σ H { s with heap:=h' }:=I.turnedL (t':=s.toks) (ch:=[it]) hf λc o hc e=>hsame.extBut c o (λz=>hc (by rw [z]; exact Go.mpr rfl)) e;exact⟨.ref b,H,I2,by rw [Nl]; rfl,⟨rfl,_,b,hp,rfl,h7 i b _ hb hp⟩,by rw [← hes]; exact hit,λb hb=>(hf b hb).1⟩
 done:=by
  intro X hP hw hK hc i pins s σ H E I hf st hg;subst hP hw hK;obtain⟨hH,hi⟩:=hg;obtain⟨dr,hes,_⟩:=NJ I hH hdat
  rw [← hes] at st;refine TK (I.ok.hd hc) st dr (by omega) λh' ext=>⟨rfl,?_⟩;exact I.turnedL (t':=s.toks) (ch:=[it]) hf λc o hc e=>ext c o (λz=>hc (by rw [z]; exact Go.mpr rfl)) e
 self:=λA i s Q E st h=>wpAny_pyIter_keyiter st h
noncomputable def Vy(te:TE):TI:=λσ H R=>te σ H λx H1=>∃d o kvs,x=.ref d/\H1 d=some (.frz o (.dT kvs))/\R (Yy d o kvs) H1
theorem RJ{e tg:Zq}{te:TE}(he:PE X e te):PI X tg e (Vy te):=by
 intro pins s σ H R I h;refine BV (he pins s σ H _ I h) λu s1 ⟨x,H1,I1,r1,d,o,kvs,ex,hd,q⟩=>?_;subst ex;cases r1;obtain⟨_,lo,_⟩:=FH I1.hok (.inr ⟨o,hd⟩)
 obtain⟨es,ep,hdat⟩:∃es ep,o.data=.dict es ep:=by
  obtain⟨e0,_,_,xs,kv,o',es',ep',e1,e2,e3,e4⟩:=(show ObjOk X.prog X.w H1 s1.heap d (.frz o (.dT kvs)) from I1.hok d _ hd);rw [e0] at e1;cases e1;exact⟨es',ep',e3⟩
 obtain⟨dr,hes,_⟩:=NJ I1 hd hdat
 refine Q3 lo dr ?_;refine⟨s1.heap.objs.size,[s1.heap.objs.size],_,Yy d o kvs,H1,rfl,I1.kept (t':=s1.toks) λb o e=>Op _ e,M5 d _ o kvs es ep hdat,⟨_,Uf _ rfl,rfl,by rw [← hes]; rfl⟩,λc hc=>?_,q⟩;rw [Go.mp hc];exact I1.fpOk (Tk _) (I1.hok.fresh (Tk _))
theorem JZ{P:Zs}{w:Zz}{d:Ev}{es:Array bn}{ep:Nat}(lo:(d==sysModules)=false) :
  MeetsIn P w (bp.«dict.__len__» ⟨[.ref d],[]⟩) (λ_ R s=>DRaw s.heap d es ep/\R (.ok (.ret (.int es.size s.toks))) { s with toks:=s.toks+1 }) :=
 .of_wp λA R s ⟨hm,h⟩=>by
  obtain⟨o,ho,hc,hdat⟩:=hm;show wpAny _ _ (dictSize d >>= _) _ _ s;unfold dictSize;refine Db (Db (c_ ho hdat (TM ?_)));show wpAny _ _ (Builtin.Dict.pendingCount d >>= _) _ _ s;refine Db (wpAny_pendingCount_other lo ?_);refine wpAny_ret_mkInt ?_;rw [Nat.add_zero]; exact h
theorem QN:By X (.builtin "len") (λxs H Q=>∃a kvs,xs=[V.ref a]/\Rd H a (.dT kvs)/\Q (.int kvs.length) H):=by
 intro pins s σ H xs us Q I r h;obtain⟨a,kvs,rfl,ha,q⟩:=h;obtain⟨u,rfl,ru⟩:=vals1 r;cases ru;obtain⟨z,lo,_⟩:=FH I.hok ha;obtain⟨o,es,ep,as,h1,h2,h3,h4,h5,_⟩:=Oh I.hok ha;have dr:DRaw s.heap a es ep:=⟨o,h1,h2,h3⟩;have szl:=PySem.sizeLine_eq;refine Calls.call_function_entry kind_len plain_len entry_len (args_len1 _) ?_;unfold bp.«len»;refine Db (m:=oneArg "len" _) (TM ?_)
 refine Db (m:=callSpecial? (.ref a) (aV "__len__")) (aF (name:=aV "__len__") dr.ty F.slot_dict_len
  (en F.slot_dict_len dr.ty F.entry_dict_len (F.args_dict_len_1 _) (JZ lo) ⟨dr,?_⟩))
 show wpAny _ _ _ _ _ { s with toks:=s.toks+1 };refine Db (aN (TM ?_));refine Db (bo ?_);show wpAny _ _ (if ((es.size:Nat):Int)<0 then _ else _) _ _ _;rw [if_neg (by omega)];show wpAny _ _ (if ((es.size:Nat):Int)≥2 ^ 63 then _ else _) _ _ _;rw [if_neg (by omega)];rw [h5];exact Db (wpAny_mkInt (TM ⟨_,rfl,.int kvs.length,H,I.tok _,⟨_,rfl⟩,q⟩))
end
end L2
namespace Dp
open PySem PySem.Spec PyProof.Rows L2
section
variable {K:Frag}{C:Fm}{M:Addr->Prop}{H:Hp}{n:Nat}{ρ:List Slot}{σ:L2.St}{d:D}
theorem Rel.giveG(R:Rel K C M H n ρ σ){i:Nat}{a:Ev}{o:HO}{e:D}(hi:ρ[i]?=some (.ow d))(ha:(σ[i]?).getD none=some (.ref a))(h:At K (λb=>M b/\b≠a) (Aw H a o) e (.ref a)):Rel K C (λb=>M b/\b≠a) (Aw H a o) n (ρ.set i (.sh e)) σ:=by
 obtain⟨b,e1,m,nv,t,n0,h0⟩:=R.owner hi rfl;rw [ha] at e1;cases e1;have pr:Pres M H (λb=>M b/\b≠a) (Aw H a o):=⟨λb o' q nb=>by rw [AK (λz=>nb (by rw [z]; exact m))]; exact q,λ_ z=>.inl z.1,λb vs q=>by rw [AK (λz=>t vs (by rw [← z]; exact q))]; exact q⟩
 have old:∀(j:Nat) (s:Slot),(ρ.set i (.sh e))[j]?=some s->(j=i/\s=.sh e)\/(j≠i/\ρ[j]?=some s):=λj s q=>by
  rcases EC q with ⟨rfl,hl,rfl⟩ | ⟨hj,q⟩
  ·exact .inl ⟨rfl,rfl⟩
  ·exact .inr ⟨hj,q⟩
 have far:∀(j:Nat) (s:Slot) (b:Ev),j≠i->ρ[j]?=some s->s.owns=true->(σ[j]?).getD none=some (.ref b)->b≠a:=λj s b hj q o z w=>by
  subst w;exact hj (R.two j i s _ b q o hi rfl z ha)
 refine⟨by rw [az]; exact R.len,λb z=>⟨R.sub b z,λw=>n0 (by rw [← w]; exact z)⟩,λb z=>?_,λb o' q=>?_,R.fU,R.uV,λb z=>⟨R.vM b z,λw=>nv (by rw [← w]; exact z)⟩,R.feed.pres pr λf o' hf q=>?_,λj s q=>?_,λq hq=>(R.pin q hq).trans pr,λj e2 b q q2=>?_,λj s b q o2 q2=>?_,λj k s t b q1 o1 q2 o2 z1 z2=>?_,λp hp=>?_⟩
 ·obtain⟨o',q⟩:=R.dom b z.1
  exact⟨o',by rw [AK z.2]; exact q⟩
 ·obtain⟨o2,q2,r⟩:=R.ext b o' q
  have hb:b≠a:=λz=>by rw [z,h0] at q; cases q
  exact⟨o2,by rw [AK hb]; exact q2,r⟩
 ·have hb:f.1≠a:=λz=>nv (by rw [← z]; exact R.uV _ (R.fU f hf))
  rw [AK hb]; exact q
 ·rcases old j s q with ⟨rfl,rfl⟩ | ⟨hj,q1⟩
  ·rw [ha]
   exact⟨_,rfl,h⟩
  ·have q2:=R.sl j s q1
   cases s with
   | no=>trivial
   | sh d=>obtain⟨v,e1,h1⟩:=q2; exact⟨v,e1,h1.pres pr⟩
   | ex a nm ks ds=>obtain⟨e1,h1⟩:=q2; exact⟨e1,h1.pres pr⟩
   | br d =>
    obtain⟨v,e1,h1⟩:=q2;refine⟨v,e1,h1.same pr (λb o' z q=>?_) λ_ _ z=>z⟩;subst z;obtain⟨o3,w⟩:=R.br0 j d b q1 e1;rw [AK (λz=>by rw [z,h0] at w; cases w)];exact q
   | fd=>exact q2
   | wd S=>exact q2
   | ow d =>
    obtain⟨b,e1,h1,h2,h3⟩:=q2;exact⟨b,e1,⟨h1,far j _ b hj q1 rfl e1⟩,h2,h3.pres pr λo' w=>by rw [AK (far j _ b hj q1 rfl e1)]; exact w⟩
   | lt b d =>
    obtain⟨e1,h1,h2,h3⟩:=q2;exact⟨e1,⟨h1,far j _ b hj q1 rfl e1⟩,h2,h3.pres pr λo' w=>by rw [AK (far j _ b hj q1 rfl e1)]; exact w⟩
 ·rcases old j _ q with ⟨_,e1⟩ | ⟨hj,q1⟩
  ·cases e1
  ·exact R.br0 j e2 b q1 q2
 ·rcases old j s q with ⟨_,rfl⟩ | ⟨hj,q1⟩
  ·cases o2
  ·exact R.new j s b q1 o2 q2
 ·rcases old j s q1 with ⟨_,rfl⟩ | ⟨hj,p1⟩
  ·cases o1
  ·rcases old k t q2 with ⟨_,rfl⟩ | ⟨hk,p2⟩
   ·cases o2
   ·exact R.two j k s t b p1 o1 p2 o2 z1 z2
 ·obtain⟨h1,h2,h3,h4⟩:=R.kept p hp
  have hb:p.1≠a:=λz=>h4 i d hi (by rw [ha,z]);refine⟨by rw [AK hb]; exact h1,⟨h2,hb⟩,h3,λj e2 q=>?_⟩
  rcases old j _ q with ⟨_,e1⟩ | ⟨hj,q1⟩
  ·cases e1
  ·exact h4 j e2 q1
end
section
variable {X:Cx}{κ κa:Kd}{a tg:Expr}{wa:DW}{st:List Stmt}{w:AW}
noncomputable def Mu(i:Nat)(w:AW):AW:=λD2 n ρ=>∃ks ds,ρ[i]?=some (.ow (.dic ks ds))/\w D2 n (ρ.set i (.sh (.fdi ks ds)))
theorem QB(i:Nat)(h:Mo X κ st w):Mo X κ st (Mu i w):=by
 obtain⟨t,a1,a2⟩:=h;refine⟨_,OO a1,λC M H n ρ σ D2 E R L w=>?_⟩;obtain⟨ks,ds,hd,w⟩:=w;obtain⟨ad,ea,m,nv,vs,hH,hl,hs⟩:=R.sl i _ hd;refine⟨ad,_,hH,.inl ⟨_,rfl⟩,λo=>?_⟩;have less:Pres M (Aw H ad (.frz o (.dK (ks.zip vs)))) (λb=>M b/\b≠ad) (Aw H ad (.frz o (.dK (ks.zip vs)))):=Pres.less λ_ z=>z.1;exact a2 C _ _ n _ σ D2 E (R.giveG (e:=.fdi ks ds) hd ea ⟨ad,vs,rfl,⟨o,λz=>z.2 rfl,AT⟩,hl,(hs.pres (Bq m hH)).pres less⟩) L w
noncomputable def Mt(i:Nat)(w:AW):AW:=λD2 n ρ=>∃ks ds,ρ[i]?=some (.ow (.dit ks ds))/\∀a,w D2 n (ρ.set i (.lt a (.dit ks ds)))
theorem QA(i:Nat)(h:Mo X κ st w):Mo X κ st (Mt i w):=by
 obtain⟨t,a1,a2⟩:=h;refine⟨_,OO a1,λC M H n ρ σ D2 E R L w=>?_⟩;obtain⟨ks,ds,hd,w⟩:=w;obtain⟨ad,ea,m,nv,vs,hH,hl,hs⟩:=R.sl i _ hd;refine⟨ad,_,hH,.inr ⟨_,rfl⟩,λo=>?_⟩;exact a2 C _ _ n _ σ D2 E (R.mutG (s0:=.lt ad (.dit ks ds)) hd ea rfl ⟨rfl,m,nv,o,vs,AT,hl,hs.pres (Bq m hH)⟩) L (w ad)
noncomputable def Ms(i:Nat):Er:=λn ρ P=>∃a ks ds,ρ[i]?=some (.lt a (.dit ks ds))/\(∀k∈ks,∀x∈k,E4 x)/\P (ks.map tupK) n
theorem QD{i:Nat}{x:Str}{p:Pos}(h:PE X (.Name x p) (BU i)):X1 X tg (.Name x p) (Ms i):=by
 refine⟨_,RJ h,λC M H n ρ σ P Rr R w q=>?_⟩;obtain⟨ad,ks,ds,hd,hfit,w⟩:=w;obtain⟨ea,m,nv,o,vs,hH,hl,hs⟩:=R.sl i _ hd;have hlen:=hs.length;refine⟨.ref ad,getD_some ea,ad,o,_,rfl,hH,q _ H _ n (Ext.refl _ _) R.feed (λi M' H' pr ex dom=>?_) w⟩;have hH':H' ad=some (.frz o (.dT (ks.zip vs))):=ex.keep hH λz=>nv (R.uV _ z);have hz:(ks.zip vs).length=ks.length:=by rw [af]; omega
 refine⟨λd hd=>?_,λhi=>⟨hH',by rw [hz]; rw [On] at hi; exact hi⟩⟩;obtain⟨k,hk,rfl⟩:=ZZ ..▸hd |> Zy.mp
 obtain⟨hik,ek⟩:=ZB.mp hk;refine⟨⟨hH',by omega⟩,λx H2 y=>?_⟩;obtain⟨rfl,p,b,hp,rfl,hb⟩:=y
 have e1:p.1=k:=by
  rw [cY] at hp;rw [hk] at hp;exact(ZS hp.1).symm
 rw [e1] at hb;exact⟨.refl,b,k.map kV,rfl,hb,MI (hfit k (aT hk))⟩
noncomputable def Up(ds:List D)(P:D->Prop):Prop:=∃ks es,ds=[.dit ks es]/\ks.length=es.length/\P (.int (ks.length:Int))
theorem WJ:CS X.K .sh (λxs H Q=>∃a kvs,xs=[V.ref a]/\Rd H a (.dT kvs)/\Q (.int kvs.length) H) Up:=by
 intro U M H ds vs P Q dom vM hp w q;obtain⟨ks,es,rfl,l1,w⟩:=w;obtain⟨v,rfl,hx⟩:=DK hp;obtain⟨a,us,rfl,ha,hs⟩:=Nm hx;have m1:=hs.length;refine⟨a,_,rfl,ha,?_⟩;rw [show (ks.zip us).length=ks.length by rw [af]; omega];exact q _ H (.int _) .refl rfl w
end
end Dp
namespace Nt
open PySem PySem.Spec PyProof.Rows L2 Dp
noncomputable def YC(N:Net)(F:B_)(w:List Str):Nat->List Key->List D->Prop:=λm ks ds=>Dmap ks ds Bw (Hz N F (w.take (m+1)))
noncomputable def Xr:W2:=λss n P=>∃(N:Net) (s x:Str) (r:List Str) (F:B_) (dx e:Int) (q:Option Str),ss=[.sh (B0 N),.wd (YC N F (x::r)),.sh (.tup ((x::r).map .str))]/\n=0/\okN N/\Lt N s F/\F x=some (dx,q)/\walk N (x::r) e/\r.length<=1000/\∀n',(∀ks ds,YC N F (x::r) n' ks ds->Dmap ks ds Bw (Hz N F (x::r)))->P .non n'
noncomputable def Sd:AW:=(Ae (BE 5 (AY BN (AY BG (Lc 1 (AD 3)) (wC (D.int 0))) (AY A4 (AY A4 (AD 0) (AD 3)) (AD 4))))
 (Be (JH (Qc 1 (AD 4)) (Aj (AY Fx (AD 5) (AY BG (Lc 1 (AD 4)) (wC (D.int 0)))))) (Qb 1 (AD 4) (A3 (AC (AD 5) (AC (AD 3) AQ)))) A_))
noncomputable def G6:AW:=(Cg (Wa (AC (AD 2) (AC (Y1 V2 (AD 2) (UQ (wC (D.int 1))) OA) AQ))) (FA 2 (Am (Aa 3) (Am (Aa 4) CV))) (Ae (BE 5 (AY BN (AY BG (Lc 1 (AD 3)) (wC (D.int 0))) (AY A4 (AY A4 (AD 0) (AD 3)) (AD 4))))
 (Be (JH (Qc 1 (AD 4)) (Aj (AY Fx (AD 5) (AY BG (Lc 1 (AD 4)) (wC (D.int 0)))))) (Qb 1 (AD 4) (A3 (AC (AD 5) (AC (AD 3) AQ)))) A_)))
theorem OZ{N:Net}(okn:okN N){s:Str}{D2:E2}{S:Nat->List Key->List D->Prop}{s2:Slot}:∀(r:List Str) (x:Str) (F:B_) (dx e:Int) (q:Option Str) (c n:Nat) (s3 s4 s5:Slot),Lt N s F->F x=some (dx,q)->walk N (x::r) e ->
  (∀j ks ds,S (c+j) ks ds↔Dmap ks ds Bw (Hz N F ((x::r).take (j+1))))->(∀ks ds,S n ks ds->Dmap ks ds Bw F)->(∀n',(∀ks ds,S n' ks ds->Dmap ks ds Bw (Hz N F (x::r)))->∀s3 s4 s5,D2.nx n' [.sh (B0 N),.wd S,s2,s3,s4,s5]) ->
  A0 (FA 2 (Am (Aa 3) (Am (Aa 4) CV))) Sd D2 (GO ((x::r).map .str) (r.map .str)) n [.sh (B0 N),.wd S,s2,s3,s4,s5]
 | [],x,F,dx,e,q,c,n,s3,s4,s5,hF,hx,hw,hc,hn,p=>p n hn s3 s4 s5
 | y::r,x,F,dx,e,q,c,n,s3,s4,s5,hF,hx,hw,hc,hn,p=>by
  have ok:=okn.1;have szl:=PySem.sizeLine_eq;obtain⟨l,e',hed,hw',rfl⟩:=hw;obtain⟨h1,h2,d,pq,h3,h4⟩:=Ko ok hF hx hed;have el:=CN ok hed;have hxp:=hF.ins x (by rw [hx]; exact λz=>by cases z)
  have v2:BI ((Cu N.ts x).map λz=>.inr z.1) ((Cu N.ts x).map λz=>.int z.2) (.inr y)=some (.int l):=by
   rw [Kc]
   have:=K8 ok hed
   unfold look at this;rw [this];rfl
  have nxt:∀n' s3 s4 s5,(∀ks ds,S n' ks ds->Dmap ks ds Bw (CC N F x y))->A0 (FA 2 (Am (Aa 3) (Am (Aa 4) CV))) Sd D2 (GO ((y::r).map .str) (r.map .str)) n' [.sh (B0 N),.wd S,s2,s3,s4,s5]:=λn' s3 s4 s5 hn' =>
   OZ okn r y (CC N F x y) d e' pq (c+1) n' s3 s4 s5 h1 h3 hw' (λj ks ds=>by rw [show c+1+j=c+(j+1) by omega]; exact hc (j+1) ks ds) hn' p
  have put:∀n',(∀ks ds,S n' ks ds->Dmap ks ds Bw F)->CC N F x y=CA F y (dx+l,some x)->∀ks ds,ks.length=ds.length->S n' ks ds->ks.length<sizeLine/\S (c+1) (Bx ks (.inr y)) (Bo ks ds (.inr y) (Bw (dx+l,some x))):=λn' hn' er ks ds _ hS=>by
   have M:=hn' ks ds hS;refine⟨by have:=M.le hF.ins; have:=okn.2.1; omega,(hc 1 _ _).mpr ?_⟩
   have:=M.put y (dx+l,some x)
   rw [← er] at this;exact this
  refine⟨rfl,rfl,?_⟩;refine⟨S,rfl,_,AX x,λks ds hS=>⟨Bw (dx,q),by rw [(hn ks ds hS).at_,hx]; rfl,_,AJ (j:=0) rfl,?_⟩⟩;refine⟨_,_,_,QX N.ts x,rfl,AX x,Eu hxp,_,_,_,.int l,rfl,AX y,v2,?_⟩;refine⟨S,rfl,_,AX y,λks ds hS=>?_⟩;have M:=hn ks ds hS;cases ey:F y with
  | none =>
   have er:CC N F x y=CA F y (dx+l,some x):=by unfold CC; rw [hx]; dsimp only; rw [ey]; dsimp only; rw [el]
   rw [M.at_,ey];refine Fw ⟨S,rfl,(by decide:2<=sizeLine),rfl,_,AX y,c+1,put n hn er,nxt (c+1) _ _ _ λks ds h=>?_⟩;exact(hc 1 ks ds).mp h
  | some a =>
   obtain⟨dy,qy⟩:=a;rw [M.at_,ey];refine EA ⟨S,rfl,_,AX y,λks ds hS=>⟨Bw (dy,qy),by rw [(hn ks ds hS).at_,ey]; rfl,_,AJ (j:=0) rfl,?_⟩⟩;show if decide (dx+l<dy)=true then _ else _
   by_cases cc:dx+l<dy
   ·have er:CC N F x y=CA F y (dx+l,some x):=by unfold CC; rw [hx]; dsimp only; rw [ey]; dsimp only; rw [el,if_pos cc]
    rw [decide_eq_true cc];refine Fw ⟨S,rfl,(by decide:2<=sizeLine),rfl,_,AX y,c+1,put n hn er,nxt (c+1) _ _ _ λks ds h=>?_⟩;exact(hc 1 ks ds).mp h
   ·have er:CC N F x y=F:=by unfold CC; rw [hx]; dsimp only; rw [ey]; dsimp only; rw [el,if_neg cc]
    rw [decide_eq_false cc];exact EA (nxt n _ _ _ λks ds h=>by rw [er]; exact hn ks ds h)
section
variable {ss:List Slot}{n:Nat}{Pd:D->Nat->Prop}
theorem Kr(h:Xr ss n Pd):G6 (EE Pd) n (ss++Zd 3 .no):=by
 obtain⟨N,s,x,r,F,dx,e,q,rfl,rfl,okn,hF,hx,hw,hl,p⟩:=h;have szl:=PySem.sizeLine_eq;unfold G6;refine⟨_,_,(x::r).map .str,r.map .str,rfl,rfl,by show some (Dp.cutD (D.str x::r.map .str) (some 1) none)=_; rw [Yl]; rfl,?_⟩;refine OZ okn r x F dx e q 0 0 _ _ _ hF hx hw (λj ks ds=>by rw [Nat.zero_add]; exact Iff.rfl) (λks ds h=>h) λn' h _ _ _=>⟨rfl,p n' h⟩
end
noncomputable def Mx(N:Net)(F:B_)(l:List Str):List Tie:=QW N F (λ_ _=>true) l
structure Xs (N:Net) (s:Str) (F:B_) (c:Nat) (T:List Tie):Prop where
 ins:∀t∈T,t∈N.ts
 nd:T.Nodup
 many:T.length+1=c
 up:∀u∈T,∃x d y,F x=some (d,some y)/\u=HP N (y,x)
 wk:∀x d q,F x=some (d,q)->∃d',d'<=d/\Wk (sub N T) s x d'
noncomputable def JF:W2:=λss n P=>∃(N:Net) (s:Str) (ks:List Key) (ds:List D) (F:B_),ss=[.sh (enc N),.sh (.fdi ks ds)]/\okN N/\s∈N.ps/\Dmap ks ds Bw F/\Lt N s F/\∀T,Xs N s F ks.length T->P (enc (sub N T)) n
theorem VD{N:Net}(ok:N.Ok){s:Str}{F:B_}(T:Lt N s F){x y:Str}{d:Int}(e:F x=some (d,some y)):∃t∈N.ts,HP N (y,x)=t/\Ed N x y t.len/\(if decide (cs y<cs x)=true then y else x)=t.a/\(if decide (cs x<cs y)=true then y else x)=t.b/\∃dy q,F y=some (dy,q)/\dy+t.len<=d:=by
 rcases T.prev x d _ e with ⟨h,_⟩ | ⟨y',dy,q,l,h,ey,he,ed⟩
 ·cases h
 ·cases h
  obtain⟨t,ht,tl,h2⟩:=he.tie ok;have lt:=(ok.tin t ht).2.2.1;subst tl;have nlt:¬cs t.b<cs t.a:=λz=>aK _ (b7 lt z);refine⟨t,ht,IQ ok ht h2,?_,?_,?_,dy,q,ey,ed⟩
  ·rcases h2 with ⟨rfl,rfl⟩ | ⟨rfl,rfl⟩
   ·exact(B8 ht).2
   ·exact(B8 ht).1
  ·rcases h2 with ⟨rfl,rfl⟩ | ⟨rfl,rfl⟩
   ·rw [decide_eq_true lt,if_pos rfl]
   ·rw [decide_eq_false nlt,if_neg (by decide)]
  ·rcases h2 with ⟨rfl,rfl⟩ | ⟨rfl,rfl⟩
   ·rw [decide_eq_false nlt,if_neg (by decide)]
   ·rw [decide_eq_true lt,if_pos rfl]
theorem HI(N:Net)(F:B_)(A B:List Str):Mx N F (A++B)=Mx N F A++Mx N F B:=List.filterMap_append
theorem Lg{N:Net}{F:B_}{x:Str}{d:Int}(e:F x=some (d,none)):Mx N F [x]=[]:=by
 unfold Mx QW;rw [List.filterMap_cons_none (by rw [e]),List.filterMap_nil]
theorem Lf{N:Net}{F:B_}{x y:Str}{d:Int}(e:F x=some (d,some y)):Mx N F [x]=[HP N (y,x)]:=by
 unfold Mx QW;rw [List.filterMap_cons_some (b:=HP N (y,x)) (by rw [e]; rfl),List.filterMap_nil]
theorem S6{N:Net}{F:B_}{x y:Str}{d:Int}{l:List Str}(hx:x∈l)(e:F x=some (d,some y)):HP N (y,x)∈Mx N F l:=b8.mpr ⟨x,hx,by rw [e]; rfl⟩
theorem Ql{N:Net}(ok:N.Ok){s:Str}{F:B_}(T:Lt N s F){l:List Str}:∀t∈Mx N F l,t∈N.ts:=λt ht=>by
 obtain⟨x,d,y,_,e,_,rfl⟩:=Hl ht;obtain⟨t,h1,h2,_⟩:=VD ok T e;rw [h2]; exact h1
theorem Jn{N:Net}(okn:okN N){s:Str}{F:B_}(T:Lt N s F){K:List Tie}(hK:∀t∈K,t∈N.ts)(hall:∀x d y,F x=some (d,some y)->HP N (y,x)∈K):∀(k:Nat) (x:Str) (d:Int) (q:Option Str),d.toNat<=k->F x=some (d,q)->∃d',d'<=d/\Wk (sub N K) s x d'
 | k,x,d,q,hk,e=>by
  have dp:=(T.low x d q e).pos okn.1
  rcases T.prev x d q e with ⟨_,rfl⟩ | ⟨y,dy,qy,l,rfl,ey,he,ed⟩
  ·rw [T.start] at e
   cases e;exact⟨0,Z6 _,.nil⟩
  ·have dyp:=(T.low y dy qy ey).pos okn.1
   have lp:=(he.pos okn.1).1
   match k with
   | 0=>omega
   | k+1 =>
    obtain⟨d',hd',ih⟩:=Jn okn T hK hall k y dy qy (by omega) ey;obtain⟨t,ht,h1,h2,_,_,dy',q',ey',ed'⟩:=VD okn.1 T e;rw [ey] at ey';cases ey';have htK:=hall x d y e;rw [h1] at htK;have hm:t∈(sub N K).ts:=sub_mem.mpr ⟨ht,htK⟩;have el:=B8 hm;obtain⟨t',ht',tl,h3⟩:=h2.tie okn.1
    have e2:=IQ okn.1 ht (x:=y) (y:=x) (by
     have:=IQ okn.1 ht' (x:=y) (y:=x) (h3.elim (λh=>.inr ⟨h.2,h.1⟩) λh=>.inl ⟨h.2,h.1⟩)
     rw [h1] at this;rw [this];exact h3.elim (λh=>.inr ⟨h.2,h.1⟩) λh=>.inl ⟨h.2,h.1⟩)
    have e3:=IQ okn.1 ht' (x:=y) (y:=x) (h3.elim (λh=>.inr ⟨h.2,h.1⟩) λh=>.inl ⟨h.2,h.1⟩);have et:t=t':=e2.symm.trans e3;subst et;refine⟨d'+t.len,by omega,?_⟩
    rcases h3 with ⟨rfl,rfl⟩ | ⟨rfl,rfl⟩
    ·exact .snoc ih el.2
    ·exact .snoc ih el.1
section
variable {ss:List Slot}{n:Nat}{Pd:D->Nat->Prop}
theorem Kp(h:JF ss n Pd):G4 (EE Pd) n (ss++Zd 4 .no):=by
 obtain⟨N,s,ks,ds,F,rfl,okn,hs,M,T,p⟩:=h;have ok:=okn.1;have l25:=okn.2.1;have l60:=okn.2.2;have szl:=PySem.sizeLine_eq;have kl:=M.le T.ins;obtain⟨xs,rfl⟩:=IU M;rw [On] at kl
 have hF:∀x,x∈xs↔F x≠none:=λx=>by
  rw [← M.mem x,TW];exact⟨λh=>⟨x,h,rfl⟩,fun⟨y,hy,e⟩=>by cases e; exact hy⟩
 have ndx:xs.Nodup:=by
  have:=M.nd
  rw [cS,aZ] at this;exact this.imp λ{a b} h e=>h (by rw [e])
 have hsx:s∈xs:=(hF s).mpr (by rw [T.start]; exact λz=>by cases z);unfold G4;refine⟨N,rfl,ok,by omega,by omega,z0,_,_,rfl,λk hk=>?_,?_⟩
 ·obtain⟨x,hx,rfl⟩:=TW.mp hk
  have:=(ok.names x (T.ins x ((hF x).mp hx))).2.1
  show x.length<=sizeLine;omega
 have go:∀(rest done:List Str) (s4 s5:Slot),done++rest=xs->(Mx N F done).length+(if s∈done then 1 else 0)=done.length ->
   A0 (Aa 4) (Ae (BE 5 (AY BG (AY A4 (AD 1) (AD 4)) (wC (D.int 1))))
 (Be (Aj (AY (MS true) (AD 5) (wC D.non))) (Jf 3 "list" ET (AC (A3 (AC (CB R6 (AC (AD 4) (AC (AD 5) AQ))) (AC (CB R7 (AC (AD 4) (AC (AD 5) AQ))) (AC (AY A4 (AY A4 (AD 2) (AD 4)) (AD 5)) AQ)))) AQ)) A_)) { EE Pd with nx:=Ba (AZ D5 (AF (AR (AD 0)) (AF (Cf (Al 3)) Ac))) (EE Pd) } ((rest.map (.inr:Str->Key)).map Oo) n [.sh (enc N),.sh (.fdi (xs.map .inr) ds),.sh (B0 N),.ow (.lst ((Mx N F done).map Ao)),s4,s5]:=by
  intro rest
  induction rest with
  | nil =>
   intro done s4 s5 e h4;rw [Zn] at e;subst e;have hin:∀t∈Mx N F done,t∈N.ts:=Ql ok T;have h2:(Mx N F done).Nodup:=Fg ok T _ ndx;have hkl:=sub_len h2 (A5 ok.trise) hin;refine⟨N,_,Mx N F done,rfl,rfl,by omega,λts' p1 p2=>?_⟩;rw [Kg ok hin h2 p1 p2];rw [if_pos hsx] at h4;refine p _ ⟨hin,h2,by rw [On]; exact h4,λu hu=>?_,λx d q e=>Jn okn T hin (λx d y e=>S6 ((hF x).mpr (by rw [e]; exact λz=>by cases z)) e) _ x d q (Tk _) e⟩;obtain⟨x,d,y,_,e,_,h⟩:=Hl hu;exact⟨x,d,y,e,h⟩
  | cons x rest ih =>
   intro done s4 s5 e h4;have hx:x∈xs:=by rw [← e]; exact ZW _ Re
   have hxp:=T.ins x ((hF x).mp hx);have e':(done++[x])++rest=xs:=by rw [Zg]; exact e
   have hnd:(done++[x]).Nodup:=by
    rw [← e'] at ndx;exact(Zh.mp ndx).1
   have hxd:x∉done:=λz=>(Zh.mp hnd).2.2 x z x Re rfl
   have hdl:(Mx N F done).length<=60:=by
    have:=sub_len (Fg ok T (λ_ _=>true) (Zh.mp hnd).1) (A5 ok.trise) (Ql ok T)
    exact Zu this l60
   cases ex:F x with
   | none=>exact absurd ex ((hF x).mp hx)
   | some dp =>
    obtain⟨d,po⟩:=dp;refine⟨_,_,_,Bw (d,po),rfl,AX x,by rw [M.at_,ex]; rfl,L7 po,AJ (j:=1) rfl,rfl,?_⟩;cases po with
    | none =>
     have es:x=s:=by
      rcases T.prev x d none ex with ⟨_,h⟩ | ⟨_,_,_,_,h,_⟩
      ·exact h
      ·cases h
     have:=ih (done++[x]) (.sh (.str x)) (.sh .non) e' (by
      rw [if_neg (by rw [← es]; exact hxd)] at h4;rw [HI,Lg ex,Zn,if_pos (by rw [es]; exact ZW _ Re),ZT,Zc]
      omega)
     rw [HI,Lg ex,Zn] at this;exact this
    | some y =>
     obtain⟨t,ht,h1,he,ea,eb,_⟩:=VD ok T ex;refine⟨_,rfl,rfl,x,y,rfl,?_⟩;refine⟨x,y,rfl,?_⟩;refine⟨_,_,_,QX N.ts x,rfl,AX x,Eu hxp,_,_,_,.int t.len,rfl,AX y,?_,z3,?_⟩
     ·show BI ((Cu N.ts x).map λz=>.inr z.1) ((Cu N.ts x).map λz=>.int z.2) (.inr y)=_
      rw [Kc]
      have:=K8 ok he
      unfold look at this;rw [this];rfl
     refine⟨_,_,rfl,rfl,by rw [On]; omega,?_⟩
     have et:D.tup [.str (if decide (y.cps.toList<x.cps.toList)=true then y else x),.str (if decide (x.cps.toList<y.cps.toList)=true then y else x),.int t.len]=Ao t:=by
      show D.tup [.str (if decide (cs y<cs x)=true then y else x),.str (if decide (cs x<cs y)=true then y else x),.int t.len]=Ao t;rw [ea,eb];rfl
     have hxs:x≠s:=λz=>by rw [z,T.start] at ex; cases ex
     have:=ih (done++[x]) (.sh (.str x)) (.sh (.str y)) e' (by
      rw [HI,Lf ex,ZT,Zc,ZT,Zc]
      by_cases c:s∈done
      ·rw [if_pos c] at h4
       rw [if_pos (Zt _ c)];omega
      ·rw [if_neg c] at h4
       rw [if_neg (λz=>by
        rcases Zb.mp z with z | z
        ·exact c z
        ·exact hxs (Go.mp z).symm)]
       omega)
     rw [HI,Lf ex,h1,Z1] at this;rw [et];exact this
 exact go xs [] _ _ rfl rfl
end
noncomputable def JY(ts:List Tie)(x:Str):List Str:=(Cu ts x).map (·.1)
theorem HN{N:Net}(ok:N.Ok){K:List Tie}(hK:∀t,t∈N.ts↔t∈K)(x y:Str):y∈JY N.ts x↔Adj K x y:=by
 constructor
 ·intro h
  obtain⟨t,ht,h2⟩:=HM h;exact⟨t,(hK t).mp ht,h2⟩
 ·rintro ⟨t,ht,h2⟩
  have e:=B8 ((hK t).mpr ht)
  rcases h2 with ⟨rfl,rfl⟩ | ⟨rfl,rfl⟩
  ·exact TW.mpr ⟨_,e.1,rfl⟩
  ·exact TW.mpr ⟨_,e.2,rfl⟩
theorem Jx{f g:Str->List (Str×Str)}:∀l:List Str,(∀y∈l,(f y).length=2*(g y).length)->(l.flatMap f).length=2*(l.flatMap g).length
 | [],_=>rfl
 | y::l,h=>by
  rw [aL,aL,ZT,ZT,Jx l λz hz=>h z (Sc _ hz),h y Re];omega
theorem Hd{nb:Str->List Str}:∀(k:Nat) (x:Str) (p:Option Str),(Bm nb k x p).length=2*(Ih nb k x p).length
 | 0,_,_=>rfl
 | k+1,x,p=>Jx (nb x) λy _=>by
  split
  ·rfl
  ·rw [Za,ZT,Zc,Za,Hd k y (some x)]
   omega
structure Trd (N:Net) (K:List Tie) (x:Str) (r:List Str):Prop where
 ok:okN N
 same:∀t,t∈N.ts↔t∈K
 fo:CM K
 nb:NB K (x::r)
 ins:∀z∈x::r,z∈N.ps
theorem Trd.ne{N:Net}{K:List Tie}{x:Str}{r:List Str}(h:Trd N K x r):∀t∈K,t.a≠t.b:=λt ht e=>by
 have:=(h.ok.1.tin t ((h.same t).mpr ht)).2.2.1
 rw [e] at this;exact Bl _ this
theorem Trd.down{N:Net}{K:List Tie}{x y:Str}{r:List Str}(h:Trd N K x r)(hy:y∈JY N.ts x)(c:some y≠r.head?):Trd N K y (x::r):=by
 have ha:=(HN h.ok.1 h.same x y).mp hy;obtain⟨z,hz,rfl⟩:=TW.mp hy
 exact⟨h.ok,h.same,h.fo,⟨ha.symm,λe=>c e.symm,h.nb⟩,λw hw=>by
  rcases XV.mp hw with rfl | hw
  ·exact(Do h.ok.1 hz).1
  ·exact h.ins w hw⟩
theorem Trd.len{N:Net}{K:List Tie}{x:Str}{r:List Str}(h:Trd N K x r)(k:Nat):(Bm (JY N.ts) k x r.head?).length<=120:=by
 have ok:=h.ok.1;have iff:=HN ok h.same;have hK:∀t∈K,t∈N.ts:=λt ht=>(h.same t).mpr ht;have nd:=Ig h.fo h.ne (λx y hy=>(iff x y).mp hy) (λx=>GY ok x) (HP N) (λx y ha=>(Jv ok hK ha).2) k x r h.nb
 have sub:∀t∈(Ih (JY N.ts) k x r.head?).map (HP N),t∈N.ts:=λt ht=>by
  obtain⟨e,he,rfl⟩:=TW.mp ht
  have:=(LM (λx y hy=>(iff x y).mp hy) k x r h.nb e he).1
  exact hK _ (Jv ok hK this).1
 have:=sub_len nd (A5 ok.trise) sub
 rw [On] at this;rw [Hd]
 have:=h.ok.2.2
 omega
noncomputable def Gr(j:Nat):W2:=λss n P=>∃(N:Net) (K:List Tie) (x:Str) (r:List Str),ss=[.sh (B0 N),.sh (.str x),.sh (L7 r.head?)]/\Trd N K x r/\N.ps.length<=j+(x::r).length/\P (.lst ((Bm (JY N.ts) (j+1) x r.head?).map pairD)) n
noncomputable def KO(Wr:W2):AW:=(Be (Aj (AY Nj (AD 4) (AD 2))) (Ae (Jf 3 "list" ET (AC (A3 (AC (AD 1) (AC (AD 4) AQ))) AQ))
 (Ae (Jf 3 "list" V3 (AC (AZ Wr (AF (AR (AD 0)) (AF (AR (AD 4)) (AF (AR (AD 1)) Ac)))) AQ))
 (Jf 3 "list" ET (AC (A3 (AC (AD 4) (AC (AD 1) AQ))) AQ)))) A_)
noncomputable def EY(Wr:W2):AW:=(Ae (CO 3 (DU AQ))
 (Ae (Cg (OB (AY A4 (AD 0) (AD 1))) (Aa 4) (KO Wr))
 (Hg 3)))
theorem Pz{N:Net}(ok:N.Ok){x:Str}{r:List Str}(h:∀z∈x::r,z∈N.ps):Ds (L7 r.head?):=by
 cases r with
 | nil=>exact⟨rfl,rfl,Zi _⟩
 | cons y r=>exact Fq (ok.names y (h y (by simp)))
theorem SA(y:Str)(p:Option Str):KC (.str y) (L7 p)=decide (some y=p):=by
 cases p with
 | none=>rfl
 | some z =>
  show (y==z)=_
  by_cases c:y=z
  ·rw [c,beq_self_eq_true,decide_eq_true rfl]
  ·rw [beq_eq_false_iff_ne.mpr c,decide_eq_false (λe=>c (ZS e))]
section
variable {ss:List Slot}{n:Nat}{Pd:D->Nat->Prop}
theorem H_{Wr:W2}{j:Nat}(hrec:∀ss n P,j≠0->Gr (j - 1) ss n P->Wr ss n P)(h:Gr j ss n Pd):EY Wr (EF Pd) n (ss++Zd 2 .no):=by
 obtain⟨N,K,x,r,rfl,T,hj,p⟩:=h;have ok:=T.ok.1;have l25:=T.ok.2.1;have l60:=T.ok.2.2;have szl:=PySem.sizeLine_eq;have hxp:=T.ins x Re;have iff:=HN ok T.same;have lim:=Nb T.fo T.ne (λx y hy=>(iff x y).mp hy) (λx y hy=>by obtain⟨z,hz,rfl⟩:=TW.mp hy; exact(Do ok hz).1) j x r T.nb T.ins hj;have tl:=T.len (j+1);unfold EY;refine⟨z0,_,_,_,QX N.ts x,rfl,AX x,Eu hxp,_,_,rfl,λk hk=>?_,?_⟩
 ·obtain⟨q,hq,rfl⟩:=TW.mp hk
  have:=(ok.names _ (Do ok hq).1).2.1
  show q.1.length<=sizeLine;omega
 have ek:((Cu N.ts x).map λz=>(.inr z.1:Key)).map Oo=(JY N.ts x).map .str:=by
  unfold JY;rw [aO,aO];rfl
 rw [ek]
 have go:∀(rest done:List Str) (s4:Slot),done++rest=JY N.ts x->A0 (Aa 4) (KO Wr) { EF Pd with nx:=Hg 3 (EF Pd) } (rest.map .str) n [.sh (B0 N),.sh (.str x),.sh (L7 r.head?),.ow (.lst ((done.flatMap λy=>if some y=r.head? then [] else (x,y)::(Bm (JY N.ts) j y (some x)++[(y,x)])).map pairD)),s4]:=by
  intro rest
  induction rest with
  | nil =>
   intro done s4 e;rw [Zn] at e;subst e;exact⟨_,rfl,p⟩
  | cons y rest ih =>
   intro done s4 e;have hy:y∈JY N.ts x:=by rw [← e]; exact ZW _ Re
   have hyp:y∈N.ps:=by obtain⟨z,hz,rfl⟩:=TW.mp hy; exact(Do ok hz).1
   have e':(done++[y])++rest=JY N.ts x:=by rw [Zg]; exact e
   have nxt:=ih (done++[y]) (.sh (.str y)) e'
   have tl2:((done++[y]).flatMap λy=>if some y=r.head? then [] else (x,y)::(Bm (JY N.ts) j y (some x)++[(y,x)])).length<=120:=by
    have:(Bm (JY N.ts) (j+1) x r.head?).length=(((done++[y])++rest).flatMap λy=>if some y=r.head? then [] else (x,y)::(Bm (JY N.ts) j y (some x)++[(y,x)])).length:=by rw [e']; rfl
    rw [cV,ZT] at this;omega
   rw [cV,aL,List.flatMap_nil,Zn] at nxt tl2;refine⟨Fq (ok.names y hyp),Pz ok T.ins,?_⟩;show if (!KC (.str y) (L7 r.head?))=true then _ else _
   rw [SA]
   by_cases c:some y=r.head?
   ·rw [decide_eq_true c]
    rw [if_pos c,Zn] at nxt;exact EA nxt
   ·rw [decide_eq_false c]
    rw [if_neg c] at nxt tl2;rw [ZT,Za,ZT,Zc] at tl2
    have hj0:j≠0:=λz=>by
     subst z;exact c (lim y hy)
    refine Fw ⟨_,rfl,rfl,z2,_,_,rfl,rfl,by rw [On]; omega,?_⟩;refine⟨_,rfl,rfl,?_⟩;refine hrec _ _ _ hj0 ⟨N,K,y,x::r,rfl,T.down hy c,by rw [Za]; omega,?_⟩;rw [show j - 1+1=j by omega];refine⟨_,_,rfl,rfl,by rw [ZT,On,On,Zc]; show _+(Bm (JY N.ts) j y (some x)).length<=_; omega,?_⟩;refine⟨_,rfl,rfl,z2,_,_,rfl,rfl,by rw [ZT,ZT,On,On,Zc]; show _+(Bm (JY N.ts) j y (some x)).length<_; omega,?_⟩;rw [Z1,ZX,Z1] at nxt;have ea:∀(A B:List D) (u v:D),A++[u]++B++[v]=A++u::(B++[v]):=λA B u v=>by simp
    rw [ea];exact nxt
 exact go (JY N.ts x) [] _ rfl
end
structure WR (N:Net) (K:List Tie) (s:Str) (t b:Int) (T:List Tie):Prop where
 ins:∀u∈T,u∈N.ts
 nd:T.Nodup
 many:∃xs:List Str,xs.Nodup/\(∀x,x∈xs↔∃d,Wk N s x d)/\T.length+1=xs.length
 near:∀x m,Least N s x m->∃d,Wk (sub N T) s x d/\d*b<=m*t
 lgt:D_ T*(t - b)<=(t+b)*D_ (CU N K s)
noncomputable def LY:W2:=λss n P=>∃(N:Net) (s:Str) (t b:Int),ss=[.sh (enc N),.sh (.str s),.sh (.tup [.int t,.int b])]/\okN N/\s∈N.ps/\1<=b/\b<=t/\t<=1000000/\∀(ord T:List Tie),ord.Perm N.ts->Dx ord->WR N (Bp [] ord) s t b T->P (enc (sub N T)) n
noncomputable def Mi:AW:=(Ae (Mv Xr 5 (AD 3) (AD 6))
 (Be (Fc (Aj (AZ D4 (AF (AR (AY BG (AY A4 (Al 5) (AY BG (AD 6) (wC (D.int 1)))) (wC (D.int 0)))) (AF (AR (AD 2)) (AF (AR (AY BG (AY A4 (AD 4) (AY BG (AD 6) (wC (D.int 1)))) (wC (D.int 0)))) Ac)))))) (Mv Xr 5 (AD 3) (AZ UN (AF (AR (AD 0)) (AF (AR (AD 1)) (AF (AR (AY BG (AD 6) (wC (D.int 1)))) Ac))))) A_))
noncomputable def EZ:AW:=(Ae (BE 3 (AZ Gq (AF (AR (AD 0)) Ac)))
 (Ae (BE 4 (AZ Gu (AF (AR (AD 0)) (AF (AR (AD 1)) Ac))))
 (Ae (CO 5 (Kb (AD 1) (A3 (AC (wC (D.int 0)) (AC (wC D.non) AQ)))))
 (Ae (Cg (BQ (AZ (Gr 24) (AF (AR (AZ Gq (AF (AR (AZ GJ (AF (AR (AD 0)) Ac))) Ac))) (AF (AR (AD 1)) (AF (AR (wC D.non)) Ac))))) (Aa 6) Mi)
 (Mu 5 (Ba (AZ JF (AF (AR (AD 0)) (AF (AR (AD 5)) Ac)))))))))
theorem P8(ds:List D):B7 ds=ds.all flat:=by
 induction ds with
 | nil=>rfl
 | cons d ds ih=>show (flat d&&B7 ds)=_; rw [ih]; rfl
theorem P_{ks:List Key}{ds:List D}{F:B_}(M:Dmap ks ds Bw F):B7 ds=true:=by
 rw [P8,bO];intro d hd;obtain⟨i,hi⟩:=List.getElem?_of_mem hd;have il:=(ZB.mp hi).1;have ik:i<ks.length:=by rw [M.len]; exact il
 obtain⟨x,ex⟩:=M.dom _ (Zw ik);obtain⟨a,ea⟩:=MV M hi (by rw [No ik,ex]);rw [ea];obtain⟨d,p⟩:=a;cases p <;> rfl
section
variable {ss:List Slot}{n:Nat}{Pd:D->Nat->Prop}
theorem NH(h:LY ss n Pd):EZ (EE Pd) n (ss++Zd 4 .no):=by
 obtain⟨N,s,t,b,rfl,okn,hs,hb,hbt,ht,p⟩:=h;have ok:=okn.1;have l25:=okn.2.1;have l60:=okn.2.2;have szl:=PySem.sizeLine_eq;unfold EZ;refine⟨N,rfl,ok,by omega,by omega,?_⟩;refine⟨N,s,rfl,okn,hs,λksN dsN FN MN TN=>?_⟩;refine⟨(by decide:2<=sizeLine),_,AX s,?_⟩;refine⟨N,rfl,okn,λord o1 o2=>?_⟩;generalize hK0:Bp [] ord=K;have okK:=Fi okn K
 have hKin:∀u∈K,u∈N.ts:=λu hu=>by
  rw [← hK0] at hu;exact o1.mem_iff.mp ((Fs u hu).resolve_left λz=>by cases z)
 have ndK:K.Nodup:=by
  rw [← hK0];exact Dt (by rw [aA]; exact o1.nodup_iff.mpr (A5 ok.trise))
 have foK:CM K:=by rw [← hK0]; exact ER ord .nil
 have spK:∀u∈N.ts,Cn K u.a u.b:=λu hu=>by rw [← hK0]; exact(EQ ord).2 u (o1.mem_iff.mpr hu)
 have same:∀u,u∈(sub N K).ts↔u∈K:=λu=>sub_mem.trans ⟨λh=>h.2,λh=>⟨hKin u h,h⟩⟩;have T0:Trd (sub N K) K s []:=⟨okK,same,foK,trivial,λz hz=>by rw [Go.mp hz]; exact hs⟩;have lK:(sub N K).ps.length<=24+[s].length:=by show N.ps.length<=25; exact l25
 refine⟨sub N K,rfl,okK.1,by show N.ps.length<=1000; omega,by have:=okK.2.2; omega,?_⟩;refine⟨sub N K,K,s,[],rfl,T0,lK,?_⟩;have iff:=HN okK.1 same;have lim:=Nb foK T0.ne (λx y hy=>(iff x y).mp hy) (λx y hy=>by obtain⟨z,hz,rfl⟩:=TW.mp hy; exact(Do okK.1 hz).1) 24 s [] trivial T0.ins lK;have adjW:=He (nb:=JY (sub N K).ts) (K:=K) (λx y hy=>(iff x y).mp hy) 25 s none;have seqW:=Hc (nb:=JY (sub N K).ts) 25 s none;generalize hW:Bm (JY (sub N K).ts) (24+1) s ([]:List Str).head?=W;have eW:Bm (JY (sub N K).ts) 25 s none=W:=hW;rw [eW] at adjW seqW
 have go:∀(rest pre:List (Str×Str)) (c:Str) (ks:List Key) (ds:List D) (F:B_) (s6:Slot),pre++rest=W->Seq c rest s->Pot N K s t b pre c F->Dmap ks ds Bw F ->
   A0 (Aa 6) Mi { EE Pd with nx:=Mu 5 (Ba (AZ JF (AF (AR (AD 0)) (AF (AR (AD 5)) Ac)))) (EE Pd) } (rest.map pairD) n [.sh (enc N),.sh (.str s),.sh (.tup [.int t,.int b]),.sh (B0 N),.sh (.dic ksN dsN),.ow (.dic ks ds),s6]:=by
  intro rest
  induction rest with
  | nil =>
   intro pre c ks ds F s6 e hq hP M;rw [Zn] at e;have hc:c=s:=hq;subst hc;refine⟨ks,ds,rfl,N,c,ks,ds,F,rfl,okn,hs,M,hP.lt,λT hT=>p ord T o1 o2 ?_⟩;rw [hK0]
   have cov:∀x d,Wk N c x d->∃d q m,F x=some (d,q)/\Least N c x m/\d*b<=m*t:=λx d hx=>by
    have h1:Cn K c x:=(hx.cn ok).bridge spK
    rcases SU (λx y h=>(iff x y).mpr h) lim h1 with rfl | ⟨e',he,rfl⟩
    ·exact hP.vis _ (.inl rfl)
    ·have:=LL 25 c none e' he
     rw [eW] at this;exact hP.vis _ (.inr ⟨e',by rw [e]; exact this,rfl⟩)
   obtain⟨xs,rfl⟩:=IU M;refine⟨hT.ins,hT.nd,⟨xs,?_,λx=>?_,?_⟩,λx m hm=>?_,?_⟩
   ·have:=M.nd
    rw [cS,aZ] at this;exact this.imp λ{a b} h e=>h (by rw [e])
   ·have ex:x∈xs↔F x≠none:=by
     rw [← M.mem x,TW];exact⟨λh=>⟨x,h,rfl⟩,fun⟨y,hy,e⟩=>by cases e; exact hy⟩
    rw [ex];constructor
    ·intro h
     cases ex:F x with
     | none=>exact absurd ex h
     | some a=>exact⟨a.1,hP.lt.low x a.1 a.2 ex⟩
    ·rintro ⟨d,hd⟩ h
     obtain⟨d',q,m,h1,_⟩:=cov x d hd;rw [h] at h1; cases h1
   ·have:=hT.many
    rw [On] at this;exact this
   ·obtain⟨d,q,m',h1,h2,h3⟩:=cov x m hm.1
    rw [Least.unique hm h2];obtain⟨d',g1,g2⟩:=hT.wk x d q h1;exact⟨d',g2,e_ (bG g1 (by omega)) h3⟩
   ·refine XN ok hKin ndK foK iff (λx=>GY okK.1 x) hb hbt (k:=25) ?_ hT.nd hT.up
    rw [eW,← e];exact hP
  | cons st rest ih =>
   intro pre c ks ds F s6 e hq hP M;obtain⟨a,y⟩:=st;obtain⟨hac,hq⟩:=hq;have hac:a=c:=hac;subst hac;have e':(pre++[(a,y)])++rest=W:=by rw [Zg]; exact e
   have ha:Adj K a y:=adjW (a,y) (by rw [← e]; exact ZW _ Re);obtain⟨l,he⟩:=Si (N:=N) (x:=a) (y:=y) (let ⟨t,h1,h2⟩:=ha; ⟨t,hKin t h1,h2⟩);obtain⟨S,dc,q,_,_,hc,_⟩:=hP.pot;obtain⟨d,qd,m,h1,h2,h3,h4,h5⟩:=hP.step ok hb hbt he ha;have hyp:=he.ins ok
   obtain⟨qN,hN⟩:∃qN,FN y=some (m,qN):=by
    cases ey:FN y with
    | none=>exact absurd ey (TN.all y m h2.1)
    | some z=>exact⟨z.2,by rw [Least.unique h2 (TN.least y z.1 z.2 ey)]⟩
   refine⟨ks,ds,rfl,P_ M,YC N F [a,y],M,N,s,a,[y],F,dc,l,q,rfl,rfl,okn,hP.lt,hc,⟨l,0,he,rfl,by omega⟩,by show 1<=1000; decide,λn' hS ks1 ds1 hl1 fl1 hS1=>?_⟩;have M1:Dmap ks1 ds1 Bw (CC N F a y):=hS ks1 ds1 hS1;refine⟨_,AJ (j:=1) rfl,ks1,ds1,_,Bw (d,qd),rfl,AX y,by rw [M1.at_,h1]; rfl,_,AJ (j:=0) rfl,?_⟩;refine⟨_,AJ (j:=1) rfl,ksN,dsN,_,Bw (m,qN),rfl,AX y,by rw [MN.at_,hN]; rfl,_,AJ (j:=0) rfl,?_⟩;refine⟨d,t,b,m,rfl,hb,by omega,by omega,ht,?_⟩;show if (!decide (d*b<=m*t))=true then _ else _
   by_cases c:d*b<=m*t
   ·rw [decide_eq_true c]
    exact EA (ih (pre++[(a,y)]) y ks1 ds1 _ _ e' hq (h4 c) M1)
   ·rw [decide_eq_false c]
    refine Fw ⟨ks1,ds1,rfl,fl1,_,AJ (j:=1) rfl,N,s,y,rfl,okn,hs,hyp,λo hW=>?_⟩;cases o with
    | none=>exact absurd h2.1 (hW m)
    | some w =>
     have hP2:=h5 c w hW;obtain⟨dw,r,rfl,_,hwk,_,hlen,_⟩:=hW;refine⟨YC N (CC N F a y) (s::r),M1,N,s,s,r,CC N F a y,0,dw,none,rfl,rfl,okn,h3,h3.start,hwk,by rw [Za] at hlen; omega,λn' hS ks2 ds2 hl2 fl2 hS2=>?_⟩;exact ih (pre++[(a,y)]) y ks2 ds2 _ _ e' hq hP2 (hS ks2 ds2 hS2)
 exact go W [] s _ _ _ _ rfl seqW (Pot.begin ok hs (by omega) hbt) (Dmap.one (enc:=Bw) (a:=(0,none)))
end
end Nt
set_option maxHeartbeats 4000000
namespace L2
open PySem PySem.Spec PyProof.Rows PySem.W
section
variable {X:Cx}
end
end L2
namespace Dp
open PySem PySem.Spec PyProof.Rows L2
end Dp
namespace L2
open PySem PySem.Spec PyProof.Rows PySem.W
section
variable {X:Cx}
end
end L2
namespace Dp
open PySem PySem.Spec PyProof.Rows L2
section
variable {K:Frag}
end
end Dp
namespace Nt
open PySem PySem.Spec PyProof.Rows L2 Dp
section
variable {ss:List Slot}{n:Nat}{Pd:D->Nat->Prop}
theorem RC{ks:List (List Key)}{k x:List Key}(h:x∈CF ks k):x∈ks\/x=k:=by
 unfold CF at h
 split at h
 ·exact .inl h
 ·exact(Zb.mp h).imp id Go.mp
theorem TL{ks:List (List Key)}{k:List Key}(nd:ks.Nodup):(CF ks k).Nodup:=by
 unfold CF
 split
 ·exact nd
 ·rename_i h
  rw [Zh];refine⟨nd,by simp,λx hx y hy e=>h (hasK_iffU.mpr ?_)⟩;rw [Go] at hy;subst hy; subst e; exact hx
theorem Kt{ks:List (List Key)}{k:List Key}:(CF ks k).length<=ks.length+1:=by
 unfold CF
 split
 ·omega
 ·rw [ZT,Zc]; omega
theorem Ly{k:List Key}{d x:D}:∀{ks:List (List Key)} {ds:List D},x∈aW (λk0 d0=>if k0=k then d else d0) ks ds->x=d\/x∈ds
 | [],_,h=>by cases h
 | _::_,[],h=>by cases h
 | k0::ks,d0::ds,h=>by
  rw [List.zipWith_cons_cons] at h
  rcases XV.mp h with h | h
  ·by_cases e:k0=k
   ·rw [if_pos e] at h; exact .inl h
   ·rw [if_neg e] at h; exact .inr (by rw [h]; exact Re)
  ·exact(Ly h).imp id (Sc _)
theorem PP{ks:List (List Key)}{ds:List D}{k:List Key}{d x:D}(h:x∈CD ks ds k d):x=d\/x∈ds:=by
 unfold CD at h
 split at h
 ·exact Ly h
 ·rcases Zb.mp h with h | h
  ·exact .inr h
  ·exact .inl (Go.mp h)
theorem Le{k:List Key}{z:D}:∀{ks:List (List Key)} {ds:List D},Ci ks ds k=some z->z∈ds
 | [],_,h=>by cases h
 | _::_,[],h=>by cases h
 | k0::ks,d0::ds,h=>by
  unfold Ci at h
  split at h
  ·cases h; exact Re
  ·exact Sc _ (Le h)
structure Tds (xs:List Str) (ks:List (List Key)) (ds:List D):Prop where
 len:ks.length=ds.length
 nd:ks.Nodup
 key:∀k∈ks,∃a b:Str,k=[.inr a,.inr b]/\a∈xs/\b∈xs/\cs a<cs b
 val:∀d∈ds,∃l:Int,d=.int l/\1<=l/\l<=1000000
theorem Tds.put{xs:List Str}{ks:List (List Key)}{ds:List D}(T:Tds xs ks ds){a b:Str}{l:Int}(ha:a∈xs)(hb:b∈xs)(lt:cs a<cs b)(l1:1<=l)(l2:l<=1000000):Tds xs (CF ks [.inr a,.inr b]) (CD ks ds [.inr a,.inr b] (.int l)):=by
 refine⟨Lx T.len,TL T.nd,λk hk=>?_,λd hd=>?_⟩
 ·rcases RC hk with hk | rfl
  ·exact T.key k hk
  ·exact⟨a,b,rfl,ha,hb,lt⟩
 ·rcases PP hd with rfl | hd
  ·exact⟨l,rfl,l1,l2⟩
  ·exact T.val d hd
noncomputable def Je(ks:List (List Key))(ds:List D):D->D
 | .tup [.str a,.str b]=>.tup [.str a,.str b,(Ci ks ds [.inr a,.inr b]).getD .non]
 | d=>d
theorem La(ks:List (List Key))(ds:List D)(a b:Str):Je ks ds (.tup [.str a,.str b])=.tup [.str a,.str b,(Ci ks ds [.inr a,.inr b]).getD .non]:=rfl
end
end Nt
set_option maxHeartbeats 400000
namespace Nt
open PySem PySem.Spec PyProof.Rows L2 Dp
noncomputable def HZ:W2:=λss n P=>ss=[.fd]/\1<=n/\∀t b:Int,1<=b->b<=t->t<=1000000->P (.tup [.int t,.int b]) (n - 1)
noncomputable def LX:W2:=λss n P=>∃N:Net,ss=[.fd,.sh (enc N)]/\okN N/\2<=N.ps.length/\N.ps.length<=19/\200<=n/\∀(N':Net) (n':Nat),okN N'->N'.ps=N.ps->n - 200<=n'->P (enc N') n'
noncomputable def GK:W2:=λss n P=>ss=[.fd]/\100<=n/\∀(N:Net) (n':Nat),okN N->2<=N.ps.length->n - 100<=n'->P (enc N) n'
noncomputable def D8:AW:=(Ae (BE 1 (DU (AC (A3 (AC (wC (D.int 3)) (AC (wC (D.int 2)) AQ))) (AC (A3 (AC (wC (D.int 2)) (AC (wC (D.int 1)) AQ))) (AC (A3 (AC (wC (D.int 3)) (AC (wC (D.int 1)) AQ))) (AC (A3 (AC (wC (D.int 5)) (AC (wC (D.int 2)) AQ))) (AC (A3 (AC (wC (D.int 1000)) (AC (wC (D.int 999)) AQ))) (AC (A3 (AC (AY (V4 N7 λi j=>D.int (i ^ j.toNat)) (wC (D.int 10)) (wC (D.int 6))) (AC (wC (D.int 1)) AQ))) (AC (A3 (AC (wC (D.int 9)) (AC (wC (D.int 8)) AQ))) (AC (A3 (AC (wC (D.int 4)) (AC (wC (D.int 1)) AQ))) (AC (A3 (AC (wC (D.int 6)) (AC (wC (D.int 4)) AQ))) AQ)))))))))))
 (Ba (AY BG (AD 1) (AZ BO (AF (Az 0) (AF (AR (wC (D.int 9))) Ac))))))
noncomputable def UH:AW:=(N9 4 (A3 (AC (AY BG (AD 2) (AD 5)) (AC (AY BG (AD 2) (AY BN (AD 5) (wC (D.int 1)))) AQ))) (AY BN (AD 3) (AZ BO (AF (Az 0) (AF (AR (wC (D.int 2))) Ac)))))
noncomputable def UG:AW:=(Be (Aj (AY (f2 λi j=>D.bl (decide (j<i))) (AZ BO (AF (Az 0) (AF (AR (wC (D.int 4))) Ac))) (wC (D.int 0)))) (N9 4 (A3 (AC (AY BG (AD 2) (wC (D.int 0))) (AC (AY BG (AD 2) (AD 5)) AQ))) (AY Gz (AD 3) (AY BN (wC (D.int 1)) (AZ BO (AF (Az 0) (AF (AR (AY BN (AD 5) (wC (D.int 1)))) Ac)))))) A_)
noncomputable def Ov:AW:=(Be (Jg (Aj (AY (Nk false) (AZ BO (AF (Az 0) (AF (AR (wC (D.int 6))) Ac))) (wC (D.int 0)))) (Jg (Aj (AY (Xa true) (A3 (AC (AD 6) (AC (AD 7) AQ))) (Al 4))) (Aj (AY Fx (CB Up (AC (Al 4) AQ)) (wC (D.int 60)))))) (N9 4 (A3 (AC (AD 6) (AC (AD 7) AQ))) (AD 8)) A_)
noncomputable def UJ:AW:=(Jf 4 "list" ET (AC (A3 (AC (AY BG (AD 1) (AD 5)) (AC (AY BG (AD 1) (AY BN (AD 5) (wC (D.int 1)))) (AC (AY BN (AD 2) (CB R8 (AC (AY (Nk false) (AZ BO (AF (Az 0) (AF (AR (wC (D.int 8))) Ac))) (wC (D.int 0))) AQ))) AQ)))) AQ))
noncomputable def UI:AW:=(Be (Aj (AY (f2 λi j=>D.bl (decide (j<i))) (AZ BO (AF (Az 0) (AF (AR (wC (D.int 6))) Ac))) (wC (D.int 0)))) (Jf 4 "list" ET (AC (A3 (AC (AY BG (AD 1) (wC (D.int 0))) (AC (AY BG (AD 1) (AD 5)) (AC (AY Gz (AD 3) (AD 2)) AQ)))) AQ)) A_)
noncomputable def Eb:AW:=(Ae (BE 2 (AY BG (AD 1) (wC (D.int 0))))
 (Ae (BE 3 (AY BN (wC (D.int 1)) (AZ BO (AF (Az 0) (AF (AR (wC (D.int 6))) Ac)))))
 (Ae (CO 4 Qh)
 (Ae (Cg (Gx (AC (AY FG (CB ES (AC (AD 2) AQ)) (wC (D.int 1))) AQ)) (Aa 5) UH)
 (Ae (Cg (Qe (AC (wC (D.int 2)) (AC (CB ES (AC (AD 2) AQ)) AQ))) (Aa 5) UG)
 (Ae (Cg (BQ (AY BG (AD 1) (wC (D.int 1)))) (FA 3 (Am (Aa 6) (Am (Aa 7) (Am (Aa 8) CV)))) Ov)
 (Mt 4 (Ba (A3 (AC (AD 2) (AC (CB BZ (AC (CB Bn (AC (DF [some 4,none] (Ms 4) (Aa 1) Fb (A3 (AC (AY BG (AD 1) (wC (D.int 0))) (AC (AY BG (AD 1) (wC (D.int 1))) (AC (AY Od (Al 0) (AD 1)) AQ))))) AQ)) AQ)) AQ)))))))))))
noncomputable def Eg:AW:=(Ae (BE 1 (AZ En (AF (Az 0) (AF (AR (AY BN (wC (D.int 18)) (AZ BO (AF (Az 0) (AF (AR (wC (D.int 7))) Ac))))) Ac))))
 (Ae (BE 2 (AY BN (wC (D.int 1)) (AZ BO (AF (Az 0) (AF (AR (wC (D.int 6))) Ac)))))
 (Ae (BE 3 (AY BN (wC (D.int 4)) (AZ BO (AF (Az 0) (AF (AR (wC (D.int 4))) Ac)))))
 (Ae (CO 4 (DU AQ))
 (Ae (Cg (Gx (AC (AY FG (CB ES (AC (AD 1) AQ)) (wC (D.int 1))) AQ)) (Aa 5) UJ)
 (Ae (Cg (Qe (AC (AD 3) (AC (CB ES (AC (AD 1) AQ)) AQ))) (Aa 5) UI)
 (Ba (A3 (AC (AD 1) (AC (CB BZ (AC (CB Bn (AC (Al 4) AQ)) AQ)) AQ))))))))))
theorem I0{xs:List Str}{i:Nat}{z:Int}(h:i<xs.length)(e:z=(i:Int)):atI (xs.map D.str) z=some (.str xs[i]):=by
 rw [e];exact AJ (by rw [ZZ,No h]; rfl)
theorem Tds.tiesU{xs:List Str}{ks:List (List Key)}{ds:List D}(T:Tds xs ks ds):∀{ks':List (List Key)},(∀k∈ks',k∈ks)->ks'.Nodup ->
  ∃ts:List Tie,(ks'.map tupK).map (Je ks ds)=ts.map Ao/\ts.map (λt=>([.inr t.a,.inr t.b]:List Key))=ks'/\∀t∈ts,t.a∈xs/\t.b∈xs/\cs t.a<cs t.b/\1<=t.len/\t.len<=1000000
 | [],_,_=>⟨[],rfl,rfl,λt h=>by cases h⟩
 | k::ks',hin,nd=>by
  rw [ZY] at nd;obtain⟨ts,e1,e2,h1⟩:=T.tiesU (ks':=ks') (λk hk=>hin k (Sc _ hk)) nd.2;obtain⟨a,b,rfl,ha,hb,lt⟩:=T.key k (hin k Re);obtain⟨z,hz⟩:=FL T.len (hin _ Re);obtain⟨l,rfl,l1,l2⟩:=T.val z (Le hz);refine⟨⟨a,b,l⟩::ts,?_,?_,λt ht=>?_⟩
  ·rw [ZX,ZX,ZX,e1]
   show Je ks ds (.tup [.str a,.str b])::_=_;rw [La,hz]; rfl
  ·rw [ZX,e2]
  ·rcases XV.mp ht with rfl | ht
   ·exact⟨ha,hb,lt,l1,l2⟩
   ·exact h1 t ht
structure Whl (xs:List Str) (L:List Tie) (C:Nat->Nat->Prop):Prop where
 nd:(L.map ends).Nodup
 at_:∀t∈L,(∃j k,j<k/\xs[j]?=some t.a/\xs[k]?=some t.b/\C j k)/\1<=t.len/\t.len<=1000000
theorem Whl.mono{xs:List Str}{L:List Tie}{C C':Nat->Nat->Prop}(h:Whl xs L C)(g:∀j k,C j k->C' j k):Whl xs L C' :=
 ⟨h.nd,λt ht=>let ⟨⟨j,k,a,b,c,d⟩,e⟩:=h.at_ t ht; ⟨⟨j,k,a,b,c,g j k d⟩,e⟩⟩
theorem Whl.add{xs:List Str}(nx:xs.Nodup){L:List Tie}{C:Nat->Nat->Prop}(h:Whl xs L C){j k:Nat}(hj:j<xs.length)(hk:k<xs.length)(jk:j<k)(hc:¬C j k){l:Int}(l1:1<=l)(l2:l<=1000000):Whl xs (L++[⟨xs[j],xs[k],l⟩]) λj' k'=>C j' k'\/(j'=j/\k'=k):=by
 refine⟨?_,λt ht=>?_⟩
 ·rw [Z1,Zh]
  refine⟨h.nd,ZY.mpr ⟨Zf,Zp⟩,λu hu v hv e=>?_⟩;obtain⟨t,ht,rfl⟩:=TW.mp hu;rw [Go.mp hv] at e;have e1:t.a=xs[j]:=congrArg Prod.fst e;have e2:t.b=xs[k]:=congrArg Prod.snd e;obtain⟨⟨j',k',_,a1,a2,c⟩,_⟩:=h.at_ t ht;obtain⟨g1,g2⟩:=ZB.mp a1;obtain⟨g3,g4⟩:=ZB.mp a2;have ej:j'=j:=(eX nx).mp (g2.trans e1);have ek:k'=k:=(eX nx).mp (g4.trans e2);rw [ej,ek] at c;exact hc c
 ·rcases Zb.mp ht with ht | ht
  ·obtain⟨⟨j',k',a,b,c,d⟩,e⟩:=h.at_ t ht
   exact⟨⟨j',k',a,b,c,.inl d⟩,e⟩
  ·rw [Go.mp ht]
   exact⟨⟨j,k,jk,No hj,No hk,.inr ⟨rfl,rfl⟩⟩,l1,l2⟩
theorem Whl.net{xs:List Str}(hx:∀x∈xs,S1 x)(hr:rising xs){L ts':List Tie}{C:Nat->Nat->Prop}(h:Whl xs L C)(p1:ts'.Perm L)(p2:F6 ts'):Net.Ok ⟨xs,ts'⟩:=by
 refine⟨hx,hr,λt ht=>?_,Iu p2 ((p1.map ends).nodup_iff.mpr h.nd)⟩;obtain⟨⟨j,k,jk,a1,a2,_⟩,l⟩:=h.at_ t (p1.mem_iff.mp ht);obtain⟨g1,g2⟩:=ZB.mp a1;obtain⟨g3,g4⟩:=ZB.mp a2;refine⟨aT a1,aT a2,?_,l⟩;rw [← g2,← g4];exact bh.mp hr _ _ g1 g3 jk
section
variable {ss:List Slot}{n:Nat}{Pd:D->Nat->Prop}
theorem HA(h:HZ ss n Pd):D8 (EE Pd) n (ss++Zd 1 .no):=by
 obtain⟨rfl,hn,p⟩:=h;unfold D8;refine⟨z2,z2,z2,z2,z2,ZJ,z2,z2,z2,z2,(by decide:9<=sizeLine),?_⟩;refine⟨9,rfl,by decide,by decide,hn,λr r0 r1=>?_⟩
 obtain⟨z,hz,t,b,rfl,b0,bt,t1⟩:=Iz (p:=λd=>∃t b:Int,d=.tup [.int t,.int b]/\1<=b/\b<=t/\t<=1000000) (xs:=[.tup [.int 3,.int 2],.tup [.int 2,.int 1],.tup [.int 3,.int 1],.tup [.int 5,.int 2],.tup [.int 1000,.int 999],.tup [.int ((10:Int) ^ (6:Int).toNat),.int 1],.tup [.int 9,.int 8],.tup [.int 4,.int 1],.tup [.int 6,.int 4]]) (λd hd=>by
  simp only [XV,Zf,or_false] at hd
  rcases hd with rfl | rfl | rfl | rfl | rfl | rfl | rfl | rfl | rfl <;> exact⟨_,_,rfl,by decide,by decide,by decide⟩) r0 (by show r<9; exact r1)
 exact⟨_,hz,p t b b0 bt t1⟩
theorem IF(h:GK ss n Pd):Eg (EE Pd) n (ss++Zd 5 .no):=by
 obtain⟨rfl,hn,p⟩:=h;have szl:=PySem.sizeLine_eq;unfold Eg;refine⟨7,rfl,by decide,by decide,by omega,λr r0 r1=>?_⟩;refine⟨(18+r).toNat,by rw [show (((18+r).toNat:Nat):Int)=18+r by omega],by omega,by omega,λxs hl hx hr=>?_⟩;have x18:18<=xs.length:=by omega
 have x24:xs.length<=24:=by omega
 clear hl r0 r1;refine⟨6,rfl,by decide,by decide,u2,λr r0 r1=>?_⟩;refine⟨4,rfl,by decide,by decide,u3,λq q0 q1=>⟨z0,?_⟩⟩;obtain⟨st,est⟩:∃st:Nat,4+q=(st:Int):=⟨(4+q).toNat,by omega⟩;have nx:=Vm hr;have xl:(xs.map D.str).length=xs.length:=On ..;refine⟨_,_,rfl,rfl,_,rfl,⟨by rw [xl]; omega,by rw [xl]; omega⟩,?_⟩;rw [xl];refine CH (all:=Co 0 (((xs.length:Int) - 1).toNat)) (λpre m ρ=>n - 4 - pre.length<=m/\∃(L:List Tie) (s5:Slot),L.length<=pre.length/\Whl xs L (λj k=>k=j+1/\j<pre.length)/\ρ=[.fd,.sh (.tup (xs.map .str)),.sh (.int (1+r)),.sh (.int (4+q)),.ow (.lst (L.map Ao)),s5]) ?_ ?_ _ [] _ _ rfl ⟨by show n - 4 - 0<=_; omega,[],_,Tk _,⟨Zp,λt h=>by cases h⟩,rfl⟩
 ·rintro m ρ ⟨hm,L,s5,hL,W,rfl⟩
  rw [B4] at hm hL W;refine⟨_,_,rfl,rfl,_,_,rfl,⟨by omega,by omega,by rw [xl]; omega,by rw [xl]; omega⟩,?_⟩;rw [xl];refine CH (all:=Co (4+q) (((xs.length:Int) - (4+q)).toNat)) (λpre m' ρ=>m - pre.length<=m'/\∃(L2:List Tie) (s5:Slot),L2.length<=L.length+pre.length/\Whl xs L2 (λj k=>k=j+1\/(j=0/\st<=k/\k<st+pre.length))/\ρ=[.fd,.sh (.tup (xs.map .str)),.sh (.int (1+r)),.sh (.int (4+q)),.ow (.lst (L2.map Ao)),s5]) ?_ ?_ _ [] _ _ rfl ⟨by show m - 0<=_; omega,L,_,by show _<=L.length+0; omega,W.mono (λj k h=>.inl h.1),rfl⟩
  ·rintro m' ρ ⟨hm',L2,s5,hL2,W2,rfl⟩
   rw [B4] at hm' hL2;show Bn [D.lst (L2.map Ao)] λz=>BZ [z] λy=>2<=sizeLine/\Pd (.tup [.tup (xs.map .str),y]) m';refine DY (ts:=L2) rfl (by omega) λts' p1 p2=>?_;exact⟨z2,p ⟨xs,ts'⟩ m' ⟨W2.net hx hr p1 p2,by show xs.length<=25; omega,by show ts'.length<=60; rw [p1.length_eq]; omega⟩ (by show 2<=xs.length; omega) (by omega)⟩
  ·rintro pre d post m' ρ nxt hall ⟨hm',L2,s5,hL2,W2,rfl⟩ hnx
   obtain⟨rfl,hk⟩:=Ew hall;rw [ZT,Zc] at hnx;generalize pre.length=i at hk hm' hL2 W2 hnx ⊢;have hki:st+i<xs.length:=by omega
   refine⟨6,rfl,by decide,by decide,by omega,λu u0 u1=>?_⟩;show if decide ((0:Int)<u)=true then _ else _
   refine Cv (λc=>?_) λc=>hnx _ _ ⟨by omega,L2,_,by omega,W2.mono (λj k h=>h.imp id λh=>⟨h.1,h.2.1,by omega⟩),rfl⟩;refine⟨_,rfl,rfl,_,I0 (i:=0) (by omega) rfl,_,I0 (i:=st+i) hki (by omega),(.inl ⟨by omega,by omega⟩),z3,_,_,rfl,rfl,by rw [On]; omega,?_⟩
   have lm:1<=(4+q)*(1+r)/\(4+q)*(1+r)<=1000000:=by
    have h1:(4:Int)*1<=(4+q)*(1+r):=d6 (by omega) (by omega) (by omega) (by omega);have h2:(4+q)*(1+r)<=7*6:=d6 (by omega) (by omega) (by omega) (by omega);omega
   have W3:=W2.add nx (j:=0) (k:=st+i) (by omega) hki (by omega) (λh=>by rcases h with h | h <;> omega) lm.1 lm.2
   have:=hnx (m' - 1) [.fd,.sh (.tup (xs.map .str)),.sh (.int (1+r)),.sh (.int (4+q)),.ow (.lst ((L2++[Tie.mk xs[0] xs[st+i] ((4+q)*(1+r))]).map Ao)),.sh (.int (4+q+(i:Int)))] ⟨by omega,_,_,by rw [ZT,Zc]; omega,W3.mono (λj k h=>by
    rcases h with (h | h) | h
    ·exact .inl h
    ·exact .inr ⟨h.1,h.2.1,by omega⟩
    ·exact .inr ⟨h.1,by omega,by omega⟩),rfl⟩
   rw [Z1] at this;exact this
 ·rintro pre d post m ρ nxt hall ⟨hm,L,s5,hL,W,rfl⟩ hnx
  obtain⟨rfl,hk⟩:=Ew hall;rw [ZT,Zc] at hnx;generalize pre.length=i at hk hm hL W hnx ⊢;have hki:i+1<xs.length:=by omega
  refine⟨_,rfl,rfl,_,I0 (i:=i) (by omega) (by omega),_,I0 (i:=i+1) hki (by omega),8,rfl,by decide,by decide,by omega,λu u0 u1=>?_⟩;refine⟨z3,_,_,rfl,rfl,by rw [On]; omega,?_⟩;have le:1<=1+r+(if (u==0)=true then 1 else 0)/\1+r+(if (u==0)=true then 1 else 0)<=1000000:=by split <;> omega
  have W3:=W.add nx (j:=i) (k:=i+1) (by omega) hki (by omega) (λh=>by omega) le.1 le.2
  have:=hnx (m - 1) [.fd,.sh (.tup (xs.map .str)),.sh (.int (1+r)),.sh (.int (4+q)),.ow (.lst ((L++[Tie.mk xs[i] xs[i+1] (1+r+(if (u==0)=true then 1 else 0))]).map Ao)),.sh (.int (0+(i:Int)))] ⟨by omega,_,_,by rw [ZT,Zc]; omega,W3.mono (λj k h=>by
   rcases h with h | h
   ·exact⟨h.1,by omega⟩
   ·exact⟨by omega,by omega⟩),rfl⟩
  rw [Z1] at this;exact this
theorem IA(h:LX ss n Pd):Eb (EE Pd) n (ss++Zd 7 .no):=by
 obtain⟨N,rfl,okn,x2,x19,hn,p⟩:=h;have ok:=okn.1;have l60:=okn.2.2;have szl:=PySem.sizeLine_eq;have hx:=ok.names;have hr:=ok.rise;obtain⟨xs,exs⟩:∃xs,N.ps=xs:=⟨_,rfl⟩;rw [exs] at x2 x19 hx hr;unfold Eb;refine⟨.tup (xs.map .str),by rw [← exs]; exact AJ (j:=0) rfl,?_⟩;refine⟨6,rfl,by decide,by decide,by omega,λr r0 r1=>?_⟩;have xl:(xs.map D.str).length=xs.length:=On ..;have lt:∀i j (hi:i<xs.length) (hj:j<xs.length),i<j->cs xs[i]<cs xs[j]:=λi j hi hj ij=>bh.mp hr _ _ hi hj ij;refine⟨_,_,rfl,rfl,_,rfl,⟨by rw [xl]; omega,by rw [xl]; omega⟩,?_⟩;rw [xl];refine CH (all:=Co 0 (((xs.length:Int) - 1).toNat)) (λpre m ρ=>n - 1 - pre.length<=m/\∃(ks:List (List Key)) (ds:List D) (s5:Slot),ks.length<=pre.length/\Tds xs ks ds/\ρ=[.fd,.sh (enc N),.sh (.tup (xs.map .str)),.sh (.int (1+r)),.ow (.dit ks ds),s5,.no,.no,.no]) ?_ ?_ _ [] _ _ rfl ⟨by show n - 1 - 0<=_; omega,[],[],_,Tk _,⟨rfl,Zp,(λk h=>by cases h),λd h=>by cases h⟩,rfl⟩
 ·rintro m ρ ⟨hm,ks,ds,s5,hk1,T,rfl⟩
  rw [B4] at hm hk1;refine⟨_,_,rfl,rfl,_,_,rfl,⟨by decide,by decide,by rw [xl]; omega,by rw [xl]; omega⟩,?_⟩;rw [xl];refine CH (all:=Co 2 (((xs.length:Int) - 2).toNat)) (λpre m' ρ=>m - 2*pre.length<=m'/\∃(ks:List (List Key)) (ds:List D) (s5:Slot),ks.length<=18+pre.length/\Tds xs ks ds/\ρ=[.fd,.sh (enc N),.sh (.tup (xs.map .str)),.sh (.int (1+r)),.ow (.dit ks ds),s5,.no,.no,.no]) ?_ ?_ _ [] _ _ rfl ⟨by show m - 2*0<=_; omega,ks,ds,_,by show _<=18+0; omega,T,rfl⟩
  ·rintro m' ρ ⟨hm',ks,ds,s5,hk2,T,rfl⟩
   rw [B4] at hm' hk2;refine⟨.tup (N.ts.map Ao),AJ (j:=1) rfl,?_⟩
   have go:∀(rest:List Tie) (mm:Nat) (ks:List (List Key)) (ds:List D) (s5 s6 s7 s8:Slot),(∀t∈rest,t∈N.ts)->rest.length<=60->n - 100 - (60 - rest.length)<=mm->ks.length<=60->Tds xs ks ds->A0 (FA 3 (Am (Aa 6) (Am (Aa 7) (Am (Aa 8) CV)))) Ov { EE Pd with nx:=Mt 4 (Ba (A3 (AC (AD 2) (AC (CB BZ (AC (CB Bn (AC (DF [some 4,none] (Ms 4) (Aa 1) Fb (A3 (AC (AY BG (AD 1) (wC (D.int 0))) (AC (AY BG (AD 1) (wC (D.int 1))) (AC (AY Od (Al 0) (AD 1)) AQ))))) AQ)) AQ)) AQ)))) (EE Pd) } (rest.map Ao) mm [.fd,.sh (enc N),.sh (.tup (xs.map .str)),.sh (.int (1+r)),.ow (.dit ks ds),s5,s6,s7,s8]:=by
    intro rest
    induction rest with
    | nil =>
     intro mm ks ds s5 s6 s7 s8 _ _ hmm hk T;refine⟨ks,ds,rfl,λa=>⟨a,ks,ds,rfl,λk hk' x hx'=>?_,by show (ks.map tupK).length<=10000000; rw [On]; omega,?_⟩⟩
     ·obtain⟨a,b,rfl,ha,hb,_⟩:=T.key k hk'
      have fit:∀y∈xs,E4 (.inr y):=λy hy=>by
       have:=(hx y hy).2.1
       show y.length<=sizeLine;omega
      rcases XV.mp hx' with rfl | hx'
      ·exact fit a ha
      ·rw [Go.mp hx']; exact fit b hb
     obtain⟨ts,e1,e2,h1⟩:=T.tiesU (ks':=ks) (λk h=>h) T.nd;have htl:ts.length=ks.length:=by rw [← e2,On]
     refine Bk (Je ks ds) (λρ=>∃s,ρ=[.br (.dit ks ds),s]) _ _ _ _ ?_ ⟨_,rfl⟩ ?_
     ·rintro d hd ρ n' nx ⟨s,rfl⟩ hnx
      obtain⟨k,hk',rfl⟩:=TW.mp hd;obtain⟨a,b,rfl,_⟩:=T.key k hk';obtain⟨z,hz⟩:=FL T.len hk'
      have:=hnx [.br (.dit ks ds),.sh (.tup [.str a,.str b])] ⟨_,rfl⟩
      rw [show Je ks ds (tupK [.inr a,.inr b])=.tup [.str a,.str b,z] by show Je ks ds (.tup [.str a,.str b])=_; rw [La,hz]; rfl] at this;exact⟨_,AJ (j:=0) rfl,_,AJ (j:=1) rfl,ks,ds,_,z,rfl,rfl,hz,z3,this⟩
     ·rw [aA,e1]
      show Bn [D.lst (ts.map Ao)] λz=>BZ [z] λy=>2<=sizeLine/\Pd (.tup [.tup (xs.map .str),y]) mm;refine DY (ts:=ts) rfl (by omega) λts' p1 p2=>⟨z2,?_⟩
      have nde:(ts.map ends).Nodup:=by
       have:=T.nd
       rw [← e2] at this;rw [cS,aZ] at this ⊢
       exact this.imp λ{a b} h e=>h (by
        have e1:a.a=b.a:=congrArg Prod.fst e;have e2:a.b=b.b:=congrArg Prod.snd e;rw [e1,e2])
      exact p ⟨xs,ts'⟩ mm ⟨⟨hx,hr,λt ht=>h1 t (p1.mem_iff.mp ht),Iu p2 ((p1.map ends).nodup_iff.mpr nde)⟩,by show xs.length<=25; omega,by show ts'.length<=60; rw [p1.length_eq]; omega⟩ exs.symm (by rw [aQ] at hmm; omega)
    | cons t rest ih =>
     intro mm ks ds s5 s6 s7 s8 hin hl60 hmm hk T;rw [Za] at hmm hl60;obtain⟨ta,tb,tc,td⟩:=ok.tin t (hin t Re);rw [exs] at ta tb;have nxt:=λmm' ks' ds' h1 h2 h3=>ih mm' ks' ds' s5 (.sh (.str t.a)) (.sh (.str t.b)) (.sh (.int t.len)) (λu hu=>hin u (Sc _ hu)) (by omega) h1 h2 h3;refine⟨rfl,rfl,?_⟩;refine⟨6,rfl,by decide,by decide,by omega,λu u0 u1=>?_⟩;show if (u==0)=true then _ else _
     refine Cv (λc=>⟨z2,ks,ds,_,rfl,rfl,?_⟩) λc=>EA (nxt _ _ _ (by omega) hk T);show if (!(Ci ks ds [.inr t.a,.inr t.b]).isSome)=true then _ else _
     refine Cv (λc=>⟨ks,ds,rfl,T.len,?_⟩) λc=>EA (nxt _ _ _ (by omega) hk T);show if decide ((ks.length:Int)<60)=true then _ else _
     refine Cv (λc=>?_) λc=>nxt _ _ _ (by omega) hk T;have c:=of_decide_eq_true c;refine⟨ks,ds,rfl,z2,_,rfl,by omega,nxt _ _ _ (by omega) ?_ (T.put ta tb tc td.1 td.2)⟩
     have:=Kt (ks:=ks) (k:=[.inr t.a,.inr t.b])
     omega
   exact go N.ts m' ks ds _ _ _ _ (λt h=>h) l60 (by omega) (by omega) T
  ·rintro pre d post m' ρ nxt hall ⟨hm',ks,ds,s5,hk2,T,rfl⟩ hnx
   obtain⟨rfl,hk⟩:=Ew hall;rw [ZT,Zc] at hnx;generalize pre.length=i at hk hm' hk2 hnx ⊢;have hki:2+i<xs.length:=by omega
   refine⟨4,rfl,by decide,by decide,by omega,λu u0 u1=>?_⟩;show if decide ((0:Int)<u)=true then _ else _
   refine Cv (λc=>?_) λc=>hnx _ _ ⟨by omega,ks,ds,_,by omega,T,rfl⟩;refine⟨ks,ds,rfl,_,rfl,by omega,by omega,by omega,λv v0 v1=>?_⟩;refine⟨.inl ⟨by omega,by omega⟩,_,I0 (i:=0) (by omega) rfl,_,I0 (i:=2+i) hki (by omega),z2,_,rfl,by omega,?_⟩
   have lm:1<=(1+r)*(1+v)/\(1+r)*(1+v)<=1000000:=by
    have h1:(1:Int)*1<=(1+r)*(1+v):=d6 (by omega) (by omega) (by omega) (by omega);have h2:(1+r)*(1+v)<=6*30:=d6 (by omega) (by omega) (by omega) (by omega);omega
   refine hnx _ _ ⟨by omega,_,_,_,?_,T.put (Zw _) (Zw _) (lt 0 (2+i) (by omega) hki (by omega)) lm.1 lm.2,rfl⟩
   have:=Kt (ks:=ks) (k:=[.inr xs[0],.inr xs[2+i]])
   omega
 ·rintro pre d post m ρ nxt hall ⟨hm,ks,ds,s5,hk1,T,rfl⟩ hnx
  obtain⟨rfl,hk⟩:=Ew hall;rw [ZT,Zc] at hnx;generalize pre.length=i at hk hm hk1 hnx ⊢;have hki:i+1<xs.length:=by omega
  refine⟨ks,ds,rfl,2,rfl,by decide,by decide,by omega,λv v0 v1=>⟨_,I0 (i:=i) (by omega) (by omega),_,I0 (i:=i+1) hki (by omega),z2,_,rfl,by omega,?_⟩⟩;refine hnx _ _ ⟨by omega,_,_,_,?_,T.put (Zw _) (Zw _) (lt i (i+1) (by omega) hki (by omega)) (by omega) (by omega),rfl⟩
  have:=Kt (ks:=ks) (k:=[.inr xs[i],.inr xs[i+1]])
  omega
end
end Nt
set_option maxHeartbeats 4000000
namespace L2
open PySem PySem.Spec PyProof.Rows
section
variable {X:Cx}{pins:List (Addr×Obj)}{σ:St}{H:Hp}{s:Shared}
theorem NC{A':aB}{E':FM->Rs->Prop}{ss:List Str}{us:List FM}{Q:VK}(I:Inv X pins σ H s)(hS:StrsAre us ss)(h64:us.length<64)
  (q:∀(ss':List Str) (l:Ev),ss'.Perm ss->sortedS ss'=true->H l=none->Q (.ref l) (Aw H l (.lst (ss'.map V.str)))) :
  wpAny (model X.prog X.w) A' (bp.«list.sort» ⟨[.ref s.heap.objs.size],[]⟩) (λfin s'=>fin=.done (.ret .none)/\EP X pins σ Q (.ref s.heap.objs.size) s') E' { s with heap:=s.heap.push (seqObj "list" us.toArray 0) }:=by
 have ho:(s.heap.push (seqObj "list" us.toArray 0)).get? s.heap.objs.size=some (seqObj "list" us.toArray 0):=Uf _ rfl;refine list_sort_treeK strKind_oneLt ho hS.keysOf (λv₁ v₂ rest e=>keyKind_strs (by rw [← e]; exact hS)) h64 λst' hp hs=>⟨rfl,?_⟩;obtain⟨ss',h1,h2,h3⟩:=sorted_out_str hS hp hs;obtain⟨e,he⟩:=sortedHeap_at (out:=(arrOf st').map (·.2)) ho;have hf:H s.heap.objs.size=none:=I.fresh;have l1:=(Bz h1).length;have l2:=(Bz hS).length;have l3:=h2.length_eq;rw [On] at l1 l2;refine⟨.ref s.heap.objs.size,Aw H s.heap.objs.size (.lst (ss'.map V.str)),I.laid (t':=s.toks) (λb o z=>?_) (Tk _) ⟨by rw [On,Z2]; omega,_,e,Bz h1,he⟩,rfl,q ss' _ h2 h3 hf⟩;rw [sortedHeap_old (Zo (ZU z)) (by rw [eS]; exact bJ (ZU z))];exact Op _ z
noncomputable def Q7:List V->Hp->VK->Prop:=λxs H Q=>∃(d:Ev) (kvs:List (Key×V)) (ss:List Str),xs=[.ref d]/\Rd H d (.dK kvs)/\kvs.map (·.1)=ss.map aD/\ss.length<64 /\
 ∀(ss':List Str) (l:Ev),ss'.Perm ss->sortedS ss'=true->H l=none->Q (.ref l) (Aw H l (.lst (ss'.map V.str)))
theorem Jp{P:Zs}{w:Zz}:∀{us:List FM} {ss:List Str},us.length=ss.length->(∀(j:Nat) (v:FM) (x:Str),us[j]?=some v->ss[j]?=some x->(Ay P w).is (.inr x) v=true)->StrsAre us ss
 | [],[],_,_=>.nil
 | [],_::_,h,_=>by cases h
 | _::_,[],h,_=>by cases h
 | u::us,x::ss,h,k=>by
  obtain⟨t,rfl⟩:=(Vt (k:=.inr x) (k 0 u x rfl rfl):RelV (.str x) u);exact .cons x t (Jp (P:=P) (w:=w) (by simpa using h) λj v y e1 e2=>k (j+1) v y (by simpa using e1) (by simpa using e2))
theorem Ir(hc:X.calm=true):By X (.builtin "sorted") Q7:=by
 intro pins s σ H xs us Q I r h;obtain⟨d,kvs,ss,rfl,hd,hk,h64,q⟩:=h;obtain⟨u,rfl,rx⟩:=vals1 r;cases rx;obtain⟨_,lo,ws,kv,o,es,ep,D⟩:=EW I.hok hd;have hwl:=kv.length;have hsl:kvs.length=ss.length:=by rw [← On (f:=(·.1)),hk,On]
 refine DX (kw:=[]) (args_sorted1 _) (λx=>args_list_sort _) (PySem.W.kdu_collect (PySem.W.kdl_dict (knd:=Ay X.prog X.w) (kvs:=ws) (ep:=ep) lo) (show X.A.handled=none from I.ok.hd hc) ⟨o,es,D⟩ (by rw [Z2]; omega) λh' tk acc hkp hacc=>⟨by rw [Z5,hacc.1,Z2]; omega,?_⟩);have I1:Inv X pins σ H { s with heap:=h',toks:=tk }:=I.kept (t':=tk) hkp;refine NC (ss:=ss) I1 (Jp (P:=X.prog) (w:=X.w) (by rw [Z5,hacc.1]; omega) λj v x e1 e2=>?_) (by rw [Z5,hacc.1]; omega) q;obtain⟨k,z,e3,e4⟩:=hacc.2 j v (by rw [← cH]; exact e1);have jl:j<kvs.length:=by rw [hsl]; exact(ZB.mp e2).1
 obtain⟨ek,_⟩:=EJ kv (No jl) e3;have e5:(kvs.map (·.1))[j]?=some kvs[j].1:=by rw [ZZ,No jl]; rfl
 rw [hk,ZZ,e2] at e5;have e6:aD x=kvs[j].1:=ZS e5;rw [e6,show kvs[j].1=k from ek];exact e4
end
end L2
namespace Dp
open PySem PySem.Spec PyProof.Rows L2
section
variable {X:Cx}
noncomputable def Ni(ds:List D)(P:D->Prop):Prop:=∃(d:D) (ks:List Key) (es:List D) (ss:List Str),ds=[d]/\G1 d=some (ks,es)/\ks.length=es.length/\ks=ss.map aD/\ss.length<64/\(∀x∈ss,x.length<=sizeLine)/\∀ss':List Str,ss'.Perm ss->sortedS ss'=true->P (.lst (ss'.map .str))
theorem O0:CS X.K .fr Q7 Ni:=by
 intro U M H ds vs P Q dom vM hp w q;obtain⟨d,ks,es,ss,rfl,hd,l1,hk,h64,hz,w⟩:=w;obtain⟨v,rfl,hx⟩:=DK hp;obtain⟨a,us,rfl,ha,hs⟩:=FX hd hx;have m1:=hs.length;refine⟨a,_,ss,rfl,ha,?_,h64,λss' l h1 h2 hl=>?_⟩
 ·rw [List.map_fst_zip (by omega),hk]
 ·exact q _ _ _ (Ax hl) (DM hl (Ats.strs λx hx=>hz x (h1.mem_iff.mp hx))) (w ss' h1 h2)
end
end Dp
namespace L2
open PySem PySem.Spec PyProof.Rows
open AutoSeq1 (wpAny_loadPart')
section
variable {prog:Program}{w:World}{A:Around}{E:Value->Shared->Prop}{s:Shared}
end
section
variable {prog:Program}{w:World}{A:Around}{E:Value->Shared->Prop}{s:Shared}{I:Addr}{fp wr:List Addr}{G:Array GenState->Array GenState->Prop}{n:Nat}{P:Nat->Value->Prop}{St:Nat->Shared->Prop}
end
section
variable {X:Cx}{e:Expr}{te:TE}{p1 p2 q1 q2:Pos}
end
end L2
namespace Dp
open PySem PySem.Spec PyProof.Rows L2
section
variable {X:Cx}{a:Expr}{κa:Kd}{wa:DW}{p1 p2 q1 q2:Pos}
end
end Dp
namespace Nt
open PySem PySem.Spec PyProof.Rows L2 Dp
noncomputable def ZN(N:Net)(s x:Str):Prop:=∃d,Wk N s x d
structure ZD (N:Net) (s:Str) (ks:List Key):Prop where
 nd:ks.Nodup
 dom:∀k∈ks,∃x:Str,k=.inr x
 mem:∀x:Str,.inr x∈ks↔ZN N s x
inductive YB:D->Prop
 | s (x:Str):YB (.str x)
 | i (k:Int):YB (.int k)
 | t (xs:List D) (h:∀x,x∈xs->YB x):YB (.tup xs)
section
variable {ss:List Slot}{n:Nat}{Pd:D->Nat->Prop}
theorem Gd:∀{ks:List Key},(∀k∈ks,∃x:Str,k=.inr x)->∃ss:List Str,ks=ss.map aD
 | [],_=>⟨[],rfl⟩
 | k::ks,h=>by
  obtain⟨x,rfl⟩:=h k Re;obtain⟨ss,e⟩:=Gd λj hj=>h j (Sc _ hj);exact⟨x::ss,by rw [e]; rfl⟩
theorem PJ{l1 l2:List Str}(h1:rising l1)(h2:rising l2)(p:l1.Perm l2):l1=l2:=HK (λa b x y=>absurd (b7 x y) (Bl _)) p h1 h2
theorem Jy{ps:List Str}(h:∀p∈ps,S1 p):Ds (.lst (ps.map .str)):=J0 h
theorem P9{xs ys:List Str}:KC (.lst (xs.map .str)) (.lst (ys.map .str))=decide (xs=ys):=by
 rw [ay,decide_eq_true_eq];constructor
 ·intro h
  have h:(xs.map D.str)=ys.map D.str:=EU (xs:=xs.map .str) (ps:=ys) h
  have inj:∀{a b:List Str},a.map D.str=b.map D.str->a=b:=by
   intro a
   induction a with
   | nil=>intro b h; cases b with | nil=>rfl | cons _ _=>cases h
   | cons x a ih =>
    intro b h;cases b with
    | nil=>cases h
    | cons y b =>
     have h1:D.str x=D.str y:=by injection h
     have h2:a.map D.str=b.map D.str:=by injection h
     injection h1 with h1
     rw [h1,ih h2]
  exact inj h
 ·rintro rfl
  exact eqvAll_refl xs
theorem RX{ss:List Str}(h:(ss.map (aD:Str->Key)).Nodup):ss.Nodup:=by
 rw [bB,aZ] at h;exact h.imp λh e=>h (by rw [e])
section
variable {N:Net}{s:Str}{ts:List Tie}{pc:D}{ks:List Key}{ds:List D}
end
end
end Nt
set_option maxHeartbeats 400000
namespace Nt
open PySem PySem.Spec PyProof.Rows L2 Dp
noncomputable def El:W2:=λss n P=>∃(N:Net) (s:Str) (t b:Int) (ord:List Tie),ss=[.sh (enc N),.sh (.str s),.sh (.tup [.int t,.int b]),.sh (enc (sub N (Bp [] ord)))]/\okN N/\s∈N.ps/\1<=b/\b<=t/\t<=1000000/\ord.Perm N.ts/\Dx ord/\P (.bl true) n
noncomputable def Ec:AW:=(Ae (BE 4 (AZ LY (AF (AR (AD 0)) (AF (AR (AD 1)) (AF (AR (AD 2)) Ac)))))
 (Ae (Be (Fc (Aj (AZ HY (AF (AR (AD 0)) (AF (AR (AD 4)) Ac))))) (Ba (wC (D.bl false))) A_)
 (Ae (BE 5 (Qg (AZ Eo (AF (Cf (AY BG (AD 0) (wC (D.int 1)))) (AF (AR (AD 1)) Ac)))))
 (Ae (BE 6 (Qg (AZ Eo (AF (Cf (AY BG (AD 4) (wC (D.int 1)))) (AF (AR (AD 1)) Ac)))))
 (Ae (Be (JH (Aj (AY Nj (CB ES (AC (AY BG (AD 4) (wC (D.int 1))) AQ)) (AY FG (CB Uq (AC (AD 5) AQ)) (wC (D.int 1))))) (Aj (AY Nj (CB Ni (AC (AD 6) AQ)) (CB Ni (AC (AD 5) AQ))))) (Ba (wC (D.bl false))) A_)
 (Ae (Be (Fc (Aj (CB R_ (AC (DF [some 2,some 6,some 5,none] (OB (AD 5)) (Aa 3) Fb (AZ D4 (AF (AR (AY A4 (AD 1) (AD 3))) (AF (AR (AD 0)) (AF (AR (AY A4 (AD 2) (AD 3))) Ac))))) AQ)))) (Ba (wC (D.bl false))) A_)
 (Ae (BE 7 (CB V1 (AC (DF [none] (BQ (AY BG (AD 4) (wC (D.int 1)))) (Aa 0) Fb (AY BG (AD 0) (wC (D.int 2)))) AQ)))
 (Ae (BE 8 (CB V1 (AC (DF [some 5,none] (BQ (AY BG (AD 3) (wC (D.int 1)))) (Aa 1) (Aj (AY (LF false) (AY BG (AD 1) (wC (D.int 0))) (AD 0))) (AY BG (AD 1) (wC (D.int 2)))) AQ)))
 (Ba (AY Tx (AY Gz (AD 7) (AY FG (AY BG (AD 2) (wC (D.int 0))) (AY BG (AD 2) (wC (D.int 1))))) (AY Gz (AY BN (AY BG (AD 2) (wC (D.int 0))) (AY BG (AD 2) (wC (D.int 1)))) (AD 8))))))))))))
theorem J5{ks:List Key}{ds:List D}{K:Kn}(M:Dmap ks ds D.int K):Bi ds=true:=by
 rw [NW,bO];intro d hd;obtain⟨i,hi⟩:=List.getElem?_of_mem hd;have il:=(ZB.mp hi).1;have ik:i<ks.length:=by rw [M.len]; exact il
 obtain⟨x,ex⟩:=M.dom _ (Zw ik);obtain⟨a,ea⟩:=MV M hi (by rw [No ik,ex]);rw [ea];rfl
noncomputable def Ul(ks:List Key)(ds:List D):D->Bool
 | .tup (.str a::_)=>(BI ks ds (.inr a)).isSome
 | _=>false
section
variable {ss:List Slot}{n:Nat}{Pd:D->Nat->Prop}
theorem IB(h:El ss n Pd):Ec (EE Pd) n (ss++Zd 5 .no):=by
 obtain⟨N,s,t,b,ord,rfl,okn,hs,hb,hbt,ht,o1,o2,p⟩:=h;have szl:=PySem.sizeLine_eq;have ok:=okn.1;have layi:∀i:Int,Ds (.int i):=λi=>⟨rfl,rfl,Zi _⟩;have nm:∀(x:Str),x∈N.ps->x.length<=sizeLine:=λx hx=>by have:=(ok.names x hx).2.1; omega
 unfold Ec;refine⟨N,s,t,b,rfl,okn,hs,hb,hbt,ht,λord' T o3 o4 L=>?_⟩;rw [Lu (o3.trans o1.symm) o4 o2] at L;have okT:=Fi okn T;have okK:=Fi okn (Bp [] ord);have hKin:∀u∈Bp [] ord,u∈N.ts:=λu hu=>o1.mem_iff.mp ((Fs u hu).resolve_left λz=>by cases z);have ndK:(Bp [] ord).Nodup:=Dt (by rw [aA]; exact o1.nodup_iff.mpr (A5 ok.trise));refine⟨N,(sub N T).ts,rfl,okn,λt ht=>(sub_mem.mp ht).1,okT.1.trise,okT.2.2,?_⟩;refine⟨_,AJ (j:=1) rfl,N,s,_,N.ts,rfl,rfl,λ_=>Iff.rfl,okn,hs,λks1 ds1 K1 M1 L1=>⟨ks1,ds1,rfl,J5 M1,?_⟩⟩;refine⟨_,AJ (j:=1) rfl,sub N T,s,_,(sub N T).ts,rfl,rfl,λ_=>Iff.rfl,okT,hs,λks2 ds2 K2 M2 L2=>⟨ks2,ds2,rfl,J5 M2,?_⟩⟩
 have near:∀x m,K1 x=some m->∃d,K2 x=some d/\d*b<=m*t:=λx m e=>by
  obtain⟨d,h1,h2⟩:=L.near x m (L1.least x m e);cases e2:K2 x with
  | none=>exact absurd e2 (L2.all x d h1)
  | some d'=>exact⟨d',rfl,e_ (bG ((L2.least x d' e2).2 d h1) (by omega)) h2⟩
 have r12:∀x,K1 x≠none↔K2 x≠none:=λx=>by
  constructor
  ·intro h
   cases e:K1 x with
   | none=>exact absurd e h
   | some m=>obtain⟨d,e2,_⟩:=near x m e; rw [e2]; exact λz=>by cases z
  ·intro h
   cases e:K2 x with
   | none=>exact absurd e h
   | some d=>exact L1.all x d (Wk.mono (N:=sub N T) (λt ht=>(sub_mem.mp ht).1) (L2.least x d e).1)
 obtain⟨s1,rfl⟩:=Gd M1.dom;obtain⟨s2,rfl⟩:=Gd M2.dom
 have mem1:∀x,x∈s1↔K1 x≠none:=λx=>by
  rw [← M1.mem x,TW];exact⟨λh=>⟨x,h,rfl⟩,fun⟨y,hy,e⟩=>by cases e; exact hy⟩
 have mem2:∀x,x∈s2↔K2 x≠none:=λx=>by
  rw [← M2.mem x,TW];exact⟨λh=>⟨x,h,rfl⟩,fun⟨y,hy,e⟩=>by cases e; exact hy⟩
 have nd1:=RX M1.nd;have nd2:=RX M2.nd;have sp:s2.Perm s1:=(bA nd2 nd1).mpr λx=>by rw [mem1,mem2,r12]
 have b1:=M1.le L1.ins;rw [On] at b1;have l25:=okn.2.1;have in1:∀x∈s1,x∈N.ps:=λx hx=>L1.ins x ((mem1 x).mp hx);have in2:∀x∈s2,x∈N.ps:=λx hx=>in1 x (sp.mem_iff.mp hx)
 have many:(sub N T).ts.length+1=s1.length:=by
  obtain⟨xs,x1,x2,x3⟩:=L.many;rw [(FO ok L.ins L.nd).length_eq,x3];refine List.Perm.length_eq ((bA x1 nd1).mpr λx=>?_);rw [x2,mem1];constructor
  ·rintro ⟨d,hd⟩
   exact L1.all x d hd
  ·intro h
   cases e:K1 x with
   | none=>exact absurd e h
   | some d=>exact⟨d,(L1.least x d e).1⟩
 refine⟨_,AJ (j:=1) rfl,_,_,rfl,rfl,_,_,ds1,rfl,rfl,M1.len,layi _,layi _,?_⟩
 have eq1:KC (.int ((((sub N T).ts.map Ao).length:Nat):Int)) (.int ((((s1.map (aD:Str->Key)).length:Nat):Int) - 1))=true:=by
  show ((((((sub N T).ts.map Ao).length:Nat):Int))==(((s1.map (aD:Str->Key)).length:Nat):Int) - 1)=true;rw [beq_iff_eq,On,On];omega
 show if (!KC (.int ((((sub N T).ts.map Ao).length:Nat):Int)) (.int ((((s1.map (aD:Str->Key)).length:Nat):Int) - 1)))=true then _ else _
 rw [eq1];refine EA ⟨_,_,ds2,s2,rfl,rfl,M2.len,rfl,by rw [sp.length_eq]; omega,λx hx=>nm x (in2 x hx),λz2 p2 q2=>?_⟩;refine⟨_,_,ds1,s1,rfl,rfl,M1.len,rfl,by omega,λx hx=>nm x (in1 x hx),λz1 p1 q1=>?_⟩;have n1:∀x∈z1,S1 x:=λx hx=>ok.names x (in1 x (p1.mem_iff.mp hx));have ez:z2=z1:=PJ (C_ q2 (p2.nodup_iff.mpr nd2)) (C_ q1 (p1.nodup_iff.mpr nd1)) (p2.trans (sp.trans p1.symm));subst ez;refine⟨Jy n1,Jy n1,?_⟩;show if (!KC (.lst (z2.map .str)) (.lst (z2.map .str)))=true then _ else _
 rw [P9,decide_eq_true rfl];refine EA ⟨_,ds1,rfl,λk hk=>?_,by show ((s1.map (aD:Str->Key)).map Oo).length<=10000000; rw [On,On]; omega,?_⟩
 ·obtain⟨x,hx,rfl⟩:=TW.mp hk
  exact nm x (in1 x hx)
 refine Bk (λ_=>.bl true) (λρ=>∃a,ρ=[.sh (.tup [.int t,.int b]),.sh (.fdi (s2.map .inr) ds2),.sh (.fdi (s1.map .inr) ds1),a]) _ _ _ _ ?_ ⟨_,rfl⟩ ?_
 ·rintro d hd ρ m nx ⟨a,rfl⟩ hnx
  obtain⟨k,hk,rfl⟩:=TW.mp hd;obtain⟨x,hx,rfl⟩:=TW.mp hk;cases e:K1 x with
  | none=>exact absurd e ((mem1 x).mp hx)
  | some m1 =>
   obtain⟨d1,e2,hle⟩:=near x m1 e;refine⟨_,_,_,.int d1,rfl,AX x,by rw [M2.at_,e2]; rfl,_,_,_,.int m1,rfl,AX x,by rw [M1.at_,e]; rfl,d1,t,b,m1,rfl,hb,by omega,by omega,ht,?_⟩;rw [decide_eq_true hle];exact hnx _ ⟨_,rfl⟩
 rw [aA];refine⟨_,_,rfl,JB (λ_=>true) _,?_⟩;rw [show ((((s1.map (aD:Str->Key)).map Oo).map λ_=>true).all id)=true from bO.mpr λc hc=>by obtain⟨_,_,rfl⟩:=TW.mp hc; rfl];refine⟨_,AJ (j:=1) rfl,by show ((sub N T).ts.map Ao).length<=10000000; rw [On]; have:=okT.2.2; omega,?_⟩;refine Bk XO (λρ=>∃a,ρ=[a]) _ _ _ _ ?_ ⟨_,rfl⟩ ?_
 ·rintro d hd ρ m nx ⟨a,rfl⟩ hnx
  obtain⟨t,ht,rfl⟩:=TW.mp hd;exact⟨_,AJ (j:=2) rfl,hnx _ ⟨_,rfl⟩⟩
 rw [aA,aO];refine⟨_,_,rfl,JA Tie.len (sub N T).ts,?_⟩;refine⟨_,AJ (j:=1) rfl,by show ((sub N (Bp [] ord)).ts.map Ao).length<=10000000; rw [On]; have:=okK.2.2; omega,?_⟩;refine Fp (Ul (s1.map .inr) ds1) XO (λρ=>∃a,ρ=[.sh (.fdi (s1.map .inr) ds1),a]) _ _ _ _ ?_ ⟨_,rfl⟩ ?_
 ·rintro d hd ρ m nx sk ⟨a,rfl⟩ h1 h2
  obtain⟨u,hu,rfl⟩:=TW.mp hd;refine⟨_,AJ (j:=0) rfl,_,ds1,_,rfl,AX u.a,?_⟩;have k1:=h1 [.sh (.fdi (s1.map .inr) ds1),.sh (Ao u)] ⟨_,rfl⟩;have k2:=h2 [.sh (.fdi (s1.map .inr) ds1),.sh (Ao u)] ⟨_,rfl⟩;show if (BI (s1.map .inr) ds1 (.inr u.a)).isSome=true then _ else _
  exact Cv (λc=>⟨_,AJ (j:=2) rfl,k1 c⟩) λc=>k2 (c9.mpr c)
 have ef:((sub N (Bp [] ord)).ts.map Ao).filter (Ul (s1.map .inr) ds1)=((sub N (Bp [] ord)).ts.filter λu=>SW N.ts s u.a).map Ao:=by
  rw [List.filter_map]
  congr 1
  refine List.filter_congr λu _=>?_;show (BI (s1.map .inr) ds1 (.inr u.a)).isSome=SW N.ts s u.a;rw [M1.at_,ay,cnB_iff];constructor
  ·intro h
   cases e:K1 u.a with
   | none=>rw [e] at h; cases h
   | some d=>exact(L1.least _ d e).1.cn ok
  ·intro h
   obtain⟨d,hd⟩:=h.wk;cases e:K1 u.a with
   | none=>exact absurd e (L1.all _ d hd)
   | some d=>rfl
 rw [aA,ef,aO];refine⟨_,_,rfl,JA Tie.len ((sub N (Bp [] ord)).ts.filter λu=>SW N.ts s u.a),?_⟩;refine⟨_,AJ (j:=0) rfl,_,AJ (j:=1) rfl,.inr ⟨by omega,by omega⟩,_,AJ (j:=0) rfl,_,AJ (j:=1) rfl,.inl ⟨by omega,by omega⟩,?_⟩;have lg:=L.lgt;unfold CU at lg;rw [← Ho (FO ok L.ins L.nd),← Ho ((FO ok hKin ndK).filter λu=>SW N.ts s u.a)] at lg;show Pd (.bl (decide (((sub N T).ts.map Tie.len).sum*(t - b)<=(t+b)*(((sub N (Bp [] ord)).ts.filter λu=>SW N.ts s u.a).map Tie.len).sum))) n;rw [decide_eq_true (show ((sub N T).ts.map Tie.len).sum*(t - b)<=(t+b)*(((sub N (Bp [] ord)).ts.filter λu=>SW N.ts s u.a).map Tie.len).sum from lg)];exact p
end
noncomputable def Ml:AW:=(Be (Fc (Aj (AZ El (AF (AR (AD 3)) (AF (AR (AD 6)) (AF (AR (AZ HZ (AF (Az 1) Ac))) (AF (AR (AD 4)) Ac))))))) (Ba (wC (D.bl false))) A_)
noncomputable def Sa:AW:=(Ae (BE 6 (AY BG (AY BG (AD 3) (wC (D.int 0))) (AD 5)))
 (Ae (Be (Aj (AY (f2 λi j=>D.bl (decide (j<i))) (CB ES (AC (AY BG (AD 3) (wC (D.int 0))) AQ)) (wC (D.int 6)))) (BE 6 (AY BG (AY BG (AD 3) (wC (D.int 0))) (AZ BO (AF (Az 1) (AF (AR (CB ES (AC (AY BG (AD 3) (wC (D.int 0))) AQ))) Ac))))) A_)
 Ml))
noncomputable def F9:AW:=(Ae (BE 4 (AZ GJ (AF (AR (AD 3)) Ac)))
 (Cg (Gx (AC (CB MR (AC (wC (D.int 6)) (AC (CB ES (AC (AY BG (AD 3) (wC (D.int 0))) AQ)) AQ))) AQ)) (Aa 5) Sa))
noncomputable def Sb:AW:=(Ae (Be (Jg (Aj (AY (Nk false) (AZ BO (AF (Az 1) (AF (AR (wC (D.int 2))) Ac))) (wC (D.int 0)))) (Aj (AY Fx (CB ES (AC (AY BG (AD 3) (wC (D.int 0))) AQ)) (wC (D.int 20))))) (BE 3 (AZ LX (AF (Az 1) (AF (AR (AD 3)) Ac)))) A_)
 F9)
noncomputable def Iy:AW:=(Ae (UR 2 (Aa 3) Sb)
 (Ae (BE 7 (AZ GK (AF (Az 1) Ac)))
 (Ae (BE 8 (AY BG (DU (AC (A3 (AC (wC (D.int 4)) (AC (wC (D.int 1)) AQ))) (AC (A3 (AC (wC (D.int 3)) (AC (wC (D.int 1)) AQ))) (AC (A3 (AC (wC (D.int 5)) (AC (wC (D.int 2)) AQ))) (AC (A3 (AC (wC (D.int 2)) (AC (wC (D.int 1)) AQ))) (AC (A3 (AC (wC (D.int 3)) (AC (wC (D.int 2)) AQ))) AQ)))))) (AZ BO (AF (Az 1) (AF (AR (wC (D.int 5))) Ac)))))
 (Ba (AZ El (AF (AR (AD 7)) (AF (AR (AY BG (AY BG (AD 7) (wC (D.int 0))) (wC (D.int 0)))) (AF (AR (AD 8)) (AF (AR (AZ GJ (AF (AR (AD 7)) Ac))) Ac)))))))))
noncomputable def KQ:AW:=(Ae (CO 2 (DU (AC (AZ Gs (AF (Az 1) (AF (AR (wC (D.int 8))) (AF (AR (wC (D.int 14))) Ac)))) (AC (AZ Gs (AF (Az 1) (AF (AR (wC (D.int 8))) (AF (AR (wC (D.int 14))) Ac)))) AQ))))
 (Ae (Be (Aj (AY (Nk false) (AZ BO (AF (Az 1) (AF (AR (wC (D.int 8))) Ac))) (wC (D.int 0)))) (Jf 2 "list" ET (AC (AZ Gs (AF (Az 1) (AF (AR (wC (D.int 24))) (AF (AR (wC (D.int 60))) Ac)))) AQ)) A_)
 Iy))
theorem Jr{D2:E2}{N:Net}{y:Str}{ord:List Tie}{m:Nat}{s0 s1 s2 s5 s7 s8:Slot}(okn:okN N)(hy:y∈N.ps)(o1:ord.Perm N.ts)(o2:Dx ord)(hm:1<=m)(p:D2.nx (m - 1) [s0,.fd,s2,.sh (enc N),.sh (enc (sub N (Bp [] ord))),s5,.sh (.str y),s7,s8]) :
  Ml D2 m [s0,.fd,s2,.sh (enc N),.sh (enc (sub N (Bp [] ord))),s5,.sh (.str y),s7,s8] :=
 ⟨rfl,hm,λt b hb hbt ht=>⟨N,y,t,b,ord,rfl,okn,hy,hb,hbt,ht,o1,o2,p⟩⟩
theorem PN{D2:E2}{N:Net}{m:Nat}{s0 s2 s4 s5 s6 s7 s8:Slot}(okn:okN N)(h2:2<=N.ps.length)(hm:20<=m)(p:∀m' s4 s5 s6,m - 12<=m'->D2.nx m' [s0,.fd,s2,.sh (enc N),s4,s5,s6,s7,s8]) :
  F9 D2 m [s0,.fd,s2,.sh (enc N),s4,s5,s6,s7,s8]:=by
 unfold F9;have xl:(N.ps.map D.str).length=N.ps.length:=On ..;have l25:=okn.2.1;refine⟨N,rfl,okn,λord o1 o2=>⟨_,AJ (j:=0) rfl,_,_,rfl,rfl,?_⟩⟩
 obtain⟨c,hc,c6,cN⟩:∃c:Nat,(if (((N.ps.map D.str).length:Nat):Int)<6 then (((N.ps.map D.str).length:Nat):Int) else 6)=(c:Int)/\c<=6/\c<=N.ps.length:=by
  rw [xl]
  split
  ·exact⟨N.ps.length,rfl,by omega,Tk _⟩
  ·exact⟨6,rfl,Tk _,by omega⟩
 refine⟨(c:Int),by rw [← hc],⟨by omega,by omega⟩,?_⟩;rw [av];refine CH (all:=Co 0 c) (λpre m' ρ=>m - 2*pre.length<=m'/\∃s5 s6,ρ=[s0,.fd,s2,.sh (enc N),.sh (enc (sub N (Bp [] ord))),s5,s6,s7,s8]) ?_ ?_ _ [] _ _ rfl ⟨by show m - 2*0<=m; omega,_,_,rfl⟩
 ·rintro m' ρ ⟨hm',s5,s6,rfl⟩
  rw [B4] at hm';exact p _ _ _ _ (by omega)
 ·rintro pre d post m' ρ nx hall ⟨hm',s5,s6,rfl⟩ hnx
  obtain⟨rfl,hk⟩:=Ew hall;rw [ZT,Zc] at hnx;generalize pre.length=i at hk hm' hnx ⊢;refine⟨_,AJ (j:=0) rfl,_,I0 (i:=i) (by omega) (by omega),_,AJ (j:=0) rfl,_,_,rfl,rfl,?_⟩;show if decide ((6:Int)<(((N.ps.map D.str).length:Nat):Int))=true then _ else _
  refine Cv (λc=>?_) λc=>Jr (s1:=.no) okn (Zw _) o1 o2 (by omega) (hnx _ _ ⟨by omega,_,_,rfl⟩);refine⟨_,AJ (j:=0) rfl,_,AJ (j:=0) rfl,_,_,rfl,rfl,_,rfl,by rw [xl]; omega,by rw [xl]; omega,by omega,λv v0 v1=>?_⟩;rw [xl] at v1;exact⟨_,I0 (i:=v.toNat) (by omega) (by omega),Jr (s1:=.no) okn (Zw _) o1 o2 (by omega) (hnx _ _ ⟨by omega,_,_,rfl⟩)⟩
theorem NI:KQ { nx:=λ_ _=>False,rt:=λd _=>d=.bl true } 3000 (.no::.fd::Zd 7 .no):=by
 have szl:=PySem.sizeLine_eq;unfold KQ;refine⟨8,14,rfl,by decide,by decide,by decide,by decide,by decide,λN1 n1 ok1 t1 a1 b1 hn1=>?_⟩;refine⟨8,14,rfl,by decide,by decide,by decide,by decide,by omega,λN2 n2 ok2 t2 a2 b2 hn2=>⟨z2,?_⟩⟩;refine⟨8,rfl,by decide,by decide,by omega,λr r0 r1=>?_⟩
 have rest:∀(ds:List D) (m:Nat),1300<=m->ds.length<=3->(∀d∈ds,∃N,d=enc N/\okN N/\2<=N.ps.length)->Iy { nx:=λ_ _=>False,rt:=λd _=>d=.bl true } m [.no,.fd,.ow (.lst ds),.no,.no,.no,.no,.no,.no]:=by
  intro ds m hm hl hds;unfold Iy;refine⟨ds,rfl,λa=>?_⟩;refine Ga (λk m' ρ=>300+300*k<=m'/\∃s3 s4 s5 s6,ρ=[.no,.fd,.lt a (.lst ds),s3,s4,s5,s6,.no,.no]) ?_ _ _ _ ?_ ⟨by omega,_,_,_,_,rfl⟩
  ·rintro m' ρ ⟨hm',s3,s4,s5,s6,rfl⟩
   refine⟨rfl,rfl,by omega,λG n' okG g2 hn'=>?_⟩;refine⟨z2,z2,z2,z2,z2,(by decide:5<=sizeLine),5,rfl,by decide,by decide,by omega,λv v0 v1=>?_⟩
   obtain⟨z,hz,t,b,rfl,b0,bt,t1⟩:=Iz (p:=λd=>∃t b:Int,d=.tup [.int t,.int b]/\1<=b/\b<=t/\t<=1000000) (xs:=[.tup [.int 4,.int 1],.tup [.int 3,.int 1],.tup [.int 5,.int 2],.tup [.int 2,.int 1],.tup [.int 3,.int 2]]) (λd hd=>by
    simp only [XV,Zf,or_false] at hd
    rcases hd with rfl | rfl | rfl | rfl | rfl <;> exact⟨_,_,rfl,by decide,by decide,by decide⟩) v0 (by show v<5; exact v1)
   refine⟨_,hz,_,AJ (j:=0) rfl,_,I0 (i:=0) (by omega) rfl,G,rfl,okG,λord o1 o2=>⟨G,_,t,b,ord,rfl,okG,Zw _,b0,bt,t1,o1,o2,rfl⟩⟩
  ·rintro k d m' ρ nx hd ⟨hm',s3,s4,s5,s6,rfl⟩ hnx
   obtain⟨N,rfl,okn,h2⟩:=hds d hd;refine⟨2,rfl,by decide,by decide,by omega,λu u0 u1=>?_⟩
   have fin:∀(D2:E2),D2.nx=nx->∀(N:Net) (m2:Nat),okN N->2<=N.ps.length->320+300*k<=m2->F9 D2 m2 [.no,.fd,.lt a (.lst ds),.sh (enc N),s4,s5,s6,.no,.no]:=λD2 eD N m2 okn h2 hm2=>PN okn h2 (by omega) λm3 s4 s5 s6 h3=>by
    rw [eD];exact hnx _ _ ⟨by omega,_,_,_,_,rfl⟩
   show if (u==0)=true then _ else _
   refine Cv (λc=>⟨_,AJ (j:=0) rfl,_,_,rfl,rfl,?_⟩) λc=>EA (fin _ rfl N _ okn h2 (by omega));show if decide ((((N.ps.map D.str).length:Nat):Int)<20)=true then _ else _
   refine Cv (λc=>?_) λc=>fin _ rfl N _ okn h2 (by omega);have c:=of_decide_eq_true c;rw [On] at c;exact⟨N,rfl,okn,h2,by omega,by omega,λN' n' ok' e' hn'=>fin _ rfl N' _ ok' (by rw [e']; exact h2) (by omega)⟩
 have okA:okN N1:=⟨ok1,by omega,by omega⟩;have okB:okN N2:=⟨ok2,by omega,by omega⟩;show if (r==0)=true then _ else _
 refine Cv (λc=>⟨_,rfl,rfl,24,60,rfl,by decide,by decide,by decide,by decide,by omega,λN3 n3 ok3 t3 a3 b3 hn3=>⟨_,_,rfl,rfl,by show 2<sizeLine; omega,?_⟩⟩) λc=>rest _ _ (by omega) (by show 2<=3; decide) λd hd=>?_
 ·refine rest _ _ (by omega) (by show 3<=3; decide) λd hd=>?_
  rcases Zb.mp hd with hd | hd
  ·rcases XV.mp hd with rfl | hd
   ·exact⟨N1,rfl,okA,t1⟩
   ·rw [Go.mp hd]; exact⟨N2,rfl,okB,t2⟩
  ·rw [Go.mp hd]; exact⟨N3,rfl,⟨ok3,by omega,by omega⟩,t3⟩
 ·rcases XV.mp hd with rfl | hd
  ·exact⟨N1,rfl,okA,t1⟩
  ·rw [Go.mp hd]; exact⟨N2,rfl,okB,t2⟩
end Nt
set_option maxHeartbeats 4000000
namespace K34
open PySem PySem.Spec PyProof.Rows L2 Dp Nt
section
variable (P:Program)(w:World)(K:Frag)(mg:Str->Option Value)(base:Heap)
noncomputable abbrev KU:Prop:=Got P w K mg base "rank_of" 1 ["tie"] .sh O2
noncomputable abbrev JD:Prop:=Got P w K mg base "order_of" 4 ["ties"] .fr Em
noncomputable abbrev Dz:Prop:=Got P w K mg base "steps_of" 1 ["net"] .sh Gq
noncomputable abbrev N5:Prop:=Got P w K mg base "only" 1 ["net","ties"] .sh D5
noncomputable abbrev GB:Prop:=Got P w K mg base "nearest_of" 1 ["waiting","found"] .sh O3
noncomputable abbrev Cb:Prop:=Got P w K mg base "least_ways" 2 ["net","start"] .fr Gu
noncomputable abbrev U0:Prop:=Got P w K mg base "far" 3 ["net","a","b"] .sh Sv
noncomputable abbrev Mn:Prop:=Got P w K mg base "way_of" 3 ["net","a","b"] .sh UN
noncomputable abbrev G8:Prop:=Got P w K mg base "is_within" 1 ["length","times","number"] .sh D4
noncomputable abbrev GD:Prop:=Got P w K mg base "least_tree" 5 ["net"] .sh GJ
noncomputable abbrev KS:Prop:=Got P w K mg base "tree_of" 2 ["net","found"] .sh JF
noncomputable abbrev GA:Prop:=Got P w K mg base "walk_round" 27 ["steps","place","ahead"] .fr ((Gr 24))
noncomputable abbrev KW:Prop:=Got P w K mg base "go_over" 1 ["steps","found","way"] .sh Xr
noncomputable abbrev GC:Prop:=Got P w K mg base "light_tree" 28 ["net","place","times"] .sh LY
noncomputable abbrev BX:Prop:=Got P w K mg base "_law_next" 1 ["_law_feed_here","_law_many"] .sh BO
noncomputable abbrev D1:Prop:=Got P w K mg base "_law_names" 2 ["_law_feed_here","_law_many"] .sh En
noncomputable abbrev FJ:Prop:=Got P w K mg base "_law_length" 2 ["_law_feed_here","_law_way"] .sh JG
noncomputable abbrev JE:Prop:=Got P w K mg base "_law_net" 3 ["_law_feed_here","_law_most","_law_ties"] .sh Gs
noncomputable abbrev GI:Prop:=Got P w K mg base "_law_order" 1 ["_law_ties"] .fr Em
noncomputable abbrev Ej:Prop:=Got P w K mg base "_law_lengths" 1 ["_law_ties","_law_place"] .fr Eo
noncomputable abbrev GF:Prop:=Got P w K mg base "_law_whole" 1 ["_law_thing"] .sh LW
noncomputable abbrev Ek:Prop:=Got P w K mg base "_law_is_thin" 2 ["_law_net_here","_law_thing"] .sh HY
noncomputable abbrev FI:Prop:=Got P w K mg base "_law_within" 1 ["_law_length_here","_law_times","_law_number"] .sh D4
noncomputable abbrev C6:Prop:=Got P w K mg base "_law_least_tree" 2 ["_law_net_here"] .sh GJ
noncomputable abbrev GG:Prop:=Got P w K mg base "_law_wheel" 2 ["_law_feed_here","_law_net_here"] .sh LX
noncomputable abbrev Ct:Prop:=Got P w K mg base "_law_great_wheel" 3 ["_law_feed_here"] .sh GK
noncomputable abbrev Cs:Prop:=Got P w K mg base "_law_light_times" 2 ["_law_feed_here"] .sh HZ
noncomputable abbrev GH:Prop:=Got P w K mg base "_law_right" 29 ["_law_net_here","_law_place","_law_times","_law_base"] .sh El
end
section
variable {P:Program}{w:World}{K:Frag}{mg:Str->Option Value}{base:Heap}
local macro_rules | `(tactic| walk_at "s")=>`(tactic| (constructor <;> first | rfl | decide +kernel))
variable {f:Addr}{fd:FuncData}
theorem ND:Af ["tie"] ["tie"] (AO GU):=by walk_at "s"
theorem NT(T:Txt K mg)(F:Fu K "rank_of" GU f fd):BK P w K mg base Cc 1 f fd ["tie"] (EB K .sh O2 1) :=
 HG F ND (λhr=>(AH (Au (Ah (AA (AU AL Ak (dv 0) AE) (AA (AU AL Ak (dv 0) AE) (AA (AU AL Ak (dv 0) AE) AI))))))) NG
theorem Lp:Af ["ties"] ["ties"] (AO FQ):=by walk_at "s"
theorem L9(T:Txt K mg)(fz:KU P w K mg base)(F:Fu K "order_of" FQ f fd):BK P w K mg base Cc 4 f fd ["ties"] (EB K .fr Em 1) :=
 HG F Lp (λhr=>(AH (Au (SM fz (hr.mono (by decide)) rfl T.n_sorted rfl (dv 0))))) Lr
theorem f6:Af ["net","steps","place","a","b","length"] ["net"] (AO FP):=⟨rfl,rfl,rfl,by decide +kernel,rfl,by decide +kernel,by decide +kernel⟩
theorem L8{f:Ev}{fd:aE}(F:Fun K "steps_of" "steps_of" FP f fd):BK P w K mg base Cc 1 f fd ["net"] (EB K .sh Gq 1):=by
 refine F.ok (k:=0) f6 (λvs H Q E h=>h.1) (λcdv A outer s H vs Q E hr h=>?_);obtain⟨hl,F0,U,V',M,n,ss,Pd,ra,⟨N,rfl,ok,lp,lt,p⟩,q⟩:=h;obtain⟨dom,fU,uV,vM,fd0,pa⟩:=ra;cases pa with
 | cons r1 pa =>
 cases pa;obtain⟨v,e1,h1⟩:=r1.1;cases e1;obtain⟨an,vs,rfl,hn,v1,r,rfl,hp,v2,r2,rfl,ht,e2⟩:=h1;cases (show r2=[] from e2);obtain⟨ap,us,rfl,hpn,hps⟩:=hp;obtain⟨at_,ws,rfl,htn,hts⟩:=ht;have nd:=f6.nd;have hu:=FF hr;have szl:=PySem.sizeLine_eq;have lus:us.length=N.ps.length:=by rw [hps.length,On]
 have lws:ws.length=N.ts.length:=by rw [hts.length,On]
 refine⟨_,BJ (EH (i:=1) nd rfl (ZV rfl) IK)
  (BJ (IH Zj rfl (RI (D6 ix_tup (pv 0) As (λ_ _=>rfl))) (Fl (i:=2) nd rfl (ZV rfl)) (C0 (Ey hu (pv 1) (pv 2) IK rfl)))
  (BJ (IH Zj rfl (RI (D6 ix_tup (pv 0) As (λ_ _=>rfl))) (RL rfl (Fk (Fl (i:=3) nd rfl (ZV rfl)) (Fk (Fl (i:=4) nd rfl (ZV rfl)) (Fk (Fl (i:=5) nd rfl (ZV rfl)) OS))))
   (BJ (Ey hu (Fn hu (pv 1) (pv 3) (λ_ _=>rfl)) (pv 4) (pv 5) rfl) (C0 (Ey hu (Fn hu (pv 1) (pv 4) (λ_ _=>rfl)) (pv 3) (pv 5) rfl))))
  (C0 (FS (RN (pv 1)))))),?_⟩
 refine λd hd=>?_;have old0:∀b o,H b=some o->Aw H d (.dK []) b=some o:=λb o e=>by rw [AK (Ag e hd)]; exact e
 have SqN:∀H':Hp,(∀b o,H b=some o->H' b=some o)->SqT K H' an [.ref ap,.ref at_]:=λH' o=>SqT.of (o _ _ hn);have SqP:∀H':Hp,(∀b o,H b=some o->H' b=some o)->SqT K H' ap us:=λH' o=>SqT.of (o _ _ hpn);have SqW:∀H':Hp,(∀b o,H b=some o->H' b=some o)->SqT K H' at_ ws:=λH' o=>SqT.of (o _ _ htn);refine⟨_,rfl,an,_,0,_,rfl,rfl,SqN _ old0,rfl,ap,rfl,⟨_,SqP _ old0⟩,?_⟩;refine Ob (xs:=us) (λi σ H'=>∃(as:List (Str×Ev)) (x2 x3 x4 x5:Option V),σ=[some (.ref an),some (.ref d),x2,x3,x4,x5]/\as.map (·.1)=N.ps.take i/\Stp H d as (λ_=>[]) H') ?_ (λi σ H' hi ⟨as,x2,x3,x4,x5,e,hm,st⟩=>SqP _ st.old) ?_ ?_
 ·exact⟨[],_,_,_,_,rfl,rfl,old0,hd,AT,(λx hx=>by cases hx),Zp,Zp⟩
 ·rintro i x σ H' hx ⟨as,x2,x3,x4,x5,rfl,hm,st⟩
  have hi:i<N.ps.length:=by rw [← lus]; exact(ZB.mp hx).1
  obtain⟨x',hx',hAt⟩:=hps.get (i:=i) (d:=.str N.ps[i]) (by rw [ZZ,No hi]; rfl);rw [hx] at hx';cases hx';obtain⟨rfl,_⟩:=hAt;intro q hq;have las:as.length<=i:=by have:=congrArg dA hm; rw [On,cK] at this; omega
  have nq:d≠q:=λe=>by rw [← e,st.top] at hq; cases hq
  have las2:(as.map λx=>((.inr x.1:Key),V.ref x.2)).length=as.length:=On ..;refine⟨_,rfl,_,rfl,d,_,rfl,DPut.k (k:=.inr N.ps[i]) (by rw [AK nq]; exact st.top) (by omega),?_⟩;refine⟨as++[(N.ps[i],q)],_,_,_,_,rfl,?_,st.more hq ?_ rfl⟩
  ·rw [Z1,hm,List.take_succ,No hi]; rfl
  ·rw [hm]; exact NV (Km ok.rise) hi
 ·rintro σ H' ⟨as,x2,x3,x4,x5,rfl,hm,st⟩
  rw [lus,e8] at hm;refine⟨_,rfl,an,_,1,_,rfl,rfl,SqN _ st.old,rfl,at_,rfl,⟨_,SqW _ st.old⟩,?_⟩;refine Ob (xs:=ws) (λi σ H'=>∃(x2 x3 x4 x5:Option V),σ=[some (.ref an),some (.ref d),x2,x3,x4,x5]/\Stp H d as (λp=>(Cu (N.ts.take i) p).map kv) H') ⟨_,_,_,_,rfl,st⟩ (λi σ H' hi ⟨x2,x3,x4,x5,e,st⟩=>SqW _ st.old) ?_ ?_
  ·rintro i x σ H' hx ⟨x2,x3,x4,x5,rfl,st⟩
   have hi:i<N.ts.length:=by rw [← lws]; exact(ZB.mp hx).1
   obtain⟨x',hx',hAt⟩:=hts.get (i:=i) (d:=Ao N.ts[i]) (by rw [ZZ,No hi]; rfl);rw [hx] at hx';cases hx';have hmem:N.ts[i]∈N.ts:=Zw hi;have hsnoc:N.ts.take (i+1)=N.ts.take i++[N.ts[i]]:=by rw [List.take_succ,No hi]; rfl
   have hpre:(N.ts.take (i+1)).Pairwise Bv:=ok.trise.sublist (List.take_sublist _ _);have hlt2:∀s∈N.ts.take (i+1),cs s.a<cs s.b:=λs hs=>(ok.tin s (List.mem_of_mem_take hs)).2.2.1;rw [hsnoc] at hpre hlt2;have new:=SE hpre hlt2;have ltk:(N.ts.take i).length<=1000:=by rw [cK]; omega
   generalize N.ts[i]=t at hAt hmem hsnoc new;generalize N.ts.take i=ts at hsnoc new st ltk;obtain⟨m1,m2,m3,_⟩:=ok.tin t hmem;have hab:t.a≠t.b:=λe=>by rw [e] at m3; exact aK _ m3
   obtain⟨ta,tb,tl⟩:=t;obtain⟨tt,us3,rfl,htt,hit⟩:=hAt;obtain⟨va,r3,rfl,⟨rfl,_⟩,vb,r4,rfl,⟨rfl,_⟩,vl,r5,rfl,rfl,e5⟩:=hit;cases (show r5=[] from e5);rw [← hm] at m1 m2;obtain⟨⟨xa,pa⟩,ha,ea⟩:=TW.mp m1;obtain⟨⟨xb,pb⟩,hb,eb⟩:=TW.mp m2;have ea':ta=xa:=ea.symm;have eb':tb=xb:=eb.symm;subst ea' eb';clear ea eb;replace hab:ta≠tb:=hab;replace new:tb∉(Cu ts ta).map (·.1)/\ta∉(Cu ts tb).map (·.1):=new;have ga:=DGet.k (k:=.inr ta) st.top;rw [HH st.nms ha] at ga;have l1:=OW ts ta;refine⟨tt,_,rfl,SqT.of (st.old _ _ htt),rfl,_,_,rfl,_,_,rfl,_,_,rfl,rfl,?_⟩;refine⟨_,rfl,_,rfl,_,rfl,d,_,rfl,ga,_,rfl,pa,_,rfl,DPut.k (k:=.inr tb) (st.inn _ ha).2.2 (by show ((Cu ts ta).map kv).length<sizeLine; rw [On]; omega),?_⟩;have st1:=st.put (tb2:=λp=>(Cu ts p++if ta=p then [(tb,tl)] else []).map kv) ha (kvs:=putK ((Cu ts ta).map kv) (.inr tb) (.int tl)) (by rw [ON new.1,if_pos rfl]) (λq hq=>by rw [if_neg (aI hq),Zn]);have gb:=DGet.k (k:=.inr tb) st1.top;rw [HH st1.nms hb] at gb;have l2:=OW ts tb;have ib:=(st1.inn _ hb).2.2;simp only [if_neg hab,Zn] at ib;refine⟨_,rfl,_,rfl,_,rfl,d,_,rfl,gb,_,rfl,pb,_,rfl,DPut.k (k:=.inr ta) ib (by rw [On]; omega),?_⟩;refine⟨_,_,_,_,rfl,st1.put hb ?_ λq hq=>?_⟩
   ·show (Cu (N.ts.take (i+1)) tb).map kv=_
    rw [hsnoc,MB,ON new.2];show ((Cu ts tb++((if ta=tb then [(tb,tl)] else [])++if tb=tb then [(ta,tl)] else [])).map kv)=_;rw [if_neg hab,if_pos rfl]; rfl
   ·show (Cu (N.ts.take (i+1)) q).map kv=_
    rw [hsnoc,MB];show ((Cu ts q++((if ta=q then [(tb,tl)] else [])++if tb=q then [(ta,tl)] else [])).map kv)=_;rw [if_neg (aI hq),Zn]
  ·rintro σ H' ⟨x2,x3,x4,x5,rfl,st⟩
   rw [lws,e8] at st
   have old:∀(f:Ev->Obj) b o,H b=some o->E_ H' (as.map (·.2)) f b=some o:=λf b o e=>by
    rw [Cr (λhm=>by obtain⟨x,hx,e2⟩:=TW.mp hm; have:=(st.inn x hx).1; rw [e2,e] at this; cases this)];exact st.old b o e
   refine⟨_,rfl,(as.map fun(x:Str×Ev)=>x.2),λb hb=>?_,λf=>q (.ref d) (E_ H' (as.map fun(x:Str×Ev)=>x.2) f) (B0 N) n (λb o e=>⟨o,old f b o e,λ_=>rfl,λ_ _=>rfl⟩) (fd0.pres ⟨λb o e _=>old f b o e,λ_ z=>.inl z,λb vs e=>old f b _ e⟩ λ_ o _ e=>old f _ o e) (show At K M (E_ H' (as.map fun(x:Str×Ev)=>x.2) f) (B0 N) (.ref d) from st.at_ dom hm f) p⟩;obtain⟨x,hx,rfl⟩:=TW.mp hb;exact⟨_,(st.inn x hx).2.2⟩
theorem TJ:Af ["net","ties"] ["net","ties"] (AO NE):=by walk_at "s"
theorem Te(T:Txt K mg)(F:Fu K "only" NE f fd):BK P w K mg base Cc 1 f fd ["net","ties"] (EB K .sh D5 2) :=
 HG F TJ (λhr=>(AH (Au (Ah (AA (AU AL Ak (dv 0) AE) (AA (CK Bc DQ rfl T.n_tuple cz (AM (Ad CL E7 rfl T.n_sorted bS (AM (Fy 1) AV)) AV)) AI)))))) PM
theorem JJ:Af ["waiting","found"] ["waiting","found"] (AO Dd):=by walk_at "s"
theorem JO(T:Txt K mg)(F:Fu K "nearest_of" Dd f fd):BK P w K mg base Cc 1 f fd ["waiting","found"] (EB K .sh O3 2) :=
 HG F JJ (λhr=>(AH (Au (AU AL Ak (Ad (QL hr) WH rfl T.n_min boot_min (AM (S2 [("found":Str),("place":Str)] [some 1,none] (E6 (Fy 0)) (Ab (i:=1) (show bB [("found":Str),("place":Str)] by decide +kernel) rfl (ZV rfl)) C3 (Ah (AA (AU AL Ak (A2 hr (Fy 0) (dv 1)) AE) (AA (dv 1) AI))) (by kernel_rfl)) AV)) AE)))) JL
theorem f7:Af ["net","start","steps","found","waiting","place","other","step","length"] ["net","start"] (AO Df):=by walk_at "s"
theorem JQ(T:Txt K mg)(f8:GB P w K mg base)(f9:Dz P w K mg base)(F:Fu K "least_ways" Df f fd):BK P w K mg base Cc 2 f fd ["net","start"] (EB K .fr Gu 2) :=
 HG F f7 (λhr=>(AG (Ai (i:=2) f7.nd rfl (ZV rfl) (cg hr f9 (AB (AS (dv 0)) AN)))
 (AG (BP (i:=3) f7.nd rfl (ZV rfl) (Ij (dv 1) (Ah (AA AE (AA EX AI)))))
 (AG (BP (i:=4) f7.nd rfl (ZV rfl) (Bj (AA (dv 1) AI)))
 (AG (Ie Zj (V6 (Fy 4)) (AG (Ai (i:=5) f7.nd rfl (ZV rfl) (cg hr f8 (AB (Im (Fy 4)) (AB (Im (Fy 3)) AN))))
 (AG (CQ 4 PySem.F.plainAttrs_list PySem.F.slot_list_remove PySem.F.type_list_remove (Pn hr) Xn (pv 4) (AA (dv 5) AI))
 (AH (BS Zj rfl (SK (A2 hr (dv 2) (dv 5))) (FY rfl (A9 (Ab (i:=6) f7.nd rfl (ZV rfl)) (A9 (Ab (i:=7) f7.nd rfl (ZV rfl)) Dw))) (AG (Ai (i:=8) f7.nd rfl (ZV rfl) (Av A1 BL (AU AL Ak (A2 hr (Fy 3) (dv 5)) AE) (dv 7)))
 (AH (BR (Ap (Ez hr) Mm (dv 6) (Fy 3) (by with_unfolding_all rfl)) (AG (CQ 4 PySem.F.plainAttrs_list PySem.F.slot_list_append PySem.F.type_list_append BB DR (pv 4) (AA (dv 6) AI))
 (AH (Fz (i:=3) hr (pv 3) (dv 6) (Ah (AA (dv 8) (AA (dv 5) AI)))))) (AH (BR (Ap (EL hr) G7 (dv 8) (AU AL Ak (A2 hr (Fy 3) (dv 6)) AE) (An _)) (AH (Fz (i:=3) hr (pv 3) (dv 6) (Ah (AA (dv 8) (AA (dv 5) AI))))) Ar))))))))))
 (AH (HR 3 (pv 3)))))))) JM
theorem f_:Af ["net","a","b","found"] ["net","a","b"] (AO Qy):=by walk_at "s"
theorem Vl(T:Txt K mg)(gA:Cb P w K mg base)(F:Fu K "far" Qy f fd):BK P w K mg base Cc 3 f fd ["net","a","b"] (EB K .sh Sv 3) :=
 HG F f_ (λhr=>(AG (Ai (i:=3) f_.nd rfl (ZV rfl) (cg hr gA (AB (AS (dv 0)) (AB (AS (dv 1)) AN))))
 (AH (Au (Xi (Ap (NQ hr) Su (dv 2) (dv 3) (by with_unfolding_all rfl)) (AU AL Ak (A2 hr (dv 3) (dv 2)) AE) EX))))) VT
theorem gB:Af ["net","a","b","found","way","place"] ["net","a","b"] (AO Hw):=by walk_at "s"
theorem Pg(T:Txt K mg)(gA:Cb P w K mg base)(F:Fu K "way_of" Hw f fd):BK P w K mg base Cc 3 f fd ["net","a","b"] (EB K .sh UN 3) :=
 HG F gB (λhr=>(AG (Ai (i:=3) gB.nd rfl (ZV rfl) (cg hr gA (AB (AS (dv 0)) (AB (AS (dv 1)) AN))))
 (AG (BR (Ap (Ez hr) Mm (dv 2) (dv 3) (by with_unfolding_all rfl)) (AH (Au EX)) Ar)
 (AG (BP (i:=4) gB.nd rfl (ZV rfl) (Bj AI))
 (AG (Ai (i:=5) gB.nd rfl (ZV rfl) (dv 2))
 (AG (Ie Zj (Ap OV Sl (dv 5) EX (An _)) (AG (CQ 4 PySem.F.plainAttrs_list PySem.F.slot_list_append PySem.F.type_list_append BB DR (pv 4) (AA (dv 5) AI))
 (AH (Ai (i:=5) gB.nd rfl (ZV rfl) (AU AL Ak (A2 hr (dv 3) (dv 5)) AE)))))
 (AH (Au (QE rfl (Fy 4) rfl T.n_tuple rfl T.n_reversed))))))))) PL
theorem Kk:Af ["length","times","number"] ["length","times","number"] (AO ED):=by walk_at "s"
theorem K3(T:Txt K mg)(F:Fu K "is_within" ED f fd):BK P w K mg base Cc 1 f fd ["length","times","number"] (EB K .sh D4 3) :=
 HG F Kk (λhr=>(AH (Au (Ik NO Sn (Av C2 Ei (dv 0) (AU AL Ak (dv 1) AE)) (Av C2 Ei (dv 2) (AU AL Ak (dv 1) AE)) (An _))))) Fj
theorem gC:Af ["net","kept","tie"] ["net"] (AO Dg):=by walk_at "s"
theorem JR(T:Txt K mg)(gD:U0 P w K mg base)(gE:N5 P w K mg base)(gF:JD P w K mg base)(F:Fu K "least_tree" Dg f fd):BK P w K mg base Cc 5 f fd ["net"] (EB K .sh GJ 1) :=
 HG F gC (λhr=>(AG (BP (i:=1) gC.nd rfl (ZV rfl) (Bj AI))
 (AG (BS Zj rfl (Dv (cg hr gF (AB (AS (AU AL Ak (dv 0) AE)) AN))) (Ab (i:=2) gC.nd rfl (ZV rfl)) (AH (BR (Ap Vj Xo (cg hr gD (AB (AS (cg hr gE (AB (AS (dv 0)) (AB (Im (Fy 1)) AN)))) (AB (AS (AU AL Ak (dv 2) AE)) (AB (AS (AU AL Ak (dv 2) AE)) AN)))) EX (An _)) (AH (CQ 1 PySem.F.plainAttrs_list PySem.F.slot_list_append PySem.F.type_list_append BB DR (pv 1) (AA (dv 2) AI))) Ar)))
 (AH (Au (cg hr gE (AB (AS (dv 0)) (AB (Im (Fy 1)) AN)))))))) G_
theorem gG:Af ["net","found","steps","ties","place","ahead"] ["net","found"] (AO GS):=by walk_at "s"
theorem NS(T:Txt K mg)(gE:N5 P w K mg base)(f9:Dz P w K mg base)(F:Fu K "tree_of" GS f fd):BK P w K mg base Cc 2 f fd ["net","found"] (EB K .sh JF 2) :=
 HG F gG (λhr=>(AG (Ai (i:=2) gG.nd rfl (ZV rfl) (cg hr f9 (AB (AS (dv 0)) AN)))
 (AG (BP (i:=3) gG.nd rfl (ZV rfl) (Bj AI))
 (AG (BS Zj rfl (HS (dv 1)) (Ab (i:=4) gG.nd rfl (ZV rfl)) (AG (Ai (i:=5) gG.nd rfl (ZV rfl) (AU AL Ak (A2 hr (dv 1) (dv 4)) AE))
 (AH (BR (Ap OV Sl (dv 5) EX (An _)) (AH (CQ 3 PySem.F.plainAttrs_list PySem.F.slot_list_append PySem.F.type_list_append BB DR (pv 3) (AA (Ah (AA (Ad (QK rfl) WG rfl T.n_min boot_min (AM (dv 4) (AM (dv 5) AV))) (AA (Ad (QM rfl) WI rfl T.n_max boot_max (AM (dv 4) (AM (dv 5) AV))) (AA (A2 hr (A2 hr (dv 2) (dv 4)) (dv 5)) AI)))) AI))) Ar))))
 (AH (Au (cg hr gE (AB (AS (dv 0)) (AB (Im (Fy 3)) AN))))))))) Kp
theorem gH:Af ["steps","place","ahead","walk","other"] ["steps","place","ahead"] (AO DZ):=by walk_at "s"
theorem FD(T:Txt K mg)(F:Fu K "walk_round" DZ f fd)(m:mg "walk_round"=some (.ref f))(b:Binds K fd ["steps","place","ahead"] []):∀j,BK P w K mg base Cc (3+j) f fd ["steps","place","ahead"] (EB K .fr (Gr j) 3)
 | 0=>by
  have gI:Got P w K mg base "walk_round" 2 ["steps","place","ahead"] .fr (λ_ _ _=>False):=Ng F m b (λ_ _ _ h=>h.elim) (F.ok (k:=1) gH (λvs H Q E h=>h.1) (λcdv A outer s H vs Q E hr h=>by obtain⟨_,_,_,_,_,_,_,_,_,hw,_⟩:=h; exact hw.elim));exact Yf (k:=2) F gH (by decide) (λcdv A outer s H E hr=>(AG (BP (i:=3) gH.nd rfl (ZV rfl) (Bj AI))
 (AG (BS Zj rfl (HS (A2 hr (dv 0) (dv 1))) (Ab (i:=4) gH.nd rfl (ZV rfl)) (AH (BR (Ap (FU hr) JC (dv 4) (dv 2) (An _)) (AG (CQ 3 PySem.F.plainAttrs_list PySem.F.slot_list_append PySem.F.type_list_append BB DR (pv 3) (AA (Ah (AA (dv 1) (AA (dv 4) AI))) AI))
 (AG (CQ 3 PySem.F.plainAttrs_list PySem.F.slot_list_extend PySem.F.type_list_extend GZ Ss (pv 3) (AA (Il gI (hr.mono (Tk _)) rfl (AB (AS (dv 0)) (AB (AS (dv 4)) (AB (AS (dv 1)) AN)))) AI))
 (AH (CQ 3 PySem.F.plainAttrs_list PySem.F.slot_list_append PySem.F.type_list_append BB DR (pv 3) (AA (Ah (AA (dv 4) (AA (dv 1) AI))) AI))))) Ar)))
 (AH (HR 3 (pv 3)))))) (λss n Pd hl hw=>H_ (λ_ _ _ h _=>absurd rfl h) hw)
 | j+1=>by
  have gI:Got P w K mg base "walk_round" (3+j) ["steps","place","ahead"] .fr (Gr j):=Ng F m b (λ_ _ _ h=>by obtain⟨_,_,_,_,e,_⟩:=h; rw [e]; rfl) (FD T  F m b j);exact Yf (k:=3+j) F gH (by decide) (λcdv A outer s H E hr=>(AG (BP (i:=3) gH.nd rfl (ZV rfl) (Bj AI))
 (AG (BS Zj rfl (HS (A2 hr (dv 0) (dv 1))) (Ab (i:=4) gH.nd rfl (ZV rfl)) (AH (BR (Ap (FU hr) JC (dv 4) (dv 2) (An _)) (AG (CQ 3 PySem.F.plainAttrs_list PySem.F.slot_list_append PySem.F.type_list_append BB DR (pv 3) (AA (Ah (AA (dv 1) (AA (dv 4) AI))) AI))
 (AG (CQ 3 PySem.F.plainAttrs_list PySem.F.slot_list_extend PySem.F.type_list_extend GZ Ss (pv 3) (AA (Il gI (hr.mono (Tk _)) rfl (AB (AS (dv 0)) (AB (AS (dv 4)) (AB (AS (dv 1)) AN)))) AI))
 (AH (CQ 3 PySem.F.plainAttrs_list PySem.F.slot_list_append PySem.F.type_list_append BB DR (pv 3) (AA (Ah (AA (dv 4) (AA (dv 1) AI))) AI))))) Ar)))
 (AH (HR 3 (pv 3)))))) (λss n Pd hl hw=>H_ (j:=j+1) (λ_ _ _ _ h=>h) hw)
theorem gJ:Af ["steps","found","way","here","there","length"] ["steps","found","way"] (AO GV):=by walk_at "s"
theorem NU(T:Txt K mg)(F:Fu K "go_over" GV f fd):BK P w K mg base Cc 1 f fd ["steps","found","way"] (EB K .sh Xr 3) :=
 HG F gJ (λhr=>(AH (BS Zj rfl (V8 rfl T.n_zip (AA (dv 2) (AA (Xh YQ Xm (dv 2) (T8 AE) T9) AI))) (FY rfl (A9 (Ab (i:=3) gJ.nd rfl (ZV rfl)) (A9 (Ab (i:=4) gJ.nd rfl (ZV rfl)) Dw))) (AG (Ai (i:=5) gJ.nd rfl (ZV rfl) (Av A1 BL (AU AL Ak (Om hr (pv 1) (dv 3)) AE) (A2 hr (A2 hr (dv 0) (dv 3)) (dv 4))))
 (AH (BR (DTW.dt (G0 (T3 hr (dv 4) (pv 1)) (LH (Ap (EL hr) G7 (dv 5) (AU AL Ak (Om hr (pv 1) (dv 4)) AE) (An _))))) (AH (T4 hr (pv 1) (dv 4) (Ah (AA (dv 5) (AA (dv 3) AI))))) Ar)))))) Kr
theorem gK:Af ["net","place","times","steps","nearest","found","step"] ["net","place","times"] (AO De):=by walk_at "s"
theorem JP(T:Txt K mg)(gL:KW P w K mg base)(gM:G8 P w K mg base)(gN:GD P w K mg base)(gA:Cb P w K mg base)(f9:Dz P w K mg base)(gO:KS P w K mg base)(gI:GA P w K mg base)(gP:Mn P w K mg base)(F:Fu K "light_tree" De f fd):BK P w K mg base Cc 28 f fd ["net","place","times"] (EB K .sh LY 3) :=
 HG F gK (λhr=>(AG (Ai (i:=3) gK.nd rfl (ZV rfl) (cg hr f9 (AB (AS (dv 0)) AN)))
 (AG (Ai (i:=4) gK.nd rfl (ZV rfl) (cg hr gA (AB (AS (dv 0)) (AB (AS (dv 1)) AN))))
 (AG (BP (i:=5) gK.nd rfl (ZV rfl) (Ij (dv 1) (Ah (AA AE (AA EX AI)))))
 (AG (BS Zj rfl (Dv (cg hr gI (AB (AS (cg hr f9 (AB (AS (cg hr gN (AB (AS (dv 0)) AN))) AN))) (AB (AS (dv 1)) (AB (AS EX) AN))))) (Ab (i:=6) gK.nd rfl (ZV rfl)) (AG (MT gL (hr.mono (by decide)) rfl (dv 3) (pv 5) (dv 6))
 (AH (BR (EV (Du (cg hr gM (AB (AS (AU AL Ak (A2 hr (Fy 5) (AU AL Ak (dv 6) AE)) AE)) (AB (AS (dv 2)) (AB (AS (AU AL Ak (A2 hr (dv 4) (AU AL Ak (dv 6) AE)) AE)) AN)))))) (AH (MT gL (hr.mono (by decide)) rfl (dv 3) (pv 5) (cg hr gP (AB (AS (dv 0)) (AB (AS (dv 1)) (AB (AS (AU AL Ak (dv 6) AE)) AN)))))) Ar))))
 (QB 5 (AH (Au (cg hr gO (AB (AS (dv 0)) (AB (AS (dv 5)) AN))))))))))) NH
theorem gQ:Af ["_law_feed_here","_law_many","_law_some","_law_first"] ["_law_feed_here","_law_many"] (AO Dn):=by walk_at "s"
theorem JW(T:Txt K mg)(gR:BX P w K mg base)(F:Fu K "_law_names" Dn f fd):BK P w K mg base Cc 2 f fd ["_law_feed_here","_law_many"] (EB K .sh En 2) :=
 HG F gQ (λhr=>(AG (Ai (i:=2) gQ.nd rfl (bF rfl) (Bj (AA BH (AA BH (AA BH (AA BH (AA BH (AA BH (AA BH (AA BH (AA BH (AA BH (AA BH (AA BH AI))))))))))))))
 (AG (Ai (i:=2) gQ.nd rfl (bF rfl) (Av A1 BL (dv 2) (Bj (AA BH (AA BH (AA BH (AA BH (AA BH (AA BH (AA BH (AA BH (AA BH (AA BH (AA BH (AA BH AI)))))))))))))))
 (AG (Ai (i:=3) gQ.nd rfl (bF rfl) (cg hr gR (AB (BC 0) (AB (AS AE) AN))))
 (AH (Au (CK Bc DQ rfl T.n_tuple cz (AM (Ad Nu UM rfl T.n_sorted bS (AM (S2 [("_law_some":Str),("_law_first":Str),("_law_k":Str)] [some 2,some 3,none] (DI.c (Ce rfl T.n_range (AM (dv 1) AV))) (Ab (i:=2) (show bB [("_law_some":Str),("_law_first":Str),("_law_k":Str)] by decide +kernel) rfl (ZV rfl)) C3 (AU AL Ak (dv 0) (Av EK Gp (Av A1 BL (dv 1) (dv 2)) AE)) (by kernel_rfl)) AV)) AV)))))))) ID
theorem Hv:Af ["_law_feed_here","_law_way"] ["_law_feed_here","_law_way"] (AO DB):=by walk_at "s"
theorem IN(T:Txt K mg)(gR:BX P w K mg base)(F:Fu K "_law_length" DB f fd):BK P w K mg base Cc 2 f fd ["_law_feed_here","_law_way"] (EB K .sh JG 2) :=
 HG F Hv (λhr=>(AG (BR (Ap (EL hr) G7 (dv 1) AE (An _)) (AH (Au (Av A1 BL AE (cg hr gR (AB (BC 0) (AB (AS (AU AL Ak (Bj (AA AE (AA AE (AA AE AI)))) (dv 1))) AN)))))) Ar)
 (AG (BR (Ap IL N4 (dv 1) AE (An _)) (AH (Au (Av A1 BL AE (cg hr gR (AB (BC 0) (AB (AS AE) AN)))))) Ar)
 (AH (Au (Av C1 Eh (Av K0 Gp AE AE) (cg hr gR (AB (BC 0) (AB (AS AE) AN))))))))) HB
theorem gS:Af ["_law_feed_here","_law_most","_law_ties","_law_places","_law_free","_law_a","_law_way","_law_many","_law_found","_law_k","_law_b"] ["_law_feed_here","_law_most","_law_ties"] (AO FR):=by walk_at "s"
theorem L_(T:Txt K mg)(gT:FJ P w K mg base)(gU:D1 P w K mg base)(gR:BX P w K mg base)(F:Fu K "_law_net" FR f fd):BK P w K mg base Cc 3 f fd ["_law_feed_here","_law_most","_law_ties"] (EB K .sh Gs 3) :=
 HG F gS (λhr=>(AG (Ai (i:=3) gS.nd rfl (ZV rfl) (cg hr gU (AB (BC 0) (AB (AS (Av A1 BL AE (cg hr gR (AB (BC 0) (AB (AS (Av C1 Eh (dv 1) AE)) AN))))) AN))))
 (AG (BP (i:=4) gS.nd rfl (ZV rfl) (Bj AI))
 (AG (BS Zj rfl (Dv (dv 3)) (Ab (i:=5) gS.nd rfl (bF rfl)) (AH (CQ 4 PySem.F.plainAttrs_list PySem.F.slot_list_extend PySem.F.type_list_extend GZ Ss (pv 4) (AA (S2 [("_law_a":Str),("_law_b":Str)] [some 5,none] (E6 (dv 3)) (Ab (i:=1) (show bB [("_law_a":Str),("_law_b":Str)] by decide +kernel) rfl (ZV rfl)) (Oi (Ap (EL hr) G7 (dv 0) (dv 1) (An _))) (Ah (AA (dv 0) (AA (dv 1) AI))) (by kernel_rfl)) AI))))
 (AG (Ai (i:=6) gS.nd rfl (ZV rfl) (cg hr gR (AB (BC 0) (AB (AS AE) AN))))
 (AG (Ai (i:=7) gS.nd rfl (ZV rfl) (Av C1 Eh (dv 2) (cg hr gR (AB (BC 0) (AB (AS (Av A1 BL (Av HL Gp (dv 2) AE) AE)) AN)))))
 (AG (BR (Ap IL N4 (cg hr gR (AB (BC 0) (AB (AS AE) AN))) AE (An _)) (AH (Ai (i:=7) gS.nd rfl (ZV rfl) (cg hr gR (AB (BC 0) (AB (AS AE) AN))))) Ar)
 (AG (BP (i:=8) gS.nd rfl (ZV rfl) (Bj AI))
 (AG (BS Zj rfl (Ce rfl T.n_range (AM (Ad (KG rfl) Sm rfl T.n_min boot_min (AM (dv 7) (AM (Ad BF C5 rfl T.n_len PySem.boot_len (AM (Fy 4) AV)) AV))) AV)) (Ab (i:=9) gS.nd rfl (ZV rfl)) (AG (T5 (i:=4) (pv 4) (cg hr gR (AB (BC 0) (AB (AS (Ad BF C5 rfl T.n_len PySem.boot_len (AM (Fy 4) AV))) AN))) (FY rfl (A9 (Ab (i:=5) gS.nd rfl (bF rfl)) (A9 (Ab (i:=10) gS.nd rfl (ZV rfl)) Dw))))
 (AH (CQ 8 PySem.F.plainAttrs_list PySem.F.slot_list_append PySem.F.type_list_append BB DR (pv 8) (AA (Ah (AA (dv 5) (AA (dv 10) (AA (cg hr gT (AB (BC 0) (AB (AS (dv 6)) AN))) AI)))) AI)))))
 (AH (Au (Ah (AA (dv 3) (AA (CK Bc DQ rfl T.n_tuple cz (AM (Ad CL E7 rfl T.n_sorted bS (AM (Fy 8) AV)) AV)) AI)))))))))))))) Kq
theorem gW:Af ["_law_ties","_law_some"] ["_law_ties"] (AO Dl):=by walk_at "s"
theorem JV(T:Txt K mg)(F:Fu K "_law_order" Dl f fd):BK P w K mg base Cc 1 f fd ["_law_ties"] (EB K .fr Em 1) :=
 HG F gW (λhr=>(AG (Ai (i:=1) gW.nd rfl (ZV rfl) (Ad CL E7 rfl T.n_sorted bS (AM (S2 [("_law_tie":Str)] [none] (E6 (dv 0)) (Ab (i:=0) (show bB [("_law_tie":Str)] by decide +kernel) rfl (ZV rfl)) C3 (Ah (AA (AU AL Ak (dv 0) AE) (AA (AU AL Ak (dv 0) AE) (AA (AU AL Ak (dv 0) AE) AI)))) (by kernel_rfl)) AV)))
 (AH (Au (S2 [("_law_length_here":Str),("_law_a":Str),("_law_b":Str)] [none,none,none] (E6 (dv 1)) (FY rfl (A9 (Ab (i:=0) (show bB [("_law_length_here":Str),("_law_a":Str),("_law_b":Str)] by decide +kernel) rfl (ZV rfl)) (A9 (Ab (i:=1) (show bB [("_law_length_here":Str),("_law_a":Str),("_law_b":Str)] by decide +kernel) rfl (ZV rfl)) (A9 (Ab (i:=2) (show bB [("_law_length_here":Str),("_law_a":Str),("_law_b":Str)] by decide +kernel) rfl (ZV rfl)) Dw)))) C3 (Ah (AA (dv 1) (AA (dv 2) (AA (dv 0) AI)))) (by kernel_rfl)))))) IC
theorem gX:Af ["_law_ties","_law_place","_law_known","_law_grew","_law_a","_law_b","_law_length_here","_law_one","_law_other"] ["_law_ties","_law_place"] (AO Cj):=by walk_at "s"
theorem HD(T:Txt K mg)(F:Fu K "_law_lengths" Cj f fd):BK P w K mg base Cc 1 f fd ["_law_ties","_law_place"] (EB K .fr Eo 2) :=
 HG F gX (λhr=>(AG (BP (i:=2) gX.nd rfl (ZV rfl) (Ij (dv 1) AE))
 (AG (Ai (i:=3) gX.nd rfl (ZV rfl) F2)
 (AG (Ie Zj (Du (dv 3)) (AG (Ai (i:=3) gX.nd rfl (ZV rfl) F2)
 (AH (T7 Zj rfl (pv 0) (FY rfl (A9 (Ab (i:=4) gX.nd rfl (ZV rfl)) (A9 (Ab (i:=5) gX.nd rfl (ZV rfl)) (A9 (Ab (i:=6) gX.nd rfl (ZV rfl)) Dw)))) (AH (BS Zj rfl (Dv (Bj (AA (Ah (AA (dv 4) (AA (dv 5) AI))) (AA (Ah (AA (dv 5) (AA (dv 4) AI))) AI)))) (FY rfl (A9 (Ab (i:=7) gX.nd rfl (ZV rfl)) (A9 (Ab (i:=8) gX.nd rfl (ZV rfl)) Dw))) (AH (BR (DTW.dt (LJ (Ap (NQ hr) Su (dv 7) (Fy 2) (by with_unfolding_all rfl)) (LI (Ap (EL hr) G7 (Av A1 BL (A2 hr (Fy 2) (dv 7)) (dv 6)) (UB hr (Fy 2) (dv 8) (Av K0 Gp AE AE)) (An _))))) (AG (Fz (i:=2) hr (pv 2) (dv 8) (Av A1 BL (A2 hr (Fy 2) (dv 7)) (dv 6)))
 (AH (Ai (i:=3) gX.nd rfl (ZV rfl) F2))) Ar))))))))
 (AH (HR 2 (pv 2))))))) GW
theorem JK:Af ["_law_thing"] ["_law_thing"] (AO Dh):=by walk_at "s"
theorem JS(T:Txt K mg)(F:Fu K "_law_whole" Dh f fd):BK P w K mg base Cc 1 f fd ["_law_thing"] (EB K .sh LW 1) :=
 HG F JK (λhr=>(AH (Au (WB (Ii To (dv 0) rfl T.n_isinstance rfl T.n_int (by decide +kernel)) (V_ (WA (Ii Rg (dv 0) rfl T.n_isinstance rfl T.n_bool (by decide +kernel)))))))) Ls
theorem gY:Af ["_law_net_here","_law_thing","_law_tie"] ["_law_net_here","_law_thing"] (AO Ck):=by walk_at "s"
theorem HE(T:Txt K mg)(gZ:GF P w K mg base)(F:Fu K "_law_is_thin" Ck f fd):BK P w K mg base Cc 2 f fd ["_law_net_here","_law_thing"] (EB K .sh HY 2) :=
 HG F gY (λhr=>(AG (BR (DTW.dt (G0 (EV (Du (Ii kit_tuple (dv 1) rfl T.n_isinstance rfl T.n_tuple (by decide +kernel)))) (G0 (Ap (FU hr) JC (Ad BF C5 rfl T.n_len PySem.boot_len (AM (dv 1) AV)) AE (An _)) (G0 (Ap (FU hr) JC (AU AL Ak (dv 1) AE) (AU AL Ak (dv 0) AE) (An _)) (LH (EV (Du (Ii kit_tuple (AU AL Ak (dv 1) AE) rfl T.n_isinstance rfl T.n_tuple (by decide +kernel))))))))) (AH (Au F2)) Ar)
 (AG (BS Zj rfl (Dv (AU AL Ak (dv 1) AE)) (Ab (i:=2) gY.nd rfl (ZV rfl)) (AH (BR (DTW.dt (G0 (EV (Du (Ii kit_tuple (dv 2) rfl T.n_isinstance rfl T.n_tuple (by decide +kernel)))) (G0 (Ap (FU hr) JC (Ad BF C5 rfl T.n_len PySem.boot_len (AM (dv 2) AV)) AE (An _)) (G0 (EV (Du (cg hr gZ (AB (AS (AU AL Ak (dv 2) AE)) AN)))) (LH (Ap (Pb hr) Xp (dv 2) (AU AL Ak (dv 0) AE) (by with_unfolding_all rfl))))))) (AH (Au F2)) Ar)))
 (AH (Au (Ad (Mg rfl) Uz rfl T.n_all fS (AM (S2 [("_law_thing":Str),("_law_k":Str)] [some 1,none] (DI.c (Ce rfl T.n_range (AM (Av C1 Eh (Ad BF C5 rfl T.n_len PySem.boot_len (AM (AU AL Ak (dv 1) AE) AV)) AE) AV))) (Ab (i:=1) (show bB [("_law_thing":Str),("_law_k":Str)] by decide +kernel) rfl (ZV rfl)) C3 (Ik (EL hr) G7 (AU AL Ak (AU AL Ak (dv 0) AE) (dv 1)) (AU AL Ak (AU AL Ak (dv 0) AE) (Av A1 BL (dv 1) AE)) (An _)) (by kernel_rfl)) AV))))))) GX
theorem Hu:Af ["_law_length_here","_law_times","_law_number"] ["_law_length_here","_law_times","_law_number"] (AO DA):=by walk_at "s"
theorem IM(T:Txt K mg)(F:Fu K "_law_within" DA f fd):BK P w K mg base Cc 1 f fd ["_law_length_here","_law_times","_law_number"] (EB K .sh D4 3) :=
 HG F Hu (λhr=>(AH (Au (Ik NO Sn (Av C2 Ei (dv 0) (AU AL Ak (dv 1) AE)) (Av C2 Ei (dv 2) (AU AL Ak (dv 1) AE)) (An _))))) Fj
theorem gc:Af ["_law_net_here","_law_piece","_law_place","_law_kept","_law_tie","_law_one","_law_other"] ["_law_net_here"] (AO B3):=by walk_at "s"
theorem FV(T:Txt K mg)(gf:GI P w K mg base)(F:Fu K "_law_least_tree" B3 f fd):BK P w K mg base Cc 2 f fd ["_law_net_here"] (EB K .sh GJ 1) :=
 HG F gc (λhr=>(AG (BP (i:=1) gc.nd rfl (ZV rfl) SR)
 (AG (BS Zj rfl (Dv (AU AL Ak (dv 0) AE)) (Ab (i:=2) gc.nd rfl (ZV rfl)) (AH (Fz (i:=1) hr (pv 1) (dv 2) (dv 2))))
 (AG (BP (i:=3) gc.nd rfl (ZV rfl) (Bj AI))
 (AG (BS Zj rfl (Dv (cg hr gf (AB (AS (AU AL Ak (dv 0) AE)) AN))) (Ab (i:=4) gc.nd rfl (ZV rfl)) (AG (Ai (i:=5) gc.nd rfl (ZV rfl) (A2 hr (Fy 1) (AU AL Ak (dv 4) AE)))
 (AG (Ai (i:=6) gc.nd rfl (ZV rfl) (A2 hr (Fy 1) (AU AL Ak (dv 4) AE)))
 (AH (BR (Ap XE Yo (dv 5) (dv 6) (An _)) (AG (CQ 3 PySem.F.plainAttrs_list PySem.F.slot_list_append PySem.F.type_list_append BB DR (pv 3) (AA (dv 4) AI))
 (AH (BS Zj rfl (Dv (AU AL Ak (dv 0) AE)) (Ab (i:=2) gc.nd rfl (ZV rfl)) (AH (BR (Ap IL N4 (A2 hr (Fy 1) (dv 2)) (dv 6) (An _)) (AH (Fz (i:=1) hr (pv 1) (dv 2) (dv 5))) Ar))))) Ar)))))
 (AH (Au (Ah (AA (AU AL Ak (dv 0) AE) (AA (CK Bc DQ rfl T.n_tuple cz (AM (Ad CL E7 rfl T.n_sorted bS (AM (Fy 3) AV)) AV)) AI)))))))))) IE
theorem gg:Af ["_law_feed_here","_law_net_here","_law_places","_law_length_here","_law_ties","_law_k","_law_a","_law_b","_law_own"] ["_law_feed_here","_law_net_here"] (AO Di):=by walk_at "s"
theorem JT(T:Txt K mg)(gR:BX P w K mg base)(F:Fu K "_law_wheel" Di f fd):BK P w K mg base Cc 2 f fd ["_law_feed_here","_law_net_here"] (EB K .sh LX 2) :=
 HG F gg (λhr=>(AG (Ai (i:=2) gg.nd rfl (ZV rfl) (AU AL Ak (dv 1) AE))
 (AG (Ai (i:=3) gg.nd rfl (ZV rfl) (Av A1 BL AE (cg hr gR (AB (BC 0) (AB (AS AE) AN)))))
 (AG (BP (i:=4) gg.nd rfl (bF rfl) SQ)
 (AG (BS Zj rfl (Ce rfl T.n_range (AM (Av C1 Eh (Ad BF C5 rfl T.n_len PySem.boot_len (AM (dv 2) AV)) AE) AV)) (Ab (i:=5) gg.nd rfl (ZV rfl)) (AH (LK (i:=4) hr (pv 4) (Ah (AA (AU AL Ak (dv 2) (dv 5)) (AA (AU AL Ak (dv 2) (Av A1 BL (dv 5) AE)) AI))) (Av A1 BL (dv 3) (cg hr gR (AB (BC 0) (AB (AS AE) AN)))))))
 (AG (BS Zj rfl (KD rfl T.n_range (AM AE (AM (Ad BF C5 rfl T.n_len PySem.boot_len (AM (dv 2) AV)) AV))) (Ab (i:=5) gg.nd rfl (ZV rfl)) (AH (BR (Ap NP Sr (cg hr gR (AB (BC 0) (AB (AS AE) AN))) AE (An _)) (AH (LK (i:=4) hr (pv 4) (Ah (AA (AU AL Ak (dv 2) AE) (AA (AU AL Ak (dv 2) (dv 5)) AI))) (Av C2 Ei (dv 3) (Av A1 BL AE (cg hr gR (AB (BC 0) (AB (AS (Av A1 BL (dv 5) AE)) AN))))))) Ar)))
 (AG (BS Zj rfl (Dv (AU AL Ak (dv 1) AE)) (FY rfl (A9 (Ab (i:=6) gg.nd rfl (ZV rfl)) (A9 (Ab (i:=7) gg.nd rfl (ZV rfl)) (A9 (Ab (i:=8) gg.nd rfl (ZV rfl)) Dw)))) (AH (BR (DTW.dt (LJ (Ap IL N4 (cg hr gR (AB (BC 0) (AB (AS AE) AN))) AE (An _)) (LJ (Ap (Ez hr) Sj (Ah (AA (dv 6) (AA (dv 7) AI))) (Fy 4) (by with_unfolding_all rfl)) (LI (Ap (EL hr) G7 (Ad QN WJ rfl T.n_len PySem.boot_len (AM (Fy 4) AV)) AE (An _)))))) (AH (LK (i:=4) hr (pv 4) (Ah (AA (dv 6) (AA (dv 7) AI))) (dv 8))) Ar)))
 (QA 4 (AH (Au (Ah (AA (dv 2) (AA (CK Bc DQ rfl T.n_tuple cz (AM (Ad CL E7 rfl T.n_sorted bS (AM (S2 [("_law_ties":Str),("_law_one":Str)] [some 4,none] (QD (pv 4)) (Ab (i:=1) (show bB [("_law_ties":Str),("_law_one":Str)] by decide +kernel) rfl (ZV rfl)) C3 (Ah (AA (AU AL Ak (dv 1) AE) (AA (AU AL Ak (dv 1) AE) (AA (T_ hr (Fy 0) (dv 1)) AI)))) (by kernel_rfl)) AV)) AV)) AI))))))))))))) IA
theorem gh:Af ["_law_feed_here","_law_places","_law_length_here","_law_start","_law_ties","_law_k"] ["_law_feed_here"] (AO Bu):=by walk_at "s"
theorem E9(T:Txt K mg)(gU:D1 P w K mg base)(gR:BX P w K mg base)(F:Fu K "_law_great_wheel" Bu f fd):BK P w K mg base Cc 3 f fd ["_law_feed_here"] (EB K .sh GK 1) :=
 HG F gh (λhr=>(AG (Ai (i:=1) gh.nd rfl (ZV rfl) (cg hr gU (AB (BC 0) (AB (AS (Av A1 BL AE (cg hr gR (AB (BC 0) (AB (AS AE) AN))))) AN))))
 (AG (Ai (i:=2) gh.nd rfl (ZV rfl) (Av A1 BL AE (cg hr gR (AB (BC 0) (AB (AS AE) AN)))))
 (AG (Ai (i:=3) gh.nd rfl (ZV rfl) (Av A1 BL AE (cg hr gR (AB (BC 0) (AB (AS AE) AN)))))
 (AG (BP (i:=4) gh.nd rfl (ZV rfl) (Bj AI))
 (AG (BS Zj rfl (Ce rfl T.n_range (AM (Av C1 Eh (Ad BF C5 rfl T.n_len PySem.boot_len (AM (dv 1) AV)) AE) AV)) (Ab (i:=5) gh.nd rfl (ZV rfl)) (AH (CQ 4 PySem.F.plainAttrs_list PySem.F.slot_list_append PySem.F.type_list_append BB DR (pv 4) (AA (Ah (AA (AU AL Ak (dv 1) (dv 5)) (AA (AU AL Ak (dv 1) (Av A1 BL (dv 5) AE)) (AA (Av A1 BL (dv 2) (CK QP WL rfl T.n_int boot_int (AM (Ik IL N4 (cg hr gR (AB (BC 0) (AB (AS AE) AN))) AE (An _)) AV))) AI)))) AI))))
 (AG (BS Zj rfl (KD rfl T.n_range (AM (dv 3) (AM (Ad BF C5 rfl T.n_len PySem.boot_len (AM (dv 1) AV)) AV))) (Ab (i:=5) gh.nd rfl (ZV rfl)) (AH (BR (Ap NP Sr (cg hr gR (AB (BC 0) (AB (AS AE) AN))) AE (An _)) (AH (CQ 4 PySem.F.plainAttrs_list PySem.F.slot_list_append PySem.F.type_list_append BB DR (pv 4) (AA (Ah (AA (AU AL Ak (dv 1) AE) (AA (AU AL Ak (dv 1) (dv 5)) (AA (Av C2 Ei (dv 3) (dv 2)) AI)))) AI))) Ar)))
 (AH (Au (Ah (AA (dv 1) (AA (CK Bc DQ rfl T.n_tuple cz (AM (Ad CL E7 rfl T.n_sorted bS (AM (Fy 4) AV)) AV)) AI)))))))))))) IF
theorem gi:Af ["_law_feed_here","_law_some"] ["_law_feed_here"] (AO Bt):=by walk_at "s"
theorem E8(T:Txt K mg)(gR:BX P w K mg base)(F:Fu K "_law_light_times" Bt f fd):BK P w K mg base Cc 2 f fd ["_law_feed_here"] (EB K .sh HZ 1) :=
 HG F gi (λhr=>(AG (Ai (i:=1) gi.nd rfl (ZV rfl) (Bj (AA (Ah (AA AE (AA AE AI))) (AA (Ah (AA AE (AA AE AI))) (AA (Ah (AA AE (AA AE AI))) (AA (Ah (AA AE (AA AE AI))) (AA (Ah (AA AE (AA AE AI))) (AA (Ah (AA (Av K0 Gp AE AE) (AA AE AI))) (AA (Ah (AA AE (AA AE AI))) (AA (Ah (AA AE (AA AE AI))) (AA (Ah (AA AE (AA AE AI))) AI)))))))))))
 (AH (Au (AU AL Ak (dv 1) (cg hr gR (AB (BC 0) (AB (AS AE) AN)))))))) HA
theorem gj:Af ["_law_net_here","_law_place","_law_times","_law_base","_law_found","_law_lengths_here","_law_lighter","_law_every","_law_base_sum"] ["_law_net_here","_law_place","_law_times","_law_base"] (AO Dk):=by walk_at "s"
theorem JU(T:Txt K mg)(gk:Ek P w K mg base)(gl:Ej P w K mg base)(gm:FI P w K mg base)(gn:GC P w K mg base)(F:Fu K "_law_right" Dk f fd):BK P w K mg base Cc 29 f fd ["_law_net_here","_law_place","_law_times","_law_base"] (EB K .sh El 4) :=
 HG F gj (λhr=>(AG (Ai (i:=4) gj.nd rfl (ZV rfl) (cg hr gn (AB (AS (dv 0)) (AB (AS (dv 1)) (AB (AS (dv 2)) AN)))))
 (AG (BR (EV (Du (cg hr gk (AB (AS (dv 0)) (AB (AS (dv 4)) AN))))) (AH (Au F2)) Ar)
 (AG (Ai (i:=5) gj.nd rfl (bF rfl) (SO (cg hr gl (AB (Im (AU AL Ak (dv 0) AE)) (AB (AS (dv 1)) AN)))))
 (AG (Ai (i:=6) gj.nd rfl (bF rfl) (SO (cg hr gl (AB (Im (AU AL Ak (dv 4) AE)) (AB (AS (dv 1)) AN)))))
 (AG (BR (DTW.dt (G0 (Ap (FU hr) JC (Ad BF C5 rfl T.n_len PySem.boot_len (AM (AU AL Ak (dv 4) AE) AV)) (Av C1 Eh (Ad QO WK rfl T.n_len PySem.boot_len (AM (dv 5) AV)) AE) (An _)) (LH (Ap (FU hr) JC (Ad (Ir rfl) O0 rfl T.n_sorted bS (AM (dv 6) AV)) (Ad (Ir rfl) O0 rfl T.n_sorted bS (AM (dv 5) AV)) (An _))))) (AH (Au F2)) Ar)
 (AG (BR (EV (Du (Ad (Mg rfl) Uz rfl T.n_all fS (AM (S2 [("_law_times":Str),("_law_lighter":Str),("_law_lengths_here":Str),("_law_one":Str)] [some 2,some 6,some 5,none] (DI.c (HS (dv 5))) (Ab (i:=3) (show bB [("_law_times":Str),("_law_lighter":Str),("_law_lengths_here":Str),("_law_one":Str)] by decide +kernel) rfl (ZV rfl)) C3 (cg hr gm (AB (AS (A2 hr (dv 1) (dv 3))) (AB (AS (dv 0)) (AB (AS (A2 hr (dv 2) (dv 3))) AN)))) (by kernel_rfl)) AV)))) (AH (Au F2)) Ar)
 (AG (Ai (i:=7) gj.nd rfl (ZV rfl) (Ad (Me rfl) Ux rfl T.n_sum boot_sum (AM (S2 [("_law_tie":Str)] [none] (E6 (AU AL Ak (dv 4) AE)) (Ab (i:=0) (show bB [("_law_tie":Str)] by decide +kernel) rfl (ZV rfl)) C3 (AU AL Ak (dv 0) AE) (by kernel_rfl)) AV)))
 (AG (Ai (i:=8) gj.nd rfl (ZV rfl) (Ad (Me rfl) Ux rfl T.n_sum boot_sum (AM (S2 [("_law_lengths_here":Str),("_law_tie":Str)] [some 5,none] (E6 (AU AL Ak (dv 3) AE)) (Ab (i:=1) (show bB [("_law_lengths_here":Str),("_law_tie":Str)] by decide +kernel) rfl (ZV rfl)) (Oi (Ap (NQ hr) Su (AU AL Ak (dv 1) AE) (dv 0) (by with_unfolding_all rfl))) (AU AL Ak (dv 1) AE) (by kernel_rfl)) AV)))
 (AH (Au (Ik NO Sn (Av C2 Ei (dv 7) (Av C1 Eh (AU AL Ak (dv 2) AE) (AU AL Ak (dv 2) AE))) (Av C2 Ei (Av A1 BL (AU AL Ak (dv 2) AE) (AU AL Ak (dv 2) AE)) (dv 8)) (An _))))))))))))) IB
end
section
variable {P:Program}{w:World}{K:Frag}{mg:Str->Option Value}{base:Heap}
local macro_rules | `(tactic| walk_at "s")=>`(tactic| (constructor <;> first | rfl | decide +kernel))
theorem Kl:Af ["_law_script"] ["_law_script"] (AO EG):=by constructor <;> first | rfl | decide +kernel
theorem K4{f:Ev}{fd:aE}(T:Txt K mg)(F:Fun K "_law_feed" "_law_feed" EG f fd):BK P w K mg base Cc 1 f fd ["_law_script"] (Kh K):=by
 refine F.ok Kl (λvs H Q E h=>?_) (λcdv A outer s H vs Q E hr h=>?_)
 ·obtain⟨a,ns,rfl,_⟩:=h
  rfl
 ·obtain⟨a,ns,rfl,⟨hl,hS⟩,q⟩:=h
  refine⟨_,C0 (FS (NN (BM (Js LS rfl T.n_list boot_list (BM (L4 sl_list (pv 0) OR (OQ As)) CG)) (BM As (BM As CG))))),?_⟩;refine⟨_,rfl,63,rfl,a,_,rfl,hS,λp hp=>⟨p,_,rfl,.inl (SqL.of AT),λc hc=>⟨by show 3<=sizeLine; decide,λg hg=>?_⟩⟩⟩;rw [Xk hl] at hg ⊢;have ncg:c≠g:=λz=>by rw [← z,AT] at hg; cases hg
  exact q c g _ ncg (by rw [AK ncg,AT]) AT
theorem gp:Af ["_law_script","_law_feed_here","_law_nets","_law_net_here","_law_base","_law_k","_law_place","_law_great","_law_times"] ["_law_script"] (AO Hx):=by walk_at "s"
theorem Vk{f ff:Ev}{fd fdf:aE}(T:Txt K mg)(Gf:BK P w K mg base Cc 1 ff fdf ["_law_script"] (Kh K))(mf:mg "_law_feed"=some (.ref ff))(kf:keepIn K (.ref ff)=true)(bf:Binds K fdf ["_law_script"] [])
  (gq:Ct P w K mg base) (gs:C6 P w K mg base) (gu:Cs P w K mg base) (gv:JE P w K mg base) (gR:BX P w K mg base) (gw:GH P w K mg base) (gx:GG P w K mg base) (F:Fun K "law" "law" Hx f fd):BK P w K mg base Cc 30 f fd ["_law_script"] (Lo K):=by
 exact XZ (n0:=3000) F gp rfl (by decide) (λcdv A outer s H E hr=>EH (i:=1) gp.nd rfl (ZV rfl) (Ky Gf (hr.mono (by decide)) rfl mf kf bf .nil RQ (BM (pv 0) CG)))
  (λcdv A outer s H E hr=>(AG (BP (i:=2) gp.nd rfl (ZV rfl) (Bj (AA (cg hr gv (AB (BC 1) (AB (AS AE) (AB (AS AE) AN)))) (AA (cg hr gv (AB (BC 1) (AB (AS AE) (AB (AS AE) AN)))) AI))))
 (AG (BR (Ap IL N4 (cg hr gR (AB (BC 1) (AB (AS AE) AN))) AE (An _)) (AH (CQ 2 PySem.F.plainAttrs_list PySem.F.slot_list_append PySem.F.type_list_append BB DR (pv 2) (AA (cg hr gv (AB (BC 1) (AB (AS AE) (AB (AS AE) AN)))) AI))) Ar)
 (AG (T6 Zj rfl (pv 2) (Ab (i:=3) gp.nd rfl (ZV rfl)) (AG (BR (DTW.dt (LJ (Ap IL N4 (cg hr gR (AB (BC 1) (AB (AS AE) AN))) AE (An _)) (LI (Ap (EL hr) G7 (Ad BF C5 rfl T.n_len PySem.boot_len (AM (AU AL Ak (dv 3) AE) AV)) AE (An _))))) (AH (Ai (i:=3) gp.nd rfl (ZV rfl) (cg hr gx (AB (BC 1) (AB (AS (dv 3)) AN))))) Ar)
 (AG (Ai (i:=4) gp.nd rfl (ZV rfl) (cg hr gs (AB (AS (dv 3)) AN)))
 (AH (BS Zj rfl (Ce rfl T.n_range (AM (Ad (KG rfl) Sm rfl T.n_min boot_min (AM AE (AM (Ad BF C5 rfl T.n_len PySem.boot_len (AM (AU AL Ak (dv 3) AE) AV)) AV))) AV)) (Ab (i:=5) gp.nd rfl (ZV rfl)) (AG (Ai (i:=6) gp.nd rfl (ZV rfl) (AU AL Ak (AU AL Ak (dv 3) AE) (dv 5)))
 (AG (BR (Ap NP Sr (Ad BF C5 rfl T.n_len PySem.boot_len (AM (AU AL Ak (dv 3) AE) AV)) AE (An _)) (AH (Ai (i:=6) gp.nd rfl (ZV rfl) (AU AL Ak (AU AL Ak (dv 3) AE) (cg hr gR (AB (BC 1) (AB (AS (Ad BF C5 rfl T.n_len PySem.boot_len (AM (AU AL Ak (dv 3) AE) AV))) AN)))))) Ar)
 (AH (BR (EV (Du (cg hr gw (AB (AS (dv 3)) (AB (AS (dv 6)) (AB (AS (cg hr gu (AB (BC 1) AN))) (AB (AS (dv 4)) AN))))))) (AH (Au F2)) Ar)))))))))
 (AG (Ai (i:=7) gp.nd rfl (ZV rfl) (cg hr gq (AB (BC 1) AN)))
 (AG (Ai (i:=8) gp.nd rfl (ZV rfl) (AU AL Ak (Bj (AA (Ah (AA AE (AA AE AI))) (AA (Ah (AA AE (AA AE AI))) (AA (Ah (AA AE (AA AE AI))) (AA (Ah (AA AE (AA AE AI))) (AA (Ah (AA AE (AA AE AI))) AI)))))) (cg hr gR (AB (BC 1) (AB (AS AE) AN)))))
 (AH (Au (cg hr gw (AB (AS (dv 7)) (AB (AS (AU AL Ak (AU AL Ak (dv 7) AE) AE)) (AB (AS (dv 8)) (AB (AS (cg hr gs (AB (AS (dv 7)) AN))) AN))))))))))))) NI
end
theorem Ja{β:Type}{n:Nat}(g k:List FM->β)(us:List FM)(h:us.length=n+1)(c:∀(a:FM) (r:List FM),r.length=n->g (a::r)=k (a::r)):g us=k us:=by
 cases us with
 | nil=>cases h
 | cons a r=>exact c a r (Nat.succ.inj h)
theorem len0{β:Type}(g k:List FM->β)(us:List FM)(h:us.length=0)(c:g []=k []):g us=k us:=by
 cases us with
 | nil=>exact c
 | cons a r=>cases h
theorem Y9{d:aE}{ps:List Str}(c:∀a0:FM,bindArgs d ⟨[a0],[]⟩=pure (ps.zip [a0]))(us:List FM)(h:us.length=1):bindArgs d ⟨us,[]⟩=pure (ps.zip us):=Ja (λr=>bindArgs d ⟨r,[]⟩) (λr=>pure (ps.zip (r))) us h λa0 r h=>len0 (λr=>bindArgs d ⟨a0::r,[]⟩) (λr=>pure (ps.zip (a0::r))) r h (c a0)
theorem ZM{d:aE}{ps:List Str}(c:∀a0 a1:FM,bindArgs d ⟨[a0,a1],[]⟩=pure (ps.zip [a0,a1]))(us:List FM)(h:us.length=2):bindArgs d ⟨us,[]⟩=pure (ps.zip us):=Ja (λr=>bindArgs d ⟨r,[]⟩) (λr=>pure (ps.zip (r))) us h λa0 r h=>Ja (λr=>bindArgs d ⟨a0::r,[]⟩) (λr=>pure (ps.zip (a0::r))) r h λa1 r h=>len0 (λr=>bindArgs d ⟨a0::a1::r,[]⟩) (λr=>pure (ps.zip (a0::a1::r))) r h (c a0 a1)
theorem ZL{d:aE}{ps:List Str}(c:∀a0 a1 a2:FM,bindArgs d ⟨[a0,a1,a2],[]⟩=pure (ps.zip [a0,a1,a2]))(us:List FM)(h:us.length=3):bindArgs d ⟨us,[]⟩=pure (ps.zip us):=Ja (λr=>bindArgs d ⟨r,[]⟩) (λr=>pure (ps.zip (r))) us h λa0 r h=>Ja (λr=>bindArgs d ⟨a0::r,[]⟩) (λr=>pure (ps.zip (a0::r))) r h λa1 r h=>Ja (λr=>bindArgs d ⟨a0::a1::r,[]⟩) (λr=>pure (ps.zip (a0::a1::r))) r h λa2 r h=>len0 (λr=>bindArgs d ⟨a0::a1::a2::r,[]⟩) (λr=>pure (ps.zip (a0::a1::a2::r))) r h (c a0 a1 a2)
theorem ZK{d:aE}{ps:List Str}(c:∀a0 a1 a2 a3:FM,bindArgs d ⟨[a0,a1,a2,a3],[]⟩=pure (ps.zip [a0,a1,a2,a3]))(us:List FM)(h:us.length=4):bindArgs d ⟨us,[]⟩=pure (ps.zip us):=Ja (λr=>bindArgs d ⟨r,[]⟩) (λr=>pure (ps.zip (r))) us h λa0 r h=>Ja (λr=>bindArgs d ⟨a0::r,[]⟩) (λr=>pure (ps.zip (a0::r))) r h λa1 r h=>Ja (λr=>bindArgs d ⟨a0::a1::r,[]⟩) (λr=>pure (ps.zip (a0::a1::r))) r h λa2 r h=>Ja (λr=>bindArgs d ⟨a0::a1::a2::r,[]⟩) (λr=>pure (ps.zip (a0::a1::a2::r))) r h λa3 r h=>len0 (λr=>bindArgs d ⟨a0::a1::a2::a3::r,[]⟩) (λr=>pure (ps.zip (a0::a1::a2::a3::r))) r h (c a0 a1 a2 a3)
noncomputable def Ht(K:Frag)(x:Str)(st:Z9):Prop:=∃(f:Ev) (oc:FM) (od an:Option Ev) (sl:Array (Option FM)) (kV dc pm cd ct:FM),nsIn K mainGlobals x=some (some (.ref f))/\K.lookup f=some ⟨oc,od,.func (fnOf x x (C4 st) (Br st) (AO st) .none kV dc pm an cd ct),sl⟩/\codeIn K cd x=true/\keepIn K (.ref f)=true
noncomputable def Hn(K:Frag)(x:Str):Prop:=nsIn K mainGlobals x=some none
theorem Ht.mk{K:Frag}{x:Str}{st:Z9}{f:Ev}{oc:FM}{od an:Option Ev}{sl:Array (Option FM)}{kV dc pm cd ct:FM}(a:nsIn K mainGlobals x=some (some (.ref f)))(l:K.lookup f=some ⟨oc,od,.func (fnOf x x (C4 st) (Br st) (AO st) .none kV dc pm an cd ct),sl⟩)(c:codeIn K cd x=true)(k:keepIn K (.ref f)=true):Ht K x st:=⟨f,oc,od,an,sl,kV,dc,pm,cd,ct,a,l,c,k⟩
theorem Hn.mk{K:Frag}{x:Str}(a:nsIn K mainGlobals x=some none):Hn K x:=a
section
variable {P:Program}{w:World}{K:Frag}{mg:Str->Option Value}{h base:Heap}{x:Str}{st:Stmt}
theorem Ht.fn(X:K.In h)(G:h.Ns mainGlobals mg)(H:Ht K x st):∃f fd,mg x=some (.ref f)/\Fun K x x st f fd:=by
 obtain⟨f,oc,od,an,sl,kV,dc,pm,cd,ct,a,l,c,k⟩:=H;exact⟨f,_,mg_of X G a,Ry (st:=st) l c k⟩
theorem Ht.got{k:Nat}{ps:List Str}{κ:Kd}{W:W2}(X:K.In h)(G:h.Ns mainGlobals mg)(H:Ht K x st)(hW:∀ss n P,W ss n P->ss.length=ps.length)
  (hb:∀(kV doc pm:FM) (an:Option Ev) (cdv ct:FM) (us:List FM),us.length=ps.length->bindArgs (fnOf x x (C4 st) (Br st) (AO st) .none kV doc pm an cdv ct) ⟨us,[]⟩=pure (ps.zip us))
  (ok:∀{f:Ev} {fd:aE},Fun K x x st f fd->mg x=some (.ref f)->Binds K fd ps []->BK P w K mg base Cc k f fd ps (EB K κ W ps.length)):Got P w K mg base x k ps κ W:=by
 obtain⟨f,fd,m,F⟩:=H.fn X G;have b:=F.binds hb;exact Ng F m b hW (ok F m b)
end
local macro_rules | `(tactic| walk_at "l")=>`(tactic| (intro _ _ _ h; repeat (first | (obtain⟨e,_⟩:=h; subst e; rfl) | (obtain⟨_,h⟩:=h))))
local macro_rules | `(tactic| walk_at "b")=>`(tactic| (intro _ _ _ _ _ _; first | exact Y9 λ_=>rfl | exact ZM λ_ _=>rfl | exact ZL λ_ _ _=>rfl | exact ZK λ_ _ _ _=>rfl))
theorem all_mk{l:PySem.W.OpenLaw}{w:Zz}{K:Frag}{h:Zk}{mg:Str->Option FM}{fa:Ev}(X:K.In h)(G:h.Ns mainGlobals mg)(hfa:mg "law"=some (.ref fa))
  (h0:Ht K "rank_of" GU) (h1:Ht K "order_of" FQ) (h2:Ht K "steps_of" FP) (h3:Ht K "only" NE) (h4:Ht K "nearest_of" Dd) (h5:Ht K "least_ways" Df) (h6:Ht K "far" Qy) (h7:Ht K "way_of" Hw) (h8:Ht K "is_within" ED) (h9:Ht K "least_tree" Dg) (h10:Ht K "tree_of" GS) (h11:Ht K "walk_round" DZ) (h12:Ht K "go_over" GV) (h13:Ht K "light_tree" De) (h14:Ht K "_law_feed" EG) (h15:Ht K "_law_next" Cz) (h16:Ht K "_law_names" Dn) (h17:Ht K "_law_length" DB) (h18:Ht K "_law_net" FR) (h19:Ht K "_law_order" Dl) (h20:Ht K "_law_lengths" Cj) (h21:Ht K "_law_whole" Dh) (h22:Ht K "_law_is_thin" Ck) (h23:Ht K "_law_within" DA) (h24:Ht K "_law_least_tree" B3) (h25:Ht K "_law_wheel" Di) (h26:Ht K "_law_great_wheel" Bu) (h27:Ht K "_law_light_times" Bt) (h28:Ht K "_law_right" Dk) (h29:Ht K "law" Hx)
  (z0:Hn K "all") (z1:Hn K "bool") (z2:Hn K "int") (z3:Hn K "isinstance") (z4:Hn K "len") (z5:Hn K "list") (z6:Hn K "max") (z7:Hn K "min") (z8:Hn K "range") (z9:Hn K "reversed") (z10:Hn K "sorted") (z11:Hn K "sum") (z12:Hn K "tuple") (z13:Hn K "zip") 
  : ∃fd:aE,(∀(s:Rs) (v:FM),eU s fd ⟨[v],[]⟩ [("_law_script",v)])/\∀base:Zk,K.In base->base.Ns mainGlobals mg->BK l.prog w K mg base Cc 30 fa fd ["_law_script"] (Lo K):=by
 have T:Txt K mg:=⟨mg_none_of X G z0,mg_none_of X G z1,mg_none_of X G z2,mg_none_of X G z3,mg_none_of X G z4,mg_none_of X G z5,mg_none_of X G z6,mg_none_of X G z7,mg_none_of X G z8,mg_none_of X G z9,mg_none_of X G z10,mg_none_of X G z11,mg_none_of X G z12,mg_none_of X G z13⟩;obtain⟨ff,ffd,mf,Ff⟩:=h14.fn X G;have bf:=Ff.binds (ps:=["_law_script"]) λ_ _ _ _ _ _=>Y9 λ_=>rfl;obtain⟨f,oc,od,an,sl,kV,dc,pm,cd,ct,a,l',c,k⟩:=h29;have e:=hfa.symm.trans (mg_of X G a);cases e;refine⟨fnOf "law" "law" (C4 Hx) (Br Hx) (AO Hx) .none kV dc pm an cd ct,λs v=>.of_eq rfl,λbase _ _=>?_⟩;have fz:KU l.prog w K mg base:=h0.got X G (by walk_at "l") (by walk_at "b") λF m b=>NT T  F;have gF:JD l.prog w K mg base:=h1.got X G (by walk_at "l") (by walk_at "b") λF m b=>L9 T fz F;have f9:Dz l.prog w K mg base:=h2.got X G (by walk_at "l") (by walk_at "b") λF m b=>L8 F;have gE:N5 l.prog w K mg base:=h3.got X G (by walk_at "l") (by walk_at "b") λF m b=>Te T  F;have f8:GB l.prog w K mg base:=h4.got X G (by walk_at "l") (by walk_at "b") λF m b=>JO T  F;have gA:Cb l.prog w K mg base:=h5.got X G (by walk_at "l") (by walk_at "b") λF m b=>JQ T f8 f9 F;have gD:U0 l.prog w K mg base:=h6.got X G (by walk_at "l") (by walk_at "b") λF m b=>Vl T gA F;have gP:Mn l.prog w K mg base:=h7.got X G (by walk_at "l") (by walk_at "b") λF m b=>Pg T gA F;have gM:G8 l.prog w K mg base:=h8.got X G (by walk_at "l") (by walk_at "b") λF m b=>K3 T  F;have gN:GD l.prog w K mg base:=h9.got X G (by walk_at "l") (by walk_at "b") λF m b=>JR T gD gE gF F;have gO:KS l.prog w K mg base:=h10.got X G (by walk_at "l") (by walk_at "b") λF m b=>NS T gE f9 F;have gI:GA l.prog w K mg base:=h11.got X G (by walk_at "l") (by walk_at "b") λF m b=>FD T  F m b 24;have gL:KW l.prog w K mg base:=h12.got X G (by walk_at "l") (by walk_at "b") λF m b=>NU T  F;have gn:GC l.prog w K mg base:=h13.got X G (by walk_at "l") (by walk_at "b") λF m b=>JP T gL gM gN gA f9 gO gI gP F;have Gf:=K4 (P:=l.prog) (w:=w) (base:=base) T Ff;have gR:BX l.prog w K mg base:=h15.got X G (by walk_at "l") (by walk_at "b") λF m b=>Tf F T.n_len;have gU:D1 l.prog w K mg base:=h16.got X G (by walk_at "l") (by walk_at "b") λF m b=>JW T gR F;have gT:FJ l.prog w K mg base:=h17.got X G (by walk_at "l") (by walk_at "b") λF m b=>IN T gR F;have gv:JE l.prog w K mg base:=h18.got X G (by walk_at "l") (by walk_at "b") λF m b=>L_ T gT gU gR F;have gf:GI l.prog w K mg base:=h19.got X G (by walk_at "l") (by walk_at "b") λF m b=>JV T  F;have gl:Ej l.prog w K mg base:=h20.got X G (by walk_at "l") (by walk_at "b") λF m b=>HD T  F;have gZ:GF l.prog w K mg base:=h21.got X G (λ_ _ _ h=>PR h) (by walk_at "b") λF m b=>JS T  F;have gk:Ek l.prog w K mg base:=h22.got X G (by walk_at "l") (by walk_at "b") λF m b=>HE T gZ F;have gm:FI l.prog w K mg base:=h23.got X G (by walk_at "l") (by walk_at "b") λF m b=>IM T  F;have gs:C6 l.prog w K mg base:=h24.got X G (by walk_at "l") (by walk_at "b") λF m b=>FV T gf F;have gx:GG l.prog w K mg base:=h25.got X G (by walk_at "l") (by walk_at "b") λF m b=>JT T gR F;have gq:Ct l.prog w K mg base:=h26.got X G (by walk_at "l") (by walk_at "b") λF m b=>E9 T gU gR F;have gu:Cs l.prog w K mg base:=h27.got X G (by walk_at "l") (by walk_at "b") λF m b=>E8 T gR F;have gw:GH l.prog w K mg base:=h28.got X G (by walk_at "l") (by walk_at "b") λF m b=>JU T gk gl gm gn F;exact Vk T Gf mf Ff.kp bf gq gs gu gv gR gw gx (Ry (st:=Hx) l' c k)
theorem walk{l:PySem.W.OpenLaw}{q:Zs}{loose:List Str}{XP:(Str->Option FM)->Zk->Prop}{YP:Zz->Zk->Prop}{d:DefRec}{K:Params->Frag}(hn:l.most=some 63)(hdf:d.params.defaults=[])
  (hY:∀(w:Zz) (h:Zk),YP w h->(K w.params).In h)
  (F:∀(w:Zz) (mg:Str->Option FM) (fa:Ev) (h:Zk),(K w.params).In h->h.Ns mainGlobals mg->mg d.name=some (.ref fa) ->
   ∃fd:aE,(∀(s:Rs) (u:FM),eU s fd ⟨[u],[]⟩ [("_law_script",u)])/\∀base:Zk,(K w.params).In base->base.Ns mainGlobals mg->BK l.prog w (K w.params) mg base Cc 30 fa fd ["_law_script"] (Lo (K w.params))) :
  PySem.W.WalkO q loose XP YP l.row.toRowW d [] (λf vs=>PySem.call f vs) :=
 L2.N8 (n:=63) (k:=30) (x := "_law_script") (CX:=λ_=>Cc) (sp:=λw=>Lo (K w.params)) hn (by decide) hdf ⟨rfl,by decide,by decide,rfl⟩ hY F (λ_ _ a ns hl _ hS=>⟨a,ns,rfl,⟨hl,hS⟩,λ_=>rfl⟩) λ_ _ _ _ _ z=>z
end K34
end _p
namespace PySem.W.Fast
theorem tw17549385149687535276:True:=⟨⟩
theorem tw15464587361878416090:True:=⟨⟩
theorem tw14844381740554671417:True:=⟨⟩
theorem tw9315347572349429585:True:=⟨⟩
theorem tw12910928291607987503:True:=⟨⟩
theorem tw11750193360988956120:True:=⟨⟩
theorem tw179753261330454556:True:=⟨⟩
theorem tw1483320109384053446:True:=⟨⟩
theorem tw17451810183970347355:True:=⟨⟩
theorem tw4601691504719194297:True:=⟨⟩
theorem tw12430594625139934824:True:=⟨⟩
theorem tw3618332101405812207:True:=⟨⟩
end PySem.W.Fast
open _p
open PySem PySem.W PyProof.Rows
set_option maxRecDepth 100000 in
set_option maxHeartbeats 0 in
theorem PySem.Challenge.cw_thinnet_k34_whole_light_trees_holds : PySem.Challenge.rw_thinnet_k34_whole_light_trees.Holds := by
 w_on; o_law; k_head; (case hw=>w_witness2)
 k_fill
 refine K34.walk (l:=PySem.Challenge.rw_thinnet_k34_whole_light_trees) rfl rfl (λw h Y=>PySem.W.kIn_of Y) ?F
 case F =>
  intro w mg fa h KX G hmg
  refine' K34.all_mk KX G hmg ?_ ?_ ?_ ?_ ?_ ?_ ?_ ?_ ?_ ?_ ?_ ?_ ?_ ?_ ?_ ?_ ?_ ?_ ?_ ?_ ?_ ?_ ?_ ?_ ?_ ?_ ?_ ?_ ?_ ?_ ?_ ?_ ?_ ?_ ?_ ?_ ?_ ?_ ?_ ?_ ?_ ?_ ?_ ?_
  all_goals first
   | (refine' K34.Ht.mk ?a ?l ?c ?k; (case a=>k_is); (case l=>k_is); (case c=>k_is); (case k=>k_is))
   | (refine' K34.Hi.mk ?a; (case a=>k_is))
   | (refine' K34.Hn.mk ?a; (case a=>k_is))
#print axioms PySem.Challenge.cw_thinnet_k34_whole_light_trees_holds

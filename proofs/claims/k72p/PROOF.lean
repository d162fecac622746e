import PyProof.Rows.All
import Wide.All
import OpenK.AllK
import Wide.FinOn
import Lean
import PyProof.EqAt
import PyProof.EqKinds
import PyProof.TupleCall
import PyProof.StationsW
import PyProof.PassesOwn
import PyProof.RulesAs
import PyProof.ExcClass3
import PyProof.Rows.CatchOwn
import OpenK.KMake
import OpenK.KWalk
import PyProof.InstStoreFacts
import PyProof.ExcBaseAll.ValueError
import PyProof.RangeIter
import OpenK.KRaise
import PyProof.NsDelKeeps
import KE.KIsAll
import PyProof.P3In
import PyProof.NeData
import PyProof.ExcArgs
import KE.KSortTup
import PyProof.CompUse
import KE.KRevIter
import PyProof.TupleOfGen
import PyProof.CollectIter
import PyProof.ListMulRoad
import PyProof.Draws
import PyProof.EnumMake
import PyProof.ListNew
import PyProof.AttrMissHeap
import PyProof.FactsAll.dict
import KE.KEqDict
import PyProof.FactsAll.zip
import PyProof.StrBlockH
import PyProof.MeetsStr2
import KE.KIntText
import PyProof.Rows.FStr
import KE.KDictSum
import PyProof.ReprLen
import PyProof.SumAny
import PyProof.Rows.SeqCalls
import PyProof.ConsumeS
import PyProof.WalkInts
import PyProof.StrLawsTight
import PyProof.Rows.StrItems
import PyProof.Rows.StrSplitAre
import PyProof.StrLawsOcc
import PyProof.Rows.ReprOcc
import PyProof.StrLawsOccR
import PySem.Challenge.RW_thinnet_k72_lines_refused
open PySem.W (Frag nsIn keepIn fnOf codeIn mg_of mg_none_of)
set_option compiler.extract_closed false
set_option Elab.async false
set_option linter.all false
set_option maxRecDepth 100000
open Array renaming length_toList->Z8,getElem?_eq_getElem->cG,getElem?_toList->cr
open Array.Perm renaming refl->er
open Bool renaming false_ne_true->Tk,and_eq_true->Zo,false_eq_true->Z5,true_and->aV,not_true->bB,false_and->bW,eq_iff_iff->bn,not_eq_true'->bu,and_false->bv,eq_false_iff->cZ,not_eq_false->df,or_eq_true->eK,or_false->eU,and_true->eV
open False renaming elim->am
open ForInStep renaming yield->bp
open Int renaming eq_ofNat_of_zero_le->bE,toNat_natCast->bQ,emod_lt_of_pos->dR,zero_add->d9,emod_nonneg->eI
open List renaming length_map->Cn,length_append->FM,mem_cons_of_mem->Is,length_cons->No,mem_cons_self->On,getElem?_eq_getElem->Op,replicate->Re,size_toArray->Rs,map_cons->TW,mem_cons->UF,mem_append->Uf,map_append->Zm,getElem?_map->Zn,mem_singleton->Zp,length_nil->Zq,mem_map->Zu,getD_eq_getElem?_getD->Zw,mem_append_right->Zz,range->Z0,getElem?_eq_some_iff->Z1,length_singleton->Z7,nil_append->Z9,not_mem_nil->aB,map_map->aC,toArray->aE,map_congr_left->aO,append_nil->aR,Nodup->aT,mem_range->aW,lookup->aX,length_set->aZ,getLast?_eq_some_iff->ac,all_eq_true->ah,zip_cons_cons->aj,getElem_mem->ak,append_assoc->ap,replicate_succ->ar,lookup_cons->aw,drop_eq_getElem_cons->ay,length_range->bA,filterMap_cons->bF,nodup_cons->bM,getElem?_append_right->bN,flatten_cons->bR,getLast?_eq_none_iff->bV,all_cons->bg,find?_cons->bo,map_nil->bw,mem_append_left->bz,pairwise_append->b8,any_cons->b_,length_reverse->cC,getElem?_append_left->cF,contains_cons->cL,zip_nil_right->cO,pairwise_cons->cP,getElem?_replicate->cT,pairwise_singleton->cU,reverse_cons->cV,getElem?_set->cW,zip_nil_left->cY,range_succ_eq_map->cf,drop_length->cj,contains_iff_mem->cu,mem_filter->cw,getElem?_set_ne->cx,of_mem_zip->cy,zipWith->c9,lt_irrefl->dH,mem_filterMap->dL,filterMap_map->dM,pairwise_iff_getElem->di,length_take->dq,isEmpty_iff->d_,length_eq_zero_iff->eA,getElem?_cons_succ->eB,length_zip->eG,getElem?_set_self->eL,length->eN,length_replicate->eP,nodup_nil->eQ,all_map->en
open List.Pairwise renaming nil->bS
open Nat renaming le_refl->Go,lt_of_lt_of_le->Zr,ne_of_lt->Zs,zero_le->Zt,le_trans->Zv,le_succ->aG,lt_irrefl->aU,toDigits_of_lt_base->bD,lt_succ_of_lt->bt,ne_of_gt->cH,toDigits->cQ,mod_lt->dA,toDigits_append_toDigits->dJ,lt_of_le_of_lt->dO,le_of_lt->dj,min_le_right->dw,succ_le_succ->d8
open Ne renaming symm->bL
open Option renaming map_eq_some_iff->aY,bind_some->ci
open Option.some renaming inj->T0
open Or renaming inl->ZB,inr->aJ
open PyProof.Rows renaming slot_tuple_getitem->Zy,callWith_type1->bJ,boot_tuple->dB,entry_tuple_getitem->dD,args_tuple_getitem->dN,lt_int->eM,boot_all->eT
open PyProof.Rows.KeyOrd renaming kle_refl->aq,kle_of_klt->cb,kle_trans->ck,kle_antisymm->eY
open PySem renaming wpAny_bind->Ch,wpAny_pure->Db,sizeLine_eq->Z2,wpAny_newObj_type->Z3,wpAny_loadPart_at->Z4,wpAny_mono->Z6,wpAny_holding->aD,wpAny_isSubtype_exc->aK,wpAny_loadPart'->aM,wpAny_truthy_bool->aP,wpAny_callSpecial?_slot->aS,wpAny_Call_Name_kw->ag,wpAny_field->al,wpAny_call_entry->av,wpAny_typeNameOfWhole_keyiter->bC,wpAny_setField->bX,wpAny_typeNameOf_keyiter->bZ,wpAny_getItem_str_slice->bd,wpAny_standAt->be,wpAny_call->b7,wpAny_execs_nil->cD,wpAny_passesOwn->cE,codeAny_mono->cK,call_meets->cR,wpAny_pyIter_list->cX,richCompare_meets_room->cg,plainObj_wpAny_Assign_Attribute->cv,typeIs_str->cz,codeAny_call_builtin->c0,post_val_or_str->c7,wpAny_pyIter_tuple->dP,wpAny_attempt->dW,wpAny_sequenceKey->dY,slot_list_getitem->dZ,wpAny_dictEntries->de,wpAny_execs_cons->dk,noFill_tuple_add->du,wpAny_typeOf->d3,wpAny_madeBy_exc->d6,wpAny_forIn_list->d7,wpAny_dictEpoch->eJ
open PySem.Around renaming under->cI
open PySem.AutoSeq1 renaming sub_tuple_tuple->cN
open PySem.Builtin.Dict renaming showsAll->eR
open PySem.Builtin.Dict_items renaming ownsTuple->dI
open PySem.Builtin.List renaming listTooLong->bY
open PySem.Builtin.ObjectAttr renaming storeInDict->c6
open PySem.Builtin.Slice renaming slicePlaces->aF,sliceAdjust->ax,sliceApplied->bO,sliceFields->dg
open PySem.Builtin.SmallTypes renaming nextOf->bU
open PySem.Builtin.Str renaming occurrences->aA
open PySem.Builtin.Tuple renaming tupleExact->aI,tupleCompareSizes->bc,tupleItemsOf->b9,tupleIsExact->dU
open PySem.Calls renaming spliced_cons->cJ,Name_function_global->dS,spliced_nil->dX
open PySem.Code renaming quiet_builtin->cM,isGuard->dm,isFrame->eh
open PySem.EntryCells renaming newEntry->eW
open PySem.F renaming slot_dict_keyiterator_next->ao,slot_tuple_iterator_next->bP,args_dict_keyiterator_next_1->c_,entry_dict_keyiterator_next->dC,args_tuple_iterator_next_1->dG,entry_tuple_iterator_next->dQ
open PySem.Heap renaming get?_push_of_some->Ev,lt_size->Sc,get?_push_size->XV,get?_update_other->aN,get?_update_self->af,SameBut->bH,size_push->cS,ExtBut->eO
open PySem.Heap.IsSliceOf renaming new->ej
open PySem.Heap.SameBut renaming update->cB
open PySem.Heap.UpToSlots renaming refl->eX
open PySem.NameKind renaming free->Z_,cell->cA
open PySem.Obj renaming mapFields->au,data_mapFields->bK,mapSeq->bT,isFreed_of_fields->cq
open PySem.PassesOwn renaming never->bq
open PySem.PyData renaming depthAll->aL,canLayAll0->a_,hasDict->bx,hasDictAll->da,eqv->dh,leavesShortAll->eS
open PySem.SeqAt.EqAt renaming int_str->eZ,str_int->eg
open PySem.Str renaming ofString->aH,join->bG
open PySem.StrLaws renaming join_split->eo
open PySem.Value renaming ref->TM,none->Zx,builtin->bh,bool->bi,type->bj,notImplemented->c8,int->eE,str->eF
open Sum renaming inr->aQ,inl->dE
open Sum.inr renaming inj->az
open True renaming intro->a9
namespace _p
theorem zau0 (h : True := by first | exact .inl rfl | exact .inr rfl | assumption) : True := h
theorem zau1 (h : True := by decide) : True := h
theorem zau2 (h : True := by intro _; rfl) : True := h
theorem zau3 (h : True := by rfl) : True := h
theorem zau4 (h : True := by with_unfolding_all rfl) : True := h
theorem zau5 (h : True := by first | exact ZB rfl | exact aJ (ZB rfl) | exact aJ (aJ rfl)) : True := h
theorem zau6 (h : True := by intro _ _; rfl) : True := h
theorem zau7 (h : True := by intro z; cases z) : True := h
theorem zau8 (h : True := by intro _ z; cases z) : True := h
namespace L2
open PySem PySem.Spec PyProof.Rows
noncomputable abbrev Key:=Sum Int Str
noncomputable def JL:Key->Value->Bool
 | .inl k,v=>Value.isInt k v
 | .inr x,v=>Value.isStrOf x v
noncomputable def Yv(w:World):Key->Int
 | .inl k=>hashInt k
 | .inr x=>hashStr w x
theorem BL:∀{k:Key} {v:Value},JL k v=true->(∃i t,k=dE i/\v=eE i t)\/(∃x t,k=aQ x/\v=eF x t)
 | .inl i,v,h=>by
  obtain⟨t,e⟩:=Value.isInt_shape (k:=i) (v:=v) h
  exact .inl ⟨i,t,rfl,e⟩
 | .inr x,v,h=>by
  obtain⟨t,e⟩:=Value.isStrOf_shape (x:=x) (v:=v) h
  exact .inr ⟨x,t,rfl,e⟩
theorem PF(i:Int)(t:Tok):JL (.inl i) (.int i t)=true:=by simp [JL,Value.isInt]
theorem PD(x:Str)(t:Tok):JL (.inr x) (.str x t)=true:=by simp [JL,Value.isStrOf]
theorem Vw(a b:Int):decide ((dE a:Key)=dE b)=(a==b):=by
 by_cases e:a=b
 ·subst e; simp
 ·have h:¬(dE a:Key)=dE b:=λq=>e (Sum.inl.inj q)
  rw [decide_eq_false h]
  exact(beq_eq_false_iff_ne.mpr e).symm
theorem Vt(a b:Str):decide ((aQ a:Key)=aQ b)=decide (a=b):=by
 by_cases e:a=b
 ·subst e; simp
 ·have h:¬(aQ a:Key)=aQ b:=λq=>e (az q)
  rw [decide_eq_false h,decide_eq_false e]
theorem Vv(a:Int)(b:Str):decide ((dE a:Key)=aQ b)=false:=decide_eq_false (λq=>nomatch q)
theorem Vu(a:Str)(b:Int):decide ((aQ a:Key)=dE b)=false:=decide_eq_false (λq=>nomatch q)
noncomputable def BQ(prog:Program)(w:World):PySem.KeyKind prog w Key where
 is:=JL
 hash:=Yv w
 inj:=λv a b ha hb=>by
  rcases BL ha with ⟨i,t,rfl,rfl⟩ | ⟨x,t,rfl,rfl⟩
  ·rcases BL hb with ⟨j,u,rfl,e⟩ | ⟨y,u,rfl,e⟩
   ·injection e with e1 _; rw [e1]
   ·exact nomatch e
  ·rcases BL hb with ⟨j,u,rfl,e⟩ | ⟨y,u,rfl,e⟩
   ·exact nomatch e
   ·injection e with e1 _; rw [e1]
 byValue:=λk v h=>by
  rcases BL h with ⟨i,t,rfl,rfl⟩ | ⟨x,t,rfl,rfl⟩ <;> rfl
 pyHash:=λhv h=>by
  rcases BL hv with ⟨i,t,rfl,rfl⟩ | ⟨x,t,rfl,rfl⟩
  ·exact wpAny_pyHash_int h
  ·exact wpAny_pyHash_str h
 eqBool:=λhu hv h=>by
  rcases BL hu with ⟨i,t,rfl,rfl⟩ | ⟨x,t,rfl,rfl⟩
  ·rcases BL hv with ⟨j,u,rfl,rfl⟩ | ⟨y,u,rfl,rfl⟩
   ·rw [Vw] at h; exact wpAny_eqBool_int h
   ·rw [Vv] at h; exact eZ i t y u _ _ _ _ h
  ·rcases BL hv with ⟨j,u,rfl,rfl⟩ | ⟨y,u,rfl,rfl⟩
   ·rw [Vu] at h; exact eg x t j u _ _ _ _ h
   ·rw [Vt] at h; exact wpAny_eqBool_str h
 «strs»:=λk x t v h=>by
  rcases BL h with ⟨i,u,rfl,e⟩ | ⟨y,u,rfl,e⟩
  ·exact nomatch e
  ·injection e with e1 _
   subst e1
   cases v <;> rfl
theorem LU(prog:Program)(w:World)(i:Int)(t:Tok):(BQ prog w).is (.inl i) (.int i t)=true:=PF i t
theorem LS(prog:Program)(w:World)(x:Str)(t:Tok):(BQ prog w).is (.inr x) (.str x t)=true:=PD x t
inductive V where
 | non | bl (b:Bool) | int (i:Int) | str (x:Str) | byt (b:Array UInt8) | flt (b:UInt64) | ref (a:Addr) | ty (n:String)
 deriving DecidableEq
noncomputable def RelV:V->Value->Prop
 | .non,u=>u=Zx
 | .bl b,u=>u=bi b
 | .int i,u=>∃t,u=eE i t
 | .str x,u=>∃t,u=eF x t
 | .byt b,u=>∃t,u=Value.bytes b t
 | .flt b,u=>∃t,u=Value.float b t
 | .ref a,u=>u=TM a
 | .ty n,u=>u=bj n
noncomputable abbrev Vals:List V->List Value->Prop:=Paired RelV
theorem Vals.length{xs:List V}{us:List Value}(r:Vals xs us):xs.length=us.length:=Paired.length r
theorem Vals.get:∀{xs:List V} {us:List Value} {i:Nat} {x:V},Vals xs us->xs[i]?=some x->∃u,us[i]?=some u/\RelV x u
 | _,_,_,_,.nil,e=>by simp at e
 | _,_,0,_,.cons r _,e=>by simp at e; subst e; exact⟨_,rfl,r⟩
 | _,_,i+1,x,.cons _ t,e=>by
  obtain⟨u,h1,h2⟩:=Vals.get (i:=i) (x:=x) t (by simpa using e)
  exact⟨u,by simpa using h1,h2⟩
theorem Vals.set{x:V}{u:Value}(r:RelV x u):∀{xs:List V} {us:List Value} (i:Nat),Vals xs us->Vals (xs.set i x) (us.set i u)
 | _,_,_,.nil=>.nil
 | _,_,0,.cons _ t=>.cons r t
 | _,_,i+1,.cons q t=>.cons q (Vals.set r i t)
theorem Vals.append:∀{xs ys:List V} {us ws:List Value},Vals xs us->Vals ys ws->Vals (xs++ys) (us++ws)
 | _,_,_,_,.nil,s=>s
 | _,_,_,_,.cons r t,s=>.cons r (Vals.append t s)
theorem Vals.take:∀{xs:List V} {us:List Value} (n:Nat),Vals xs us->Vals (xs.take n) (us.take n)
 | _,_,0,_=>.nil
 | _,_,_+1,.nil=>.nil
 | _,_,n+1,.cons r t=>.cons r (Vals.take n t)
theorem Vals.drop:∀{xs:List V} {us:List Value} (n:Nat),Vals xs us->Vals (xs.drop n) (us.drop n)
 | _,_,0,r=>r
 | _,_,_+1,.nil=>.nil
 | _,_,n+1,.cons _ t=>Vals.drop n t
noncomputable def RelO:Option V->Option Value->Prop
 | some v,some u=>RelV v u
 | none,none=>True
 | _,_=>False
noncomputable def KV{κ:Type}:List (κ×V)->List (κ×Value)->Prop:=Paired fun(p:κ×V) (q:κ×Value)=>p.1=q.1/\RelV p.2 q.2
noncomputable def kV:Key->V
 | .inl i=>.int i
 | .inr x=>.str x
inductive HO where
 | lst (xs:List V)
 | tup (xs:List V)
 | dK (kvs:List (Key×V)) | dT (kvs:List (List Key×V))
 | set (S:Int->Bool) (n:Nat)
 | ins (C dx:Addr) (fs:List (Str×V))
 | own (x:Addr)
 | xd (fs:List (Str×V))
 | met (f x:Addr)
 | rng (lo hi:Int)
 | frz (o:Obj) (u:HO)
 | tbl (ps:Array Value)
 | ext (φ:Heap->Prop)
noncomputable abbrev Hp:=Addr->Option HO
noncomputable def Ar(H:Hp)(a:Addr)(o:HO):Hp:=λb=>if b=a then some o else H b
theorem AN{H:Hp}{a:Addr}{o:HO}:Ar H a o a=some o:=by unfold Ar; rw [if_pos rfl]
theorem AM{H:Hp}{a b:Addr}{o:HO}(h:b≠a):Ar H a o b=H b:=by unfold Ar; rw [if_neg h]
theorem Xn{H:Hp}{a b:Addr}{o u:HO}(h:H a=some o)(h':H b=some u)(d:o≠u):a≠b:=by
 intro e; subst e; rw [h] at h'; exact d (T0 h')
theorem BM{H:Hp}{a b:Addr}{o:HO}(h:H a=some o)(h':H b=none):a≠b:=by
 intro e; subst e; rw [h] at h'; cases h'
noncomputable def IsTupN(h:Heap)(a:Addr)(items:Array Value):Prop:=∃o,h.get? a=some o/\o.cls=.type "tuple"/\∃n,o.data=.seq items n/\o.dict=none/\o.slots=#[]
theorem IsTupN.tup{h:Heap}{a:Addr}{items:Array Value}(x:IsTupN h a items):IsTup h a items:=let ⟨o,h1,h2,n,h3,_⟩:=x; ⟨o,h1,h2,n,h3⟩
theorem IsTupN.new(h:Heap)(items:Array Value):IsTupN (h.push { cls:=.type "tuple",data:=.seq items }) h.objs.size items:=⟨_,XV _ rfl,rfl,_,rfl,rfl,rfl⟩
section
variable (P:Program)(w:World)
noncomputable def ObjOk(H:Hp)(h:Heap)(a:Addr):HO->Prop
 | .lst xs=>xs.length<=sizeLine/\∃(its:List Value) (n:Nat),Vals xs its/\h.get? a=some { cls:=.type "list",data:=.seq its.toArray n }
 | .tup xs=>xs.length<=sizeLine/\∃its:List Value,Vals xs its/\IsTupN h a its.toArray
 | .dK kvs=>kvs.length<=sizeLine/\(a==sysModules)=false/\∃vs,KV kvs vs/\h.DictOf (BQ P w) a vs
 | .dT kvs=>kvs.length<=sizeLine/\(a==sysModules)=false/\∃xs:List (List Key×Addr×Value),
   Paired (fun(p:List Key×V) (q:List Key×Addr×Value)=>p.1=q.1/\H q.2.1=some (.tup (p.1.map kV))/\RelV p.2 q.2.2) kvs xs /\
   ∃o es ep,h.get? a=some o/\o.ExactDict/\o.data=.dict es ep/\es.toList=xs.map (entryOfKey (tupleKind (BQ P w)))/\(xs.map (·.1)).Nodup
 | .set S n=>h.SetOf (intKind P w) a S n
 | .ins C dx fs=>H dx=some (.own a)/\fs.length<=1000/\dx≠a/\h.get? a=some (PySem.W.instObj C dx) /\
   ∃mA,h.Ns1 dx mA/\(∀f,RelO (fs.lookup f) (mA f))/\PySem.Within mA (fs.map (·.1))
 | .own _=>∃o,h.get? a=some o
 | .xd fs=>∃mA,h.Ns1 a mA/\∀f,RelO (fs.lookup f) (mA f)
 | .rng lo hi=>∃t u v,h.get? a=some { cls:=.type "range",data:=.fields #[.int lo t,.int hi u,.int 1 v] }
 | .frz o u=>h.get? a=some o/\ObjOk H h a u
 | .tbl ps=>h.get? a=some { cls:=.none,data:=.fields ps }
 | .met f x=>h.get? a=some (PySem.W.methodObj (.ref f) (.ref x))
 | .ext φ=>φ h/\(∃o,h.get? a=some o)/\∀h1 h2:Heap,φ h1->(∀o,h1.get? a=some o->h2.get? a=some o)->φ h2
noncomputable def HOk(H:Hp)(h:Heap):Prop:=∀a o,H a=some o->ObjOk P w H h a o
end
section
variable {P:Program}{w:World}{H H':Hp}{h h':Heap}{a:Addr}{o:HO}
theorem ObjOk.lt(x:ObjOk P w H h a o):a<h.objs.size:=by
 cases o with
 | lst xs=>obtain⟨_,_,_,_,e⟩:=x; exact Sc e
 | tup xs=>obtain⟨_,_,_,p⟩:=x; exact p.tup.lt
 | dK kvs=>obtain⟨_,_,_,_,o,_,_,e,_⟩:=x; exact Sc e
 | dT kvs=>obtain⟨_,_,_,_,o,_,_,e,_⟩:=x; exact Sc e
 | set S n=>obtain⟨o,_,_,_,e,_⟩:=x; exact Sc e
 | ins C dx fs=>obtain⟨_,_,_,e,_⟩:=x; exact Sc e
 | own y=>obtain⟨_,e⟩:=x; exact Sc e
 | xd fs=>obtain⟨_,⟨_,_,_,e,_⟩,_⟩:=x; exact Sc e
 | rng lo hi=>obtain⟨_,_,_,e⟩:=x; exact Sc e
 | frz ob u=>obtain⟨e,_⟩:=x; exact Sc e
 | tbl ps=>exact Sc (show h.get? a=some _ from x)
 | met f y=>exact Sc (show h.get? a=some _ from x)
 | ext φ=>obtain⟨_,⟨_,e⟩,_⟩:=x; exact Sc e
theorem Paired.mapP{α β:Type}{F G:α->β->Prop}:∀{l₁:List α} {l₂:List β},Paired F l₁ l₂->(∀a b,F a b->G a b)->Paired G l₁ l₂
 | _,_,.nil,_=>.nil
 | _,_,.cons r t,f=>.cons (f _ _ r) (Paired.mapP t f)
theorem ObjOk.stay(x:ObjOk P w H h a o)(k:∀b u,(b=a\/H b=some (.own a))->h.get? b=some u->h'.get? b=some u)
  (ho:∀b,H b=some (.own a)->H' b=some (.own a)) (ht:∀b xs,H b=some (.tup xs)->H' b=some (.tup xs)):ObjOk P w H' h' a o:=by
 induction o with
 | lst xs=>obtain⟨z,its,n,r,e⟩:=x; exact⟨z,its,n,r,k _ _ (.inl rfl) e⟩
 | tup xs=>obtain⟨z,its,r,ob,e,c⟩:=x; exact⟨z,its,r,ob,k _ _ (.inl rfl) e,c⟩
 | dK kvs=>obtain⟨z,y,vs,r,ob,es,ep,e,c⟩:=x; exact⟨z,y,vs,r,ob,es,ep,k _ _ (.inl rfl) e,c⟩
 | dT kvs =>
  obtain⟨z,y,xs,r,ob,es,ep,e,c⟩:=x
  exact⟨z,y,xs,Paired.mapP r λp q z=>⟨z.1,ht _ _ z.2.1,z.2.2⟩,ob,es,ep,k _ _ (.inl rfl) e,c⟩
 | set S n=>obtain⟨ob,es,ep,t,e,c⟩:=x; exact⟨ob,es,ep,t,k _ _ (.inl rfl) e,c⟩
 | ins C dx fs =>
  obtain⟨d,z,ne,e,mA,⟨od,es,ep,e2,c⟩,r⟩:=x
  exact⟨ho _ d,z,ne,k _ _ (.inl rfl) e,mA,⟨od,es,ep,k _ _ (.inr d) e2,c⟩,r⟩
 | own y=>obtain⟨ob,e⟩:=x; exact⟨ob,k _ _ (.inl rfl) e⟩
 | xd fs=>obtain⟨mA,⟨od,es,ep,e,c⟩,r⟩:=x; exact⟨mA,⟨od,es,ep,k _ _ (.inl rfl) e,c⟩,r⟩
 | rng lo hi=>obtain⟨t,u,v,e⟩:=x; exact⟨t,u,v,k _ _ (.inl rfl) e⟩
 | frz ob u ih=>obtain⟨e,q⟩:=x; exact⟨k _ _ (.inl rfl) e,ih q⟩
 | tbl ps =>
  have e:h.get? a=some { cls:=.none,data:=.fields ps }:=x
  show h'.get? a=some { cls:=.none,data:=.fields ps }
  exact k a _ (.inl rfl) e
 | met f y =>
  have e:h.get? a=some (PySem.W.methodObj (.ref f) (.ref y)):=x
  show h'.get? a=some (PySem.W.methodObj (.ref f) (.ref y))
  exact k a _ (.inl rfl) e
 | ext φ=>obtain⟨p,⟨o,e⟩,st⟩:=x; exact⟨st _ _ p λo q=>k _ _ (.inl rfl) q,⟨o,k _ _ (.inl rfl) e⟩,st⟩
theorem HOk.lt(x:HOk P w H h)(e:H a=some o):a<h.objs.size:=(x a o e).lt
theorem HOk.fresh(x:HOk P w H h)(e:h.objs.size<=a):H a=none:=by
 cases q:H a with
 | none=>rfl
 | some u=>exact absurd (Zr (x.lt q) e) (aU _)
theorem HOk.kept(x:HOk P w H h)(k:∀b u,h.get? b=some u->h'.get? b=some u):HOk P w H h':=λa o e =>
 (x a o e).stay (λb u _ q=>k b u q) (λ_ q=>q) λ_ _ q=>q
theorem HOk.laid(x:HOk P w H h)(k:∀b u,h.get? b=some u->h'.get? b=some u)(hp:h.objs.size<=a)(new:ObjOk P w (Ar H a o) h' a o):HOk P w (Ar H a o) h':=λb u e=>by
 have hn:=x.fresh hp
 by_cases hb:b=a
 ·subst hb; rw [AN] at e; cases e; exact new
 ·rw [AM hb] at e
  exact(x b u e).stay (λc v _ q=>k c v q) (λc q=>by rw [AM (BM q hn)]; exact q) λc xs q=>by rw [AM (BM q hn)]; exact q
end
noncomputable def Rd(H:Hp)(a:Addr)(u:HO):Prop:=H a=some u\/∃o,H a=some (.frz o u)
theorem Rd.ok{P:Program}{w:World}{H:Hp}{h:Heap}{a:Addr}{u:HO}(r:Rd H a u)(x:HOk P w H h):ObjOk P w H h a u:=by
 rcases r with r | ⟨o,r⟩
 ·exact x a u r
 ·obtain⟨_,q⟩:=x a _ r
  exact q
noncomputable def YI:Option HO->Prop
 | some (.lst _)=>True
 | some (.dK _)=>True
 | some (.dT _)=>True
 | some (.set _ _)=>True
 | some (.ins _ _ _)=>True
 | some (.ext _)=>True
 | _=>False
section
variable {P:Program}{w:World}{H:Hp}{h h':Heap}{x e:Addr}{o':HO}
theorem HOk.write(ok:HOk P w H h)(mu:YI (H x))(he:e=x\/H e=some (.own x))(k:∀b u,b≠e->h.get? b=some u->h'.get? b=some u)(heo:∃u,h'.get? e=some u)
  (new:ObjOk P w (Ar H x o') h' x o'):HOk P w (Ar H x o') h':=λb u q=>by
 have nown:∀c y,H c=some (.own y)->c≠x:=λc y r z=>by subst z; rw [r] at mu; exact mu
 have ntup:∀c xs,H c=some (.tup xs)->c≠x:=λc xs r z=>by subst z; rw [r] at mu; exact mu
 by_cases hb:b=x
 ·subst hb; rw [AN] at q; cases q; exact new
 ·rw [AM hb] at q
  by_cases hbe:b=e
  ·have q':H b=some (.own x):=by
    rcases he with z | z
    ·exact absurd (hbe.trans z) hb
    ·rw [hbe]; exact z
   rw [q] at q'; cases q'
   obtain⟨v,hv⟩:=heo
   exact⟨v,by rw [hbe]; exact hv⟩
  ·refine(ok b u q).stay (λc v hc r=>k c v ?_ r) (λc r=>by rw [AM (nown c b r)]; exact r) λc xs r=>by rw [AM (ntup c xs r)]; exact r
   rcases hc with rfl | hc
   ·exact hbe
   ·rintro rfl
    rcases he with z | z
    ·exact nown c b hc z
    ·rw [hc] at z; cases z; exact hb rfl
end
structure Un (fs ex:List Addr) (H H':Hp) (h h':Heap):Prop where
 keep:∀b o,h.get? b=some o->H b=none->b∉fs->b∉ex->h'.get? b=some o
 slot:∀b o,h.get? b=some o->H b=none->b∈fs->b∉ex->∃sl,h'.get? b=some { o with slots:=sl }
 free:∀b o,h.get? b=some o->H b=none->b∉ex->H' b=none
 there:∀b o,h.get? b=some o->b∉ex->∃o',h'.get? b=some o'
 tups:∀b xs,H b=some (.tup xs)->H' b=some (.tup xs)
 frzs:∀b o u,H b=some (.frz o u)->H' b=some (.frz o u)
 tbls:∀b ps,H b=some (.tbl ps)->∃more,H' b=some (.tbl (ps++more))
section
variable {fs fs' ex ex':List Addr}{H H1 H2:Hp}{h h1 h2 h':Heap}{a x e:Addr}{o:HO}
theorem Un.any(u:Un fs ex H H1 h h1){b:Addr}{ob:Obj}(q:h.get? b=some ob)(n:H b=none)(hx:b∉ex):∃sl,h1.get? b=some { ob with slots:=sl }:=by
 by_cases hb:b∈fs
 ·exact u.slot b ob q n hb hx
 ·exact⟨ob.slots,u.keep b ob q n hb hx⟩
theorem Un.trans(a:Un fs ex H H1 h h1)(b:Un fs ex H1 H2 h1 h2):Un fs ex H H2 h h2 where
 keep:=λc ob q n hc hx=>b.keep c ob (a.keep c ob q n hc hx) (a.free c ob q n hx) hc hx
 slot:=λc ob q n hc hx=>by
  obtain⟨sl,e1⟩:=a.slot c ob q n hc hx
  obtain⟨sl',e2⟩:=b.slot c _ e1 (a.free c ob q n hx) hc hx
  exact⟨sl',e2⟩
 free:=λc ob q n hx=>by
  obtain⟨o',e1⟩:=a.there c ob q hx
  exact b.free c o' e1 (a.free c ob q n hx) hx
 there:=λc ob q hx=>by
  obtain⟨o',e1⟩:=a.there c ob q hx
  exact b.there c o' e1 hx
 tups:=λc xs q=>b.tups c xs (a.tups c xs q)
 frzs:=λc ob xs q=>b.frzs c ob xs (a.frzs c ob xs q)
 tbls:=λc ps q=>by
  obtain⟨m1,e1⟩:=a.tbls c ps q
  obtain⟨m2,e2⟩:=b.tbls c _ e1
  exact⟨m1++m2,by rw [e2,Array.append_assoc]⟩
theorem Un.kept(k:∀b u,h.get? b=some u->h'.get? b=some u):Un fs ex H H h h' :=
 ⟨λb ob q _ _ _=>k b ob q,λb ob q _ _ _=>⟨ob.slots,k b ob q⟩,λ_ _ _ n _=>n,λb ob q _=>⟨ob,k b ob q⟩,λ_ _ q=>q,λ_ _ _ q=>q,λ_ ps q=>⟨#[],by rw [q]; simp⟩⟩
theorem Un.refl:Un fs ex H H h h:=Un.kept λ_ _ q=>q
theorem Un.laid(k:∀b u,h.get? b=some u->h'.get? b=some u)(hp:h.objs.size<=a)(hn:H a=none):Un fs ex H (Ar H a o) h h' where
 keep:=λb u q _ _ _=>k b u q
 slot:=λb u q _ _ _=>⟨u.slots,k b u q⟩
 free:=λb u q n _=>by rw [AM (Zs (Zr (Sc q) hp))]; exact n
 there:=λb u q _=>⟨u,k b u q⟩
 tups:=λb xs q=>by rw [AM (BM q hn)]; exact q
 frzs:=λb u xs q=>by rw [AM (BM q hn)]; exact q
 tbls:=λb ps q=>⟨#[],by rw [AM (BM q hn),q]; simp⟩
theorem Un.write(mu:YI (H x))(he:e=x\/H e=some (.own x))(k:∀b u,b≠e->h.get? b=some u->h'.get? b=some u)(heo:∃u,h'.get? e=some u):Un fs ex H (Ar H x o) h h':=by
 have hx:∀b,H b=none->b≠x:=λb n z=>by subst z; rw [n] at mu; exact mu
 have hb:∀b,H b=none->b≠e:=λb n z=>by
  subst z
  rcases he with r | r
  ·exact hx b n r
  ·rw [n] at r; cases r
 have hm:∀b u,H b=some u->¬YI (some u)->b≠x:=λb u q nm z=>by subst z; rw [q] at mu; exact nm mu
 refine⟨λb u q n _ _=>k b u (hb b n) q,λb u q n _ _=>⟨u.slots,k b u (hb b n) q⟩,λb u q n _=>by rw [AM (hx b n)]; exact n,λb u q _=>?_,
  λb xs q=>by rw [AM (hm b _ q λz=>z)]; exact q,λb u xs q=>by rw [AM (hm b _ q λz=>z)]; exact q,λb ps q=>⟨#[],by rw [AM (hm b _ q λz=>z),q]; simp⟩⟩
 by_cases hbe:b=e
 ·subst hbe; exact heo
 ·exact⟨u,k b u hbe q⟩
end
noncomputable def YQ(h:Heap)(H:Hp):List Addr:=(Z0 h.objs.size).filter λa=>(H a).isSome
noncomputable def KJ(h:Heap)(H:Hp):Heap:=PySem.W.hideAll h (YQ h H)
theorem PM(h:Heap)(H:Hp):(KJ h H).objs.size=h.objs.size:=PySem.W.hideAll_size _ _
theorem RJ{h:Heap}{H:Hp}{b:Addr}{o:Obj}(e:h.get? b=some o)(n:H b=none):(KJ h H).get? b=some o :=
 PySem.W.hideAll_get _ e λhm=>by
  have q:(H b).isSome=true:=(cw.mp hm).2
  rw [n] at q; simp at q
theorem TD{h:Heap}{H:Hp}{b:Addr}{o:Obj}(e:(KJ h H).get? b=some o):h.get? b=some o/\H b=none:=by
 have e':h.get? b=some o:=PySem.W.of_hideAll (YQ h H) e
 refine⟨e',?_⟩
 cases q:H b with
 | none=>rfl
 | some x =>
  have hm:b∈YQ h H:=cw.mpr ⟨aW.mpr (Sc e'),by simp [q]⟩
  have z:(KJ h H).get? b=none:=PySem.W.hideAll_none (YQ h H) hm
  rw [z] at e; cases e
structure Mod (K:Frag) (mg:Str->Option Value) (base:Heap):Prop where
 kin:K.In base
 glob:base.Ns mainGlobals mg
 blt:∃mb,base.Ns builtinsNs mb/\∀x:Str,x ≠ "__name__"->mb x=bootBuiltins x
 nolimit:base.NoLimit
/-- the context: a def's body (or a comprehension's block) running. base: fixed through the whole law; s₀, H₀: the entry; outer: the frames whose slots others may change (a def's callers); stack: all frames that run;
   ex: iterators that were made ahead of the entry and are walked here (a comprehension's); fn: the names whose cells were made at the entry (a def: all; a comprehension's block: its own); calm: not within an except suite; pn: pins that every state bears; xe: what is wanted of an exception that leaves the code -/
structure Cx where
 prog:Program
 w:World
 K:Frag
 mg:Str->Option Value
 base:Heap
 A:Around
 N:List Str
 s₀:Shared
 H₀:Hp
 env:Env
 outer:List Env
 stack:List Env
 ex:List Addr
 fn:Str->Bool
 calm:Bool
 pn:List (Addr×Obj)
 xe:Value->Shared->Prop
noncomputable def KP(l:List Env):List Addr:=l.filterMap (·.frame)
noncomputable abbrev Cx.fs(X:Cx):List Addr:=KP X.outer
noncomputable def SJ(sc:Scope)(x:Str):Prop:=sc.names.lookup x=some .local\/sc.names.lookup x=some .cell\/sc.names.lookup x=some .free
noncomputable def Loc(sc:Scope)(x:Str):Prop:=sc.names.lookup x=some .local\/sc.names.lookup x=some .cell
noncomputable def Look(env:Env)(h:Heap)(m:Str->Option Value)(x:Str)(u:Value):Prop :=
 (env.kindOf x=some .local/\m x=some u)\/((env.kindOf x=some .cell\/env.kindOf x=some .free)/\∃c,env.cells.lookup x=some c/\h.IsCell c (some u))
structure Cx.Ok (X:Cx):Prop where
 mod:Mod X.K X.mg X.base
 kind:X.env.scope.kind=.function
 glob:X.env.globals=mainGlobals
 blt:X.env.builtins=builtinsNs
 above:X.s₀.heap.objs.size<=X.env.locals
 inj:∀x y c,X.env.cells.lookup x=some c->X.env.cells.lookup y=some c->x=y
 has:∀x,(X.env.kindOf x=some .cell\/X.env.kindOf x=some .free)->∃c,X.env.cells.lookup x=some c
 cab:∀x c,X.fn x=true->X.env.cells.lookup x=some c->X.s₀.heap.objs.size<=c
 hd:X.calm=true->X.A.handled=none
 frames:X.A.frames=some X.stack
 stk:X.stack=X.outer\/(X.stack=X.env::X.outer/\X.env.frame=some X.env.locals)
 exf:∀b∈X.ex,b≠X.env.locals/\∀x c,X.env.cells.lookup x=some c->c≠b
 bs:∀b o,X.base.get? b=some o->X.s₀.heap.get? b=some o/\X.H₀ b=none
 bsz:X.base.objs.size<=X.s₀.heap.objs.size
 noex:∀b o,X.base.get? b=some o->b∉X.ex
 exfs:∀b∈X.ex,b∉X.fs
 funs:X.s₀.heap.FunFrames X.base X.outer
 frf:∀b∈X.fs,X.H₀ b=none
structure Inv (X:Cx) (pins:List (Addr×Obj)) (σ:List (Option V)) (H:Hp) (s:Shared):Prop where
 ok:X.Ok
 os:s.os=X.s₀.os
 bare:AllBare s.gens
 base:Un X.fs X.ex X.H₀ H X.s₀.heap s.heap
 loc:∃m,s.heap.Ns X.env.locals m/\∀(i:Nat) (x:Str) (v:V),X.N[i]?=some x->σ[i]?=some (some v)->SJ X.env.scope x->∃u,RelV v u/\Look X.env s.heap m x u
 cell:∀x c,X.env.cells.lookup x=some c->∃v,s.heap.IsCell c v
 free:H X.env.locals=none
 freeC:∀x c,X.env.cells.lookup x=some c->H c=none
 pin:∀p∈X.pn++pins,s.heap.get? p.1=some p.2/\H p.1=none/\p.1≠X.env.locals/\p.1∉X.fs/\∀v,p.2.data≠.cell v
 hok:HOk X.prog X.w H s.heap
 len:σ.length=X.N.length
section
variable {X:Cx}{pins:List (Addr×Obj)}{σ:List (Option V)}{H H':Hp}{s:Shared}{h':Heap}
theorem Cx.Ok.nofr(ok:X.Ok){b:Addr}{o:Obj}(e:X.base.get? b=some o):b∉X.fs:=λhb=>by
 have:=(ok.funs.mem hb).1
 rw [e] at this; cases this
theorem Inv.bs(I:Inv X pins σ H s):∀b o,X.base.get? b=some o->s.heap.get? b=some o/\H b=none:=λb o e =>
 ⟨I.base.keep b o (I.ok.bs b o e).1 (I.ok.bs b o e).2 (I.ok.nofr e) (I.ok.noex b o e),I.base.free b o (I.ok.bs b o e).1 (I.ok.bs b o e).2 (I.ok.noex b o e)⟩
theorem Inv.bk(I:Inv X pins σ H s):∀b o,X.base.get? b=some o->s.heap.get? b=some o:=λb o e=>(I.bs b o e).1
theorem Inv.mod(I:Inv X pins σ H s):Mod X.K X.mg X.base:=I.ok.mod
theorem Inv.kIn(I:Inv X pins σ H s):X.K.In s.heap:=I.ok.mod.kin.keeps I.bk
theorem Inv.lt(I:Inv X pins σ H s):X.env.locals<s.heap.objs.size:=let ⟨_,hn,_⟩:=I.loc; hn.lt
theorem Inv.sz(I:Inv X pins σ H s):X.s₀.heap.objs.size<=s.heap.objs.size:=Zv I.ok.above (dj I.lt)
theorem Inv.nofs(I:Inv X pins σ H s){a:Addr}(h:s.heap.objs.size<=a):a∉X.fs:=λhb=>by
 obtain⟨_,o,ho,_⟩:=I.ok.funs.mem hb
 exact absurd (Zr (Sc ho) (Zv I.sz h)) (aU _)
theorem Inv.cne(I:Inv X pins σ H s):∀x c,X.env.cells.lookup x=some c->c≠X.env.locals:=λx c e z=>by
 obtain⟨v,o,ho,hd⟩:=I.cell x c e
 obtain⟨m,⟨o',es,ep,ho',hd',_⟩,_⟩:=I.loc
 rw [z,ho'] at ho; cases ho; rw [hd'] at hd; cases hd
theorem Inv.funs(I:Inv X pins σ H s):s.heap.FunFrames X.base X.outer:=by
 have all:∀(l:List Env),(∀b∈KP l,b∈X.fs)->X.s₀.heap.FunFrames X.base l->s.heap.FunFrames X.base l:=by
  intro l
  induction l with
  | nil=>intro _ _; trivial
  | cons env r ih =>
   intro hs hl
   obtain⟨hk,⟨L,o,hf,hn,ho,hd⟩,hr⟩:=hl
   have hL:L∈X.fs:=hs L (by unfold KP; rw [bF,hf]; exact On)
   obtain⟨sl,e⟩:=I.base.slot L o ho (I.ok.frf L hL) hL λz=>I.ok.exfs L z hL
   exact⟨hk,⟨L,_,hf,hn,e,hd⟩,ih (λb hb=>hs b (by unfold KP; rw [bF,hf]; exact Is _ hb)) hr⟩
 exact all X.outer (λ_ hb=>hb) I.ok.funs
theorem Inv.stack(I:Inv X pins σ H s):s.heap.FunFrames X.base X.stack:=by
 rcases I.ok.stk with e | ⟨e,hf⟩
 ·rw [e]; exact I.funs
 ·rw [e]
  obtain⟨m,hn,_⟩:=I.loc
  refine .cons (by rw [I.ok.kind]; decide) hf hn ?_ I.funs
  exact Heap.get?_none_of_le (Zv I.ok.bsz I.ok.above)
theorem Inv.stkSub(I:Inv X pins σ H s):∀b∈KP X.stack,b∈X.env.locals::X.fs:=λb hb=>by
 rcases I.ok.stk with e | ⟨e,hf⟩
 ·rw [e] at hb; exact Is _ hb
 ·rw [e] at hb
  unfold KP at hb
  rw [bF,hf] at hb
  exact hb
theorem Inv.stkFree(I:Inv X pins σ H s):∀b∈KP X.stack,H b=none:=λb hb=>by
 rcases UF.mp (I.stkSub b hb) with e | hb
 ·rw [e]; exact I.free
 ·obtain⟨_,o,ho,_⟩:=I.ok.funs.mem hb
  exact I.base.free b o ho (I.ok.frf b hb) λz=>I.ok.exfs b z hb
theorem Inv.step{g':Array GenState}{t':Nat}{d':Drawn}{ch:List Addr}(I:Inv X pins σ H s)
  (hch:∀b∈ch,(b∈X.ex\/X.s₀.heap.objs.size<=b)/\b≠X.env.locals/\(∀x c,X.env.cells.lookup x=some c->c≠b)/\∀p∈X.pn++pins,p.1≠b)
  (keep:∀b o,b≠X.env.locals->b∉X.fs->b∉ch->s.heap.get? b=some o->H b=none->h'.get? b=some o)
  (slot:∀b o,b≠X.env.locals->b∈X.fs->b∉ch->s.heap.get? b=some o->H b=none->∃sl,h'.get? b=some { o with slots:=sl }) (free:∀b o,b∉ch->s.heap.get? b=some o->H b=none->H' b=none)
  (there:∀b o,b∉ch->s.heap.get? b=some o->∃o',h'.get? b=some o')
  (tups:∀b xs,H b=some (.tup xs)->H' b=some (.tup xs)) (frzs:∀b o u,H b=some (.frz o u)->H' b=some (.frz o u)) (tbls:∀b ps,H b=some (.tbl ps)->∃more,H' b=some (.tbl (ps++more)))
  (ns:∀m,s.heap.Ns X.env.locals m->h'.Ns X.env.locals m) (hok:HOk X.prog X.w H' h') (hg:AllBare g') :
  Inv X pins σ H' { s with heap:=h',gens:=g',drawn:=d',toks:=t' }:=by
 have neL:∀b o,X.s₀.heap.get? b=some o->b≠X.env.locals:=λb o e=>Zs (Zr (Sc e) I.ok.above)
 have neC:∀b o,X.s₀.heap.get? b=some o->b∉X.ex->b∉ch:=λb o e hx hb=>by
  rcases (hch b hb).1 with z | z
  ·exact hx z
  ·exact absurd (Zr (Sc e) z) (aU _)
 have cellK:∀x c,X.env.cells.lookup x=some c->∀v,s.heap.IsCell c v->h'.IsCell c v:=λx c e v ⟨o,ho,hd⟩=>by
  have nch:c∉ch:=λz=>(hch c z).2.2.1 x c e rfl
  by_cases hc:c∈X.fs
  ·obtain⟨sl,q⟩:=slot c o (I.cne x c e) hc nch ho (I.freeC x c e)
   exact⟨_,q,hd⟩
  ·exact⟨o,keep c o (I.cne x c e) hc nch ho (I.freeC x c e),hd⟩
 refine⟨I.ok,I.os,hg,⟨λb o e n hb hx=>?_,λb o e n hb hx=>?_,λb o e n hx=>?_,λb o e hx=>?_,λb xs e=>tups b xs (I.base.tups b xs e),λb o xs e=>frzs b o xs (I.base.frzs b o xs e),λb ps e=>?_⟩,?_,λx c e=>?_,?_,λx c e=>?_,λp hp=>?_,hok,I.len⟩
 ·exact keep b o (neL b o e) hb (neC b o e hx) (I.base.keep b o e n hb hx) (I.base.free b o e n hx)
 ·obtain⟨sl,e1⟩:=I.base.slot b o e n hb hx
  obtain⟨sl',e2⟩:=slot b _ (neL b o e) hb (neC b o e hx) e1 (I.base.free b o e n hx)
  exact⟨sl',e2⟩
 ·obtain⟨o',e1⟩:=I.base.there b o e hx
  exact free b o' (neC b o e hx) e1 (I.base.free b o e n hx)
 ·obtain⟨o',e1⟩:=I.base.there b o e hx
  exact there b o' (neC b o e hx) e1
 ·obtain⟨m1,e1⟩:=I.base.tbls b ps e
  obtain⟨m2,e2⟩:=tbls b _ e1
  exact⟨m1++m2,by rw [e2,Array.append_assoc]⟩
 ·obtain⟨m,hn,hl⟩:=I.loc
  refine⟨m,ns m hn,λi x v e1 e2 e3=>?_⟩
  obtain⟨u,r,l⟩:=hl i x v e1 e2 e3
  refine⟨u,r,?_⟩
  rcases l with l | ⟨k,c,e,z⟩
  ·exact .inl l
  ·exact .inr ⟨k,c,e,cellK x c e _ z⟩
 ·obtain⟨v,z⟩:=I.cell x c e
  exact⟨v,cellK x c e v z⟩
 ·obtain⟨m,⟨o,_,_,ho,_⟩,_⟩:=I.loc
  exact free _ o (λz=>(hch _ z).2.1 rfl) ho I.free
 ·obtain⟨v,o,ho,hd⟩:=I.cell x c e
  exact free c o (λz=>(hch c z).2.2.1 x c e rfl) ho (I.freeC x c e)
 ·obtain⟨e,n,ne,nf,d⟩:=I.pin p hp
  have nch:p.1∉ch:=λz=>(hch p.1 z).2.2.2 p hp rfl
  exact⟨keep p.1 p.2 ne nf nch e n,free p.1 p.2 nch e n,ne,nf,d⟩
theorem Inv.un{t':Nat}(I:Inv X pins σ H s)(u:Un X.fs [] H H' s.heap h')(hok:HOk X.prog X.w H' h'):Inv X pins σ H' { s with heap:=h',toks:=t' }:=by
 obtain⟨m,⟨o,es,ep,ho,r⟩,_⟩:=id I.loc
 obtain⟨sl,hL⟩:=u.any ho I.free (by simp)
 exact I.step (g':=s.gens) (d':=s.drawn) (ch:=[]) (λ_ z=>nomatch z) (λb o _ hb _ e n=>u.keep b o e n hb (by simp)) (λb o _ hb _ e n=>u.slot b o e n hb (by simp)) (λb o _ e n=>u.free b o e n (by simp)) (λb o _ e=>u.there b o e (by simp)) u.tups u.frzs u.tbls (λm' hm=>by
  obtain⟨o',es',ep',ho',r'⟩:=hm
  rw [ho] at ho'; cases ho'
  exact⟨_,es',ep',hL,r'⟩) hok I.bare
theorem Inv.call{g':Array GenState}{t':Nat}{d':Drawn}{ch:List Addr}(I:Inv X pins σ H s)(u:Un (KP X.stack) ch H H' s.heap h')(hok:HOk X.prog X.w H' h')(hg:AllBare g')
  (hch:∀b∈ch,(b∈X.ex\/X.s₀.heap.objs.size<=b)/\b≠X.env.locals/\(∀x c,X.env.cells.lookup x=some c->c≠b)/\∀p∈X.pn++pins,p.1≠b) :
  Inv X pins σ H' { s with heap:=h',gens:=g',drawn:=d',toks:=t' }:=by
 obtain⟨m,⟨o,es,ep,ho,r⟩,_⟩:=id I.loc
 obtain⟨sl,hL⟩:=u.any ho I.free λz=>(hch _ z).2.1 rfl
 exact I.step (ch:=ch) hch (λb o hL hb hc e n=>u.keep b o e n (λz=>(UF.mp (I.stkSub b z)).elim hL hb) hc) (λb o _ _ hc e n=>u.any e n hc) (λb o hc e n=>u.free b o e n hc) (λb o hc e=>u.there b o e hc) u.tups u.frzs u.tbls (λm' hm=>by
  obtain⟨o',es',ep',ho',r'⟩:=hm
  rw [ho] at ho'; cases ho'
  exact⟨_,es',ep',hL,r'⟩) hok hg
theorem Inv.turned{t':Nat}{it:Addr}(I:Inv X pins σ H s)(k:∀b o,b≠it->s.heap.get? b=some o->h'.get? b=some o)(hn:H it=none)(hL:it≠X.env.locals)
  (h1:it∈X.ex\/X.s₀.heap.objs.size<=it) (h2:∀x c,X.env.cells.lookup x=some c->c≠it) (h3:∀p∈X.pn++pins,p.1≠it):Inv X pins σ H { s with heap:=h',toks:=t' }:=by
 have nit:∀b u,H b=some u->b≠it:=λb u e z=>by rw [z,hn] at e; cases e
 refine I.step (g':=s.gens) (d':=s.drawn) (ch:=[it]) (λb hb=>?_) (λb o _ _ hc e _=>k b o (λz=>hc (by simp [z])) e) (λb o _ _ hc e _=>⟨o.slots,k b o (λz=>hc (by simp [z])) e⟩) (λ_ _ _ _ n=>n)
  (λb o hc e=>⟨o,k b o (λz=>hc (by simp [z])) e⟩) (λ_ _ e=>e) (λ_ _ _ e=>e) (λb ps e=>⟨#[],by rw [e]; simp⟩) (λm hm=>?_) (λb u e=>?_) I.bare
 ·have e:b=it:=by simpa using hb
  subst e
  exact⟨h1,hL,h2,h3⟩
 ·obtain⟨o,es,ep,ho,r⟩:=hm
  exact⟨o,es,ep,k _ o (bL hL) ho,r⟩
 ·refine(I.hok b u e).stay (λc v hc q=>k c v ?_ q) (λ_ q=>q) λ_ _ q=>q
  rcases hc with z | z
  ·rw [z]; exact nit b u e
  ·exact nit c _ z
theorem Inv.tok(I:Inv X pins σ H s)(t:Nat):Inv X pins σ H { s with toks:=t }:=I.un (h':=s.heap) (t':=t) Un.refl I.hok
theorem Inv.kept{t':Nat}(I:Inv X pins σ H s)(k:∀b u,s.heap.get? b=some u->h'.get? b=some u):Inv X pins σ H { s with heap:=h',toks:=t' }:=I.un (Un.kept k) (I.hok.kept k)
theorem Inv.laid{a:Addr}{o:HO}{t':Nat}(I:Inv X pins σ H s)(k:∀b u,s.heap.get? b=some u->h'.get? b=some u)(hp:s.heap.objs.size<=a)(new:ObjOk X.prog X.w (Ar H a o) h' a o) :
  Inv X pins σ (Ar H a o) { s with heap:=h',toks:=t' }:=I.un (Un.laid k hp (I.hok.fresh hp)) (I.hok.laid k hp new)
theorem Inv.write{x e:Addr}{o:HO}{t':Nat}(I:Inv X pins σ H s)(mu:YI (H x))(he:e=x\/H e=some (.own x))(k:∀b u,b≠e->s.heap.get? b=some u->h'.get? b=some u)(heo:∃u,h'.get? e=some u)
  (new:ObjOk X.prog X.w (Ar H x o) h' x o):Inv X pins σ (Ar H x o) { s with heap:=h',toks:=t' }:=I.un (Un.write mu he k heo) (I.hok.write mu he k heo new)
theorem Inv.pins_of{pins':List (Addr×Obj)}(I:Inv X pins σ H s)(h:∀p∈pins',s.heap.get? p.1=some p.2/\H p.1=none/\p.1≠X.env.locals/\p.1∉X.fs/\∀v,p.2.data≠.cell v):Inv X pins' σ H s :=
 ⟨I.ok,I.os,I.bare,I.base,I.loc,I.cell,I.free,I.freeC,λp hp=>(Uf.mp hp).elim (λz=>I.pin p (bz _ z)) (h p),I.hok,I.len⟩
theorem Ho{N:List Str}(hN:N.Nodup){i j:Nat}{x:Str}(a:N[i]?=some x)(b:N[j]?=some x):i=j:=by
 obtain⟨h1,e1⟩:=Z1.mp a
 obtain⟨h2,e2⟩:=Z1.mp b
 exact(List.getElem_inj hN).mp (e1.trans e2.symm)
theorem Iu{M:Model}{A:Around}{E:Value->Shared->Prop}{i:Nat}{x:Str}{v:V}{u:Value}{Q:Unit->Shared->Prop}(I:Inv X pins σ H s)(hN:X.N.Nodup)(hi:X.N[i]?=some x)(hx:Loc X.env.scope x)(r:RelV v u)
  (h:∀s',Inv X pins (σ.set i (some v)) H s'->(∃a,bH a s.heap s'.heap/\(a=X.env.locals\/X.env.cells.lookup x=some a))->Q () s') (hf:autoParam (X.fn x=true\/X.env.scope.names.lookup x=some .local) zau0._auto_1):wpAny M A (storeName X.env x u) Q E s:=by
 obtain⟨m,hn,hl⟩:=id I.loc
 have hcls:(X.env.scope.kind==.class||(X.env.scope.kind==.module&&X.env.locals != X.env.globals))=false:=by rw [I.ok.kind]; rfl
 have hiσ:i<σ.length:=by rw [I.len]; exact(Z1.mp hi).1
 have cne:=I.cne
 have tracked:∀{a:Addr} {h':Heap},(∃o,s.heap.get? a=some o/\H a=none)->bH a s.heap h'->HOk X.prog X.w H h':=λ{a h'} ha hs b ob e=>by
  obtain⟨_,_,hfree⟩:=ha
  refine(I.hok b ob e).stay (λc w' hc q=>(hs.2 c ?_).trans q) (λ_ q=>q) λ_ _ q=>q
  rintro rfl
  rcases hc with rfl | hc
  ·rw [hfree] at e; cases e
  ·rw [hfree] at hc; cases hc
 rcases hx with hk | hk
 ·refine wpAny_storeName_local hk hn (λh' hn' hs=>?_) hcls
  obtain⟨oL,_,_,hoL,_⟩:=id hn
  refine h _ ⟨I.ok,I.os,I.bare,⟨λb o e n hb hx=>?_,λb o e n hb hx=>?_,I.base.free,λb o e hx=>?_,I.base.tups,I.base.frzs,I.base.tbls⟩,⟨_,hn',λj y v' e1 e2 e3=>?_⟩,λy c e=>?_,I.free,I.freeC,λp hp=>?_,tracked ⟨oL,hoL,I.free⟩ hs,by simpa using I.len⟩ ⟨_,hs,.inl rfl⟩
  ·exact(hs.2 b (Zs (Zr (Sc e) I.ok.above))).trans (I.base.keep b o e n hb hx)
  ·obtain⟨sl,e1⟩:=I.base.slot b o e n hb hx
   exact⟨sl,(hs.2 b (Zs (Zr (Sc e) I.ok.above))).trans e1⟩
  ·obtain⟨o',e1⟩:=I.base.there b o e hx
   exact⟨o',(hs.2 b (Zs (Zr (Sc e) I.ok.above))).trans e1⟩
  ·by_cases hj:j=i
   ·subst hj
    rw [hi] at e1; cases e1
    rw [eL hiσ] at e2
    cases e2
    exact⟨u,r,.inl ⟨hk,by simp⟩⟩
   ·rw [cx (bL hj)] at e2
    obtain⟨u',r',q⟩:=hl j y v' e1 e2 e3
    refine⟨u',r',?_⟩
    rcases q with ⟨k,e⟩ | ⟨k,c,e,z⟩
    ·refine .inl ⟨k,?_⟩
     have:y≠x:=λe=>hj (Ho hN e1 (e▸hi))
     simp [this,e]
    ·exact .inr ⟨k,c,e,z.sameBut hs (cne y c e)⟩
  ·obtain⟨w',z⟩:=I.cell y c e
   exact⟨w',z.sameBut hs (cne y c e)⟩
  ·obtain⟨e,n,ne,nf,d⟩:=I.pin p hp
   exact⟨(hs.2 p.1 ne).trans e,n,ne,nf,d⟩
 ·have hfn:X.fn x=true:=by
   rcases hf with z | z
   ·exact z
   ·rw [z] at hk; cases hk
  obtain⟨c,hc⟩:=I.ok.has x (.inl hk)
  obtain⟨w',z⟩:=I.cell x c hc
  refine wpAny_storeName_cell I.ok.kind hk hc z (λh' hc' hs=>?_)
  obtain⟨oc,hoc,hocd⟩:=id z
  refine h { s with heap:=h' } ⟨I.ok,I.os,I.bare,⟨λb o e n hb hx=>?_,λb o e n hb hx=>?_,I.base.free,λb o e hx=>?_,I.base.tups,I.base.frzs,I.base.tbls⟩,⟨m,hn.sameBut hs (bL (cne x c hc)),λj y v' e1 e2 e3=>?_⟩,λy c' e=>?_,I.free,I.freeC,λp hp=>?_,tracked ⟨oc,hoc,I.freeC x c hc⟩ hs,by simpa using I.len⟩ ⟨c,hs,.inr hc⟩
  ·exact(hs.2 b (Zs (Zr (Sc e) (I.ok.cab x c hfn hc)))).trans (I.base.keep b o e n hb hx)
  ·obtain⟨sl,e1⟩:=I.base.slot b o e n hb hx
   exact⟨sl,(hs.2 b (Zs (Zr (Sc e) (I.ok.cab x c hfn hc)))).trans e1⟩
  ·obtain⟨o',e1⟩:=I.base.there b o e hx
   exact⟨o',(hs.2 b (Zs (Zr (Sc e) (I.ok.cab x c hfn hc)))).trans e1⟩
  ·by_cases hj:j=i
   ·subst hj
    rw [hi] at e1; cases e1
    rw [eL hiσ] at e2
    cases e2
    exact⟨u,r,.inr ⟨.inl hk,c,hc,hc'⟩⟩
   ·rw [cx (bL hj)] at e2
    obtain⟨u',r',q⟩:=hl j y v' e1 e2 e3
    refine⟨u',r',?_⟩
    rcases q with q | ⟨k,c',e,z'⟩
    ·exact .inl q
    ·refine .inr ⟨k,c',e,z'.sameBut hs ?_⟩
     rintro rfl
     exact hj (Ho hN e1 (I.ok.inj _ _ _ e hc▸hi))
  ·by_cases hcc:c'=c
   ·subst hcc; exact⟨_,hc'⟩
   ·obtain⟨w2,z2⟩:=I.cell y c' e
    exact⟨w2,z2.sameBut hs hcc⟩
  ·obtain⟨e,n,ne,nf,d⟩:=I.pin p hp
   refine⟨(hs.2 p.1 ?_).trans e,n,ne,nf,d⟩
   intro q
   rw [q,hoc] at e
   have q':oc=p.2:=T0 e
   exact d w' (by rw [← q']; exact hocd)
theorem FZ{M:Model}{A:Around}{E:Value->Shared->Prop}{i:Nat}{x:Str}{v:V}{u:Value}{Q:Unit->Shared->Prop}(I:Inv X pins σ H s)(hN:X.N.Nodup)(hi:X.N[i]?=some x)(hx:Loc X.env.scope x)(r:RelV v u)
  (h:∀s',Inv X pins (σ.set i (some v)) H s'->Q () s') (hf:autoParam (X.fn x=true\/X.env.scope.names.lookup x=some .local) zau0._auto_1):wpAny M A (storeName X.env x u) Q E s :=
 Iu I hN hi hx r (λs' I' _=>h s' I') hf
theorem Inv.call'{s':Shared}{ch:List Addr}(I:Inv X pins σ H s)(ho:s'.os=s.os)(u:Un (KP X.stack) ch H H' s.heap s'.heap)(hok:HOk X.prog X.w H' s'.heap)(hg:AllBare s'.gens)
  (hch:∀b∈ch,(b∈X.ex\/X.s₀.heap.objs.size<=b)/\b≠X.env.locals/\(∀x c,X.env.cells.lookup x=some c->c≠b)/\∀p∈X.pn++pins,p.1≠b):Inv X pins σ H' s':=by
 obtain⟨h',g',d',t',o'⟩:=s'
 have e:o'=s.os:=ho
 subst e
 exact I.call (g':=g') (t':=t') (d':=d') u hok hg hch
end
noncomputable abbrev XK:=Value->Option Addr->Hp->Prop
noncomputable abbrev St:=List (Option V)
noncomputable abbrev VK:=V->Hp->Prop
noncomputable abbrev TE:=St->Hp->VK->Prop
noncomputable abbrev TT:=St->Hp->(Bool->Hp->Prop)->Prop
noncomputable abbrev TA:=St->Hp->(List V->Hp->Prop)->Prop
structure Ends where
 nx:St->Hp->Prop
 rt:VK
 bk:St->Hp->Prop:=λ_ _=>False
 ct:St->Hp->Prop:=λ_ _=>False
noncomputable abbrev TS:=Ends->St->Hp->Prop
noncomputable def EP(X:Cx)(pins:List (Addr×Obj))(σ:St)(Q:VK)(u:Value)(s':Shared):Prop:=∃v H',Inv X pins σ H' s'/\RelV v u/\Q v H'
noncomputable def TP(X:Cx)(pins:List (Addr×Obj))(σ:St)(Q:Bool->Hp->Prop)(b:Bool)(s':Shared):Prop:=∃H',Inv X pins σ H' s'/\Q b H'
noncomputable def AP(X:Cx)(pins:List (Addr×Obj))(σ:St)(Q:List V->Hp->Prop)(us:List Value)(s':Shared):Prop:=∃vs H',Inv X pins σ H' s'/\Vals vs us/\Q vs H'
noncomputable def SP(X:Cx)(pins:List (Addr×Obj))(D:Ends)(f:Flow)(s':Shared):Prop :=
 match f with
 | .next=>∃σ' H',Inv X pins σ' H' s'/\D.nx σ' H'
 | .brk=>∃σ' H',Inv X pins σ' H' s'/\D.bk σ' H'
 | .cont=>∃σ' H',Inv X pins σ' H' s'/\D.ct σ' H'
 | .ret u=>∃v σ' H',Inv X pins σ' H' s'/\RelV v u/\D.rt v H'
noncomputable def PE(X:Cx)(e:Expr)(t:TE):Prop :=
 ∀(pins:List (Addr×Obj)) (s:Shared) (σ:St) (H:Hp) (Q:VK),Inv X pins σ H s->t σ H Q->wpAny (model X.prog X.w) X.A (eval e X.env) (EP X pins σ Q) X.xe s
noncomputable def PT(X:Cx)(e:Expr)(t:TT):Prop :=
 ∀(pins:List (Addr×Obj)) (s:Shared) (σ:St) (H:Hp) (Q:Bool->Hp->Prop),Inv X pins σ H s->t σ H Q->wpAny (model X.prog X.w) X.A (isTrue e X.env (eval e X.env)) (TP X pins σ Q) X.xe s
noncomputable def PW(X:Cx)(e:Expr)(t:TT):Prop :=
 ∀(whole:Sem Value) (pins:List (Addr×Obj)) (s:Shared) (σ:St) (H:Hp) (Q:Bool->Hp->Prop),Inv X pins σ H s->t σ H Q->wpAny (model X.prog X.w) X.A (isTrue e X.env whole) (TP X pins σ Q) X.xe s
theorem PW.pt{X:Cx}{e:Expr}{t:TT}(h:PW X e t):PT X e t:=h _
noncomputable def PA(X:Cx)(es:List Expr)(t:TA):Prop :=
 ∀(pos:Pos) (pins:List (Addr×Obj)) (s:Shared) (σ:St) (H:Hp) (Q:List V->Hp->Prop),Inv X pins σ H s->t σ H Q->wpAny (model X.prog X.w) X.A (spliced (backTo pos (starEach es X.env))) (AP X pins σ Q) X.xe s
noncomputable def PS(X:Cx)(st:Stmt)(t:TS):Prop :=
 ∀(pins:List (Addr×Obj)) (s:Shared) (σ:St) (H:Hp) (D:Ends),Inv X pins σ H s->t D σ H->wpAny (model X.prog X.w) X.A (exec st X.env) (SP X pins D) X.xe s
noncomputable def PSs(X:Cx)(st:List Stmt)(t:TS):Prop :=
 ∀(pins:List (Addr×Obj)) (s:Shared) (σ:St) (H:Hp) (D:Ends),Inv X pins σ H s->t D σ H->wpAny (model X.prog X.w) X.A (execs st X.env) (SP X pins D) X.xe s
theorem BB{α:Type}{t:Sem α}{Q Q':α->Shared->Prop}{M:Model}{A:Around}{E:Value->Shared->Prop}{s:Shared}(h:wpAny M A t Q E s)(hQ:∀a s,Q a s->Q' a s):wpAny M A t Q' E s:=Z6 h hQ λ_ _ x=>x
section
variable {X:Cx}
noncomputable def Bl(i:Nat):TE:=λσ H Q=>∃v,σ[i]?=some (some v)/\Q v H
noncomputable def tC(v:V):TE:=λ_ H Q=>Q v H
theorem D_{i:Nat}{x:Str}{pos:Pos}(hN:X.N[i]?=some x)(hv:SJ X.env.scope x)(hd:autoParam ((x==("__debug__" : Str))=false) zau1._auto_1)(hcd:autoParam ((x==("__classdict__" : Str))=false) zau1._auto_1):PE X (.Name x pos) (Bl i):=by
 intro pins s σ H Q I h
 obtain⟨v,e,h⟩:=h
 obtain⟨m,hn,hl⟩:=I.loc
 obtain⟨u,r,l⟩:=hl i x v hN e hv
 have fin:EP X pins σ Q u s:=⟨v,H,I,r,h⟩
 rcases l with ⟨hk,hm⟩ | ⟨hk,c,hc,hcell⟩
 ·exact wpAny_Name (wpAny_loadName_local I.ok.kind hk hn hm fin) hd
 ·rcases hk with hk | hk
  ·exact wpAny_Name (wpAny_loadName_cell I.ok.kind hk hc hcell fin) hd
  ·exact wpAny_Name (wpAny_loadName_free I.ok.kind hk hc hcell fin hcd) hd
theorem Au{i j pos}:PE X (.Constant (.int i) j pos) (tC (.int i)):=λ_ _ _ H _ I h=>wpAny_Constant_int ⟨.int i,H,I.tok _,⟨_,rfl⟩,h⟩
theorem Xi{b j pos}:PE X (.Constant (.bool b) j pos) (tC (.bl b)):=λ_ _ _ H _ I h=>Constant_bool ⟨.bl b,H,I,rfl,h⟩
theorem Vd{j pos}:PE X (.Constant .none j pos) (tC .non):=λ_ _ _ H _ I h=>Constant_none ⟨.non,H,I,rfl,h⟩
theorem Jv{x j pos}:PE X (.Constant (.str x) j pos) (tC (.str x)):=λ_ _ _ H _ I h=>Calls.Constant_str ⟨.str x,H,I.tok _,⟨_,rfl⟩,h⟩
noncomputable def Gl(X:Cx)(x:Str):Prop:=X.env.kindOf x=some .globalImplicit
theorem Df{E:Value->Shared->Prop}{pins:List (Addr×Obj)}{s:Shared}{σ:St}{H:Hp}{x:Str}{u:Value}{pos:Pos}{Q:Value->Shared->Prop}(I:Inv X pins σ H s)(hg:Gl X x)(hm:X.mg x=some u)(h:Q u s)
  (hd:autoParam ((x==("__debug__" : Str))=false) zau1._auto_1):wpAny (model X.prog X.w) X.A (eval (.Name x pos) X.env) Q E s :=
 dS I.ok.kind hg (Calls.loadGlobal_global (by rw [I.ok.glob]; exact I.mod.glob.keeps I.bk) hm h) hd
theorem GH{E:Value->Shared->Prop}{pins:List (Addr×Obj)}{s:Shared}{σ:St}{H:Hp}{x:Str}{u:Value}{pos:Pos}{Q:Value->Shared->Prop}(I:Inv X pins σ H s)(hg:Gl X x)(hm:X.mg x=none)(hv:bootBuiltins x=some u)(h:Q u s)
  (hn:autoParam (x ≠ "__name__") zau1._auto_1) (hd:autoParam ((x==("__debug__" : Str))=false) zau1._auto_1):wpAny (model X.prog X.w) X.A (eval (.Name x pos) X.env) Q E s:=by
 obtain⟨mb,h1,h2⟩:=I.mod.blt
 exact dS I.ok.kind hg (Calls.loadGlobal_builtin (by rw [I.ok.glob]; exact I.mod.glob.keeps I.bk) hm (by rw [I.ok.blt]; exact h1.keeps I.bk) ((h2 x hn).trans hv) h) hd
theorem Jw{x:Str}{v:V}{u:Value}{pos:Pos}(hg:Gl X x)(hm:X.mg x=some u)(r:RelV v u)(hd:autoParam ((x==("__debug__" : Str))=false) zau1._auto_1):PE X (.Name x pos) (tC v) :=
 λ_ _ _ H _ I h=>Df I hg hm ⟨v,H,I,r,h⟩ hd
theorem Nf{x:Str}{v:V}{u:Value}{pos:Pos}(hg:Gl X x)(hm:X.mg x=none)(hv:bootBuiltins x=some u)(r:RelV v u)(hn:autoParam (x ≠ "__name__") zau1._auto_1)(hd:autoParam ((x==("__debug__" : Str))=false) zau1._auto_1):PE X (.Name x pos) (tC v) :=
 λ_ _ _ H _ I h=>GH I hg hm hv ⟨v,H,I,r,h⟩ hn hd
variable {a b:Expr}{ta tb:TE}{pos:Pos}
noncomputable def tB(t:TE):TT:=λσ H Q=>t σ H λx H1=>∃c,x=.bl c/\Q c H1
theorem VU{e:Expr}{t:TE}(h:PE X e t)(he:autoParam (∀whole,isTrue e X.env whole=(do let v ← whole; standAt e.pos; holding [v] (truthy v))) zau2._auto_1):PT X e (tB t):=by
 intro pins s σ H Q I hw
 refine isTrue_plain (BB (h pins s σ H _ I hw) λv s1 ⟨x,H1,I1,r1,q1⟩=>?_) (he _)
 obtain⟨d,rfl,q⟩:=q1
 cases r1
 exact aP ⟨H1,I1,q⟩
variable {tA tB':TT}{rest:List Expr}
noncomputable def W_(t u:TT):TT:=λσ H Q=>t σ H λc H1=>if c=true then u σ H1 Q else Q false H1
noncomputable def ZV(t u:TT):TT:=λσ H Q=>t σ H λc H1=>if c=true then Q true H1 else u σ H1 Q
noncomputable def Yn(t:TT):TT:=λσ H Q=>t σ H λc H1=>Q (!c) H1
theorem NW(ha:PT X a tA):PW X (.BoolOp .And [a] pos) tA:=by
 intro wh pins s σ H Q I h
 refine isTrue_and (BB (ha pins s σ H Q I h) λc s1 e=>?_)
 cases c with
 | true=>exact isTrue_and_nil e
 | false=>exact e
theorem VT(ha:PT X a tA):PW X (.BoolOp .Or [a] pos) tA:=by
 intro wh pins s σ H Q I h
 refine isTrue_or (BB (ha pins s σ H Q I h) λc s1 e=>?_)
 cases c with
 | false=>exact isTrue_or_nil e
 | true=>exact e
theorem Qb(ha:PT X a tA)(hb:PW X (.BoolOp .And (b::rest) pos) tB'):PW X (.BoolOp .And (a::b::rest) pos) (W_ tA tB'):=by
 intro wh pins s σ H Q I h
 refine isTrue_and (BB (ha pins s σ H _ I h) λc s1 ⟨H1,I1,q1⟩=>?_)
 cases c with
 | true=>exact hb wh pins s1 σ H1 Q I1 q1
 | false=>exact⟨H1,I1,q1⟩
theorem Xc(ha:PT X a tA)(hb:PW X (.BoolOp .Or (b::rest) pos) tB'):PW X (.BoolOp .Or (a::b::rest) pos) (ZV tA tB'):=by
 intro wh pins s σ H Q I h
 refine isTrue_or (BB (ha pins s σ H _ I h) λc s1 ⟨H1,I1,q1⟩=>?_)
 cases c with
 | true=>exact⟨H1,I1,q1⟩
 | false=>exact hb wh pins s1 σ H1 Q I1 q1
theorem VW(ha:PT X a tA):PT X (.UnaryOp .Not a pos) (Yn tA):=by
 intro pins s σ H Q I h
 exact isTrue_not (ha pins s σ H (λc H1=>Q (!c) H1) I h)
noncomputable def W9(ta tb:TE):TE:=λσ H Q=>ta σ H λx H1=>∃c,x=.bl c/\if c=true then tb σ H1 Q else Q (.bl false) H1
noncomputable def Ym(ta tb:TE):TE:=λσ H Q=>ta σ H λx H1=>∃c,x=.bl c/\if c=true then Q (.bl true) H1 else tb σ H1 Q
noncomputable def W3(ta:TE):TE:=λσ H Q=>ta σ H λx H1=>∃c,x=.bl c/\Q (.bl (!c)) H1
theorem Vb{op}{t:TE}(h:PE X a t):PE X (.BoolOp op [a] pos) t:=λpins s σ H Q I hw=>BoolOp_one (h pins s σ H Q I hw)
theorem Ve(ha:PE X a ta)(hb:PE X (.BoolOp .And (b::rest) pos) tb):PE X (.BoolOp .And (a::b::rest) pos) (W9 ta tb):=by
 intro pins s σ H Q I h
 refine BoolOp_and (BB (ha pins s σ H _ I h) λv s1 ⟨x,H1,I1,r1,q1⟩=>?_)
 obtain⟨c,rfl,q1⟩:=q1
 cases r1
 refine aP ?_
 cases c with
 | true=>exact hb pins s1 σ H1 Q I1 q1
 | false=>exact⟨.bl false,H1,I1,rfl,q1⟩
theorem Xh(ha:PE X a ta)(hb:PE X (.BoolOp .Or (b::rest) pos) tb):PE X (.BoolOp .Or (a::b::rest) pos) (Ym ta tb):=by
 intro pins s σ H Q I h
 refine BoolOp_or (BB (ha pins s σ H _ I h) λv s1 ⟨x,H1,I1,r1,q1⟩=>?_)
 obtain⟨c,rfl,q1⟩:=q1
 cases r1
 refine aP ?_
 cases c with
 | false=>exact hb pins s1 σ H1 Q I1 q1
 | true=>exact⟨.bl true,H1,I1,rfl,q1⟩
theorem Vc(ha:PE X a ta):PE X (.UnaryOp .Not a pos) (W3 ta):=by
 intro pins s σ H Q I h
 refine UnaryOp_ (BB (ha pins s σ H _ I h) λv s1 ⟨x,H1,I1,r1,q1⟩=>?_)
 obtain⟨c,rfl,q1⟩:=q1
 cases r1
 exact not_of (aP ⟨.bl (!c),H1,I1,rfl,q1⟩)
noncomputable def ZW(t:TT)(ta tb:TE):TE:=λσ H Q=>t σ H λc H1=>if c=true then ta σ H1 Q else tb σ H1 Q
theorem LM{c:Expr}(hc:PT X c tA)(ha:PE X a ta)(hb:PE X b tb):PE X (.IfExp c a b pos) (ZW tA ta tb):=by
 intro pins s σ H Q I h
 refine wpAny_IfExp (BB (hc pins s σ H _ I h) λd s1 ⟨H1,I1,q1⟩=>?_)
 cases d with
 | true=>exact ha pins s1 σ H1 Q I1 q1
 | false=>exact hb pins s1 σ H1 Q I1 q1
end
noncomputable def SqL(K:Frag)(H:Hp)(a:Addr)(xs:List V):Prop :=
 Rd H a (.lst xs) \/
  ∃(o:Obj) (its:Array Value) (n:Nat),K.lookup a=some o/\o.cls=.type "list"/\o.dict=none/\o.data=.seq its n/\its.size<=sizeLine/\Vals xs its.toList
noncomputable def SqT(K:Frag)(H:Hp)(a:Addr)(xs:List V):Prop :=
 Rd H a (.tup xs) \/
  ∃(o:Obj) (its:Array Value) (n:Nat),K.lookup a=some o/\o.cls=.type "tuple"/\o.data=.seq its n/\its.size<=sizeLine/\Vals xs its.toList
noncomputable def Y4:Value->Option V
 | .none=>some .non
 | .bool b=>some (.bl b)
 | .int i _=>some (.int i)
 | .str x _=>some (.str x)
 | .bytes b _=>some (.byt b)
 | .float b _=>some (.flt b)
 | .ref a=>some (.ref a)
 | .type n=>some (.ty n)
 | _=>none
theorem RelV.abs{x:V}{u:Value}(r:RelV x u):Y4 u=some x:=by
 cases x with
 | non=>cases r; rfl
 | bl _=>cases r; rfl
 | int _=>obtain⟨t,rfl⟩:=r; rfl
 | str _=>obtain⟨t,rfl⟩:=r; rfl
 | byt _=>obtain⟨t,rfl⟩:=r; rfl
 | flt _=>obtain⟨t,rfl⟩:=r; rfl
 | ref _=>cases r; rfl
 | ty _=>cases r; rfl
theorem RelV.inj{x y:V}{u:Value}(r:RelV x u)(q:RelV y u):x=y:=T0 (r.abs.symm.trans q.abs)
theorem Vals.inj:∀{xs ys:List V} {us:List Value},Vals xs us->Vals ys us->xs=ys
 | _,_,_,.nil,.nil=>rfl
 | _,_,_,.cons r t,.cons r' t'=>by rw [r.inj r',Vals.inj t t']
section
variable {X:Cx}{pins:List (Addr×Obj)}{σ:St}{H:Hp}{s:Shared}{a:Addr}{xs ys:List V}
theorem SqL.of{K:Frag}(h:H a=some (.lst xs)):SqL K H a xs:=.inl (.inl h)
theorem SqT.of{K:Frag}(h:H a=some (.tup xs)):SqT K H a xs:=.inl (.inl h)
theorem Inv.list(I:Inv X pins σ H s)(h:SqL X.K H a xs):∃its:List Value,Vals xs its/\PlainL s.heap a its.toArray/\xs.length<=sizeLine:=by
 rcases h with h | ⟨o,its,n,hk,hc,hd,hs,hz,r⟩
 ·obtain⟨z,its,n,r,e⟩:=h.ok I.hok
  exact⟨its,r,⟨_,n,e,rfl,rfl,rfl⟩,z⟩
 ·refine⟨its.toList,r,⟨o,n,I.kIn a o hk,hc,hd,by simpa using hs⟩,?_⟩
  have e:=r.length
  simp only [Z8] at e
  omega
theorem Inv.tuple(I:Inv X pins σ H s)(h:SqT X.K H a xs):∃its:List Value,Vals xs its/\IsTup s.heap a its.toArray/\xs.length<=sizeLine:=by
 rcases h with h | ⟨o,its,n,hk,hc,hs,hz,r⟩
 ·obtain⟨z,its,r,p⟩:=h.ok I.hok
  exact⟨its,r,p.tup,z⟩
 ·refine⟨its.toList,r,⟨o,I.kIn a o hk,hc,n,by simpa using hs⟩,?_⟩
  have e:=r.length
  simp only [Z8] at e
  omega
theorem Inv.list_inj(I:Inv X pins σ H s)(h:SqL X.K H a xs)(h':SqL X.K H a ys):xs=ys:=by
 obtain⟨its,r,⟨o,n,e,_,_,d⟩,_⟩:=I.list h
 obtain⟨its',r',⟨o',n',e',_,_,d'⟩,_⟩:=I.list h'
 rw [e] at e'; cases e'
 rw [d] at d'
 injection d' with d1 _
 have:its=its':=by simpa using congrArg Array.toList d1
 subst this
 exact r.inj r'
theorem Inv.tuple_inj(I:Inv X pins σ H s)(h:SqT X.K H a xs)(h':SqT X.K H a ys):xs=ys:=by
 obtain⟨its,r,⟨o,e,_,n,d⟩,_⟩:=I.tuple h
 obtain⟨its',r',⟨o',e',_,n',d'⟩,_⟩:=I.tuple h'
 rw [e] at e'; cases e'
 rw [d] at d'
 injection d' with d1 _
 have:its=its':=by simpa using congrArg Array.toList d1
 subst this
 exact r.inj r'
end
noncomputable abbrev Cx.wish(X:Cx)(E:Value->Shared->Prop):Cx:={ X with xe:=E }
noncomputable abbrev Cx.nox(X:Cx):Cx:=X.wish λ_ _=>False
theorem Cx.Ok.wish{X:Cx}(ok:X.Ok)(E:Value->Shared->Prop):(X.wish E).Ok :=
 ⟨ok.mod,ok.kind,ok.glob,ok.blt,ok.above,ok.inj,ok.has,ok.cab,ok.hd,ok.frames,ok.stk,ok.exf,ok.bs,ok.bsz,ok.noex,ok.exfs,ok.funs,ok.frf⟩
theorem Cx.Ok.unwish{X:Cx}{E:Value->Shared->Prop}(ok:(X.wish E).Ok):X.Ok :=
 ⟨ok.mod,ok.kind,ok.glob,ok.blt,ok.above,ok.inj,ok.has,ok.cab,ok.hd,ok.frames,ok.stk,ok.exf,ok.bs,ok.bsz,ok.noex,ok.exfs,ok.funs,ok.frf⟩
section
variable {X:Cx}{pins:List (Addr×Obj)}{σ:St}{H:Hp}{s:Shared}{E:Value->Shared->Prop}
theorem Inv.wish(I:Inv X pins σ H s)(E:Value->Shared->Prop):Inv (X.wish E) pins σ H s:=⟨I.ok.wish E,I.os,I.bare,I.base,I.loc,I.cell,I.free,I.freeC,I.pin,I.hok,I.len⟩
theorem Inv.unwish(I:Inv (X.wish E) pins σ H s):Inv X pins σ H s:=⟨I.ok.unwish,I.os,I.bare,I.base,I.loc,I.cell,I.free,I.freeC,I.pin,I.hok,I.len⟩
theorem SP.unwish{D:Ends}{f:Flow}{s':Shared}(h:SP (X.wish E) pins D f s'):SP X pins D f s':=by
 cases f with
 | next=>obtain⟨σ',H',I,q⟩:=h; exact⟨σ',H',I.unwish,q⟩
 | brk=>obtain⟨σ',H',I,q⟩:=h; exact⟨σ',H',I.unwish,q⟩
 | cont=>obtain⟨σ',H',I,q⟩:=h; exact⟨σ',H',I.unwish,q⟩
 | ret u=>obtain⟨v,σ',H',I,r,q⟩:=h; exact⟨v,σ',H',I.unwish,r,q⟩
theorem PSs.nox{st:List Stmt}{t:TS}(h:PSs X.nox st t):PSs X st t:=λpins s σ H D I hw =>
 Z6 (h pins s σ H D (I.wish _) hw) (λ_ _ q=>q.unwish) λ_ _ z=>am z
end
section
variable {X:Cx}{st:Stmt}{rest:List Stmt}{t u:TS}{e:Expr}{te:TE}{pos:Pos}
noncomputable def UP:TS:=λD σ H=>D.nx σ H
noncomputable def Ob(t u:TS):TS:=λD σ H=>t { D with nx:=u D } σ H
theorem Ju:PSs X [] UP:=λ_ _ σ H _ I h=>cD ⟨σ,H,I,h⟩
theorem BK(h1:PS X st t)(h2:PSs X rest u):PSs X (st::rest) (Ob t u):=by
 intro pins s σ H D I h
 refine dk (BB (h1 pins s σ H { D with nx:=u D } I h) λf s1 q=>?_)
 cases f with
 | next =>
  obtain⟨σ',H',I',q⟩:=q
  exact h2 pins s1 σ' H' D I' q
 | ret v=>exact q
 | brk=>exact q
 | cont=>exact q
theorem Ct(h1:PS X st t):PSs X [st] t:=by
 intro pins s σ H D I h
 refine dk (BB (h1 pins s σ H D I h) λf s1 q=>?_)
 cases f with
 | next=>exact cD q
 | ret v=>exact q
 | brk=>exact q
 | cont=>exact q
theorem Inv.quiet{pins:List (Addr×Obj)}{σ:St}{H:Hp}{s:Shared}(I:Inv X pins σ H s):interactive X.env=false:=by simp [interactive,I.ok.kind]
noncomputable def W6(te:TE):TS:=λD σ H=>te σ H λ_ H1=>D.nx σ H1
theorem Sn(he:PE X e te)(hs:autoParam (swapsWith e none pos.line X.env=pure false) zau3._auto_1):PS X (.Expr e pos) (W6 te):=by
 intro pins s σ H D I h
 exact wpAny_Expr_any (BB (he pins s σ H _ I h) λv s1 ⟨x,H1,I1,r1,q1⟩=>⟨σ,H1,I1,q1⟩) I.quiet hs
noncomputable def SY(te:TE):TS:=λD σ H=>te σ H D.rt
theorem GC(he:PE X e te):PS X (.Return (some e) pos) (SY te):=by
 intro pins s σ H D I h
 exact wpAny_Return_some (BB (he pins s σ H _ I h) λv s1 ⟨x,H1,I1,r1,q1⟩=>⟨x,σ,H1,I1,r1,q1⟩)
noncomputable def W4(c:TT)(t u:TS):TS:=λD σ H=>c σ H λb H1=>if b=true then t D σ H1 else u D σ H1
theorem NY{c:Expr}{a b:List Stmt}{tc:TT}(hc:PT X c tc)(ha:PSs X a t)(hb:PSs X b u):PS X (.If c a b pos) (W4 tc t u):=by
 intro pins s σ H D I h
 refine wpAny_If (BB (hc pins s σ H _ I h) λd s1 ⟨H1,I1,q1⟩=>?_)
 cases d with
 | true=>exact ha pins s1 σ H1 D I1 q1
 | false=>exact hb pins s1 σ H1 D I1 q1
end
noncomputable abbrev TG:=V->St->Hp->(St->Hp->Prop)->Prop
noncomputable abbrev WQ:=List V->St->Hp->(St->Hp->Prop)->Prop
noncomputable def PG(X:Cx)(target:Expr)(t:TG):Prop :=
 ∀(pins:List (Addr×Obj)) (s:Shared) (σ:St) (H:Hp) (v:V) (u:Value) (Q:St->Hp->Prop),Inv X pins σ H s->RelV v u->t v σ H Q ->
  wpAny (model X.prog X.w) X.A (assign target X.env u) (λ_ s'=>∃σ' H',Inv X pins σ' H' s'/\Q σ' H') X.xe s
noncomputable def YF(X:Cx)(ts:List Expr)(t:WQ):Prop :=
 ∀(pins:List (Addr×Obj)) (s:Shared) (σ:St) (H:Hp) (vs:List V) (us:List Value) (Q:St->Hp->Prop),Inv X pins σ H s->Vals vs us->t vs σ H Q ->
  wpAny (model X.prog X.w) X.A (assignInOrder ((assignEach ts X.env).map (·.2)) us) (λ_ s'=>∃σ' H',Inv X pins σ' H' s'/\Q σ' H') X.xe s
noncomputable abbrev WP:=V->V->V->Hp->(Hp->Prop)->Prop
noncomputable def YD(X:Cx)(t:WP):Prop :=
 ∀(pins:List (Addr×Obj)) (s:Shared) (σ:St) (H:Hp) (o i v:V) (ov iv u:Value) (Q:Hp->Prop),Inv X pins σ H s->RelV o ov->RelV i iv->RelV v u->t o i v H Q ->
  wpAny (model X.prog X.w) X.A (setItem ov iv u) (λ_ s'=>∃H',Inv X pins σ H' s'/\Q H') X.xe s
section
variable {X:Cx}{pos:Pos}
noncomputable def Gb(i:Nat):TG:=λv σ H Q=>Q (σ.set i (some v)) H
theorem Sy{i:Nat}{x:Str}(hN:X.N.Nodup)(hi:X.N[i]?=some x)(hx:Loc X.env.scope x)(hf:autoParam (X.fn x=true\/X.env.scope.names.lookup x=some .local) zau0._auto_1):PG X (.Name x pos) (Gb i):=by
 intro pins s σ H v u Q I r h
 exact wpAny_assign_Name (FZ I hN hi hx r (λs' I'=>⟨_,H,I',h⟩) hf)
noncomputable def Y0:WQ:=λvs σ H Q=>vs=[]/\Q σ H
noncomputable def Xy(t:TG)(u:WQ):WQ:=λvs σ H Q=>∃v r,vs=v::r/\t v σ H λσ' H'=>u r σ' H' Q
theorem Sx:YF X [] Y0:=by
 intro pins s σ H vs us Q I r h
 obtain⟨e,h⟩:=h
 subst e
 cases r
 exact assignInOrder_nil ⟨σ,H,I,h⟩
theorem Qk{e:Expr}{es:List Expr}{t:TG}{u:WQ}(h1:PG X e t)(h2:YF X es u)
  (hs:autoParam ((assignEach (e::es) X.env).map (·.2)=assign e X.env::(assignEach es X.env).map (·.2)) zau3._auto_1):YF X (e::es) (Xy t u):=by
 intro pins s σ H vs us Q I r h
 obtain⟨v,vr,e1,h⟩:=h
 subst e1
 cases r with
 | cons r rr =>
  rw [hs]
  refine assignInOrder_cons (BB (h1 pins s σ H _ _ _ I r h) λ_ s1 ⟨σ1,H1,I1,q1⟩=>?_)
  exact h2 pins s1 σ1 H1 _ _ Q I1 rr q1
noncomputable def Yz(K:Frag)(n:Nat)(t:WQ):TG:=λv σ H Q=>∃a xs,v=.ref a/\SqT K H a xs/\xs.length=n/\t xs σ H Q
theorem VZ{es:List Expr}{k:Nat}{t:WQ}{n:Nat}(hc:X.calm=true)(h:YF X es t)
  (hn:autoParam ((assignEach es X.env).length=n) zau3._auto_1) (hst:autoParam ((assignEach es X.env).findIdx? (·.1)=none) zau3._auto_1):PG X (.Tuple es k pos) (Yz X.K n t):=by
 intro pins s σ H v u Q I r hw
 obtain⟨a,xs,e1,hq,hl,hw⟩:=hw
 subst e1
 cases r
 obtain⟨its,rv,ht,hz⟩:=I.tuple hq
 refine assign_Tuple_tuple (I.ok.hd hc) ht (by simp [hn,← hl,rv.length]) hst λh' hx=>?_
 have I1:Inv X pins σ H { s with heap:=h' }:=I.kept (t':=s.toks) λb o e=>hx b o (Zs (Sc e)) e
 exact h pins _ σ H xs _ Q I1 (by simpa using rv) hw
noncomputable def Xx(to ti:TE)(t:WP):TG:=λv σ H Q=>to σ H λo H1=>ti σ H1 λi H2=>t o i v H2 λH3=>Q σ H3
theorem Mj{o i:Expr}{to ti:TE}{t:WP}(ho:PE X o to)(hi:PE X i ti)(hs:YD X t)
  (ha:autoParam (∀v,assign (.Subscript o i pos) X.env v=(do
   let ov ← holding [v] (eval o X.env)
   let iv ← holding [v,ov] (eval i X.env)
   standAt pos
   holding [v,ov,iv] (setItem ov iv v)
   release [v,ov,iv] [])) zau2._auto_1):PG X (.Subscript o i pos) (Xx to ti t):=by
 intro pins s σ H v u Q I r h
 rw [ha]
 refine Ch (aD (BB (ho pins s σ H _ I h) λov s1 ⟨x,H1,I1,r1,q1⟩=>?_))
 refine Ch (aD (BB (hi pins s1 σ H1 _ I1 q1) λiv s2 ⟨y,H2,I2,r2,q2⟩=>?_))
 refine Ch (be (Ch (aD (BB (hs pins s2 σ H2 x y v ov iv u _ I2 r1 r2 r q2) λ_ s3 ⟨H3,I3,q3⟩=>?_))))
 exact wpAny_release ⟨σ,H3,I3,q3⟩
noncomputable def K8(te:TE)(g:TG):TS:=λD σ H=>te σ H λx H1=>g x σ H1 D.nx
theorem Mf{tg e:Expr}{te:TE}{g:TG}(he:PE X e te)(hg:PG X tg g)(hs:autoParam (swapsWithSole [tg] e pos.line X.env=pure false) zau3._auto_1)(hw:autoParam (swappedStores [tg] e X.env=pure none) zau3._auto_1)
  (h1:autoParam ((assignEach [tg] X.env).map (·.2)=[assign tg X.env]) zau3._auto_1):PS X (.Assign [tg] e pos) (K8 te g):=by
 intro pins s σ H D I h
 refine wpAny_Assign_stores (BB (he pins s σ H _ I h) λv s1 ⟨x,H1,I1,r1,q1⟩=>?_) hs hw
 rw [h1]
 exact BB (hg pins s1 σ H1 x v _ I1 r1 q1) λ_ s2 q=>q
theorem FA{i:Nat}{x:Str}{e:Expr}{te:TE}{pos':Pos}(hN:X.N.Nodup)(hi:X.N[i]?=some x)(hx:Loc X.env.scope x)(he:PE X e te)(hs:autoParam (swapsWith e (some (.Name x pos')) pos.line X.env=pure false) zau3._auto_1)(hf:autoParam (X.fn x=true\/X.env.scope.names.lookup x=some .local) zau0._auto_1) :
  PS X (.Assign [.Name x pos'] e pos) (K8 te (Gb i)):=by
 intro pins s σ H D I h
 refine wpAny_Assign_Name (BB (he pins s σ H _ I h) λv s1 ⟨y,H1,I1,r1,q1⟩=>?_) hs
 exact FZ I1 hN hi hx r1 (λs2 I2=>⟨_,H1,I2,q1⟩) hf
end
section
variable {X:Cx}{pos:Pos}
end
structure It where
 go:Nat->Hp->Prop
 yld:Nat->Hp->V->Hp->Prop
 stop:Nat->Hp->Prop
noncomputable def FR(X:Cx)(pins:List (Addr×Obj))(H:Hp)(b:Addr):Prop :=
 H b=none/\b≠X.env.locals/\b∉X.fs/\(b∈X.ex\/X.s₀.heap.objs.size<=b)/\(∀x c,X.env.cells.lookup x=some c->c≠b)/\∀p∈X.pn++pins,p.1≠b
theorem Inv.fpOk{X:Cx}{pins:List (Addr×Obj)}{σ:St}{H H':Hp}{s:Shared}{b:Addr}(I:Inv X pins σ H s)(hb:s.heap.objs.size<=b)(hn:H' b=none):FR X pins H' b:=by
 refine⟨hn,cH (Zr I.lt hb),I.nofs hb,.inr (Zv I.sz hb),λx c e z=>?_,λp hp z=>?_⟩
 ·obtain⟨v,q⟩:=I.cell x c e
  exact absurd (Zr q.lt (by rw [z]; exact hb)) (aU _)
 ·exact absurd (Zr (Sc (I.pin p hp).1) (by rw [z]; exact hb)) (aU _)
structure Turn (P:Program) (w:World) (K:Frag) (tg:Expr) (J:It) (fp:List Addr) (it:Addr) (tn:Nat->Heap->Prop):Prop where
 mem:it∈fp
 obj:∀i h,tn i h->∀b∈fp,∃o,h.get? b=some o/\∀v,o.data≠.cell v
 keep:∀i h h',tn i h->(∀b∈fp,∀o,h.get? b=some o->h'.get? b=some o)->tn i h'
 item:∀(X:Cx),X.prog=P->X.w=w->X.K=K->X.calm=true->∀(i:Nat) (pins:List (Addr×Obj)) (s:Shared) (σ:St) (H:Hp) (E:Value->Shared->Prop),Inv X pins σ H s->(∀b∈fp,FR X pins H b)->tn i s.heap->J.go i H ->
  wpAny (model P w) X.A (pyNext (.ref it)) (λr s1=>∃u,r=some u /\
   wpAny (model P w) X.A (letOwnedTupleGo tg (.ref it) u) (λ_ s2=>∃x H',Inv X pins σ H' s2/\RelV x u/\J.yld i H x H'/\tn (i+1) s2.heap/\∀b∈fp,H' b=none) E s1) E s
 done:∀(X:Cx),X.prog=P->X.w=w->X.K=K->X.calm=true->∀(i:Nat) (pins:List (Addr×Obj)) (s:Shared) (σ:St) (H:Hp) (E:Value->Shared->Prop),Inv X pins σ H s->(∀b∈fp,FR X pins H b)->tn i s.heap->J.stop i H ->
  wpAny (model P w) X.A (pyNext (.ref it)) (λr s1=>r=none/\Inv X pins σ H s1) E s
 self:∀(A:Around) (i:Nat) (s:Shared) (Q:Value->Shared->Prop) (E:Value->Shared->Prop),tn i s.heap->Q (.ref it) s->wpAny (model P w) A (pyIter (.ref it)) Q E s
noncomputable abbrev TI:=St->Hp->(It->Hp->Prop)->Prop
noncomputable def ZM(X:Cx)(pins:List (Addr×Obj))(σ:St)(tg:Expr)(R:It->Hp->Prop)(itv:Value)(s2:Shared):Prop :=
 ∃(it:Addr) (fp:List Addr) (tn:Nat->Heap->Prop) (J:It) (H':Hp),itv=.ref it/\Inv X pins σ H' s2/\Turn X.prog X.w X.K tg J fp it tn/\tn 0 s2.heap/\(∀b∈fp,FR X pins H' b)/\R J H'
noncomputable def PI(X:Cx)(tg iter:Expr)(wi:TI):Prop :=
 ∀(pins:List (Addr×Obj)) (s:Shared) (σ:St) (H:Hp) (R:It->Hp->Prop),Inv X pins σ H s->wi σ H R ->
  wpAny (model X.prog X.w) X.A (eval iter X.env) (λv s1=>wpAny (model X.prog X.w) X.A (pyIter v) (ZM X pins σ tg R) X.xe s1) X.xe s
theorem Nx {M : Model} {A : Around} {E : Value → Shared → Prop} {s : Shared} {tg : Expr} {it : Addr} {u : Value} {o : Obj} {n : String} {vs : Array Value} {Q : Unit → Shared → Prop} (ho : s.heap.get? it = some o) (hc : o.cls = .type n) (hd : o.data = .fields vs)
    (hn : ["enumerate", "zip", "dict_itemiterator", "dict_reverseitemiterator", "odict_iterator", "itertools.zip_longest", "itertools.pairwise"].contains n = false) (hQ : Q () s) : wpAny M A (letOwnedTupleGo tg (.ref it) u) Q E s := by
  unfold letOwnedTupleGo
  cases tg <;> first
    | exact Db hQ
    | (cases u <;> first
        | exact Db hQ
        | (refine Ch (wpAny_load ho ?_)
           rw [hc, hd]
           show wpAny M A (if (["enumerate", "zip", "dict_itemiterator", "dict_reverseitemiterator", "odict_iterator", "itertools.zip_longest", "itertools.pairwise"].contains n && vs[0]? == some (rawInt _)) = true then _ else _) Q E s
           rw [if_neg (by intro h; rw [hn, bW] at h; cases h)]
           exact Db hQ))
noncomputable def ZP(K:Frag)(a:Addr):It :=
 ⟨λi H=>∃xs x,SqL K H a xs/\xs[i]?=some x,λi H x H'=>H'=H/\∀xs,SqL K H a xs->xs[i]?=some x,λi H=>∃xs,SqL K H a xs/\xs.length<=i⟩
noncomputable def Y_(K:Frag)(a:Addr):It :=
 ⟨λi H=>∃xs x,SqT K H a xs/\xs[i]?=some x,λi H x H'=>H'=H/\∀xs,SqT K H a xs->xs[i]?=some x,λi H=>∃xs,SqT K H a xs/\xs.length<=i⟩
noncomputable def YK(lo:Int)(n:Nat):It:=⟨λi _=>i<n,λi H x H'=>H'=H/\x=.int (lo+i),λi _=>n<=i⟩
theorem OW{P:Program}{w:World}{K:Frag}{tg:Expr}(a it:Addr):Turn P w K tg (ZP K a) [it] it (λi h=>h.IsListIter it a i) where
 mem:=by simp
 obj:=λi h st b hb=>by
  have e:b=it:=by simpa using hb
  subst e
  obtain⟨o,e,c,d⟩:=st
  exact⟨o,e,λv z=>by rw [d] at z; cases z⟩
 keep:=λi h h' st k=>st.at λo e=>k it (by simp) o e
 item:=by
  intro X hP hw hK hc i pins s σ H E I hf st hg
  subst hP hw hK
  obtain⟨xs,x,hq,hx⟩:=hg
  obtain⟨its,rv,p,hz⟩:=I.list hq
  obtain⟨u,hu,ru⟩:=rv.get hx
  obtain⟨f0,f1,f2,f3,f4,f5⟩:=hf it (by simp)
  refine wpAny_pyNext_list_item st p.isList (x:=u) (by simpa using hu) λh' st' sb=>?_
  have I1:Inv X pins σ H { s with heap:=h' }:=I.turned (t':=s.toks) (λb o hb e=>(sb.2 b hb).trans e) f0 f1 f3 f4 f5
  obtain⟨o,e,c,d⟩:=id st'
  exact⟨u,rfl,Nx (s:={ s with heap:=h' }) e c d (by decide) ⟨x,H,I1,ru,⟨rfl,λys hy=>by rw [I.list_inj hy hq]; exact hx⟩,st',λb hb=>(hf b hb).1⟩⟩
 done:=by
  intro X hP hw hK hc i pins s σ H E I hf st hg
  subst hP hw hK
  obtain⟨xs,hq,hx⟩:=hg
  obtain⟨its,rv,p,hz⟩:=I.list hq
  obtain⟨f0,f1,f2,f3,f4,f5⟩:=hf it (by simp)
  have hl:=rv.length
  exact wpAny_pyNext_list_end (I.ok.hd hc) st p.isList (by simp; omega) λh' eb=>⟨rfl,I.turned (t':=s.toks) (λb o hb e=>eb b o hb e) f0 f1 f3 f4 f5⟩
 self:=λ_ _ _ _ _ st h=>wpAny_pyIter_listiter st h
theorem MJ{P:Program}{w:World}{K:Frag}{tg:Expr}(a it:Addr):Turn P w K tg (Y_ K a) [it] it (λi h=>h.IsTupleIter it a i) where
 mem:=by simp
 obj:=λi h st b hb=>by
  have e:b=it:=by simpa using hb
  subst e
  obtain⟨o,e,c,d⟩:=st
  exact⟨o,e,λv z=>by rw [d] at z; cases z⟩
 keep:=λi h h' st k=>st.at λo e=>k it (by simp) o e
 item:=by
  intro X hP hw hK hc i pins s σ H E I hf st hg
  subst hP hw hK
  obtain⟨xs,x,hq,hx⟩:=hg
  obtain⟨its,rv,p,hz⟩:=I.tuple hq
  obtain⟨u,hu,ru⟩:=rv.get hx
  obtain⟨f0,f1,f2,f3,f4,f5⟩:=hf it (by simp)
  refine wpAny_pyNext_tuple_item st (show s.heap.IsTuple a its.toArray from p) (x:=u) (by simpa using hu) λh' st' sb=>?_
  have I1:Inv X pins σ H { s with heap:=h' }:=I.turned (t':=s.toks) (λb o hb e=>(sb.2 b hb).trans e) f0 f1 f3 f4 f5
  obtain⟨o,e,c,d⟩:=id st'
  exact⟨u,rfl,Nx (s:={ s with heap:=h' }) e c d (by decide) ⟨x,H,I1,ru,⟨rfl,λys hy=>by rw [I.tuple_inj hy hq]; exact hx⟩,st',λb hb=>(hf b hb).1⟩⟩
 done:=by
  intro X hP hw hK hc i pins s σ H E I hf st hg
  subst hP hw hK
  obtain⟨xs,hq,hx⟩:=hg
  obtain⟨its,rv,p,hz⟩:=I.tuple hq
  obtain⟨f0,f1,f2,f3,f4,f5⟩:=hf it (by simp)
  have hl:=rv.length
  exact wpAny_pyNext_tuple_end (I.ok.hd hc) st (show s.heap.IsTuple a its.toArray from p) (by simp; omega) λh' eb=>⟨rfl,I.turned (t':=s.toks) (λb o hb e=>eb b o hb e) f0 f1 f3 f4 f5⟩
 self:=λ_ _ _ _ _ st h=>wpAny_pyIter_tupleiter st h
theorem MK{P:Program}{w:World}{K:Frag}{tg:Expr}(it:Addr)(lo:Int)(n:Nat):Turn P w K tg (YK lo n) [it] it (λi h=>IsRangeIter h it (lo+(i:Nat)*1) ((n:Int) - (i:Nat)) 1) where
 mem:=by simp
 obj:=λi h st b hb=>by
  have e:b=it:=by simpa using hb
  subst e
  exact⟨_,st,λv z=>by
   have z':Data.fields _=Data.cell v:=z
   cases z'⟩
 keep:=λi h h' st k=>k it (by simp) _ st
 item:=by
  intro X hP hw hK hc i pins s σ H E I hf st hg
  subst hP hw hK
  obtain⟨f0,f1,f2,f3,f4,f5⟩:=hf it (by simp)
  have W:=Walks.range (prog:=X.prog) (w:=X.w) (I.ok.hd hc) it lo 1 n
  refine W.item i s _ _ hg st λv h' tk hv st' kk=>?_
  obtain⟨t,rfl⟩:=hv
  have I1:Inv X pins σ H { s with heap:=h',toks:=tk }:=I.turned (λb o hb e=>kk b o (by simpa using hb) e) f0 f1 f3 f4 f5
  refine⟨_,rfl,Nx (s:={ s with heap:=h',toks:=tk }) (n := "range_iterator") st' rfl rfl (by decide) ⟨.int (lo+i),H,I1,⟨t,?_⟩,⟨rfl,rfl⟩,st',λb hb=>(hf b hb).1⟩⟩
  rw [Int.mul_one]
 done:=by
  intro X hP hw hK hc i pins s σ H E I hf st hg
  subst hP hw hK
  obtain⟨f0,f1,f2,f3,f4,f5⟩:=hf it (by simp)
  exact wpAny_pyNext_range_end (I.ok.hd hc) st (by have:n<=i:=hg; omega) λh' eb=>⟨rfl,I.turned (t':=s.toks) (λb o hb e=>eb b o hb e) f0 f1 f3 f4 f5⟩
 self:=λ_ _ _ _ _ st h=>wpAny_pyIter_rangeiter st h
section
variable {X:Cx}{tg:Expr}
theorem LF{pins:List (Addr×Obj)}{σ:St}{H:Hp}{s:Shared}{R:It->Hp->Prop}{E:Value->Shared->Prop}{lo hi:Int}{t u v:Tok}{tk:Nat}(I:Inv X pins σ H s)(h1:-(2 ^ 62)<=lo)(h2:lo<2 ^ 62)(h3:-(2 ^ 62)<=hi)(h4:hi<2 ^ 62)
  (q:R (YK lo (hi - lo).toNat) H):wpAny (model X.prog X.w) X.A (pyIter (.ref s.heap.objs.size)) (ZM X pins σ tg R) E { s with heap:=s.heap.push { cls:=.type "range",data:=.fields #[.int lo t,.int hi u,.int 1 v] },toks:=tk }:=by
 refine wpAny_pyIter_range (IsRange.new ..) (small_one h1 h2 h3 h4) ?_
 have I1:Inv X pins σ H { s with heap:=s.heap.push { cls:=.type "range",data:=.fields #[.int lo t,.int hi u,.int 1 v] },toks:=tk }:=I.kept λb o e=>Ev _ e
 refine⟨(s.heap.push { cls:=.type "range",data:=.fields #[.int lo t,.int hi u,.int 1 v] }).objs.size,[(s.heap.push { cls:=.type "range",data:=.fields #[.int lo t,.int hi u,.int 1 v] }).objs.size],_,_,H,rfl,
  I1.kept (t':=tk) λb o e=>Ev _ e,MK _ lo (hi - lo).toNat,?_,λb hb=>?_,q⟩
 ·have e1:lo+((0:Nat):Int)*1=lo:=by simp
  have e2:(((hi - lo).toNat:Nat):Int) - ((0:Nat):Int)=Builtin.Range.rangeSize lo hi 1:=by rw [rangeSize_one]; split <;> omega
  show IsRangeIter _ _ (lo+((0:Nat):Int)*1) ((((hi - lo).toNat:Nat):Int) - ((0:Nat):Int)) 1
  rw [e1,e2]
  exact XV _ rfl
 ·have e:b=(s.heap.push { cls:=.type "range",data:=.fields #[.int lo t,.int hi u,.int 1 v] }).objs.size:=by simpa using hb
  subst e
  exact I1.fpOk (Go _) (I1.hok.fresh (Go _))
noncomputable def Xu(ta:TA):TI:=λσ H R=>ta σ H λvs H1=>∃j:Int,vs=[.int j]/\-(2 ^ 62)<=j/\j<2 ^ 62/\R (YK 0 j.toNat) H1
noncomputable def Xt(ta:TA):TI:=λσ H R=>ta σ H λvs H1=>∃i j:Int,vs=[.int i,.int j]/\(-(2 ^ 62)<=i/\i<2 ^ 62/\-(2 ^ 62)<=j/\j<2 ^ 62)/\R (YK i (j - i).toNat) H1
theorem Ox{a:Expr}{ta:TA}{p pos:Pos}(hg:Gl X "range")(hm:X.mg "range"=none)(ha:PA X [a] ta)(hs:autoParam (starEach [a] X.env=[(false,eval a X.env)]) zau3._auto_1):PI X tg (.Call (.Name "range" p) [a] [] pos) (Xu ta):=by
 intro pins s σ H R I h
 refine Call_ (GH I hg hm boot_range (bJ (BB (ha pos pins s σ H _ I h) λus s1 ⟨vs,H1,I1,r1,q1⟩=>?_) hs rfl))
 obtain⟨j,e,q1,q2,q⟩:=q1
 subst e
 cases r1 with
 | cons r rr =>
  cases rr
  obtain⟨t,rfl⟩:=r
  exact call_range_1 (LF I1 (by omega) (by omega) q1 q2 (by simpa using q))
theorem Ow{a b:Expr}{ta:TA}{p pos:Pos}(hg:Gl X "range")(hm:X.mg "range"=none)(ha:PA X [a,b] ta)(hs:autoParam (starEach [a,b] X.env=[(false,eval a X.env),(false,eval b X.env)]) zau3._auto_1)(hs2:autoParam (starEach [b] X.env=[(false,eval b X.env)]) zau3._auto_1) :
  PI X tg (.Call (.Name "range" p) [a,b] [] pos) (Xt ta):=by
 intro pins s σ H R I h
 refine Call_ (GH I hg hm boot_range (bJ (BB (ha pos pins s σ H _ I h) λus s1 ⟨vs,H1,I1,r1,q1⟩=>?_) (by rw [hs,hs2]) (by rw [hs2]; rfl)))
 obtain⟨i,j,e,⟨q1,q2,q3,q4⟩,q⟩:=q1
 subst e
 cases r1 with
 | cons r rr =>
  cases rr with
  | cons r' rr =>
   cases rr
   obtain⟨t,rfl⟩:=r
   obtain⟨t',rfl⟩:=r'
   exact call_range_2 (LF I1 q1 q2 q3 q4 q)
noncomputable def Yp(wi:TI)(g:TG)(tb:TS):TS:=λD σ H=>wi σ H λJ H1=>∃W:Nat->Nat->St->Hp->Prop,(∃m,W 0 m σ H1)/\∀i m σ H,W i m σ H ->
 (J.stop i H/\D.nx σ H)\/(J.go i H/\∃N:St->Hp->Prop,(∀σ' H',N σ' H'->∃m',m'<m/\W (i+1) m' σ' H')/\∀x H',J.yld i H x H'->g x σ H' λσ2 H2=>tb { D with nx:=N,ct:=N,bk:=D.nx } σ2 H2)
noncomputable def Hd(fp:List Addr)(h:Heap):List (Addr×Obj):=fp.filterMap λb=>(h.get? b).map λo=>(b,o)
theorem DZ{fp:List Addr}{h:Heap}{b:Addr}{o:Obj}(hb:b∈fp)(e:h.get? b=some o):(b,o)∈Hd fp h:=dL.mpr ⟨b,hb,by rw [e]; rfl⟩
theorem O3{fp:List Addr}{h:Heap}{p:Addr×Obj}(hp:p∈Hd fp h):p.1∈fp/\h.get? p.1=some p.2:=by
 obtain⟨b,hb,e⟩:=dL.mp hp
 cases q:h.get? b with
 | none=>rw [q] at e; cases e
 | some o =>
  rw [q] at e
  have e':(b,o)=p:=T0 e
  subst e'
  exact⟨hb,q⟩
theorem Inv.pinned{pins:List (Addr×Obj)}{σ:St}{H:Hp}{s:Shared}{fp:List Addr}(I:Inv X pins σ H s)(hf:∀b∈fp,FR X pins H b)(ho:∀b∈fp,∃o,s.heap.get? b=some o/\∀v,o.data≠.cell v):Inv X (pins++Hd fp s.heap) σ H s :=
 I.pins_of λp hp=>(Uf.mp hp).elim (λz=>I.pin p (Zz _ z)) λz=>by
  obtain⟨hb,e⟩:=O3 z
  obtain⟨f0,f1,f2,_⟩:=hf p.1 hb
  obtain⟨o,e',d⟩:=ho p.1 hb
  rw [e] at e'; cases e'
  exact⟨e,f0,f1,f2,d⟩
theorem Inv.unpinned{pins pl:List (Addr×Obj)}{σ:St}{H:Hp}{s:Shared}(I:Inv X (pins++pl) σ H s):Inv X pins σ H s:=I.pins_of λp hp=>I.pin p (Zz _ (bz _ hp))
theorem Me{iter:Expr}{body:List Stmt}{wi:TI}{g:TG}{tb:TS}{pos:Pos}(hp:PassesOwn (model X.prog X.w) X.A X.env X.xe)(hc:X.calm=true)(hi:PI X tg iter wi)(hg:PG X tg g)(hb:PSs X body tb)
  (hs:autoParam (∀x,foldedSetIterable iter X.env x=pure x) zau2._auto_1):PS X (.For tg iter body [] pos) (Yp wi g tb):=by
 intro pins s σ H D I h
 refine wpAny_For (BB (hi pins s σ H _ I h) λv s1 h1=>BB h1 λitv s2 h2=>?_) hs
 obtain⟨it,fp,tn,J,H2,e,I2,T,st2,f2,W,⟨m0,w0⟩,turn⟩:=h2
 subst e
 have stat:∀{H':Hp},(∀b∈fp,H' b=none)->∀b∈fp,FR X pins H' b:=λhn b hb=>⟨hn b hb,(f2 b hb).2⟩
 refine codeAny_forLoop_any (λn s'=>∃i σ' H',Inv X pins σ' H' s'/\tn i s'.heap/\(∀b∈fp,H' b=none)/\W i n σ' H') ?_ m0 ⟨0,σ,H2,I2,st2,λb hb=>(f2 b hb).1,w0⟩
 rintro n s3 ⟨i,σ3,H3,I3,st3,fr3,w3⟩
 rcases turn i n σ3 H3 w3 with ⟨stop,qn⟩ | ⟨go,N,hN,step⟩
 ·refine cE hp (BB (T.done X rfl rfl rfl hc i pins s3 σ3 H3 X.xe I3 (stat fr3) st3 stop) λr s4 ⟨hr,I4⟩=>?_)
  subst hr
  exact cD ⟨σ3,H3,I4,qn⟩
 ·refine cE hp (BB (T.item X rfl rfl rfl hc i pins s3 σ3 H3 X.xe I3 (stat fr3) st3 go) λr s4 ⟨u,hr,h4⟩=>?_)
  subst hr
  refine cE hp (BB h4 λ_ s5 ⟨x,H5,I5,r5,y5,st5,fr5⟩=>?_)
  have I5':=I5.pinned (stat fr5) (T.obj _ _ st5)
  refine cE hp (BB (hg _ s5 σ3 H5 x u _ I5' r5 (step x H5 y5)) λ_ s6 ⟨σ6,H6,I6,q6⟩=>?_)
  refine cE hp (BB (hb _ s6 σ6 H6 _ I6 q6) λf s7 q7=>?_)
  have again:∀{σ7:St} {H7:Hp},Inv X (pins++Hd fp s5.heap) σ7 H7 s7->N σ7 H7->∃m,m<n/\∃i σ' H',Inv X pins σ' H' s7/\tn i s7.heap/\(∀b∈fp,H' b=none)/\W i m σ' H':=λ{σ7 H7} I7 n7=>by
   obtain⟨m',hm,w7⟩:=hN σ7 H7 n7
   refine⟨m',hm,i+1,σ7,H7,I7.unpinned,T.keep _ _ _ st5 λb hb o e=>(I7.pin (b,o) (Zz _ (Zz _ (DZ hb e)))).1,λb hb=>?_,w7⟩
   obtain⟨o,e,d⟩:=T.obj _ _ st5 b hb
   exact(I7.pin (b,o) (Zz _ (Zz _ (DZ hb e)))).2.1
  cases f with
  | next=>obtain⟨σ7,H7,I7,n7⟩:=q7; exact again I7 n7
  | cont=>obtain⟨σ7,H7,I7,n7⟩:=q7; exact again I7 n7
  | brk=>obtain⟨σ7,H7,I7,q7⟩:=q7; exact⟨σ7,H7,I7.unpinned,q7⟩
  | ret v=>obtain⟨x7,σ7,H7,I7,r7,q7⟩:=q7; exact⟨x7,σ7,H7,I7.unpinned,r7,q7⟩
end
noncomputable abbrev R2:=V->V->Hp->VK->Prop
noncomputable def OpR(X:Cx)(f:Value->Value->Sem Value)(r:R2):Prop :=
 ∀(pins:List (Addr×Obj)) (s:Shared) (σ:St) (H:Hp) (x y:V) (v u:Value) (Q:VK),Inv X pins σ H s->RelV x v->RelV y u->r x y H Q ->
  wpAny (model X.prog X.w) X.A (f v u) (EP X pins σ Q) X.xe s
noncomputable def Y6(X:Cx)(f:Value->Sem Value)(r:V->Hp->VK->Prop):Prop :=
 ∀(pins:List (Addr×Obj)) (s:Shared) (σ:St) (H:Hp) (x:V) (v:Value) (Q:VK),Inv X pins σ H s->RelV x v->r x H Q ->
  wpAny (model X.prog X.w) X.A (f v) (EP X pins σ Q) X.xe s
noncomputable def B9(X:Cx)(f:Value)(r:List V->Hp->VK->Prop):Prop :=
 ∀(pins:List (Addr×Obj)) (s:Shared) (σ:St) (H:Hp) (xs:List V) (us:List Value) (Q:VK),Inv X pins σ H s->Vals xs us->r xs H Q ->
  wpAny (model X.prog X.w) X.A (call f us) (EP X pins σ Q) X.xe s
noncomputable def Y7(X:Cx)(r:V->Hp->(Bool->Hp->Prop)->Prop):Prop :=
 ∀(pins:List (Addr×Obj)) (s:Shared) (σ:St) (H:Hp) (x:V) (v:Value) (Q:Bool->Hp->Prop),Inv X pins σ H s->RelV x v->r x H Q ->
  wpAny (model X.prog X.w) X.A (truthy v) (TP X pins σ Q) X.xe s
noncomputable def Cz(r:R2)(ta tb:TE):TE:=λσ H Q=>ta σ H λx H1=>tb σ H1 λy H2=>r x y H2 Q
noncomputable def ZT(r:V->Hp->VK->Prop)(ta:TE):TE:=λσ H Q=>ta σ H λx H1=>r x H1 Q
noncomputable def rI(C:Int->Int->Prop)(g:Int->Int->V):R2:=λx y H Q=>∃i j,x=.int i/\y=.int j/\C i j/\Q (g i j) H
noncomputable def GV(g:Int->Int->V):R2:=λx y H Q=>∃i j,x=.int i/\y=.int j/\Q (g i j) H
noncomputable def rU(g:Int->V):V->Hp->VK->Prop:=λx H Q=>∃i,x=.int i/\Q (g i) H
section
variable {X:Cx}{a b c:Expr}{ta tb tc:TE}{pos:Pos}
theorem WF(ha:PE X a ta)(hb:PE X b tb){pins:List (Addr×Obj)}{s:Shared}{σ:St}{H:Hp}{R:V->V->Hp->Prop}(I:Inv X pins σ H s)
  (h:ta σ H λx H1=>tb σ H1 λy H2=>R x y H2) {Q:Value->Shared->Prop} {f:Value->Value->Sem Value}
  (hf:∀v u s2 x y H2,Inv X pins σ H2 s2->RelV x v->RelV y u->R x y H2->wpAny (model X.prog X.w) X.A (f v u) Q X.xe s2) :
  wpAny (model X.prog X.w) X.A (eval a X.env) (λv s₁=>wpAny (model X.prog X.w) X.A (eval b X.env) (λu s₂=>wpAny (model X.prog X.w) X.A (f v u) Q X.xe s₂) X.xe s₁) X.xe s:=by
 refine BB (ha pins s σ H _ I h) λv s1 ⟨x,H1,I1,r1,q1⟩=>?_
 refine BB (hb pins s1 σ H1 _ I1 q1) λu s2 ⟨y,H2,I2,r2,q2⟩=>?_
 exact hf v u s2 x y H2 I2 r1 r2 q2
theorem Bh{op:Operator}{r:R2}(ho:OpR X (binaryOp op) r)(ha:PE X a ta)(hb:PE X b tb):PE X (.BinOp a op b pos) (Cz r ta tb):=by
 intro pins s σ H Q I h
 exact wpAny_BinOp (WF ha hb I h λv u s2 x y H2 I2 rx ry q=>ho pins s2 σ H2 x y v u Q I2 rx ry q)
theorem Xg{op:UnaryOp}{r:V->Hp->VK->Prop}(ho:Y6 X (unaryOp op) r)(ha:PE X a ta):PE X (.UnaryOp op a pos) (ZT r ta):=by
 intro pins s σ H Q I h
 exact UnaryOp_ (BB (ha pins s σ H _ I h) λv s1 ⟨x,H1,I1,r1,q1⟩=>ho pins s1 σ H1 x v Q I1 r1 q1)
theorem YV{f:Value->Value->Sem Value}{C:Int->Int->Prop}{g:Int->Int->Int}
  (rule:∀(i j:Int) (t u:Tok) (s:Shared) (Q:Value->Shared->Prop) (E:Value->Shared->Prop),C i j->Q (.int (g i j) s.toks) { s with toks:=s.toks+1 }->wpAny (model X.prog X.w) X.A (f (.int i t) (.int j u)) Q E s) :
  OpR X f (rI C λi j=>.int (g i j)):=by
 intro pins s σ H x y v u Q I rx ry h
 obtain⟨i,j,rfl,rfl,hc,q⟩:=h
 obtain⟨t,rfl⟩:=rx
 obtain⟨t',rfl⟩:=ry
 exact rule i j t t' s _ _ hc ⟨.int (g i j),H,I.tok _,⟨_,rfl⟩,q⟩
theorem Xm{f:Value->Value->Sem Value}{g:Int->Int->Int}
  (rule:∀(i j:Int) (t u:Tok) (s:Shared) (Q:Value->Shared->Prop) (E:Value->Shared->Prop),Q (.int (g i j) s.toks) { s with toks:=s.toks+1 }->wpAny (model X.prog X.w) X.A (f (.int i t) (.int j u)) Q E s) :
  OpR X f (GV λi j=>.int (g i j)):=by
 intro pins s σ H x y v u Q I rx ry h
 obtain⟨i,j,rfl,rfl,q⟩:=h
 obtain⟨t,rfl⟩:=rx
 obtain⟨t',rfl⟩:=ry
 exact rule i j t t' s _ _ ⟨.int (g i j),H,I.tok _,⟨_,rfl⟩,q⟩
theorem TB{f:Value->Value->Sem Value}{g:Int->Int->Bool}
  (rule:∀(i j:Int) (t u:Tok) (s:Shared) (Q:Value->Shared->Prop) (E:Value->Shared->Prop),Q (.bool (g i j)) s->wpAny (model X.prog X.w) X.A (f (.int i t) (.int j u)) Q E s) :
  OpR X f (GV λi j=>.bl (g i j)):=by
 intro pins s σ H x y v u Q I rx ry h
 obtain⟨i,j,rfl,rfl,q⟩:=h
 obtain⟨t,rfl⟩:=rx
 obtain⟨t',rfl⟩:=ry
 exact rule i j t t' s _ _ ⟨.bl (g i j),H,I,rfl,q⟩
noncomputable def SM(i j:Int):Prop:=0<j/\j<1073741824
noncomputable def SK(i j:Int):Prop:=0<=j/\j<=1000000/\i.natAbs<2 ^ 64
noncomputable def CMul(i j:Int):Prop:=(-(2 ^ 64)<i/\i<2 ^ 64)\/(-(2 ^ 64)<j/\j<2 ^ 64)
theorem CMul.ok{i j:Int}(h:CMul i j):IntMulOk i j:=by
 rcases h with ⟨h1,h2⟩ | ⟨h1,h2⟩
 ·exact .of_left (intBits_le_64 h1 h2)
 ·exact .of_right (intBits_le_64 h1 h2)
theorem op_add:OpR X (binaryOp .Add) (GV λi j=>.int (i+j)):=Xm λ_ _ _ _ _ _ _ q=>add_int q
theorem op_sub:OpR X (binaryOp .Sub) (GV λi j=>.int (i - j)):=Xm λ_ _ _ _ _ _ _ q=>sub_int q
theorem op_mul:OpR X (binaryOp .Mult) (rI CMul λi j=>.int (i*j)):=YV λ_ _ _ _ _ _ _ hc q=>mul_int q hc.ok
theorem G2:OpR X (binaryOp .FloorDiv) (rI SM λi j=>.int (i / j)):=YV λi j _ _ _ _ _ hc q=>by
 have h1:(0:Int)<j:=hc.1
 have h2:j<1073741824:=hc.2
 exact floordiv_int (by omega) (by rw [Int.fdiv_eq_ediv_of_nonneg i (by omega)]; exact q) (.inl (PyProof.noPylong_small (by omega)))
theorem C6:OpR X (binaryOp .Mod) (rI (λ_ j=>0<j) λi j=>.int (i % j)):=YV λi j _ _ _ _ _ hc q=>by
 have h1:(0:Int)<j:=hc
 exact mod_int' (by omega) (by rw [Int.fmod_eq_emod_of_nonneg i (by omega)]; exact q)
theorem Mm:OpR X (binaryOp .Pow) (rI SK λi j=>.int (i ^ j.toNat)):=YV λ_ _ _ _ _ _ _ hc q=>pow_int_small hc.1 hc.2.1 hc.2.2 q
theorem ZR{f:Value->Sem Value}{g:Int->Int}
  (rule:∀(i:Int) (t:Tok) (s:Shared) (Q:Value->Shared->Prop) (E:Value->Shared->Prop),Q (.int (g i) s.toks) { s with toks:=s.toks+1 }->wpAny (model X.prog X.w) X.A (f (.int i t)) Q E s) :
  Y6 X f (rU λi=>.int (g i)):=by
 intro pins s σ H x v Q I rx h
 obtain⟨i,rfl,q⟩:=h
 obtain⟨t,rfl⟩:=rx
 exact rule i t s _ _ ⟨.int (g i),H,I.tok _,⟨_,rfl⟩,q⟩
theorem VA:Y6 X (unaryOp .USub) (rU λi=>.int (-i)):=ZR λ_ _ _ _ _ q=>neg_int q
end
noncomputable def XA:V->V->Bool
 | .non,.non=>true | .non,.int _=>true | .int _,.non=>true | .non,.bl _=>true | .bl _,.non=>true | .non,.str _=>true | .str _,.non=>true
 | .int _,.int _=>true | .bl _,.bl _=>true | .str _,.str _=>true | .byt _,.byt _=>true
 | .int _,.str _=>true | .str _,.int _=>true | .bl _,.str _=>true | .str _,.bl _=>true
 | _,_=>false
noncomputable def ZF:R2:=λx y H Q=>XA x y=true/\Q (.bl (decide (x=y))) H
noncomputable def ZC:R2:=λx y H Q=>XA x y=true/\Q (.bl (!decide (x=y))) H
theorem G6{i j:Int}:decide (V.int i=V.int j)=(i==j):=by
 rw [bn]
 simp
theorem Ka{i j:Bool}:decide (V.bl i=V.bl j)=(i==j):=by
 rw [bn]
 simp
theorem G5{i j:Str}:decide (V.str i=V.str j)=(i==j):=by
 rw [bn]
 simp
theorem N8{i j:Array UInt8}:decide (V.byt i=V.byt j)=(i.toList==j.toList):=by
 rw [bn]
 cases i
 cases j
 simp
section
variable {X:Cx}{a b c:Expr}{ta tb tc:TE}{pos:Pos}
theorem As{pins:List (Addr×Obj)}{σ:St}{H:Hp}{s:Shared}{Q:VK}{k k':Bool}(I:Inv X pins σ H s)(q:Q (.bl k) H)(e:k=k'):EP X pins σ Q (.bool k') s:=by
 subst e
 exact⟨.bl k,H,I,rfl,q⟩
theorem BF:OpR X (compareOp .Eq) ZF:=by
 intro pins s σ H x y v u Q I rx ry h
 obtain⟨hs,q⟩:=h
 cases x with
 | non =>
  cases rx
  cases y with
  | non=>cases ry; exact PySem.EqNone.eq_none_none (As I q (by simp))
  | bl j=>cases ry; exact PySem.EqNone.eq_none_bool (As I q (by simp))
  | int j=>obtain⟨t',rfl⟩:=ry; exact PySem.EqNone.eq_none_int (As I q (by simp))
  | str j=>obtain⟨t',rfl⟩:=ry; exact PySem.EqNone.eq_none_str (As I q (by simp))
  | _=>exact absurd (show false=true from hs) Tk
 | bl i =>
  cases rx
  cases y with
  | non=>cases ry; exact PySem.EqNone.eq_bool_none (As I q (by simp))
  | bl j=>cases ry; exact eq_bool (As I q Ka)
  | str j=>obtain⟨t',rfl⟩:=ry; exact PySem.EqMixed.eq_bool_str (As I q (by simp))
  | _=>exact absurd (show false=true from hs) Tk
 | int i =>
  obtain⟨t,rfl⟩:=rx
  cases y with
  | non=>cases ry; exact PySem.EqNone.eq_int_none (As I q (by simp))
  | int j=>obtain⟨t',rfl⟩:=ry; exact eq_int (As I q G6)
  | str j=>obtain⟨t',rfl⟩:=ry; exact PySem.EqMixed.eq_int_str (As I q (by simp))
  | _=>exact absurd (show false=true from hs) Tk
 | str i =>
  obtain⟨t,rfl⟩:=rx
  cases y with
  | non=>cases ry; exact PySem.EqNone.eq_str_none (As I q (by simp))
  | bl j=>cases ry; exact PySem.EqMixed.eq_str_bool (As I q (by simp))
  | int j=>obtain⟨t',rfl⟩:=ry; exact PySem.EqMixed.eq_str_int (As I q (by simp))
  | str j=>obtain⟨t',rfl⟩:=ry; exact eq_str (As I q G5)
  | _=>exact absurd (show false=true from hs) Tk
 | byt i =>
  obtain⟨t,rfl⟩:=rx
  cases y with
  | byt j=>obtain⟨t',rfl⟩:=ry; exact PySem.W.eq_bytes (As I q N8)
  | _=>exact absurd (show false=true from hs) Tk
 | _=>cases y <;> exact absurd (show false=true from hs) Tk
theorem Xk:OpR X (compareOp .NotEq) ZC:=by
 intro pins s σ H x y v u Q I rx ry h
 obtain⟨hs,q⟩:=h
 cases x with
 | non =>
  cases rx
  cases y with
  | non=>cases ry; exact PySem.EqNone.ne_none_none (As I q (by simp))
  | bl j=>cases ry; exact PySem.EqNone.ne_none_bool (As I q (by simp))
  | int j=>obtain⟨t',rfl⟩:=ry; exact PySem.EqNone.ne_none_int (As I q (by simp))
  | str j=>obtain⟨t',rfl⟩:=ry; exact PySem.EqNone.ne_none_str (As I q (by simp))
  | _=>exact absurd (show false=true from hs) Tk
 | bl i =>
  cases rx
  cases y with
  | non=>cases ry; exact PySem.EqNone.ne_bool_none (As I q (by simp))
  | bl j=>cases ry; exact ne_bool (As I q (congrArg not Ka))
  | str j=>obtain⟨t',rfl⟩:=ry; exact PySem.EqMixed.ne_bool_str (As I q (by simp))
  | _=>exact absurd (show false=true from hs) Tk
 | int i =>
  obtain⟨t,rfl⟩:=rx
  cases y with
  | non=>cases ry; exact PySem.EqNone.ne_int_none (As I q (by simp))
  | int j=>obtain⟨t',rfl⟩:=ry; exact ne_int (As I q (congrArg not G6))
  | str j=>obtain⟨t',rfl⟩:=ry; exact PySem.EqMixed.ne_int_str (As I q (by simp))
  | _=>exact absurd (show false=true from hs) Tk
 | str i =>
  obtain⟨t,rfl⟩:=rx
  cases y with
  | non=>cases ry; exact PySem.EqNone.ne_str_none (As I q (by simp))
  | bl j=>cases ry; exact PySem.EqMixed.ne_str_bool (As I q (by simp))
  | int j=>obtain⟨t',rfl⟩:=ry; exact PySem.EqMixed.ne_str_int (As I q (by simp))
  | str j=>obtain⟨t',rfl⟩:=ry; exact ne_str (As I q (congrArg not G5))
  | _=>exact absurd (show false=true from hs) Tk
 | byt i =>
  obtain⟨t,rfl⟩:=rx
  cases y with
  | byt j=>obtain⟨t',rfl⟩:=ry; exact PySem.W.ne_bytes (As I q (congrArg not N8))
  | _=>exact absurd (show false=true from hs) Tk
 | _=>cases y <;> exact absurd (show false=true from hs) Tk
theorem op_lt:OpR X (compareOp .Lt) (GV λi j=>.bl (decide (i<j))):=TB λ_ _ _ _ _ _ _ q=>eM q
theorem op_le:OpR X (compareOp .LtE) (GV λi j=>.bl (decide (i<=j))):=TB λ_ _ _ _ _ _ _ q=>le_int q
theorem op_gt:OpR X (compareOp .Gt) (GV λi j=>.bl (decide (j<i))):=TB λ_ _ _ _ _ _ _ q=>gt_int q
theorem Xl:OpR X (compareOp .GtE) (GV λi j=>.bl (decide (j<=i))):=TB λ_ _ _ _ _ _ _ q=>ge_int q
theorem O0:OpR X (compareOp .Lt) (λx y H Q=>∃i j,x=.str i/\y=.str j/\Q (.bl (decide (i.cps.toList<j.cps.toList))) H):=by
 intro pins s σ H x y v u Q I rx ry h
 obtain⟨i,j,rfl,rfl,q⟩:=h
 obtain⟨t,rfl⟩:=rx
 obtain⟨t',rfl⟩:=ry
 exact lt_str (As I q rfl)
theorem O2:OpR X (compareOp .In) (λx y H Q=>∃i j,x=.str i/\y=.str j/\Q (.bl (!(aA j i 0 j.length 1).isEmpty)) H):=by
 intro pins s σ H x y v u Q I rx ry h
 obtain⟨i,j,rfl,rfl,q⟩:=h
 obtain⟨t,rfl⟩:=rx
 obtain⟨t',rfl⟩:=ry
 exact in_str (As I q rfl)
theorem S8:OpR X (compareOp .IsNot) (λx y H Q=>y=.non/\Q (.bl (!decide (x=.non))) H):=by
 intro pins s σ H x y v u Q I rx ry h
 obtain⟨rfl,q⟩:=h
 cases ry
 refine isnot_none_gen (As I q ?_)
 cases x <;> first
  | (cases rx; rfl)
  | (obtain⟨t,rfl⟩:=rx; rfl)
theorem OpR.or{f:Value->Value->Sem Value}{r r':R2}(h:OpR X f r)(h':OpR X f r'):OpR X f (λx y H Q=>r x y H Q\/r' x y H Q):=by
 intro pins s σ H x y v u Q I rx ry q
 rcases q with q | q
 ·exact h pins s σ H x y v u Q I rx ry q
 ·exact h' pins s σ H x y v u Q I rx ry q
theorem AU(b:Expr){op:CmpOp}(h:autoParam (op≠.In) zau1._auto_1)(h2:autoParam (op≠.NotIn) zau1._auto_1):behindInMarks op b=false:=by
 have e1:(op==CmpOp.In)=false:=by cases op <;> first | rfl | exact absurd rfl h
 have e2:(op==CmpOp.NotIn)=false:=by cases op <;> first | rfl | exact absurd rfl h2
 cases b <;> simp [behindInMarks,e1,e2]
theorem S4{op:CmpOp}{r:R2}(ho:OpR X (compareOp op) r)(ha:PE X a ta)(hb:PE X b tb)(hm:behindInMarks op b=false):PE X (.Compare a [op] [b] pos) (Cz r ta tb):=by
 intro pins s σ H Q I h
 exact wpAny_Compare1 (WF ha hb I h λv u s2 x y H2 I2 rx ry q=>ho pins s2 σ H2 x y v u Q I2 rx ry q) hm
noncomputable def NO(t:TE):TT:=λσ H Q=>t σ H λx H'=>∃k,x=.bl k/\Q k H'
theorem Fc{op:CmpOp}{r:R2}(ho:OpR X (compareOp op) r)(ha:PE X a ta)(hb:PE X b tb)(hm:behindInMarks op b=false):PT X (.Compare a [op] [b] pos) (NO (Cz r ta tb)):=by
 intro pins s σ H Q I h
 refine wpAny_isTrue_Compare1 (BB (ha pins s σ H _ I h) λv s1 ⟨x,H1,I1,r1,q1⟩=>BB (hb pins s1 σ H1 _ I1 q1) λu s2 ⟨y,H2,I2,r2,q2⟩ =>
  BB (ho pins s2 σ H2 x y v u _ I2 r1 r2 q2) λc s3 ⟨z,H3,I3,r3,k,e,q3⟩=>?_) hm
 subst e
 cases r3
 exact aP ⟨H3,I3,q3⟩
noncomputable def MN(r r':R2)(ta tb tc:TE):TE:=λσ H Q=>ta σ H λx H1=>tb σ H1 λy H2=>r x y H2 λz H3=>∃k,z=.bl k /\
 (if k=true then tc σ H3 λw' H4=>r' y w' H4 Q else Q (.bl false) H3)
theorem Qp{op op':CmpOp}{r r':R2}(ho:OpR X (compareOp op) r)(ho':OpR X (compareOp op') r')(ha:PE X a ta)(hb:PE X b tb)(hc:PE X c tc)
  (hm:autoParam (lastMarks [op,op'] [b,c]=false) zau4._auto_1):PE X (.Compare a [op,op'] [b,c] pos) (MN r r' ta tb tc):=by
 intro pins s σ H Q I h
 refine Compare_chain (BB (ha pins s σ H _ I h) λv s1 ⟨x,H1,I1,r1,q1⟩=>chain_link (BB (hb pins s1 σ H1 _ I1 q1) λu s2 ⟨y,H2,I2,r2,q2⟩ =>
  BB (ho pins s2 σ H2 x y v u _ I2 r1 r2 q2) λd s3 ⟨z,H3,I3,r3,k,e,q3⟩=>?_)) hm
 subst e
 cases r3
 refine aP ?_
 cases k with
 | false=>exact ite_ff ⟨.bl false,H3,I3,rfl,q3⟩
 | true=>exact ite_tt (chain_last (BB (hc pins s3 σ H3 _ I3 q3) λw' s4 ⟨z',H4,I4,r4,q4⟩=>ho' pins s4 σ H4 y z' u w' Q I4 r2 r4 q4))
theorem Qe{op op':CmpOp}{r r':R2}(ho:OpR X (compareOp op) r)(ho':OpR X (compareOp op') r')(ha:PE X a ta)(hb:PE X b tb)(hc:PE X c tc)
  (hm:autoParam (lastMarks [op,op'] [b,c]=false) zau4._auto_1):PT X (.Compare a [op,op'] [b,c] pos) (NO (MN r r' ta tb tc)):=by
 intro pins s σ H Q I h
 refine isTrue_chain (BB (ha pins s σ H _ I h) λv s1 ⟨x,H1,I1,r1,q1⟩=>test_link (BB (hb pins s1 σ H1 _ I1 q1) λu s2 ⟨y,H2,I2,r2,q2⟩ =>
  BB (ho pins s2 σ H2 x y v u _ I2 r1 r2 q2) λd s3 ⟨z,H3,I3,r3,k,e,q3⟩=>?_)) hm
 subst e
 cases r3
 refine aP ?_
 cases k with
 | false =>
  obtain⟨k',e',q'⟩:=q3
  cases e'
  exact ite_ff ⟨H3,I3,q'⟩
 | true =>
  refine ite_tt (test_last (BB (hc pins s3 σ H3 _ I3 q3) λw' s4 ⟨z',H4,I4,r4,q4⟩=>BB (ho' pins s4 σ H4 y z' u w' _ I4 r2 r4 q4) λd' s5 ⟨z2,H5,I5,r5,k2,e2,q5⟩=>?_))
  subst e2
  cases r5
  exact aP ⟨H5,I5,q5⟩
noncomputable def UC(K:Frag)(x:V)(H:Hp)(k:Bool):Prop :=
 match x with
 | .non=>k=false
 | .bl b=>k=b
 | .int i=>k=(i != 0)
 | .str y=>y.length<=sizeLine/\k=((y.length:Int) != 0)
 | .byt y=>y.size<=sizeLine/\k=((y.size:Int) != 0)
 | .ref p=>(∃xs,SqL K H p xs/\k=!xs.isEmpty)\/(∃xs,SqT K H p xs/\k=!xs.isEmpty)\/∃kvs,H p=some (.dK kvs)/\k=!kvs.isEmpty
 | _=>False
theorem Mx{κ:Type}{kvs:List (κ×V)}{vs:List (κ×Value)}(r:KV kvs vs):(!vs.isEmpty)=!kvs.isEmpty:=by
 cases r <;> rfl
theorem Hu{xs:List V}{its:List Value}(r:Vals xs its):(!its.toArray.isEmpty)=!xs.isEmpty:=by
 cases r <;> simp
theorem GG:(sizeLine:Nat)<2 ^ 63:=by rw [Z2]; decide
theorem P6:Y7 X (λx H Q=>∃k,UC X.K x H k/\Q k H):=by
 intro pins s σ H x v Q I rx h
 obtain⟨k,e,q⟩:=h
 have hl:=GG
 have hs:sizeLine=16777216:=Z2
 cases x with
 | non =>
  cases rx
  have e':k=false:=e
  subst e'
  exact truthy_none ⟨H,I,q⟩
 | bl b =>
  cases rx
  have e':k=b:=e
  subst e'
  exact aP ⟨H,I,q⟩
 | int i =>
  obtain⟨t,rfl⟩:=rx
  have e':k=(i != 0):=e
  subst e'
  exact PySem.P.truthy_int ⟨H,I,q⟩
 | str y =>
  obtain⟨t,rfl⟩:=rx
  obtain⟨hy,e'⟩:y.length<=sizeLine/\k=((y.length:Int) != 0):=e
  subst e'
  exact PySem.P.truthy_str (by omega) ⟨H,I.tok _,q⟩
 | byt y =>
  obtain⟨t,rfl⟩:=rx
  obtain⟨hy,e'⟩:y.size<=sizeLine/\k=((y.size:Int) != 0):=e
  subst e'
  exact PySem.W.truthy_bytes (by omega) ⟨H,I.tok _,q⟩
 | ref p =>
  cases rx
  have e':(∃xs,SqL X.K H p xs/\k=!xs.isEmpty)\/(∃xs,SqT X.K H p xs/\k=!xs.isEmpty)\/∃kvs,H p=some (.dK kvs)/\k=!kvs.isEmpty:=e
  rcases e' with ⟨xs,hx,e'⟩ | ⟨xs,hx,e'⟩ | ⟨kvs,hx,e'⟩
  ·subst e'
   obtain⟨its,r,pl,hz⟩:=I.list hx
   have hlen:=r.length
   exact wpAny_truthy_list pl.isList (by simp only [Rs]; omega) ⟨H,I.tok _,by rw [Hu r]; exact q⟩
  ·subst e'
   obtain⟨its,r,pl,hz⟩:=I.tuple hx
   have hlen:=r.length
   exact truthy_tuple pl (by simp only [Rs]; omega) ⟨H,I.tok _,by rw [Hu r]; exact q⟩
  ·subst e'
   obtain⟨hz,hS,vs,r,m⟩:kvs.length<=sizeLine/\(p==sysModules)=false/\∃vs,KV kvs vs/\s.heap.DictOf (BQ X.prog X.w) p vs:=I.hok p _ hx
   have hlen:kvs.length=vs.length:=Paired.length r
   exact wpAny_truthy_dict hS m (by omega) ⟨H,I.tok _,by rw [Mx r]; exact q⟩
 | _=>exact(show False from e).elim
theorem Qd(ha:PE X a ta)(he:∀whole,isTrue a X.env whole=(do let v ← whole; standAt a.pos; holding [v] (truthy v))) :
  PT X a (λσ H Q=>ta σ H λx H'=>∃k,UC X.K x H' k/\Q k H'):=by
 intro pins s σ H Q I h
 exact isTrue_plain (BB (ha pins s σ H _ I h) λv s1 ⟨x,H1,I1,r1,q1⟩=>P6 pins s1 σ H1 x v Q I1 r1 q1) (he _)
theorem Mp:OpR X (binaryOp .Add) (λx y H Q=>∃i j,x=.str i/\y=.str j/\i.length+j.length<=sizeLine/\Q (.str (i++j)) H):=by
 intro pins s σ H x y v u Q I rx ry h
 obtain⟨i,j,rfl,rfl,hz,q⟩:=h
 obtain⟨t,rfl⟩:=rx
 obtain⟨t',rfl⟩:=ry
 exact add_str (λt' tk=>⟨.str (i++j),H,I.tok _,⟨_,rfl⟩,q⟩) hz
theorem vals1{x:V}{us:List Value}(r:Vals [x] us):∃u,us=[u]/\RelV x u:=by
 cases r with
 | cons r1 r2=>cases r2; exact⟨_,rfl,r1⟩
theorem vals2{x y:V}{us:List Value}(r:Vals [x,y] us):∃u w',us=[u,w']/\RelV x u/\RelV y w':=by
 cases r with
 | cons r1 r2 =>
  cases r2 with
  | cons r3 r4=>cases r4; exact⟨_,_,rfl,r1,r3⟩
theorem Pj(hc:X.calm=true):B9 X (.builtin "max") (λxs H Q=>∃i j,xs=[.int i,.int j]/\Q (.int (if j > i then j else i)) H):=by
 intro pins s σ H xs us Q I r h
 obtain⟨i,j,rfl,q⟩:=h
 obtain⟨u,w',rfl,⟨t,rfl⟩,⟨t',rfl⟩⟩:=vals2 r
 refine max_two_ints (I.ok.hd hc) λh' tk k=>⟨_,H,I.kept k,?_,q⟩
 by_cases hj:j > i
 ·rw [if_pos hj,if_pos hj]; exact⟨_,rfl⟩
 ·rw [if_neg hj,if_neg hj]; exact⟨_,rfl⟩
theorem Ph(hc:X.calm=true):B9 X (.builtin "min") (λxs H Q=>∃i j,xs=[.int i,.int j]/\Q (.int (if j<i then j else i)) H):=by
 intro pins s σ H xs us Q I r h
 obtain⟨i,j,rfl,q⟩:=h
 obtain⟨u,w',rfl,⟨t,rfl⟩,⟨t',rfl⟩⟩:=vals2 r
 refine min_two_ints (I.ok.hd hc) λh' tk k=>⟨_,H,I.kept k,?_,q⟩
 by_cases hj:j<i
 ·rw [if_pos hj,if_pos hj]; exact⟨_,rfl⟩
 ·rw [if_neg hj,if_neg hj]; exact⟨_,rfl⟩
theorem Kf:B9 X (.type "str") (λxs H Q=>∃i,xs=[.int i]/\i.natAbs.log2<1920/\Q (.str (toString i)) H):=by
 intro pins s σ H xs us Q I r h
 obtain⟨i,rfl,hz,q⟩:=h
 obtain⟨u,rfl,t,rfl⟩:=vals1 r
 exact PySem.P.str_of_int hz ⟨.str _,H,I.tok _,⟨_,rfl⟩,q⟩
noncomputable def WY(K:Frag)(x:V)(H:Hp)(n:Nat):Prop :=
 match x with
 | .str y=>y.length<=sizeLine/\n=y.length
 | .byt y=>y.size<=sizeLine/\n=y.size
 | .ref p=>(∃xs,SqL K H p xs/\n=xs.length)\/∃xs,SqT K H p xs/\n=xs.length
 | _=>False
theorem Af:B9 X (.builtin "len") (λxs H Q=>∃x n,xs=[x]/\WY X.K x H n/\Q (.int n) H):=by
 intro pins s σ H xs us Q I r h
 obtain⟨x,n,rfl,e,q⟩:=h
 obtain⟨u,rfl,rx⟩:=vals1 r
 have hl:=GG
 have hs:sizeLine=16777216:=Z2
 cases x with
 | str y =>
  obtain⟨t,rfl⟩:=rx
  obtain⟨hy,e'⟩:y.length<=sizeLine/\n=y.length:=e
  subst e'
  exact len_str (by omega) ⟨.int _,H,I.tok _,⟨_,rfl⟩,q⟩
 | byt y =>
  obtain⟨t,rfl⟩:=rx
  obtain⟨hy,e'⟩:y.size<=sizeLine/\n=y.size:=e
  subst e'
  exact PySem.W.len_bytes (by omega) ⟨.int _,H,I.tok _,⟨_,rfl⟩,q⟩
 | ref p =>
  cases rx
  have e':(∃xs,SqL X.K H p xs/\n=xs.length)\/∃xs,SqT X.K H p xs/\n=xs.length:=e
  rcases e' with ⟨xs,hx,e'⟩ | ⟨xs,hx,e'⟩
  ·subst e'
   obtain⟨its,r',pl,hz⟩:=I.list hx
   have hlen:=r'.length
   exact Calls.call_len_list pl.isList (by simp only [Rs]; omega) ⟨.int xs.length,H,I.tok _,⟨_,by simp only [Rs]; rw [hlen]⟩,q⟩
  ·subst e'
   obtain⟨its,r',pl,hz⟩:=I.tuple hx
   have hlen:=r'.length
   exact len_tuple pl (by simp only [Rs]; omega) ⟨.int xs.length,H,I.tok _,⟨_,by simp only [Rs]; rw [hlen]⟩,q⟩
 | _=>exact(show False from e).elim
end
structure ObjM (h:Heap) (x dx C:Addr) (mA:Str->Option Value):Prop where
 obj:h.get? x=some (PySem.W.instObj C dx)
 ns:h.Ns1 dx mA
 ne:dx≠x
theorem JH{h:Heap}{dx:Addr}{mA:Str->Option Value}(n:h.Ns1 dx mA):∃od,h.get? dx=some od/\∀name,PySem.W.lookIn name od=some (mA name):=by
 obtain⟨o,es,ep,ho,hd,hk,_,hm⟩:=n
 refine⟨o,ho,λname=>?_⟩
 have e:=hm name
 unfold nsFind findBy at e
 rw [← Array.find?_toList] at e
 unfold PySem.W.lookIn
 rw [hd]
 dsimp only
 split
 ·rename_i y q
  rw [q] at e
  exact congrArg some e
 ·rename_i q
  rw [q] at e
  have a:es.toList.any (·.refKey)=false:=by
   rw [List.any_eq_false]
   intro y hy
   obtain⟨z,t,hkey⟩:=hk y (Array.mem_toList_iff.mp hy)
   simp [DictEntry.refKey,hkey]
  have a':¬es.toList.any (·.refKey)=true:=by rw [a]; exact Tk
  rw [if_neg a']
  exact congrArg some e
theorem ObjM.look{h:Heap}{x dx C:Addr}{mA:Str->Option Value}(I:ObjM h x dx C mA):∃od,PySem.W.InstAt h x (PySem.W.instObj C dx) C (some od)/\∀name,PySem.W.lookIn name od=some (mA name) :=
 let ⟨od,ho,hl⟩:=JH I.ns
 ⟨od,⟨I.obj,rfl,rfl,ho⟩,hl⟩
section
variable {prog:Program}{w:World}{A:Around}{E:Value->Shared->Prop}{s:Shared}{K:Frag}{x dx C f:Addr}{mA:Str->Option Value}{name:Str}{v:Value}
end
noncomputable def DC(f:Str)(v:V):List (Str×V)->List (Str×V)
 | []=>[(f,v)]
 | (g,x)::r=>if g=f then (g,v)::r else (g,x)::DC f v r
theorem GX(f g:Str)(v:V):∀fs:List (Str×V),(DC f v fs).lookup g=if g=f then some v else fs.lookup g
 | []=>by
  show aX g [(f,v)]=_
  by_cases h:g=f
  ·have hb:(g==f)=true:=beq_iff_eq.mpr h
   simp only [aX,hb,if_pos h]
  ·have hb:(g==f)=false:=beq_eq_false_iff_ne.mpr h
   simp only [aX,hb,if_neg h]
 | (k,x)::r=>by
  have ih:=GX f g v r
  rw [show DC f v ((k,x)::r)=(if k=f then (k,v)::r else (k,x)::DC f v r) from rfl]
  by_cases hk:k=f
  ·rw [if_pos hk]
   by_cases h:g=k
   ·have hb:(g==k)=true:=beq_iff_eq.mpr h
    simp only [aX,hb,if_pos (h.trans hk)]
   ·have hb:(g==k)=false:=beq_eq_false_iff_ne.mpr h
    simp only [aX,hb,if_neg (λe:g=f=>h (e.trans hk.symm))]
  ·rw [if_neg hk]
   by_cases h:g=k
   ·have hb:(g==k)=true:=beq_iff_eq.mpr h
    simp only [aX,hb,if_neg (λe:g=f=>hk (h.symm.trans e))]
   ·have hb:(g==k)=false:=beq_eq_false_iff_ne.mpr h
    simp only [aX,hb]
    exact ih
theorem GI(f:Str)(v:V):∀fs:List (Str×V),f∈(DC f v fs).map (·.1)/\∀g,g∈fs.map (·.1)->g∈(DC f v fs).map (·.1)
 | []=>⟨by simp [DC],λg h=>by simp at h⟩
 | (k,x)::r=>by
  obtain⟨i1,i2⟩:=GI f v r
  rw [show DC f v ((k,x)::r)=(if k=f then (k,v)::r else (k,x)::DC f v r) from rfl]
  by_cases hk:k=f
  ·rw [if_pos hk]
   subst hk
   exact⟨by simp,λg h=>by simpa using h⟩
  ·rw [if_neg hk]
   refine⟨?_,λg h=>?_⟩
   ·rw [TW]
    exact Is _ i1
   ·rw [TW] at h ⊢
    rcases UF.mp h with e | e
    ·exact UF.mpr (.inl e)
    ·exact Is _ (i2 g e)
theorem Ga(f:Str)(v:V):∀fs:List (Str×V),(DC f v fs).length<=fs.length+1
 | []=>by simp [DC]
 | (k,x)::r=>by
  have ih:=Ga f v r
  rw [show DC f v ((k,x)::r)=(if k=f then (k,v)::r else (k,x)::DC f v r) from rfl]
  by_cases hk:k=f
  ·rw [if_pos hk,No,No]; omega
  ·rw [if_neg hk,No,No]; omega
theorem RelO.some_of{v:V}{o:Option Value}(r:RelO (some v) o):∃u,o=some u/\RelV v u:=by
 cases o with
 | none=>exact(show False from r).elim
 | some u=>exact⟨u,rfl,r⟩
theorem PN{v:V}{u:Value}(r:RelV v u):PySem.W.handedIn u=true:=by
 cases v with
 | non=>cases (show u=Zx from r); rfl
 | bl b=>cases (show u=bi b from r); rfl
 | int i=>obtain⟨t,e⟩:=(show ∃t,u=eE i t from r); cases e; rfl
 | str x=>obtain⟨t,e⟩:=(show ∃t,u=eF x t from r); cases e; rfl
 | byt b=>obtain⟨t,e⟩:=(show ∃t,u=Value.bytes b t from r); cases e; rfl
 | flt b=>obtain⟨t,e⟩:=(show ∃t,u=Value.float b t from r); cases e; rfl
 | ref a=>cases (show u=TM a from r); rfl
 | ty n=>cases (show u=bj n from r); rfl
section
variable {P:Program}{w:World}{H H':Hp}{h h':Heap}{a C dx:Addr}{fs fs':List (Str×V)}
theorem Tc(hok:HOk P w H h)(e:H a=some (.ins C dx fs)):∃mA,ObjM h a dx C mA/\(∀f,RelO (fs.lookup f) (mA f))/\PySem.Within mA (fs.map (·.1))/\fs.length<=1000/\H dx=some (.own a):=by
 obtain⟨d,z,ne,ob,mA,n,r,q⟩:=(show ObjOk P w H h a (.ins C dx fs) from hok a _ e)
 exact⟨mA,⟨ob,n,ne⟩,r,q,z,d⟩
end
structure Cls (K:Frag) (C:Addr):Prop where
 pg:PySem.W.plainGet K C Str.empty=true
 hd:PySem.W.hasDictIn K C=true
 po:PySem.W.plainOver K C=true
 sa:PySem.W.findIn K (.ref C) "__setattr__"=some (some (.builtin "object.__setattr__"))
theorem Cls.get{K:Frag}{C:Addr}(c:Cls K C)(f:Str):PySem.W.plainGet K C f=true:=c.pg
noncomputable def FQ(K:Frag)(C:Addr)(f:Str):Prop:=PySem.W.findIn K (.ref C) f=some none
structure Zl (K:Frag) (C:Addr) (f:Str) (v:V) (u:Value):Prop where
 at_:PySem.W.findIn K (.ref C) f=some (some u)
 rel:RelV v u
 get:PySem.W.specialIn K u "__get__"=some none
 cp:PySem.W.copiedNames.contains f=false
structure Zg (K:Frag) (C:Addr) (m:Str) (f:Addr):Prop where
 at_:PySem.W.findIn K (.ref C) m=some (some (.ref f))
 fn:PySem.W.isFn K (.ref f)=true
 kp:keepIn K (.ref f)=true
section
variable {X:Cx}{pins:List (Addr×Obj)}{σ:St}{H:Hp}{s:Shared}{a C dx:Addr}{fs:List (Str×V)}{f:Str}{v:V}{A:Around}{E:Value->Shared->Prop}
theorem T9{prog:Program}{w:World}{env:Env}{e:Expr}{f:Str}{pos:Pos}{s:Shared}{Q:Value->Shared->Prop}(hb:attributeBase e f env (eval e env)=eval e env)
  (h:wpAny (model prog w) A (eval e env) (λo s₁=>wpAny (model prog w) A (getAttr o f true) Q E s₁) E s):wpAny (model prog w) A (eval (.Attribute e f pos) env) Q E s :=
 Attribute_any_ h (by rw [arm_eval_Attribute,hb])
end
section
variable {X:Cx}{o e value:Expr}{f:Str}{pos pos' tpos:Pos}{ta tv:TE}
end
section
variable {X:Cx}{pins:List (Addr×Obj)}{σ:St}{H:Hp}{s:Shared}{A:Around}{E:Value->Shared->Prop}{Q:Value->Shared->Prop}{c:Value}{b:Bool}
inductive FO (K:Frag) (H:Hp):V->Value->Prop where
 | non:FO K H .non (.type "NoneType")
 | bl (x:Bool):FO K H (.bl x) (.type "bool")
 | int (i:Int):FO K H (.int i) (.type "int")
 | str (x:Str):FO K H (.str x) (.type "str")
 | flt (x:UInt64):FO K H (.flt x) (.type "float")
 | lst {a:Addr} {xs:List V} (e:H a=some (.lst xs)):FO K H (.ref a) (.type "list")
 | frz {a:Addr} {o:Obj} {xs:List V} (e:H a=some (.frz o (.lst xs))):FO K H (.ref a) (.type "list")
 | tup {a:Addr} {xs:List V} (e:H a=some (.tup xs)):FO K H (.ref a) (.type "tuple")
 | dF {a:Addr} {o:Obj} {kvs:List (Key×V)} (e:H a=some (.frz o (.dK kvs))):FO K H (.ref a) (.type "dict")
 | dK {a:Addr} {kvs:List (Key×V)} (e:H a=some (.dK kvs)):FO K H (.ref a) (.type "dict")
 | dT {a:Addr} {kvs:List (List Key×V)} (e:H a=some (.dT kvs)):FO K H (.ref a) (.type "dict")
 | ins {a C dx:Addr} {fs:List (Str×V)} (e:H a=some (.ins C dx fs)) (cl:Cls K C) (ha:PySem.W.findIn K (.ref C) "__class__"=some (some (.builtin "object.__class__")))
   (hn:PySem.W.specialIn K (.builtin "object.__class__") "__get__"=some (some (.builtin "getset_descriptor.__get__"))) (htk:PySem.W.takesIn K (.builtin "object.__class__")=some true)
   (hm:PySem.W.mroIn K C (.type "object")=some true):FO K H (.ref a) (.ref C)
theorem PJ{x:V}{u t:Value}(I:Inv X pins σ H s)(rx:RelV x u)(ty:FO X.K H x t)(e:PySem.W.kitOne X.K t c=some b)(h:∀tk,Q (.bool b) { s with toks:=tk }) :
  wpAny (model X.prog X.w) A (call (.builtin "isinstance") [u,c]) Q E s:=by
 cases ty with
 | non=>cases (show u=Zx from rx); exact PySem.W.kia_one PySem.W.kitx_none I.kIn a9 e (λz=>nomatch z) h
 | bl y=>cases (show u=bi y from rx); exact PySem.W.kia_one PySem.W.kitx_bool I.kIn a9 e (λz=>nomatch z) h
 | int i=>obtain⟨t,q⟩:=(show ∃t,u=eE i t from rx); cases q; exact PySem.W.kia_one PySem.W.kitx_int I.kIn a9 e (λz=>nomatch z) h
 | str y=>obtain⟨t,q⟩:=(show ∃t,u=eF y t from rx); cases q; exact PySem.W.kia_one PySem.W.kitx_str I.kIn a9 e (λz=>nomatch z) h
 | flt y=>obtain⟨t,q⟩:=(show ∃t,u=Value.float y t from rx); cases q; exact PySem.W.kia_one PySem.W.kitx_float I.kIn a9 e (λz=>nomatch z) h
 | @lst a xs ea =>
  cases (show u=TM a from rx)
  obtain⟨_,_,n,_,h1⟩:=(show ObjOk X.prog X.w H s.heap a (.lst xs) from I.hok a _ ea)
  exact PySem.W.kia_one PySem.W.kitx_list I.kIn ⟨_,h1,rfl⟩ e (λz=>nomatch z) h
 | @frz a ob xs ea =>
  cases (show u=TM a from rx)
  obtain⟨_,_,_,n,_,h1⟩:=(show ObjOk X.prog X.w H s.heap a (.frz ob (.lst xs)) from I.hok a _ ea)
  exact PySem.W.kia_one PySem.W.kitx_list I.kIn ⟨_,h1,rfl⟩ e (λz=>nomatch z) h
 | @tup a xs ea =>
  cases (show u=TM a from rx)
  obtain⟨_,_,_,p⟩:=(show ObjOk X.prog X.w H s.heap a (.tup xs) from I.hok a _ ea)
  obtain⟨o,h1,h2,_⟩:=p
  exact PySem.W.kia_one PySem.W.kitx_tuple I.kIn ⟨o,h1,h2⟩ e (λz=>nomatch z) h
 | @dF a ob kvs ea =>
  cases (show u=TM a from rx)
  obtain⟨_,_,_,vs,_,p⟩:=(show ObjOk X.prog X.w H s.heap a (.frz ob (.dK kvs)) from I.hok a _ ea)
  obtain⟨o,es,ep,h1,h2,_⟩:=p
  exact PySem.W.kia_one PySem.W.kitx_dict I.kIn ⟨o,h1,h2.1⟩ e (λz=>nomatch z) h
 | @dK a kvs ea =>
  cases (show u=TM a from rx)
  obtain⟨_,_,vs,_,p⟩:=(show ObjOk X.prog X.w H s.heap a (.dK kvs) from I.hok a _ ea)
  obtain⟨o,es,ep,h1,h2,_⟩:=p
  exact PySem.W.kia_one PySem.W.kitx_dict I.kIn ⟨o,h1,h2.1⟩ e (λz=>nomatch z) h
 | @dT a kvs ea =>
  cases (show u=TM a from rx)
  obtain⟨_,_,xs,_,o,es,ep,h1,h2,_⟩:=(show ObjOk X.prog X.w H s.heap a (.dT kvs) from I.hok a _ ea)
  exact PySem.W.kia_one PySem.W.kitx_dict I.kIn ⟨o,h1,h2.1⟩ e (λz=>nomatch z) h
 | @ins a C dx fs ea cl ha hn htk hm =>
  cases (show u=TM a from rx)
  obtain⟨mA,O,_⟩:=Tc I.hok ea
  obtain⟨od,J,_⟩:=O.look
  exact PySem.W.kia_one (PySem.W.kitx_own (cl.get _) cl.hd ha hn htk hm) I.kIn J e (λz=>nomatch z) h
end
structure Room (k:Nat) (A:Around):Prop where
 hd:A.handled=none
 dp:A.depth+3*k+5<recursionLimit
 un:A.units+16*k+200<cLine
 gd:A.guards=some []
theorem Room.mono{j k:Nat}{A:Around}(r:Room k A)(h:j<=k):Room j A:=⟨r.hd,by have:=r.dp; omega,by have:=r.un; omega,by first | exact r.gd | (show pushGuards _ _=_; rw [r.gd]; rfl) | (simp [cI,pushGuards,Code.guards,dm,r.gd])⟩
theorem Room.deeper{k:Nat}{A:Around}(r:Room (k+1) A)(env:Env):Room k (A.deeper env) :=
 ⟨r.hd,by have:=r.dp; show A.depth+1+3*k+5<_; omega,by have:=r.un; show A.units+3+16*k+200<_; omega,by first | exact r.gd | (show pushGuards _ _=_; rw [r.gd]; rfl) | (simp [cI,pushGuards,Code.guards,dm,r.gd])⟩
theorem Mt{A:Around}{C:Addr}{us:List Value}{kw:List (Str×Value)}:(A.under (.builtin "type.__call__" ⟨.ref C::us,kw⟩)).depth=A.depth+1:=by
 first | rfl | simp [cI,Code.weight,Code.isCreation,dm,Code.isCaller,Code.frames,eh,guardIds]
theorem Ms{A:Around}{C:Addr}{us:List Value}{kw:List (Str×Value)}:(A.under (.builtin "type.__call__" ⟨.ref C::us,kw⟩)).units=A.units+1:=by
 first | rfl | simp [cI,Code.cUnits,Code.frames,eh]
theorem Room.make{k:Nat}{A:Around}(r:Room (k+1) A)(C:Addr)(us:List Value)(kw:List (Str×Value)):Room k (A.under (.builtin "type.__call__" ⟨.ref C::us,kw⟩)) :=
 ⟨r.hd,by have:=r.dp; rw [Mt]; omega,by have:=r.un; rw [Ms]; omega,by first | exact r.gd | (show pushGuards _ _=_; rw [r.gd]; rfl) | (simp [cI,pushGuards,Code.guards,dm,r.gd])⟩
theorem Room.depth{k:Nat}{A:Around}(r:Room k A):A.depth<recursionLimit:=by have:=r.dp; omega
theorem Room.units{k:Nat}{A:Around}(r:Room k A):A.units+64<cLine:=by have:=r.un; omega
theorem Room.units0{k:Nat}{A:Around}(r:Room k A):A.units<cLine:=by have:=r.un; omega
noncomputable def P9:TA:=λ_ H Q=>Q [] H
noncomputable def NP(ta:TE)(tr:TA):TA:=λσ H Q=>ta σ H λx H1=>tr σ H1 λxs H2=>Q (x::xs) H2
section
variable {X:Cx}{e:Expr}{es:List Expr}{te:TE}{t:TA}{pos:Pos}
theorem B1:PA X [] P9:=λ_ _ _ _ H Q I h=>dX ⟨[],H,I,.nil,h⟩
theorem A9(ha:PE X e te)(hr:PA X es t)(hs:autoParam (starEach (e::es) X.env=(false,eval e X.env)::starEach es X.env) zau3._auto_1):PA X (e::es) (NP te t):=by
 intro pos pins s σ H Q I h
 rw [hs]
 show wpAny _ _ (spliced ((false,eval e X.env)::backTo pos (starEach es X.env))) _ _ s
 refine cJ (BB (ha pins s σ H _ I h) λu s1 ⟨x,H1,I1,r1,q1⟩=>?_)
 exact BB (hr pos pins s1 σ H1 _ I1 q1) λus s2 ⟨xs,H2,I2,r2,q2⟩=>⟨x::xs,H2,I2,.cons r1 r2,q2⟩
noncomputable def Yj(t:TA):TE:=λσ H Q=>t σ H λxs H1=>xs.length<=sizeLine/\∀p,H1 p=none->Q (.ref p) (Ar H1 p (.tup xs))
noncomputable def Yo(t:TA):TE:=λσ H Q=>t σ H λxs H1=>xs.length<=sizeLine/\∀p,H1 p=none->Q (.ref p) (Ar H1 p (.lst xs))
theorem Qn{x1}(h:PA X es t):PE X (.Tuple es x1 pos) (Yj t):=by
 intro pins s σ H Q I hq
 refine wpAny_Tuple_spliced (BB (h pos pins s σ H _ I hq) λus s1 ⟨xs,H1,I1,r,z,q⟩=>⟨by rw [← r.length]; exact z,?_⟩)
 have hf:H1 s1.heap.objs.size=none:=I1.hok.fresh (Go _)
 refine⟨.ref s1.heap.objs.size,Ar H1 s1.heap.objs.size (.tup xs),I1.laid (t':=s1.toks) (λb u e=>Ev _ e) (Go _) ?_,rfl,q _ hf⟩
 exact⟨z,us,r,IsTupN.new _ _⟩
theorem Ml(h:PA X es t):PE X (.List es pos) (Yo t):=by
 intro pins s σ H Q I hq
 refine wpAny_List_spliced (BB (h pos pins s σ H _ I hq) λus s1 ⟨xs,H1,I1,r,z,q⟩=>⟨by rw [← r.length]; exact z,?_⟩)
 have hf:H1 s1.heap.objs.size=none:=I1.hok.fresh (Go _)
 refine⟨.ref s1.heap.objs.size,Ar H1 s1.heap.objs.size (.lst xs),I1.laid (t':=s1.toks) (λb u e=>Ev _ e) (Go _) ?_,rfl,q _ hf⟩
 exact⟨z,us,0,r,XV _ rfl⟩
end
noncomputable abbrev Sp:=List V->Hp->VK->XK->Prop
noncomputable abbrev Ps:=List Env->Hp->Shared->XK->Value->Shared->Prop
structure Env0 (P:Program) (w:World) (K:Frag) (mg:Str->Option Value) (base:Heap) (A:Around) (outer:List Env) (s:Shared) (H:Hp):Prop where
 frames:A.frames=some outer
 mod:Mod K mg base
 bs:∀b o,base.get? b=some o->s.heap.get? b=some o/\H b=none
 bsz:base.objs.size<=s.heap.objs.size
 funs:s.heap.FunFrames base outer
 frf:∀b∈KP outer,H b=none
 hok:HOk P w H s.heap
 bare:AllBare s.gens
noncomputable def CE(outer:List Env)(P:Program)(w:World)(H:Hp)(s:Shared)(Q:VK)(u:Value)(s':Shared):Prop :=
 ∃v H',s'.os=s.os/\AllBare s'.gens/\Un (KP outer) [] H H' s.heap s'.heap/\HOk P w H' s'.heap/\RelV v u/\Q v H'
noncomputable def CR(CX:Ps)(outer:List Env)(P:Program)(w:World)(H:Hp)(s:Shared)(Q:VK)(E:XK)(r:Result)(s':Shared):Prop :=
 match r with
 | .ok (.ret u)=>CE outer P w H s Q u s'
 | .ok _=>False
 | .error e=>CX outer H s E e s'
structure A5 (P:Program) (w:World) (K:Frag) (mg:Str->Option Value) (base:Heap) (CX:Ps) (k:Nat) (f:Addr) (fd:FuncData) (ps:List Str) (sp:Sp):Prop where
 len:∀vs H Q E,sp vs H Q E->vs.length=ps.length
 run:∀(A:Around) (outer:List Env) (s:Shared) (H:Hp) (args:Args) (us:List Value) (vs:List V) (Q:VK) (E:XK),Room k A->Env0 P w K mg base A outer s H->BindsTo s fd args (ps.zip us)->Vals vs us->sp vs H Q E ->
  codeAny (model P w) A (.call (.ref f) args) (CR CX outer P w H s Q E) s
theorem Env0.make{P:Program}{w:World}{K:Frag}{mg:Str->Option Value}{base:Heap}{A:Around}{outer:List Env}{s:Shared}{H:Hp}(e:Env0 P w K mg base A outer s H)(C:Addr)(us:List Value)(kw:List (Str×Value)) :
  Env0 P w K mg base (A.under (.builtin "type.__call__" ⟨.ref C::us,kw⟩)) outer s H:=⟨by first | exact e.frames | (simpa [cI,Code.envs,eh,pushEnvs] using e.frames),e.mod,e.bs,e.bsz,e.funs,e.frf,e.hok,e.bare⟩
section
variable {X:Cx}{pins:List (Addr×Obj)}{σ:St}{H:Hp}{s s':Shared}
theorem Inv.env0(I:Inv X pins σ H s):Env0 X.prog X.w X.K X.mg X.base X.A X.stack s H :=
 ⟨I.ok.frames,I.ok.mod,I.bs,Zv I.ok.bsz I.sz,I.stack,I.stkFree,I.hok,I.bare⟩
theorem Inv.after{Q:VK}{u:Value}(I:Inv X pins σ H s)(h:CE X.stack X.prog X.w H s Q u s'):EP X pins σ Q u s':=by
 obtain⟨v,H',os,bare,un,hok,r,q⟩:=h
 obtain⟨hh,g,d,t,os'⟩:=s'
 obtain rfl:os'=s.os:=os
 exact⟨v,H',I.call (h':=hh) (g':=g) (d':=d) (t':=t) (ch:=[]) un hok bare (λb z=>absurd z (by simp)),r,q⟩
end
noncomputable def NQ(sp:Sp)(dvs:List V)(E:XK)(t:TA):TE:=λσ H Q=>t σ H λvs H1=>sp (vs++dvs) H1 Q E
noncomputable def Binds(K:Frag)(fd:FuncData)(ps:List Str)(ds:List Value):Prop :=
 ∀(s:Shared) (us:List Value),K.In s.heap->(us++ds).length=ps.length->BindsTo s fd ⟨us,[]⟩ (ps.zip (us++ds))
theorem Binds.all{K:Frag}{fd:FuncData}{ps:List Str}(h:∀us:List Value,us.length=ps.length->bindArgs fd ⟨us,[]⟩=pure (ps.zip us)):Binds K fd ps []:=λs us _ hl=>by
 rw [aR] at hl ⊢
 exact .of_eq (h us hl)
noncomputable def FP(CX:Ps)(X:Cx)(E:XK):Prop:=∀(pins:List (Addr×Obj)) (σ:St) (H:Hp) (s:Shared) (e:Value) (s':Shared),Inv X pins σ H s->CX X.stack H s E e s'->X.xe e s'
section
variable {X:Cx}{CX:Ps}{k:Nat}{f C:Addr}{fd:FuncData}{ps:List Str}{sp:Sp}{dvs:List V}{ds:List Value}{E:XK}{x m:Str}{p pos apos:Pos}{e o:Expr}{es:List Expr}{ta:TE}{t:TA}
theorem QJ{pins:List (Addr×Obj)}{σ:St}{H:Hp}{s:Shared}{Q:VK}{us:List Value}{vs:List V}(F:A5 X.prog X.w X.K X.mg X.base CX k f fd ps sp)(hr:Room k X.A)(hb:Binds X.K fd ps ds)(hd:Vals dvs ds)(hx:FP CX X E)
  (I:Inv X pins σ H s) (r:Vals vs us) (h:sp (vs++dvs) H Q E):wpAny (model X.prog X.w) X.A (call (.ref f) us) (EP X pins σ Q) X.xe s:=by
 have r2:Vals (vs++dvs) (us++ds):=r.append hd
 have hl:(us++ds).length=ps.length:=by rw [← r2.length]; exact F.len _ _ _ _ h
 refine b7 (cK (F.run X.A X.stack s H ⟨us,[]⟩ (us++ds) (vs++dvs) Q E hr I.env0 (hb s us I.kIn hl) r2 h) λr s' hq=>?_)
 cases r with
 | error e=>exact hx pins σ H s e s' I hq
 | ok fl =>
  cases fl with
  | ret u=>exact I.after hq
  | next=>exact am hq
  | brk=>exact am hq
  | cont=>exact am hq
theorem Nd(F:A5 X.prog X.w X.K X.mg X.base CX k f fd ps sp)(hr:Room k X.A)(hg:Gl X x)(hm:X.mg x=some (.ref f))(hk:keepIn X.K (.ref f)=true)(hb:Binds X.K fd ps ds)(hd:Vals dvs ds)(hx:FP CX X E)
  (ha:PA X (e::es) t) (hdb:autoParam ((x==("__debug__" : Str))=false) zau1._auto_1) (he:autoParam (starEach (e::es) X.env=(false,eval e X.env)::starEach es X.env) zau3._auto_1) (hpl:autoParam ((backTo pos (starEach es X.env)).any (·.1)=false) zau3._auto_1) :
  PE X (.Call (.Name x p) (e::es) [] pos) (NQ sp dvs E t):=by
 intro pins s σ H Q I h
 refine ag (Df I hg hm ?_ hdb)
 refine PySem.W.callWith_K (h₀:=X.base) I.ok.mod.kin hk (BB (ha pos pins s σ H _ I h) λus s1 ⟨vs,H1,I1,r,q⟩=>⟨I1.kIn,?_⟩) he hpl
 exact QJ F hr hb hd hx I1 r q
theorem Qq(F:A5 X.prog X.w X.K X.mg X.base CX k f fd ps sp)(hr:Room k X.A)(hg:Gl X x)(hm:X.mg x=some (.ref f))(hk:keepIn X.K (.ref f)=true)(hb:Binds X.K fd ps ds)(hd:Vals dvs ds)(hx:FP CX X E)
  (hdb:autoParam ((x==("__debug__" : Str))=false) zau1._auto_1):PE X (.Call (.Name x p) [] [] pos) (NQ sp dvs E P9):=by
 intro pins s σ H Q I h
 refine ag (Df I hg hm ?_ hdb)
 exact PySem.W.callWith_K0 I.kIn hk (QJ (us:=[]) F hr hb hd hx I .nil h)
structure Mk (K:Frag) (C f:Addr):Prop where
 makes:PySem.W.makesIn K C=true
 init:PySem.W.findIn K (.ref C) "__init__"=some (some (.ref f))
 fn:PySem.W.isFn K (.ref f)=true
 kp:keepIn K (.ref C)=true
end
section
variable {X:Cx}{CX:Ps}{k:Nat}{f C:Addr}{fd:FuncData}{ps ks:List Str}{sp:Sp}{E:XK}{x m:Str}{p pos apos kpos:Pos}{e o:Expr}{es:List Expr}{kws:List Keyword}{te ta:TE}{t tk:TA}{nm:Option Str}
structure Y9 (K:Frag) (fd:FuncData) (ps ks:List Str) (g:List Value->List Value->List Value) (gV:List V->List V->List V):Prop where
 to:∀(s:Shared) (us ws:List Value),K.In s.heap->(g us ws).length=ps.length->BindsTo s fd ⟨us,ks.zip ws⟩ (ps.zip (g us ws))
 rel:∀{vs:List V} {us:List Value} {zs:List V} {ws:List Value},Vals vs us->Vals zs ws->Vals (gV vs zs) (g us ws)
variable {g:List Value->List Value->List Value}{gV:List V->List V->List V}
end
structure Ah (N P:List Str) (sc:Scope):Prop where
 kind:sc.kind=.function
 co:sc.isCoroutine=false
 gen:sc.isGenerator=false
 nd:N.Nodup
 pre:N.take P.length=P
 par:∀x∈P,sc.names.lookup x=some .local\/sc.names.lookup x=some .cell
 nofree:∀y∈sc.names,y.2≠.free
theorem JW{kindOf:Str->Option NameKind}{x:Str}:∀{binds:List (Str×Value)} {m:Str->Option Value},(∀v,(x,v)∉binds)->bindL kindOf binds m x=m x
 | [],_,_=>rfl
 | (n,v)::r,m,h=>by
  unfold bindL
  rw [JW λw hw=>h w (Is _ hw)]
  split
  ·have:x≠n:=by rintro rfl; exact h v On
   simp [this]
  ·rfl
theorem JY{kindOf:Str->Option NameKind}{x:Str}:∀{binds:List (Str×Value)} {m:Str->Option Value},(∀v,(x,v)∉binds)->bindC kindOf binds m x=m x
 | [],_,_=>rfl
 | (n,v)::r,m,h=>by
  unfold bindC
  rw [JY λw hw=>h w (Is _ hw)]
  split
  ·rfl
  ·have:x≠n:=by rintro rfl; exact h v On
   simp [this]
theorem JX{kindOf:Str->Option NameKind}{x:Str}{v:Value}:∀{P:List Str} {vs:List Value} {i:Nat} {m:Str->Option Value},P.Nodup->P[i]?=some x->vs[i]?=some v->kindOf x=some .local ->
  bindL kindOf (P.zip vs) m x=some v
 | [],_,_,_,_,h,_,_=>by simp at h
 | _::_,[],_,_,_,_,h,_=>by simp at h
 | p::P,w::vs,0,m,nd,h1,h2,hk=>by
  simp at h1 h2; subst h1; subst h2
  show bindL kindOf ((p,w)::P.zip vs) m p=_
  unfold bindL
  rw [JW λv hv=>(bM.mp nd).1 (cy hv).1,if_pos hk]
  simp
 | p::P,w::vs,i+1,m,nd,h1,h2,hk=>by
  show bindL kindOf ((p,w)::P.zip vs) m x=_
  unfold bindL
  exact JX (i:=i) (bM.mp nd).2 (by simpa using h1) (by simpa using h2) hk
theorem JZ{kindOf:Str->Option NameKind}{x:Str}{v:Value}:∀{P:List Str} {vs:List Value} {i:Nat} {m:Str->Option Value},P.Nodup->P[i]?=some x->vs[i]?=some v->kindOf x≠some .local ->
  bindC kindOf (P.zip vs) m x=some v
 | [],_,_,_,_,h,_,_=>by simp at h
 | _::_,[],_,_,_,_,h,_=>by simp at h
 | p::P,w::vs,0,m,nd,h1,h2,hk=>by
  simp at h1 h2; subst h1; subst h2
  show bindC kindOf ((p,w)::P.zip vs) m p=_
  unfold bindC
  rw [JY λv hv=>(bM.mp nd).1 (cy hv).1,if_neg hk]
  simp
 | p::P,w::vs,i+1,m,nd,h1,h2,hk=>by
  show bindC kindOf ((p,w)::P.zip vs) m x=_
  unfold bindC
  exact JZ (i:=i) (bM.mp nd).2 (by simpa using h1) (by simpa using h2) hk
noncomputable def start(N:List Str)(vs:List V):St:=vs.map some++Re (N.length - vs.length) none
noncomputable def Fq(CX:Ps)(P:Program)(w:World)(K:Frag)(mg:Str->Option Value)(base:Heap)(N:List Str)(qual:Str)(scope:Scope)(f:Addr)(cd:Value)(A:Around)(outer:List Env)(s:Shared)(H:Hp)(E:XK):Cx where
 prog:=P
 w:=w
 K:=K
 mg:=mg
 base:=base
 A:=A.deeper (envOfC qual scope s.heap.objs.size f cd)
 N:=N
 s₀:=s
 H₀:=H
 env:=envOfC qual scope s.heap.objs.size f cd
 outer:=outer
 stack:=envOfC qual scope s.heap.objs.size f cd::outer
 ex:=[]
 calm:=true
 fn:=λ_=>true
 pn:=[]
 xe:=λe s'=>wpAny (model P w) (A.deeper (envOfC qual scope s.heap.objs.size f cd)) (leaving (envOfC qual scope s.heap.objs.size f cd) e) (λ_ s''=>CX outer H s E e s'') (λe' s''=>CX outer H s E e' s'') s'
theorem L4{sc:Scope}{n:Nat}{x:Str}(h:sc.names.lookup x=some .cell):∃c,(cellsFrom n sc.names []).lookup x=some c:=by
 have q:=PySem.W.cellsFrom_some sc.names n [] (.inl h)
 exact Option.isSome_iff_exists.mp q
theorem PL{CX:Ps}{P:Program}{w:World}{K:Frag}{mg:Str->Option Value}{base:Heap}{N ps:List Str}{qual:Str}{scope:Scope}{f:Addr}{cd:Value}{A:Around}{outer:List Env}{s s1:Shared}{H:Hp}{E:XK}{us:List Value}{vs:List V}
  (S:Ah N ps scope) (hd:A.handled=none) (e0:Env0 P w K mg base A outer s H) (hl:vs.length=ps.length) (r:Vals vs us)
  (x:InCallC s s.heap.objs.size (bindL (envOfC qual scope s.heap.objs.size f cd).kindOf (ps.zip us) λ_=>none) (cellsFrom (s.heap.objs.size+1) scope.names []) (bindC (envOfC qual scope s.heap.objs.size f cd).kindOf (ps.zip us) λ_=>none) s1) :
  Inv (Fq CX P w K mg base N qual scope f cd A outer s H E) [] (start N vs) H s1:=by
 have hpl:ps.length<=N.length:=by have:=congrArg eN S.pre; rw [dq] at this; omega
 obtain⟨h1,tk,rfl,hk⟩:=x.done
 have noA:∀b:Addr,b∉(Fq CX P w K mg base N qual scope f cd A outer s H E).ex:=λb z=>absurd (show b∈([]:List Addr) from z) (by simp)
 refine⟨⟨e0.mod,S.kind,rfl,rfl,Go _,λy z c h1 h2=>?_,λy hy=>?_,λy c _ h=>?_,λ_=>hd,Around.frames_deeper e0.frames,.inr ⟨rfl,rfl⟩,λb z=>absurd z (noA b),e0.bs,e0.bsz,λb _ _=>noA b,λb z=>absurd z (noA b),e0.funs,e0.frf⟩,
  rfl,e0.bare,Un.kept hk,⟨_,x.toInCall.ns,λi y v h1 h2 h3=>?_⟩,λy c h=>⟨_,x.cell y c h⟩,e0.hok.fresh (Go _),λy c h=>?_,λp hp=>absurd (show p∈([]:List (Addr×Obj)) from hp) (by simp),e0.hok.kept hk,?_⟩
 ·exact name_of_addr x.apart (PySem.mem_of_lookup h1) (PySem.mem_of_lookup h2)
 ·have hy:scope.names.lookup y=some .cell\/scope.names.lookup y=some .free:=hy
  rcases hy with hy | hy
  ·exact L4 hy
  ·exact absurd rfl (S.nofree _ (PySem.mem_of_lookup hy))
 ·exact dj (x.above y c (PySem.mem_of_lookup h))
 ·have hi:i<vs.length:=by
   unfold start at h2
   by_cases hi:i<vs.length
   ·exact hi
   ·rw [bN (by simpa using hi)] at h2
    rw [cT] at h2
    split at h2 <;> cases h2
  have ha:vs[i]?=some v:=by
   unfold start at h2
   rw [cF (by simpa using hi),Zn] at h2
   cases e:vs[i]? with
   | none=>rw [e] at h2; cases h2
   | some a=>rw [e] at h2; cases h2; rfl
  obtain⟨u,hu,rv⟩:=r.get ha
  have hp:ps[i]?=some y:=by
   rw [← S.pre,List.getElem?_take_of_lt (by omega)]; exact h1
  have ndP:ps.Nodup:=by rw [← S.pre]; exact S.nd.sublist (List.take_sublist _ _)
  refine⟨u,rv,?_⟩
  rcases S.par y (List.mem_of_getElem? hp) with k | k
  ·exact .inl ⟨k,JX ndP hp hu k⟩
  ·obtain⟨c,e⟩:=L4 (n:=s.heap.objs.size+1) k
   refine .inr ⟨.inl k,c,e,?_⟩
   have q:=x.cell y c e
   rw [JZ ndP hp hu (by show scope.names.lookup y≠_; rw [k]; decide)] at q
   exact q
 ·exact e0.hok.fresh (dj (x.above y c (PySem.mem_of_lookup h)))
 ·unfold start
  show _=N.length
  rw [FM,Cn,eP]
  omega
theorem Up{CX:Ps}{P:Program}{w:World}{K:Frag}{mg:Str->Option Value}{base:Heap}{k:Nat}{f:Addr}{name qual:Str}{params:Arguments}{body:List Stmt}{scope:Scope}{dV kV doc pm cdv ct oc:Value}{an od:Option Addr}
  {osl:Array (Option Value)} {N ps:List Str} {sp:Sp} (lk:K.lookup f=some ⟨oc,od,.func (fnOf name qual params body scope dV kV doc pm an cdv ct),osl⟩) (hcd:codeIn K cdv qual=true) (S:Ah N ps scope)
  (len:∀vs H Q E,sp vs H Q E->vs.length=ps.length)
  (hbody:∀(A:Around) (outer:List Env) (s:Shared) (H:Hp) (vs:List V) (Q:VK) (E:XK),Room k (A.deeper (envOfC qual scope s.heap.objs.size f cdv))->sp vs H Q E ->
   ∃t,PSs (Fq CX P w K mg base N qual scope f cdv A outer s H E) body t/\t { nx:=λ_ H'=>Q .non H',rt:=Q } (start N vs) H) :
  A5 P w K mg base CX (k+1) f (fnOf name qual params body scope dV kV doc pm an cdv ct) ps sp:=by
 refine⟨len,λA outer s H args us vs Q E hr e0 hb r hsp=>?_⟩
 have hl:=len _ _ _ _ hsp
 have KX:K.In s.heap:=e0.mod.kin.keeps λb o e=>(e0.bs b o e).1
 have lim:s.heap.NoLimit:=e0.mod.nolimit.keeps λb o e=>(e0.bs b o e).1
 have hkind:∀y∈ps.zip us,scope.names.lookup y.1=some .local\/(scope.names.lookup y.1=some .cell/\((cellsFrom (s.heap.objs.size+1) scope.names []).lookup y.1).isSome=true):=fun⟨n,v⟩ hy=>by
  rcases S.par n (cy hy).1 with q | q
  ·exact .inl q
  ·exact .inr ⟨q,PySem.W.cellsFrom_some _ _ _ (.inl q)⟩
 refine codeAny_call_function hr.depth (KX _ _ lk) rfl S.co S.gen rfl (PySem.W.codeRec_of KX hcd) (hb _ _ _ _ ?_)
 refine wpAny_newFunctionEnv_cells S.kind hkind λenv he s1 x=>?_
 subst he
 refine⟨lim.keeps x.toInCall.keep,codeAny_func ?_⟩
 obtain⟨t,ht,hq⟩:=hbody A outer s H vs Q E (hr.deeper _) hsp
 have I:Inv (Fq CX P w K mg base N qual scope f cdv A outer s H E) [] (start N vs) H s1:=PL S hr.hd e0 hl r x
 refine Z6 (ht [] s1 (start N vs) H _ I hq) (λfl s' hs=>?_) λe s' hs=>hs
 have fin:∀{σ':St} {H':Hp} {v:V} {u:Value},Inv (Fq CX P w K mg base N qual scope f cdv A outer s H E) [] σ' H' s'->RelV v u->Q v H'->CE outer P w H s Q u s' :=
  λ{σ' H' v u} J rv q=>⟨v,H',J.os,J.bare,J.base,J.hok,rv,q⟩
 cases fl with
 | ret u =>
  obtain⟨v,σ',H',J,rv,q⟩:=hs
  exact fin J rv q
 | next =>
  obtain⟨σ',H',J,q⟩:=hs
  exact fin (v:=V.non) (u:=Zx) J rfl q
 | brk =>
  obtain⟨_,_,_,q⟩:=hs
  exact am q
 | cont =>
  obtain⟨_,_,_,q⟩:=hs
  exact am q
section
variable {X:Cx}{x:Str}{p pos:Pos}{e:Expr}{es:List Expr}{t:TA}{id T:String}{r:List V->Hp->VK->Prop}
noncomputable def YS(r:List V->Hp->VK->Prop)(t:TA):TE:=λσ H Q=>t σ H λvs H1=>r vs H1 Q
theorem Cf(hc:B9 X (.builtin id) r)(hg:Gl X x)(hm:X.mg x=none)(hv:bootBuiltins x=some (.builtin id))(ha:PA X (e::es) t)(hn:autoParam (x ≠ "__name__") zau1._auto_1)(hdb:autoParam ((x==("__debug__" : Str))=false) zau1._auto_1)
  (he:autoParam (starEach (e::es) X.env=(false,eval e X.env)::starEach es X.env) zau3._auto_1) (hpl:autoParam ((backTo pos (starEach es X.env)).any (·.1)=false) zau3._auto_1):PE X (.Call (.Name x p) (e::es) [] pos) (YS r t):=by
 intro pins s σ H Q I h
 refine ag (GH I hg hm hv ?_ hn hdb)
 exact PyProof.Rows.callWith_builtin1 (BB (ha pos pins s σ H _ I h) λus s1 ⟨vs,H1,I1,r1,q1⟩=>hc pins s1 σ H1 vs us Q I1 r1 q1) he hpl
theorem JB(hc:B9 X (.type T) r)(hg:Gl X x)(hm:X.mg x=none)(hv:bootBuiltins x=some (.type T))(ha:PA X (e::es) t)(hn:autoParam (x ≠ "__name__") zau1._auto_1)(hdb:autoParam ((x==("__debug__" : Str))=false) zau1._auto_1)
  (he:autoParam (starEach (e::es) X.env=(false,eval e X.env)::starEach es X.env) zau3._auto_1) (hpl:autoParam ((backTo pos (starEach es X.env)).any (·.1)=false) zau3._auto_1):PE X (.Call (.Name x p) (e::es) [] pos) (YS r t):=by
 intro pins s σ H Q I h
 refine ag (GH I hg hm hv ?_ hn hdb)
 exact bJ (BB (ha pos pins s σ H _ I h) λus s1 ⟨vs,H1,I1,r1,q1⟩=>hc pins s1 σ H1 vs us Q I1 r1 q1) he hpl
end
end L2
namespace HT
open PySem PyProof.Rows
section
open PySem.SeqAt
open PySem.AutoSeq1 (wpAny_loadPart')
open PySem.MeetsSeq PySem.MeetsSeq2 PySem.MeetsSeq3
end
section
variable {prog:Program}{w:World}{A:Around}{E:Value->Shared->Prop}{s:Shared}
theorem cat_tup{t b:Addr}{vs ws:List Value}{Q:Value->Shared->Prop}(ht:IsTup s.heap t vs.toArray)(hb:IsTup s.heap b ws.toArray)(hv:vs≠[])
  (h1:ws=[]->Q (.ref t) s) (h2:ws≠[]->Q (.ref s.heap.objs.size) { s with heap:=s.heap.push { cls:=.type "tuple",data:=.seq (vs++ws).toArray } })
  (hsz:vs.length+ws.length<=sizeLine):wpAny (model prog w) A (binaryOp .Add (.ref t) (.ref b)) Q E s:=by
 obtain⟨⟨cls,dd,data,sl⟩,ho,hc,n,hd⟩:=id ht
 obtain⟨⟨cls2,dd2,data2,sl2⟩,ho2,hc2,n2,hd2⟩:=id hb
 simp only at hc hd hc2 hd2
 subst hc hd hc2 hd2
 have e:vs.toArray++ws.toArray=(vs++ws).toArray:=by simp
 by_cases hw:ws=[]
 ·exact concat_meets ⟨_,ho,rfl⟩ ⟨_,ho2,rfl⟩ du seq_tuple_add PySem.F.slot_tuple_add PySem.F.entry_tuple_add (PySem.F.args_tuple_add_2 _ _)
   (tuple_addW1 t b vs.toArray ws.toArray n n2 dd dd2 sl sl2 (by simpa using hv) (by simp [hw])) ⟨ho,ho2,h1 hw⟩
 ·refine concat_meets ⟨_,ho,rfl⟩ ⟨_,ho2,rfl⟩ du seq_tuple_add PySem.F.slot_tuple_add PySem.F.entry_tuple_add (PySem.F.args_tuple_add_2 _ _)
   (tuple_addW2 t b vs.toArray ws.toArray n n2 dd dd2 sl sl2 (by simpa using hv) (by simpa using hw) (by rw [Rs,Rs]; exact hsz)) ⟨ho,ho2,?_⟩
  rw [e]
  exact h2 hw
noncomputable def sIx(n d:Nat):Option Int->Nat
 | none=>d
 | some v=>if v<0 then (v+(n:Int)).toNat else min v.toNat n
theorem sIx_none(n d:Nat):sIx n d none=d:=rfl
theorem sIx_nat(n d k:Nat):sIx n d (some (k:Int))=min k n:=by
 show (if (k:Int)<0 then ((k:Int)+(n:Int)).toNat else min (k:Int).toNat n)=min k n
 rw [if_neg (by omega),bQ]
theorem VM(n d:Nat)(hd:d<=n)(o:Option Int):sIx n d o<=n:=by
 cases o with
 | none=>exact hd
 | some v =>
  show (if v<0 then (v+(n:Int)).toNat else min v.toNat n)<=n
  by_cases hv:v<0
  ·rw [if_pos hv]; omega
  ·rw [if_neg hv]; exact dw _ _
theorem OA(v:Int)(n d:Nat):(if v<0 then max (v+(n:Int)) 0 else min v (n:Int))=((sIx n d (some v):Nat):Int):=by
 show (if v<0 then max (v+(n:Int)) 0 else min v (n:Int))=(((if v<0 then (v+(n:Int)).toNat else min v.toNat n):Nat):Int)
 by_cases hv:v<0
 ·simp only [if_pos hv]; omega
 ·simp only [if_neg hv]; omega
theorem NH(lo hi:Option Int)(n:Nat):ax lo hi 1 (n:Int)=(((sIx n 0 lo:Nat):Int),((sIx n n hi:Nat):Int)):=by
 have h1:¬((1:Int)<0):=by omega
 unfold ax
 simp only [h1,if_false]
 refine Prod.ext ?_ ?_
 ·cases lo with
  | none=>rfl
  | some v=>exact OA v n 0
 ·cases hi with
  | none=>rfl
  | some v=>exact OA v n n
theorem Mh(i j:Nat):aF (i:Int) (j:Int) 1=j - i:=by
 unfold aF
 have h1:(1:Int) > 0:=by omega
 simp only [h1,if_true,Int.ediv_one]
 split <;> omega
theorem slicePart_{v:Value}{o:Option Int}{Q:Option Int->Shared->Prop}(p:IsPart v o)(h:Q o s):wpAny (model prog w) A (Builtin.Slice.slicePartIndex v) Q E s:=by
 cases p with
 | none=>exact slicePart_none h
 | int i t=>exact slicePart_int h
theorem sliceApplied_gen{sl:Addr}{vl vu:Value}{lo hi:Option Int}{n:Nat}{Q:Int×Int×Nat->Shared->Prop}(hs:s.heap.IsSliceOf sl vl vu .none)(pl:IsPart vl lo)(pu:IsPart vu hi)
  (h:Q (((sIx n 0 lo:Nat):Int),1,sIx n n hi - sIx n 0 lo) s):wpAny (model prog w) A (bO (.ref sl) (pure (n:Int))) Q E s:=by
 obtain⟨os,hos,hcs,hds⟩:=id hs
 unfold bO dg
 refine Ch (Ch (al hos hds (x:=vl) rfl (Ch (al hos hds (x:=vu) rfl (Ch (al hos hds (x:=.none) rfl (Db ?_)))))))
 refine Ch (slicePart_none ?_)
 show wpAny _ _ (if ((1:Int)==0)=true then _ else _) _ _ s
 rw [if_neg (by decide)]
 refine Ch (slicePart_ pl (Ch (slicePart_ pu (Ch (Db ?_)))))
 show wpAny _ _ (match ax lo hi 1 (n:Int) with | (lo,hi)=>pure (lo,(1:Int),aF lo hi 1)) _ _ s
 rw [NH lo hi n]
 show wpAny _ _ (pure (((sIx n 0 lo:Nat):Int),(1:Int),aF ((sIx n 0 lo:Nat):Int) ((sIx n n hi:Nat):Int) 1)) _ _ s
 rw [Mh]
 exact Db h
theorem Qh(xs:Array Value)(i k:Nat):((Z0 k).filterMap fun(m:Nat)=>xs[((i:Int)+(m:Int)*1).toNat]?).toArray=((xs.toList.drop i).take k).toArray:=by
 have e:(fun(m:Nat)=>xs[((i:Int)+(m:Int)*1).toNat]?)=λm=>xs[i+m]?:=by
  funext m
  have:((i:Int)+(m:Int)*1).toNat=i+m:=by omega
  rw [this]
 rw [e]
 have:=pick_run xs i k
 rw [dM] at this
 have e2:((λx=>xs[x]?)∘λx=>i+x)=λm=>xs[i+m]?:=rfl
 rw [e2] at this
 rw [this]
theorem getItem_tuple_cut{t sl:Addr}{items:Array Value}{vl vu:Value}{lo hi:Option Int}{Q:Value->Shared->Prop}(ht:IsTup s.heap t items)(hs:s.heap.IsSliceOf sl vl vu .none)(pl:IsPart vl lo)(pu:IsPart vu hi)
  (hw:¬(sIx items.size 0 lo=0/\sIx items.size items.size hi=items.size))
  (h:Q (.ref s.heap.objs.size) { s with heap:=s.heap.push { cls:=.type "tuple",data:=.seq ((items.toList.drop (sIx items.size 0 lo)).take (sIx items.size items.size hi - sIx items.size 0 lo)).toArray } })
  (hsz:items.size<=sizeLine):wpAny (model prog w) A (getItem (.ref t) (.ref sl)) Q E s:=by
 have htake:sizeOk (.seq ((items.toList.drop (sIx items.size 0 lo)).take (sIx items.size items.size hi - sIx items.size 0 lo)).toArray):=by
  show ((items.toList.drop (sIx items.size 0 lo)).take (sIx items.size items.size hi - sIx items.size 0 lo)).toArray.size<=sizeLine
  rw [Rs,dq,List.length_drop,Z8]
  omega
 have hj:sIx items.size items.size hi<=items.size:=VM _ _ (Go _) hi
 obtain⟨os,hos,hcs,hds⟩:=id hs
 have hTs:s.TypeIs (.ref sl) "slice":=⟨os,hos,hcs⟩
 unfold getItem
 try with_reducible refine aD ?_
 first | refine Ch (Db ?_) | skip
 refine Ch (dY ht.typeIs (by decide) ?_)
 refine Ch (aS (name:=aH "__getitem__") ht.typeIs Zy
  (av Zy ht.typeIs dD ?_ (dN _ _)))
 show wpAny _ _ (b9 (.ref t) >>= _) _ _ s
 refine Ch (tupleItemsOf_ ht ?_)
 refine Ch (d3 hTs ?_)
 rw [if_pos (by decide)]
 refine Ch (sliceApplied_gen hs pl pu ?_)
 have hno:¬((((sIx items.size 0 lo:Nat):Int)==0&&(1:Int)==1&&(sIx items.size items.size hi - sIx items.size 0 lo)==items.size)=true):=by
  intro q
  rw [Zo,Zo] at q
  have q1:((sIx items.size 0 lo:Nat):Int)=0:=eq_of_beq q.1.1
  have q2:sIx items.size items.size hi - sIx items.size 0 lo=items.size:=eq_of_beq q.2
  exact hw ⟨by omega,by omega⟩
 show wpAny _ _ (if (((sIx items.size 0 lo:Nat):Int)==0&&(1:Int)==1&&(sIx items.size items.size hi - sIx items.size 0 lo)==items.size)=true then _ else _) _ _ s
 rw [if_neg hno,Qh]
 first
  | exact Ch (m:=aI _) (Z3 (Db ⟨_,rfl,Db h⟩) htake)
  | exact Ch (m:=aI _) (Z3 (Ch (Db (Db ⟨_,rfl,Db h⟩))) htake)
  | exact Ch (Ch (m:=aI _) (Z3 (Db (Db ⟨_,rfl,Db h⟩)) htake))
  | exact Ch (Ch (m:=aI _) (Z3 (Db ⟨_,rfl,Db h⟩) htake))
end
end HT
namespace L2
open PySem PySem.Spec PyProof.Rows
noncomputable abbrev TO:=St->Hp->(Option Int->Hp->Prop)->Prop
noncomputable def PO(X:Cx)(e:Option Expr)(t:TO):Prop :=
 ∀(pins:List (Addr×Obj)) (s:Shared) (σ:St) (H:Hp) (Q:Option Int->Hp->Prop),Inv X pins σ H s->t σ H Q ->
  wpAny (model X.prog X.w) X.A (evalPart e X.env) (λu s'=>∃o H',Inv X pins σ H' s'/\IsPart u o/\Q o H') X.xe s
noncomputable def Sd:TO:=λ_ H Q=>Q none H
noncomputable def W1(t:TE):TO:=λσ H Q=>t σ H λx H1=>∃i,x=.int i/\Q (some i) H1
section
variable {X:Cx}{e:Expr}{te:TE}{lo hi:Option Expr}{tl th:TO}{pos p2:Pos}
theorem Na:PO X none Sd:=by
 intro pins s σ H Q I h
 rw [evalPart_none]
 exact Db ⟨none,H,I,.none,h⟩
theorem NZ(h:PE X e te):PO X (some e) (W1 te):=by
 intro pins s σ H Q I hw
 rw [evalPart_some]
 refine BB (h pins s σ H _ I hw) λu s1 ⟨x,H1,I1,r1,q1⟩=>?_
 obtain⟨i,rfl,q⟩:=q1
 obtain⟨t,rfl⟩:=r1
 exact⟨some i,H1,I1,.int i t,q⟩
noncomputable def SlR(X:Cx)(r:V->Option Int->Option Int->Hp->VK->Prop):Prop :=
 ∀(pins:List (Addr×Obj)) (s:Shared) (σ:St) (H:Hp) (x:V) (v vl vu:Value) (lo hi:Option Int) (sl:Addr) (Q:VK),Inv X pins σ H s->RelV x v->s.heap.IsSliceOf sl vl vu .none->IsPart vl lo->IsPart vu hi->r x lo hi H Q ->
  ∃T id,typeLookup (.type T) "__getitem__"=pure (some (.builtin id))/\s.TypeIs v T/\wpAny (model X.prog X.w) X.A (getItem v (.ref sl)) (EP X pins σ Q) X.xe s
theorem SlR.or{r r':V->Option Int->Option Int->Hp->VK->Prop}(h:SlR X r)(h':SlR X r'):SlR X (λx lo hi H Q=>r x lo hi H Q\/r' x lo hi H Q):=by
 intro pins s σ H x v vl vu lo hi sl Q I rx hs pl pu q
 rcases q with q | q
 ·exact h pins s σ H x v vl vu lo hi sl Q I rx hs pl pu q
 ·exact h' pins s σ H x v vl vu lo hi sl Q I rx hs pl pu q
noncomputable def ZU(r:V->Option Int->Option Int->Hp->VK->Prop)(te:TE)(tl th:TO):TE:=λσ H Q=>te σ H λx H1=>tl σ H1 λl H2=>th σ H2 λu H3=>r x l u H3 Q
theorem LL{r:V->Option Int->Option Int->Hp->VK->Prop}(hr:SlR X r)(he:PE X e te)(hl:PO X lo tl)(hu:PO X hi th):PE X (.Subscript e (.Slice lo hi none p2) pos) (ZU r te tl th):=by
 intro pins s σ H Q I h
 refine Subscript_ (BB (he pins s σ H _ I h) λv s1 ⟨x,H1,I1,r1,q1⟩=>?_)
 refine wpAny_Slice (BB (hl pins s1 σ H1 _ I1 q1) λvl s2 ⟨l,H2,I2,pl,q2⟩=>BB (hu pins s2 σ H2 _ I2 q2) λvu s3 ⟨u,H3,I3,pu,q3⟩=>?_)
 rw [evalPart_none]
 refine Db ?_
 have I4:Inv X pins σ H3 { s3 with heap:=s3.heap.push { cls:=.type "slice",data:=.fields #[vl,vu,.none] } }:=I3.kept (t':=s3.toks) λb ob q=>Ev _ q
 obtain⟨T,id,hT,ht,hg⟩:=hr pins { s3 with heap:=s3.heap.push { cls:=.type "slice",data:=.fields #[vl,vu,.none] } } σ H3 x v vl vu l u s3.heap.objs.size Q I4 r1 (ej ..) pl pu q3
 show wpAny (model X.prog X.w) X.A (subscriptTail e (.Slice lo hi none p2) v (.ref s3.heap.objs.size)) (EP X pins σ Q) X.xe { s3 with heap:=s3.heap.push { cls:=.type "slice",data:=.fields #[vl,vu,.none] } }
 exact tail_any (ops:=[.ref s3.heap.objs.size,v]) ht hT hg (by with_unfolding_all rfl)
noncomputable def Ij(xs:List V)(lo hi:Option Int):List V:=(xs.drop (HT.sIx xs.length 0 lo)).take (HT.sIx xs.length xs.length hi - HT.sIx xs.length 0 lo)
theorem Gd(xs:List V)(lo hi:Option Int):(Ij xs lo hi).length<=xs.length:=by
 unfold Ij
 rw [dq,List.length_drop]
 omega
noncomputable def XG(K:Frag):V->Option Int->Option Int->Hp->VK->Prop:=λx lo hi H Q=>∃a xs,x=.ref a/\SqT K H a xs /\
 ¬(HT.sIx xs.length 0 lo=0/\HT.sIx xs.length xs.length hi=xs.length)/\∀p,H p=none->Q (.ref p) (Ar H p (.tup (Ij xs lo hi)))
theorem sl_tup:SlR X (XG X.K):=by
 intro pins s σ H x v vl vu lo hi sl Q I rx hs pl pu h
 obtain⟨a,xs,rfl,hx,hw,q⟩:=h
 cases rx
 obtain⟨its,r,ht,hz⟩:=I.tuple hx
 have hlen:its.toArray.size=xs.length:=by rw [Rs]; exact r.length.symm
 refine⟨"tuple",_,Zy.lookup,ht.typeIs,?_⟩
 refine HT.getItem_tuple_cut ht hs pl pu (by rw [hlen]; exact hw) ?_ (by rw [hlen]; exact hz)
 rw [hlen]
 refine⟨.ref s.heap.objs.size,_,I.laid (t':=s.toks) (o:=.tup (Ij xs lo hi)) (λb ob q=>Ev _ q) (Go _) ?_,rfl,q _ (I.hok.fresh (Go _))⟩
 exact⟨Zv (Gd xs lo hi) hz,_,(r.drop (HT.sIx xs.length 0 lo)).take (HT.sIx xs.length xs.length hi - HT.sIx xs.length 0 lo),IsTupN.new _ _⟩
noncomputable def QZ(K:Frag):R2:=λx y H Q=>∃a b xs ys,x=.ref a/\y=.ref b/\SqT K H a xs/\SqT K H b ys/\xs≠[]/\xs.length+ys.length<=sizeLine /\
 (ys=[]->Q (.ref a) H)/\(ys≠[]->∀p,H p=none->Q (.ref p) (Ar H p (.tup (xs++ys))))
theorem Vals.nil_iff{xs:List V}{us:List Value}(r:Vals xs us):us=[]↔xs=[]:=by
 cases r with
 | nil=>simp
 | cons _ _=>simp
theorem op_catT:OpR X (binaryOp .Add) (QZ X.K):=by
 intro pins s σ H x y v u Q I rx ry h
 obtain⟨a,b,xs,ys,rfl,rfl,ha,hb,hx,hz,q1,q2⟩:=h
 cases rx
 cases ry
 obtain⟨its,r1,p1,_⟩:=I.tuple ha
 obtain⟨its2,r2,p2,_⟩:=I.tuple hb
 refine HT.cat_tup p1 p2 (λz=>hx (r1.nil_iff.mp z)) (λz=>⟨.ref a,H,I,rfl,q1 (r2.nil_iff.mp z)⟩) (λz=>?_) (by rw [← r1.length,← r2.length]; exact hz)
 refine⟨.ref s.heap.objs.size,_,I.laid (t':=s.toks) (o:=.tup (xs++ys)) (λb ob q=>Ev _ q) (Go _) ?_,rfl,q2 (λw=>z (r2.nil_iff.mpr w)) _ (I.hok.fresh (Go _))⟩
 exact⟨by rw [FM]; exact hz,_,r1.append r2,IsTupN.new _ _⟩
end
noncomputable def SQ(n:Nat)(i:Int):Option Nat:=if 0<=i then (if i<n then some i.toNat else none) else if -(n:Int)<=i then some (i+n).toNat else none
noncomputable def atI{α:Type}(xs:List α)(i:Int):Option α:=(SQ xs.length i).bind λj=>xs[j]?
theorem Nq{n:Nat}{i:Int}{j:Nat}(h:SQ n i=some j):seqIndex? i n=some j/\j<n/\-(n:Int)<=i/\i<n:=by
 unfold SQ at h
 by_cases h0:0<=i
 ·rw [if_pos h0] at h
  by_cases h1:i<n
  ·rw [if_pos h1] at h
   have e:i.toNat=j:=T0 h
   exact⟨by rw [seqIndex_of h0 h1,e],by omega,by omega,h1⟩
  ·rw [if_neg h1] at h; cases h
 ·rw [if_neg h0] at h
  by_cases h1:-(n:Int)<=i
  ·rw [if_pos h1] at h
   have e:(i+n).toNat=j:=T0 h
   exact⟨by rw [seqIndex_neg (by omega) h1,e],by omega,h1,by omega⟩
  ·rw [if_neg h1] at h; cases h
theorem Kg{α:Type}{xs:List α}{i:Int}{v:α}(h:atI xs i=some v):∃j,seqIndex? i xs.length=some j/\xs[j]?=some v/\j<xs.length/\-(xs.length:Int)<=i/\i<xs.length:=by
 unfold atI at h
 cases e:SQ xs.length i with
 | none=>rw [e] at h; cases h
 | some j =>
  rw [e] at h
  obtain⟨h1,h2,h3,h4⟩:=Nq e
  exact⟨j,h1,h,h2,h3,h4⟩
theorem AR{α:Type}{xs:List α}{j:Nat}{v:α}(h:xs[j]?=some v):atI xs (j:Int)=some v:=by
 have hj:j<xs.length:=(Z1.mp h).1
 have e:SQ xs.length (j:Int)=some j:=by
  unfold SQ
  rw [if_pos (by omega),if_pos (by omega)]; simp
 unfold atI; rw [e]; exact h
theorem MB{α:Type}(xs:List α)(v:α):atI (xs++[v]) (-1)=some v:=by
 have hl:(xs++[v]).length=xs.length+1:=by simp
 have e:SQ (xs++[v]).length (-1)=some xs.length:=by
  unfold SQ
  rw [hl,if_neg (by decide),if_pos (by omega)]
  congr 1
  omega
 unfold atI
 rw [e]
 show (xs++[v])[xs.length]?=some v
 simp
noncomputable def OQ(b:Expr):Prop:=∀o i,subscripted b false o i=operate [o,i] (getItem o i)
noncomputable def IxR(X:Cx)(r:R2):Prop :=
 ∀(value slice:Expr) (pins:List (Addr×Obj)) (s:Shared) (σ:St) (H:Hp) (x y:V) (v u:Value) (Q:VK),Inv X pins σ H s->RelV x v->RelV y u->r x y H Q ->
  subscripted slice false v u=operate [v,u] (getItem v u)->wpAny (model X.prog X.w) X.A (subscriptTail value slice v u) (EP X pins σ Q) X.xe s
noncomputable def YJ(X:Cx)(id:String)(r:V->List V->Hp->VK->Prop):Prop :=
 ∀(pins:List (Addr×Obj)) (s:Shared) (σ:St) (H:Hp) (x:V) (xs:List V) (v:Value) (us:List Value) (Q:VK),Inv X pins σ H s->RelV x v->Vals xs us->r x xs H Q ->
  wpAny (model X.prog X.w) X.A (call (.builtin id) (v::us)) (EP X pins σ Q) X.xe s
section
variable {X:Cx}{a b:Expr}{ta tb:TE}{pos:Pos}
theorem IxR.or{r r':R2}(h:IxR X r)(h':IxR X r'):IxR X (λx y H Q=>r x y H Q\/r' x y H Q):=by
 intro value slice pins s σ H x y v u Q I rx ry q hs
 rcases q with q | q
 ·exact h value slice pins s σ H x y v u Q I rx ry q hs
 ·exact h' value slice pins s σ H x y v u Q I rx ry q hs
theorem Ek{r:R2}(hr:IxR X r)(ha:PE X a ta)(hb:PE X b tb)(hs:OQ b):PE X (.Subscript a b pos) (Cz r ta tb):=by
 intro pins s σ H Q I h
 exact Subscript_ (WF ha hb I h λv u s2 x y H2 I2 rx ry q=>hr a b pins s2 σ H2 x y v u Q I2 rx ry q (hs _ _))
noncomputable def VP(K:Frag):R2:=λx y H Q=>∃p xs i v,x=.ref p/\y=.int i/\SqL K H p xs/\atI xs i=some v/\Q v H
noncomputable def XR(K:Frag):R2:=λx y H Q=>∃p xs i v,x=.ref p/\y=.int i/\SqT K H p xs/\atI xs i=some v/\Q v H
noncomputable def XU:R2:=λx y H Q=>∃z i c,x=.str z/\y=.int i/\z.length<=sizeLine/\atI z.cps.toList i=some c/\Q (.str ⟨#[c]⟩) H
theorem ix_list:IxR X (VP X.K):=by
 intro value slice pins s σ H x y v u Q I rx ry h hs
 obtain⟨p,xs,i,z,rfl,rfl,hq,he,q⟩:=h
 cases rx
 obtain⟨t,rfl⟩:=ry
 obtain⟨its,r,pl,hz⟩:=I.list hq
 obtain⟨j,h1,h2,h3,h4,h5⟩:=Kg he
 obtain⟨w,ew,rw'⟩:=r.get h2
 have hl:=r.length
 have hn:=GG
 have fin:EP X pins σ Q w s:=⟨z,H,I,rw',q⟩
 by_cases h0:0<=i
 ·have hj:i.toNat=j:=by
   rw [seqIndex_of h0 h5] at h1
   exact T0 h1
  exact item_listR pl.isList h0 (by omega) (by rw [hj]; simpa using ew) fin hs
 ·have hj:(i+(its.toArray.size:Int)).toNat=j:=by
   rw [seqIndex_neg (by omega) h4] at h1
   rw [Rs,← hl]
   exact T0 h1
  exact subscriptTail_builtinR (x:=w) pl.isList.typeIs dZ.lookup
   (wpAny_getItem_list_neg (Q:=λr s'=>r=w/\EP X pins σ Q r s') pl.isList (by omega) (by rw [Rs] <;> omega) (by omega) (by rw [hj]; simpa using ew) ⟨rfl,fin⟩) hs
theorem ix_tup:IxR X (XR X.K):=by
 intro value slice pins s σ H x y v u Q I rx ry h hs
 obtain⟨p,xs,i,z,rfl,rfl,hq,he,q⟩:=h
 cases rx
 obtain⟨t,rfl⟩:=ry
 obtain⟨its,r,pl,hz⟩:=I.tuple hq
 obtain⟨j,h1,h2,h3,h4,h5⟩:=Kg he
 obtain⟨w,ew,rw'⟩:=r.get h2
 have hl:=r.length
 have hn:=GG
 have fin:EP X pins σ Q w s:=⟨z,H,I,rw',q⟩
 exact subscriptTail_builtinR (x:=w) pl.typeIs Zy.lookup
  (getItem_tuple (j:=j) (Q:=λr s'=>r=w/\EP X pins σ Q r s') pl (by omega) (by omega) (by rw [Rs,← hl]; exact h1) (by simpa using ew) ⟨rfl,fin⟩) hs
theorem Vx:IxR X XU:=by
 intro value slice pins s σ H x y v u Q I rx ry h hs
 obtain⟨z,i,c,rfl,rfl,hz,he,q⟩:=h
 obtain⟨t,rfl⟩:=rx
 obtain⟨t',rfl⟩:=ry
 obtain⟨j,h1,h2,h3,h4,h5⟩:=Kg he
 have hl:z.cps.toList.length=z.length:=by simp [Str.length]
 rw [hl] at h1 h4 h5
 have hn:=GG
 exact tail_any (cz s z t) slot_str_getitem.lookup (getItem_str (c:=c) (by
  have e1:decide (i < -(2 ^ 63:Int))=false:=decide_eq_false (by omega)
  have e2:decide (i≥2 ^ 63)=false:=decide_eq_false (by omega)
  rw [e1,e2,eU]) (by rw [h1]; simpa using h2) ⟨.str ⟨#[c]⟩,H,I.tok _,⟨_,rfl⟩,q⟩) hs
noncomputable def ZD(K:Frag):R2:=λx y H Q=>VP K x y H Q\/XR K x y H Q\/XU x y H Q
theorem AX:IxR X (ZD X.K):=ix_list.or (ix_tup.or Vx)
theorem Mr(its:List Value)(n j:Nat)(u:Value):bT (·.setIfInBounds j u) { cls:=.type "list",data:=.seq its.toArray n }={ cls:=.type "list",data:=.seq (its.set j u).toArray n }:=by
 simp [bT]
theorem Inv.lst{pins:List (Addr×Obj)}{σ:St}{H:Hp}{s:Shared}{p:Addr}{xs:List V}(I:Inv X pins σ H s)(h:H p=some (.lst xs)) :
  ∃(its:List Value) (n:Nat),Vals xs its/\s.heap.get? p=some { cls:=.type "list",data:=.seq its.toArray n }/\xs.length<=sizeLine:=by
 obtain⟨z,its,n,r,e⟩:=I.hok p _ h
 exact⟨its,n,r,e,z⟩
theorem Inv.lstUpd{pins:List (Addr×Obj)}{σ:St}{H:Hp}{s:Shared}{p:Addr}{xs ys:List V}{its its':List Value}{n n':Nat}{f:Obj->Obj}(I:Inv X pins σ H s)(h:H p=some (.lst xs))
  (ho:s.heap.get? p=some { cls:=.type "list",data:=.seq its.toArray n }) (hf:f { cls:=.type "list",data:=.seq its.toArray n }={ cls:=.type "list",data:=.seq its'.toArray n' }) (r:Vals ys its') (hz:ys.length<=sizeLine) (t:Nat) :
  Inv X pins σ (Ar H p (.lst ys)) { s with heap:=s.heap.update p f,toks:=t }:=by
 have e:(s.heap.update p f).get? p=some { cls:=.type "list",data:=.seq its'.toArray n' }:=by
  rw [af f ho (by rw [hf] <;> rfl),hf]
 refine I.write (x:=p) (e:=p) (by rw [h]; trivial) (.inl rfl) (λb u hb q=>(aN _ _ (bL hb)).trans q) ⟨_,e⟩ ?_
 exact⟨hz,its',n',r,e⟩
noncomputable def UV:V->V->V->Hp->(Hp->Prop)->Prop:=λo i v H Q=>∃p xs k j,o=.ref p/\i=.int k/\H p=some (.lst xs)/\SQ xs.length k=some j/\Q (Ar H p (.lst (xs.set j v)))
theorem set_list:YD X UV:=by
 intro pins s σ H o i v ov iv u Q I ro ri rv h
 obtain⟨p,xs,k,j,rfl,rfl,hp,hj,q⟩:=h
 cases ro
 obtain⟨t,rfl⟩:=ri
 obtain⟨its,n,r,ho,hz⟩:=I.lst hp
 obtain⟨h1,h2,h3,h4⟩:=Nq hj
 have hl:=r.length
 have hn:=GG
 have I':Inv X pins σ (Ar H p (.lst (xs.set j v))) { s with heap:=s.heap.update p (bT (·.setIfInBounds j u)) } :=
  I.lstUpd hp ho (Mr its n j u) (r.set rv j) (by rw [aZ]; exact hz) s.toks
 by_cases h0:0<=k
 ·have hk:k.toNat=j:=by
   rw [seqIndex_of h0 h4] at h1
   exact T0 h1
  exact PySem.W.ki_setAt ho h0 (by omega) (by rw [Rs,← hl]; exact h4) (by rw [hk]; exact⟨_,I',q⟩)
 ·have hk:(k+(its.toArray.size:Int)).toNat=j:=by
   rw [seqIndex_neg (by omega) h3] at h1
   rw [Rs,← hl]
   exact T0 h1
  exact PySem.W.ki_setBack ho (by omega) (by rw [Rs,← hl]; exact h3) (by omega) (by rw [hk]; exact⟨_,I',q⟩)
theorem Jk(lo hi:Option Int)(n:Nat):(sliceBounds lo hi none n).1=((HT.sIx n 0 lo:Nat):Int)/\(sliceBounds lo hi none n).2.1=((HT.sIx n n hi:Nat):Int)/\(sliceBounds lo hi none n).2.2=1:=by
 refine⟨?_,?_,rfl⟩
 ·cases lo with
  | none=>simp [sliceBounds,HT.sIx]
  | some i =>
   simp only [sliceBounds,HT.sIx,Option.getD_none,show (1:Int) > 0 by decide,if_true]
   by_cases h:i<0
   ·simp only [h,if_true] <;> omega
   ·simp only [h,if_false] <;> omega
 ·cases hi with
  | none=>simp [sliceBounds,HT.sIx]
  | some i =>
   simp only [sliceBounds,HT.sIx,Option.getD_none,show (1:Int) > 0 by decide,if_true]
   by_cases h:i<0
   ·simp only [h,if_true] <;> omega
   ·simp only [h,if_false] <;> omega
theorem IW(its:List Value)(lo hi:Option Int):slicePick its.toArray lo hi none=((its.drop (HT.sIx its.length 0 lo)).take (HT.sIx its.length its.length hi - HT.sIx its.length 0 lo)).toArray:=by
 obtain⟨h1,h2,h3⟩:=Jk lo hi its.toArray.size
 unfold slicePick
 rw [h1,h2,h3]
 simp only [sliceRange_one,pick_run,Rs] <;> rfl
noncomputable def XH(K:Frag):V->Option Int->Option Int->Hp->VK->Prop:=λx lo hi H Q=>∃a xs,x=.ref a/\SqL K H a xs/\∀p,H p=none->Q (.ref p) (Ar H p (.lst (Ij xs lo hi)))
theorem sl_list:SlR X (XH X.K):=by
 intro pins s σ H x v vl vu lo hi sl Q I rx hs pl pu h
 obtain⟨a,xs,rfl,hx,q⟩:=h
 cases rx
 obtain⟨its,r,ht,hz⟩:=I.list hx
 have hlen:=r.length
 refine⟨"list",_,dZ.lookup,ht.isList.typeIs,?_⟩
 refine wpAny_getItem_list_slice ht.isList hs pl pu .none (by simp) ?_ (by rw [Rs] <;> omega)
 rw [IW,← hlen]
 refine⟨.ref s.heap.objs.size,_,I.laid (t':=s.toks) (o:=.lst (Ij xs lo hi)) (λb ob q=>Ev _ q) (Go _) ?_,rfl,q _ (I.hok.fresh (Go _))⟩
 exact⟨Zv (Gd xs lo hi) hz,_,0,(r.drop (HT.sIx xs.length 0 lo)).take (HT.sIx xs.length xs.length hi - HT.sIx xs.length 0 lo),XV _ rfl⟩
noncomputable def Uq:V->Bool
 | .non=>true
 | .bl _=>true
 | .int _=>true
 | .str _=>true
 | _=>false
noncomputable def X4:V->V->Bool
 | .non,.non=>true
 | .bl a,.bl b=>a==b
 | .bl a,.int b=>(if a then 1 else 0)==b
 | .int a,.bl b=>a==(if b then 1 else 0)
 | .int a,.int b=>a==b
 | .str a,.str b=>a==b
 | _,_=>false
theorem KY{A:Around}{s:Shared}{y x:V}{u v:Value}(ry:RelV y u)(rx:RelV x v)(fy:Uq y=true)(fx:Uq x=true):SeqAt.EqAt A s u v (X4 y x):=by
 cases y with
 | non =>
  cases ry
  cases x with
  | non=>cases rx; exact SeqAt.EqAt.same _
  | bl b=>cases rx; exact SeqAt.EqAt.none_bool b
  | int b=>obtain⟨t,rfl⟩:=rx; exact SeqAt.EqAt.none_int b t
  | str b=>obtain⟨t,rfl⟩:=rx; exact SeqAt.EqAt.none_str b t
  | _=>exact absurd (show false=true from fx) Tk
 | bl a =>
  cases ry
  cases x with
  | non=>cases rx; exact SeqAt.EqAt.bool_none a
  | bl b=>cases rx; exact SeqAt.EqAt.bool_bool a b
  | int b=>obtain⟨t,rfl⟩:=rx; exact SeqAt.EqAt.bool_int a b t
  | str b=>obtain⟨t,rfl⟩:=rx; exact SeqAt.EqAt.bool_str a b t
  | _=>exact absurd (show false=true from fx) Tk
 | int a =>
  obtain⟨t',rfl⟩:=ry
  cases x with
  | non=>cases rx; exact SeqAt.EqAt.int_none a t'
  | bl b=>cases rx; exact SeqAt.EqAt.int_bool a t' b
  | int b=>obtain⟨t,rfl⟩:=rx; exact SeqAt.EqAt.int_int a t' b t
  | str b=>obtain⟨t,rfl⟩:=rx; exact eZ a t' b t
  | _=>exact absurd (show false=true from fx) Tk
 | str a =>
  obtain⟨t',rfl⟩:=ry
  cases x with
  | non=>cases rx; exact SeqAt.EqAt.str_none a t'
  | bl b=>cases rx; exact SeqAt.EqAt.str_bool a t' b
  | int b=>obtain⟨t,rfl⟩:=rx; exact eg a t' b t
  | str b=>obtain⟨t,rfl⟩:=rx; exact SeqAt.EqAt.str_str a t' b t
  | _=>exact absurd (show false=true from fx) Tk
 | _=>exact absurd (show false=true from fy) Tk
theorem Ft:B9 X (.type "list") (λxs H Q=>∃p ys,xs=[.ref p]/\(SqL X.K H p ys\/SqT X.K H p ys)/\∀l,H l=none->Q (.ref l) (Ar H l (.lst ys))):=by
 intro pins s σ H xs us Q I r h
 obtain⟨p,ys,rfl,hq,q⟩:=h
 obtain⟨u,rfl,rx⟩:=vals1 r
 cases rx
 have fin:∀(its:List Value),Vals ys its->ys.length<=sizeLine->∀(h':Heap) (c':Nat),(∀b o',s.heap.get? b=some o'->h'.get? b=some o') ->
   h'.get? s.heap.objs.size=some { cls:=.type "list",dict:=none,data:=.seq its.toArray c',slots:=#[] }->EP X pins σ Q (.ref s.heap.objs.size) { s with heap:=h' }:=λits r' hz h' c' kp e =>
  ⟨.ref s.heap.objs.size,_,I.laid (t':=s.toks) kp (Go _) (show ObjOk X.prog X.w _ h' _ (.lst ys) from⟨hz,its,c',r',e⟩),rfl,q _ (I.hok.fresh (Go _))⟩
 rcases hq with hq | hq
 ·obtain⟨its,r',pl,hz⟩:=I.list hq
  have hlen:=r'.length
  obtain⟨o,ho,hc,n,hd⟩:=pl.isList
  exact call_list_seq p (.inl rfl) ho hc hd (λh' c' kp e=>fin its r' hz h' c' kp e) (by simp only [Rs] <;> omega)
 ·obtain⟨its,r',pl,hz⟩:=I.tuple hq
  have hlen:=r'.length
  obtain⟨o,ho,hc,n,hd⟩:=pl
  exact call_list_seq p (.inr rfl) ho hc hd (λh' c' kp e=>fin its r' hz h' c' kp e) (by simp only [Rs] <;> omega)
theorem BZ:B9 X (.type "tuple") (λxs H Q=>∃p ys,xs=[.ref p]/\((SqL X.K H p ys/\∀l,H l=none->Q (.ref l) (Ar H l (.tup ys)))\/(SqT X.K H p ys/\Q (.ref p) H))):=by
 intro pins s σ H xs us Q I r h
 obtain⟨p,ys,rfl,h⟩:=h
 obtain⟨u,rfl,rx⟩:=vals1 r
 cases rx
 rcases h with ⟨hq,q⟩ | ⟨hq,q⟩
 ·obtain⟨its,r',pl,hz⟩:=I.list hq
  have hlen:=r'.length
  refine call_tuple_list pl.isList (λh' kp=>?_) (by simp only [Rs] <;> omega)
  have I1:Inv X pins σ H { s with heap:=h' }:=I.kept (t':=s.toks) kp
  have I2:Inv X pins σ (Ar H h'.objs.size (.tup ys)) { s with heap:=h'.push { cls:=.type "tuple",data:=.seq its.toArray } } :=
   I1.laid (t':=s.toks) (λb o e=>Ev _ e) (Go _) (show ObjOk X.prog X.w _ _ _ (.tup ys) from⟨hz,its,r',IsTupN.new _ _⟩)
  exact⟨.ref h'.objs.size,_,I2,rfl,q _ (I1.hok.fresh (Go _))⟩
 ·obtain⟨its,r',pl,hz⟩:=I.tuple hq
  exact call_tuple_same pl ⟨.ref p,H,I,rfl,q⟩
noncomputable def Yf(K:Frag)(T:String)(x:V)(H:Hp):Prop:=match x with
 | .str _=>T = "str"
 | .int _=>T = "int"
 | .ref p=>(T = "list"/\∃xs,SqL K H p xs)\/(T = "tuple"/\∃o,K.lookup p=some o/\o.cls=.type "tuple"/\o.dict=none) \/
   (T = "dict"/\((∃kvs,H p=some (.dK kvs))\/∃kvs,H p=some (.dT kvs)))\/(T = "set"/\∃S n,H p=some (.set S n))
 | _=>False
theorem VB{pins:List (Addr×Obj)}{σ:St}{H:Hp}{s:Shared}{T:String}{x:V}{v:Value}(I:Inv X pins σ H s)(r:RelV x v)(ty:Yf X.K T x H) :
  s.TypeIs v T/\∀a,v=.ref a->∃ob,s.heap.get? a=some ob/\ob.dict=none:=by
 cases x with
 | str z =>
  obtain⟨t,rfl⟩:=r
  cases (show T = "str" from ty)
  exact⟨cz s z t,λ_ e=>nomatch e⟩
 | int i =>
  obtain⟨t,rfl⟩:=r
  cases (show T = "int" from ty)
  exact⟨typeIs_int s i t,λ_ e=>nomatch e⟩
 | ref p =>
  cases r
  rcases ty with ⟨rfl,xs,hq⟩ | ⟨rfl,o,hk,hc,hd⟩ | ⟨rfl,hk⟩ | ⟨rfl,S,n,hk⟩
  ·obtain⟨its,_,pl,_⟩:=I.list hq
   refine⟨pl.isList.typeIs,λa e=>?_⟩
   cases e
   obtain⟨o,n,e,c,hd,_⟩:=pl
   exact⟨o,e,hd⟩
  ·refine⟨⟨o,I.kIn p o hk,hc⟩,λa e=>?_⟩
   cases e
   exact⟨o,I.kIn _ o hk,hd⟩
  ·have z:∃o,s.heap.get? p=some o/\o.ExactDict:=by
    rcases hk with ⟨kvs,hk⟩ | ⟨kvs,hk⟩
    ·obtain⟨_,_,_,_,o,_,_,e,ex,_⟩:=I.hok p _ hk
     exact⟨o,e,ex⟩
    ·obtain⟨_,_,_,_,o,_,_,e,ex,_⟩:=I.hok p _ hk
     exact⟨o,e,ex⟩
   obtain⟨o,e,ex⟩:=z
   refine⟨⟨o,e,ex.1⟩,λa e2=>?_⟩
   cases e2
   exact⟨o,e,ex.2.1⟩
  ·obtain⟨o,_,_,_,e,ex,_⟩:=I.hok p _ hk
   refine⟨⟨o,e,ex.1⟩,λa e2=>?_⟩
   cases e2
   exact⟨o,e,ex.2.1⟩
 | _=>exact am ty
noncomputable def ZX(K:Frag)(T:String)(r:V->List V->Hp->VK->Prop)(to:TE)(t:TA):TE:=λσ H Q=>to σ H λx H1=>Yf K T x H1/\t σ H1 λxs H2=>r x xs H2 Q
variable {o e:Expr}{es:List Expr}{to:TE}{t:TA}{name:Str}{apos cpos:Pos}{T id:String}{r:V->List V->Hp->VK->Prop}
theorem Uj(pa:PlainAttrs T)(slot:Slot T name id)(hty:typeOf (.builtin id)=pure (.type "method_descriptor"))(hm:YJ X id r)(ho:PE X o to)(ha:PA X (e::es) t)
  (hbase:autoParam (attributeBase o name X.env (eval o X.env)=eval o X.env) zau3._auto_1)
  (hfew:autoParam (((backTo cpos (starEach (e::es) X.env)).all (λx=>!x.1)&&(backToKw cpos (keywordEach [] X.env)).all (λx=>x.1.isSome)
   && decide ((e::es).length+([]:List Keyword).length+(if ([]:List Keyword).isEmpty then 0 else 1)<30))=true) zau3._auto_1)
  (hline:autoParam ((apos.endLine==cpos.line)=true) zau3._auto_1) (hs:autoParam (starEach (e::es) X.env=(false,eval e X.env)::starEach es X.env) zau3._auto_1) (hplain:autoParam ((backTo cpos (starEach es X.env)).any (·.1)=false) zau3._auto_1) :
  PE X (.Call (.Attribute o name apos) (e::es) [] cpos) (ZX X.K T r to t):=by
 intro pins s σ H Q I h
 refine wpAny_Call_method_late hbase hfew hline rfl (BB (ho pins s σ H _ I h) λv s1 ⟨x,H1,I1,r1,ty,q1⟩=>?_)
 obtain⟨h1,h2⟩:=VB I1 r1 ty
 refine⟨T,id,pa,slot,hty,h1,h2,?_⟩
 have hA:=ha cpos pins s1 σ H1 _ I1 q1
 rw [hs] at hA ⊢
 refine Calls.callWith_builtin (by show (false||(backTo cpos (starEach es X.env)).any (·.1))=false; rw [hplain] <;> rfl) (Calls.evalArgs_plain ?_)
 exact BB hA λus s2 ⟨vs,H2,I2,r2,q2⟩=>hm pins s2 σ H2 x vs v us Q I2 r1 r2 q2
end
noncomputable def ZN(X:Cx)(id:String)(r:V->List V->Hp->VK->Prop):Prop :=
 ∀(pins:List (Addr×Obj)) (s:Shared) (σ:St) (H:Hp) (x:V) (xs:List V) (v:Value) (us:List Value) (Q:VK),Inv X pins σ H s->RelV x v->Vals xs us->r x xs H Q ->
  wpAny (model X.prog X.w) X.A (call (.builtin id) (v::us)) (EP X pins σ Q) X.xe s
theorem Vals.one:∀{x:V} {us:List Value},Vals [x] us->∃u,us=[u]/\RelV x u
 | _,_,.cons r .nil=>⟨_,rfl,r⟩
theorem Vals.reverse{xs:List V}{us:List Value}(h:Vals xs us):Vals xs.reverse us.reverse:=by
 induction h with
 | nil=>exact .nil
 | cons r t ih=>rw [cV,cV]; exact Vals.append ih (.cons r .nil)
theorem Vals.rep{xs:List V}{us:List Value}(h:Vals xs us):∀k:Nat,Vals (Re k xs).flatten (Re k us).flatten
 | 0=>.nil
 | k+1=>by
  rw [ar,ar,bR,bR]
  exact Vals.append h (Vals.rep h k)
theorem foldl_rep(its:List Value):∀(k:Nat) (acc:List Value),
  List.foldl (λx1 x2=>x1++x2) acc.toArray (Re k its.toArray)=(acc++(Re k its).flatten).toArray
 | 0,acc=>by simp
 | k+1,acc=>by
  have e:acc.toArray++its.toArray=(acc++its).toArray:=by simp
  have e2:(acc++its)++(Re k its).flatten=acc++(Re (k+1) its).flatten:=by
   rw [ar,bR,ap]
  rw [← e2,← foldl_rep its k (acc++its),← e,ar,List.foldl_cons]
section
variable {X:Cx}{pins:List (Addr×Obj)}{σ:St}{H:Hp}{s:Shared}{l b:Addr}{xs ys zs:List V}
theorem Inv.lset{its its':List Value}{n:Nat}{f:Array Value->Array Value}{t':Nat}(I:Inv X pins σ H s)(hH:H l=some (.lst xs))
  (e:s.heap.get? l=some { cls:=.type "list",data:=.seq its.toArray n }) (hf:f its.toArray=its'.toArray) (hv:Vals ys its') (hz:ys.length<=sizeLine) :
  Inv X pins σ (Ar H l (.lst ys)) { s with heap:=s.heap.update l (bT f),toks:=t' }:=by
 have q:=PySem.IsL.update e f
 rw [hf] at q
 refine I.write (x:=l) (e:=l) (by rw [hH]; exact trivial) (.inl rfl) (λb' u hb hu=>(aN s.heap (bT f) (bL hb)).trans hu) ⟨_,q⟩ ?_
 exact⟨hz,its',_,hv,q⟩
theorem Inv.lnew{its:List Value}{t':Nat}(I:Inv X pins σ H s)(hv:Vals ys its)(hz:ys.length<=sizeLine) :
  Inv X pins σ (Ar H s.heap.objs.size (.lst ys)) { s with heap:=s.heap.push { cls:=.type "list",data:=.seq its.toArray },toks:=t' } :=
 I.laid (λ_ _ q=>Ev _ q) (Go _) ⟨hz,its,0,hv,XV _ rfl⟩
theorem Inv.fresh(I:Inv X pins σ H s):H s.heap.objs.size=none:=I.hok.fresh (Go _)
theorem Inv.lstM(I:Inv X pins σ H s)(hH:H l=some (.lst xs)):xs.length<=sizeLine/\∃(its:List Value) (n:Nat),Vals xs its/\xs.length=its.length/\s.heap.get? l=some { cls:=.type "list",data:=.seq its.toArray n }:=by
 obtain⟨z,its,n,r,e⟩:=I.hok l _ hH
 exact⟨z,its,n,r,r.length,e⟩
theorem LR{n:Nat}(h:n<=sizeLine):bY n=false:=by
 unfold bY
 exact decide_eq_false (by omega)
end
section
variable {X:Cx}
noncomputable def NV:V->List V->Hp->VK->Prop:=λx vs H Q=>∃l xs y,x=.ref l/\vs=[y]/\H l=some (.lst xs)/\xs.length<sizeLine/\Q .non (Ar H l (.lst (xs++[y])))
theorem CH:ZN X "list.append" NV:=by
 intro pins s σ H x vs v us Q I rx rv h
 obtain⟨l,xs,y,rfl,rfl,hH,hz,q⟩:=h
 cases rx
 obtain⟨u,rfl,ru⟩:=rv.one
 obtain⟨z,its,n,r,hl,e⟩:=I.lstM hH
 refine cR F.slot_list_append ⟨_,e,rfl⟩ F.entry_list_append (F.args_list_append_2 _ _) (PySem.list_append l its.toArray n u (by rw [Rs]; omega)) ⟨e,?_⟩
 refine⟨.non,_,I.lset (its':=its++[u]) hH e (by simp) (r.append (.cons ru .nil)) ?_,rfl,q⟩
 rw [FM,Z7]
 omega
noncomputable def NT:V->List V->Hp->VK->Prop:=λx vs H Q=>∃l b xs zs,x=.ref l/\vs=[.ref b]/\H l=some (.lst xs)/\H b=some (.lst zs)/\xs.length+zs.length<=sizeLine/\Q .non (Ar H l (.lst (xs++zs)))
theorem GF:ZN X "list.extend" NT:=by
 intro pins s σ H x vs v us Q I rx rv h
 obtain⟨l,b,xs,zs,rfl,rfl,hH,hB,hz,q⟩:=h
 cases rx
 obtain⟨u,rfl,ru⟩:=rv.one
 cases ru
 obtain⟨z,its,n,r,hl,e⟩:=I.lstM hH
 obtain⟨z2,its2,n2,r2,hl2,e2⟩:=I.lstM hB
 have hsz:its.toArray.size+its2.toArray.size<=sizeLine:=by rw [Rs,Rs]; omega
 have hlong:¬(!its.toArray.isEmpty&&bY (its.toArray.size+its2.toArray.size))=true:=by
  rw [LR hsz,bv]
  exact Tk
 refine cR F.slot_list_extend ⟨_,e,rfl⟩ F.entry_list_extend (F.args_list_extend_2 _ _)
  (AutoSeq1.list_extend_list_list_0 l its.toArray n b its2.toArray n2 hlong (by rw [Rs]; omega) (by omega)) ⟨e,e2,?_⟩
 refine⟨.non,_,I.lset (its':=its++its2) hH e (by simp) (r.append r2) ?_,rfl,q⟩
 rw [FM]
 omega
theorem len_rep{α:Type}(xs:List α)(k:Nat):(Re k xs).flatten.length=k*xs.length:=by
 induction k with
 | zero=>simp
 | succ k ih=>rw [ar,bR,FM,ih,Nat.succ_mul,Nat.add_comm]
end
section
variable {prog:Program}{w:World}{A:Around}{E:Value->Shared->Prop}{s:Shared}
end
section
variable {X:Cx}
end
end L2
namespace Att
open PySem PySem.W PySem.Calls PyProof.Rows
theorem G0{P:Params}{h:Heap}:∀(ns:List Int) (vs:List Value),WellAll P h vs (ns.map WData.int)->IntsAre vs ns:=by
 intro ns
 induction ns with
 | nil =>
  intro vs w
  rw [bw] at w
  cases w
  exact .nil
 | cons n ns ih =>
  intro vs w
  rw [TW] at w
  cases w with
  | cons a b =>
   cases a
   exact .cons _ _ (ih _ b)
theorem Oe{l:OpenLaw}{n:Nat}(hn:l.most=some n){P:Params}{h:Heap}{args:List WData}{vals:List Value}
  (hpre:l.row.toRowW.claim.pre args=true) (hwl:WellAll P h vals args) :
  ∃a vs ns,vals=[TM a]/\args=[WData.list (ns.map WData.int)]/\h.get? a=some { cls:=.type "list",data:=.seq vs.toArray }/\IntsAre vs ns/\ns.length<=n:=by
 have hsh:WShape.hasAll [] args [.list .int]=true:=(pre_splitW hpre).1
 have hc:l.pre.holds [] { args:=args }=true:=(pre_splitW hpre).2
 obtain⟨d,r,rfl,h1,h2⟩:=hasAllW_cons hsh
 obtain rfl:=hasAllW_nil h2
 obtain⟨xs,rfl,h3⟩:=hasW_list h1
 obtain⟨ns,rfl⟩:=items_int h3
 have hlen:ns.length<=n:=by
  unfold OpenLaw.pre at hc
  have h4:(WTm.not (.lt (.lit (.int (n:Int))) (.len (.arg 0)))).holds [] { args:=[.list (ns.map .int)] }=true:=by
   have h4:=(holds_andW hc).1
   rw [hn] at h4
   exact h4
  have h5:=condW_of h4 (w_not (w_lt w_lit (w_len_list (w_arg rfl))))
  rw [Cn] at h5
  refine Nat.le_of_not_lt λq=>?_
  have q':(n:Int)<((ns.length:Nat):Int):=by omega
  first
   | (rw [decide_eq_true q'] at h5; exact absurd h5 (by decide))
   | (simp at h5; omega)
 cases hwl with
 | cons w1 w2 =>
  cases w2
  cases w1 with
  | list ho hall=>exact⟨_,_,ns,rfl,rfl,ho,G0 ns _ hall,hlen⟩
theorem Ov(l:OpenLaw)(args:List WData):l.row.toRowW.claim.post args (.bool true) args=true :=
 postW_of (r:=l.row.toRowW) (X:=(true==true))
  (show WShape.has [] (.bool true) .bool=true by first | rfl | decide | simp [WShape.has,WShape.arms,WShape.armsAll])
  (show (WTm.eq .res (.lit (.bool true))).value [] { args:=args,res:=some (.bool true),after:=args }=some (.bool (true==true)) from w_eq_bool (w_res rfl) w_lit) rfl
theorem attach_call{l:OpenLaw}{n:Nat}{q:Program}{loose:List Str}{XP:(Str->Option Value)->Heap->Prop}{YP:World->Heap->Prop}{d:DefRec}
  (hn:l.most=some n) (hdf:d.params.defaults=[])
  (call:∀(w:World) (s₀ s₁:Shared) (mg mb:Str->Option Value) (fa:Addr) (o:Obj) (pm cd doc:Value) (a:Addr) (vs:List Value) (ns:List Int),
   Ground q loose [] XP w s₀ mg mb s₁.heap->YP w s₁.heap ->
   s₁.heap.get? fa=some o->o.data=.func (docDef d.name d.params d.body d.scope pm cd doc)->s₁.heap.CodeRec cd d.name->mg d.name=some (.ref fa) ->
   s₁.heap.get? a=some { cls:=.type "list",data:=.seq vs.toArray }->IntsAre vs ns->ns.length<=n->s₁.gens=#[] ->
   codeAny (model l.prog w) callerA (.call (.ref fa) ⟨[.ref a],[]⟩) (λr s'=>r=.ok (.ret (.bool true))/\OldK s₁.heap s'.heap/\s'.os=s₁.os/\AllBare s'.gens) s₁) :
  WalkO q loose XP YP l.row.toRowW d [] (λf vs=>PySem.call f vs):=by
 intro w s₀ s₁ mg mb G Y fa o pm cd doc dV kV ho hd hcd hD hmg hg args vals as hpre hlay hrd hwl hlo
 obtain rfl:dV=.none:=Dflts.none hD hdf
 obtain rfl:kV=.none:=Dflts.noKw hD
 obtain⟨a,vs,ns,rfl,rfl,hobj,hints,hlen⟩:=Oe hn hpre hwl
 refine enter_call (cK (call w s₀ s₁ mg mb fa o pm cd doc a vs ns G Y ho (fd_plain hd) hcd hmg hobj hints hlen hg) λr s' hq=>?_)
 obtain⟨rfl,h2,h3,h4⟩:=hq
 exact⟨.inl ⟨.bool true,.bool true,[],rfl,λ_=>rfl,.bool true,Ov l _,λ_=>⟨bS,λ_ hm=>(nomatch hm)⟩⟩,h2,h3,h4⟩
section
variable {prog:Program}{w:World}{A:Around}{E:Value->Shared->Prop}{s:Shared}{K:Frag}
end
end Att
namespace L2
open PySem PySem.Spec PyProof.Rows
theorem Ip:∀{vs:List Value} {ns:List Int},IntsAre vs ns->Vals (ns.map V.int) vs
 | _,_,.nil=>.nil
 | _,_,.cons n t h=>.cons ⟨t,rfl⟩ (Ip h)
noncomputable def WU(H:Hp):Prop:=∀b,H b=none\/∃o xs,H b=some (.frz o (.lst xs))
theorem Q5{P:Program}{w:World}{K:Frag}{mg mb:Str->Option Value}{CX:Ps}{k:Nat}{fa a:Addr}{fd:FuncData}{x:Str}{sp:Sp}{s₁:Shared}{vs:List Value}{ns:List Int}
  (KX:K.In s₁.heap) (hns:s₁.heap.Ns mainGlobals mg) (hb:s₁.heap.Ns builtinsNs mb) (hbb:∀x:Str,x ≠ "__name__"->mb x=bootBuiltins x) (hlim:s₁.heap.NoLimit) (hg:s₁.gens=#[])
  (ha:s₁.heap.get? a=some { cls:=.type "list",data:=.seq vs.toArray }) (hi:IntsAre vs ns) (hl:ns.length<=sizeLine) (hr:Room k callerA)
  (F:∀base:Heap,K.In base->base.Ns mainGlobals mg->A5 P w K mg base CX k fa fd [x] sp) (hbind:∀(s:Shared) (u:Value),BindsTo s fd ⟨[u],[]⟩ [(x,u)])
  (hsp:∀H:Hp,WU H->SqL K H a (ns.map V.int)->sp [.ref a] H (λv _=>v=.bl true) λ_ _ _=>False)
  (hCX:∀H e s',CX [] H s₁ (λ_ _ _=>False) e s'->False) :
  codeAny (model P w) callerA (.call (.ref fa) ⟨[.ref a],[]⟩) (λr s'=>r=.ok (.ret (.bool true))/\OldK s₁.heap s'.heap/\s'.os=s₁.os/\AllBare s'.gens) s₁:=by
 have rv:=Ip hi
 have lenV:=hi.length
 have core:∀H:Hp,WU H->SqL K H a (ns.map V.int)->HOk P w H s₁.heap->(∀b,H b≠none->b=a)->(H a≠none->K.lookup a=none) ->
   codeAny (model P w) callerA (.call (.ref fa) ⟨[.ref a],[]⟩) (λr s'=>r=.ok (.ret (.bool true))/\OldK s₁.heap s'.heap/\s'.os=s₁.os/\AllBare s'.gens) s₁:=by
  intro H hO hS hok hA hK
  have base_of:∀{b:Addr} {o:Obj},s₁.heap.get? b=some o->H b=none->(KJ s₁.heap H).get? b=some o:=λe n=>RJ e n
  have noA:∀{b:Addr} {o:Obj} {es:Array DictEntry} {ep:Nat},s₁.heap.get? b=some o->o.data=.dict es ep->H b=none:=λ{b o es ep} e d=>by
   cases q:H b with
   | none=>rfl
   | some u =>
    have e':b=a:=hA b (by rw [q]; simp)
    subst e'
    rw [ha] at e; cases e
    have d':Data.seq vs.toArray _=Data.dict es ep:=d
    cases d'
  have nsK:∀{b:Addr} {m:Str->Option Value},s₁.heap.Ns b m->(KJ s₁.heap H).Ns b m:=λ{b m} ⟨o,es,ep,e,d,r⟩=>⟨o,es,ep,base_of e (noA e d),d,r⟩
  have hKb:K.In (KJ s₁.heap H):=λb o e=>base_of (KX b o e) (by
   cases q:H b with
   | none=>rfl
   | some u =>
    have e':b=a:=hA b (by rw [q]; simp)
    subst e'
    rw [hK (by rw [q]; simp)] at e; cases e)
  have hM:Mod K mg (KJ s₁.heap H):=⟨hKb,nsK hns,⟨mb,nsK hb,hbb⟩,let ⟨mc,h1,h2⟩:=hlim; ⟨mc,nsK h1,h2⟩⟩
  have e0:Env0 P w K mg (KJ s₁.heap H) callerA [] s₁ H:=⟨rfl,hM,λb o e=>TD e,Nat.le_of_eq (PM _ _),trivial,λb hb=>absurd (show b∈([]:List Addr) from hb) (by simp),hok,.of_eq hg⟩
  refine cK ((F _ hKb (nsK hns)).run callerA [] s₁ H ⟨[.ref a],[]⟩ [.ref a] [.ref a] _ _ hr e0 (hbind s₁ (.ref a)) (.cons rfl .nil) (hsp H hO hS)) λr s' h=>?_
  cases r with
  | error e=>exact(hCX H e s' h).elim
  | ok fl =>
   cases fl with
   | next=>exact am h
   | brk=>exact am h
   | cont=>exact am h
   | ret u =>
    obtain⟨v,H',os,bare,un,hok',r',q⟩:=h
    have q':v=.bl true:=q
    subst q'
    obtain rfl:u=bi true:=r'
    refine⟨rfl,OldK.of_keep λb o e=>?_,os,bare⟩
    cases q:H b with
    | none=>exact un.keep b o e q (by intro z; exact absurd (show b∈([]:List Addr) from z) (by simp)) (by simp)
    | some u =>
     rcases hO b with z | ⟨ob,xs,z⟩
     ·rw [q] at z; cases z
     ·have z2:=un.frzs b ob _ z
      obtain⟨e1,_⟩:=hok b _ z
      obtain⟨e2,_⟩:=hok' b _ z2
      rw [e] at e1; cases e1
      exact e2
 cases hk:K.lookup a with
 | some o =>
  have e:=KX a o hk
  rw [ha] at e
  cases e
  refine core (λ_=>none) (λ_=>.inl rfl) (.inr ⟨_,vs.toArray,_,hk,rfl,rfl,rfl,by rw [Rs,lenV]; exact hl,by simpa using rv⟩) (λb u z=>by have z':(none:Option HO)=some u:=z; cases z') (λb z=>absurd rfl z) λz=>absurd rfl z
 | none =>
  refine core (λb=>if b=a then some (.frz { cls:=.type "list",data:=.seq vs.toArray } (.lst (ns.map V.int))) else none) (λb=>?_) (.inl (.inr ⟨{ cls:=.type "list",data:=.seq vs.toArray },if_pos rfl⟩)) (λb u z=>?_) (λb z=>?_) λ_=>hk
  ·by_cases hb:b=a
   ·exact .inr ⟨_,_,if_pos hb⟩
   ·exact .inl (if_neg hb)
  ·by_cases hb:b=a
   ·have z':=(if_pos hb).symm.trans z
    cases z'
    subst hb
    exact⟨ha,by rw [Cn]; exact hl,vs,_,rv,ha⟩
   ·have z':=(if_neg hb).symm.trans z
    cases z'
  ·by_cases hb:b=a
   ·exact hb
   ·exact absurd (if_neg hb) z
theorem NJ{l:PySem.W.OpenLaw}{n k:Nat}{q:Program}{loose:List Str}{XP:(Str->Option Value)->Heap->Prop}{YP:World->Heap->Prop}{d:DefRec}{K:Params->Frag}{CX:World->Ps}{sp:World->Sp}{x:Str}
  (hn:l.most=some n) (hn2:n<=sizeLine) (hdf:d.params.defaults=[]) (hr:Room k callerA)
  (hY:∀(w:World) (h:Heap),YP w h->(K w.params).In h)
  (F:∀(w:World) (mg:Str->Option Value) (fa:Addr) (h:Heap),(K w.params).In h->h.Ns mainGlobals mg->mg d.name=some (.ref fa) ->
   ∃fd:FuncData,(∀(s:Shared) (u:Value),BindsTo s fd ⟨[u],[]⟩ [(x,u)]) /\
    ∀base:Heap,(K w.params).In base->base.Ns mainGlobals mg->A5 l.prog w (K w.params) mg base (CX w) k fa fd [x] (sp w))
  (hsp:∀(w:World) (H:Hp) (a:Addr) (ns:List Int),ns.length<=n->WU H->SqL (K w.params) H a (ns.map V.int)->sp w [.ref a] H (λv _=>v=.bl true) λ_ _ _=>False)
  (hCX:∀(w:World) (H:Hp) (s:Shared) (e:Value) (s':Shared),CX w [] H s (λ_ _ _=>False) e s'->False) :
  PySem.W.WalkO q loose XP YP l.row.toRowW d [] (λf vs=>PySem.call f vs):=by
 refine Att.attach_call hn hdf λw s₀ s₁ mg mb fa o pm cd doc a vs ns G Y ho hd hcd hmg hobj hints hlen hg=>?_
 have KX:=hY w _ Y
 obtain⟨fd,hb,hF⟩:=F w mg fa _ KX G.T.g hmg
 exact Q5 KX G.T.g G.T.b G.T.builtins G.T.nolimit hg hobj hints (Zv hlen hn2) hr hF hb (λH hO hS=>hsp w H a ns hlen hO hS) λH e s'=>hCX w H s₁ e s'
end L2
/- THE LAST THEOREM (shape; LID, My.* are yours):
   My.Adr: a structure of the addresses that your layer names (classes, functions); My.Txt K t: a structure (Prop) of the equations over K;
   My.txt_mk : {K} {implicit addresses ..} (e1 : nsIn K mainGlobals "law" = some (some (.ref f))) (e2 : K.lookup f = some ⟨oc, od, .func (fnOf "law" "law" params body scope dV kV doc pm an cdv ct), sl⟩) (e3 : codeIn K cdv "law" = true) .. : ∃ t, My.Txt K t
set_option maxRecDepth 100000 in
set_option maxHeartbeats 0 in
theorem PySem.Challenge.cw_LID_holds : PySem.Challenge.rw_LID.Holds := by
 w_on; o_law; k_head; (case hw=>w_witness2)
 k_fill
 refine L2.NJ (l:=PySem.Challenge.rw_LID) (n:=63) (k:=40) (x := "script") (CX:=λw=>..) (sp:=λ_=>My.sp_law) rfl (by decide) rfl ⟨rfl,by decide,by decide⟩ (λw h Y=>PySem.W.kIn_of Y) ?F ?S ?C
 case F =>
  intro w mg fa h KX G hmg
  have T:∃t,My.Txt (L2.KOf KX) t:=by
   dsimp only [L2.KOf]                          -- K must stand as «<heap const> w.params» for k_is
   refine' My.txt_mk ?e1 ?e2 ?e3 ..
   (case e1=>PySem.W.k_is)                    -- in the order: a name -> its address -> its object -> its parts
   (case e2=>PySem.W.k_is)
   ..
  obtain⟨t,T⟩:=T
  have e0:=hmg.symm.trans (mg_of KX G T.law)
  cases e0                                       -- fa is the law's own address
  exact⟨_,λs u=>.of_eq rfl,λbase kb nb=>My.law_fn T kb nb⟩     -- if «.of_eq rfl» comes too early: refine' ⟨_,?b,λbase kb nb=>My.law_fn T kb nb⟩; exact λs u=>.of_eq rfl
 case S=>exact λw H a ns hl hO hS=>..
 case C=>exact ..
(the tactic k_is has no namespace: write k_is) -/
namespace L2
open PySem PySem.Spec PyProof.Rows
noncomputable def B6(s:Stmt):Arguments:=match s with
 | .FunctionDef _ a _ _ _ _ _ _ _ _=>a
 | _=>{ posonlyargs:=[],args:=[],vararg:=none,kwonlyargs:=[],kw_defaults:=[],kwarg:=none,defaults:=[] }
noncomputable def BV(s:Stmt):List Stmt:=match s with
 | .FunctionDef _ _ b _ _ _ _ _ _ _=>b
 | _=>[]
noncomputable def AK(s:Stmt):Scope:=match s with
 | .FunctionDef _ _ _ _ _ _ sc _ _ _=>sc
 | _=>{ kind:=.function,names:=[],isGenerator:=false,isCoroutine:=false }
noncomputable abbrev Cb:Ps:=λ_ _ _ _ _ _=>False
noncomputable abbrev E0:XK:=λ_ _ _=>False
theorem Qs{X:Cx}:FP Cb X E0:=λ_ _ _ _ _ _ _ h=>h.elim
structure Fun (K:Frag) (x qual:Str) (st:Stmt) (f:Addr) (fd:FuncData):Prop where
 ex:∃(oc:Value) (od:Option Addr) (kV doc pm:Value) (an:Option Addr) (cdv ct:Value) (osl:Array (Option Value)),
  fd=fnOf x qual (B6 st) (BV st) (AK st) .none kV doc pm an cdv ct/\K.lookup f=some ⟨oc,od,.func fd,osl⟩/\codeIn K cdv qual=true
 kp:keepIn K (.ref f)=true
section
variable {P:Program}{w:World}{K:Frag}{mg:Str->Option Value}{base:Heap}
theorem Fun.ok{x qual:Str}{st:Stmt}{f:Addr}{fd:FuncData}{N ps:List Str}{k:Nat}{sp:Sp}(F:Fun K x qual st f fd)(S:Ah N ps (AK st))(len:∀vs H Q E,sp vs H Q E->vs.length=ps.length)
  (hbody:∀(cdv:Value) (A:Around) (outer:List Env) (s:Shared) (H:Hp) (vs:List V) (Q:VK) (E:XK),Room k (A.deeper (envOfC qual (AK st) s.heap.objs.size f cdv))->sp vs H Q E ->
   ∃t,PSs (Fq Cb P w K mg base N qual (AK st) f cdv A outer s H E).nox (BV st) t/\t { nx:=λ_ H'=>Q .non H',rt:=Q } (start N vs) H):A5 P w K mg base Cb (k+1) f fd ps sp:=by
 obtain⟨oc,od,kV,doc,pm,an,cdv,ct,osl,rfl,lk,hcd⟩:=F.ex
 refine Up lk hcd S len λA outer s H vs Q E hr hsp=>?_
 obtain⟨t,h,q⟩:=hbody cdv A outer s H vs Q E hr hsp
 exact⟨t,h.nox,q⟩
theorem Fun.binds{x qual:Str}{st:Stmt}{f:Addr}{fd:FuncData}{ps:List Str}(F:Fun K x qual st f fd)
  (h:∀(kV doc pm:Value) (an:Option Addr) (cdv ct:Value) (us:List Value),us.length=ps.length->bindArgs (fnOf x qual (B6 st) (BV st) (AK st) .none kV doc pm an cdv ct) ⟨us,[]⟩=pure (ps.zip us)):Binds K fd ps []:=by
 obtain⟨oc,od,kV,doc,pm,an,cdv,ct,osl,rfl,lk,hcd⟩:=F.ex
 exact .all (h kV doc pm an cdv ct)
theorem KO{x qual:Str}{st:Stmt}{f:Addr}{oc:Value}{od an:Option Addr}{osl:Array (Option Value)}{kV doc pm cdv ct:Value}(l:K.lookup f=some ⟨oc,od,.func (fnOf x qual (B6 st) (BV st) (AK st) .none kV doc pm an cdv ct),osl⟩)
  (c:codeIn K cdv qual=true) (k:keepIn K (.ref f)=true):Fun K x qual st f (fnOf x qual (B6 st) (BV st) (AK st) .none kV doc pm an cdv ct):=⟨⟨oc,od,kV,doc,pm,an,cdv,ct,osl,rfl,l,c⟩,k⟩
end
theorem RI{A:Around}{k:Nat}(hr:Room k A):A.units+1<cLine:=dO (Nat.add_le_add_left (by decide:1<=64) _) hr.units
section
variable {X:Cx}
theorem pv(i:Nat){x:Str}{pos:Pos}(hN:autoParam (X.N[i]?=some x) zau3._auto_1)(hv:autoParam (SJ X.env.scope x) zau5._auto_1)(hd:autoParam ((x==("__debug__" : Str))=false) zau1._auto_1)
  (hcd:autoParam ((x==("__classdict__" : Str))=false) zau1._auto_1):PE X (.Name x pos) (Bl i):=D_ hN hv hd hcd
end
theorem BR{A B:Prop}(h:B):if false=true then A else B:=by
 rw [if_neg Tk]
 exact h
theorem BC{A B:Prop}(h:A):if true=true then A else B:=by
 rw [if_pos rfl]
 exact h
theorem Dg{c A B:Prop}[Decidable c](h1:c->A)(h2:¬c->B):if c then A else B:=by
 by_cases h:c
 ·rw [if_pos h]
  exact h1 h
 ·rw [if_neg h]
  exact h2 h
section
variable {κ:Type}[DecidableEq κ]
noncomputable def Cq(kvs:List (κ×V))(k:κ):Option V:=(kvs.find? λkv=>decide (kv.1=k)).map (·.2)
noncomputable def putK(kvs:List (κ×V))(k:κ)(v:V):List (κ×V) :=
 if (kvs.any λkv=>decide (kv.1=k))=true then kvs.map (λkv=>if kv.1=k then (kv.1,v) else kv) else kvs++[(k,v)]
theorem Dw{p:κ×V}{r:List (κ×V)}{k:κ}(e:p.1=k):Cq (p::r) k=some p.2:=by simp [Cq,bo,e]
theorem Dx{p:κ×V}{r:List (κ×V)}{k:κ}(e:¬p.1=k):Cq (p::r) k=Cq r k:=by simp [Cq,bo,e]
theorem K0(k:κ):∀kvs:List (κ×V),(kvs.any λkv=>decide (kv.1=k))=(Cq kvs k).isSome
 | []=>rfl
 | p::r=>by
  rw [b_]
  by_cases e:p.1=k
  ·simp only [Dw e,decide_eq_true e,Bool.true_or,Option.isSome_some]
  ·rw [Dx e,decide_eq_false e,Bool.false_or]; exact K0 k r
theorem EB(kvs:List (κ×V))(k:κ)(v:V):(putK kvs k v).length<=kvs.length+1:=by
 unfold putK
 split
 ·rw [Cn]; omega
 ·rw [FM,No,Zq]; omega
theorem RelO.isSome_eq{o:Option V}{u:Option Value}(r:RelO o u):o.isSome=u.isSome:=by
 cases o with
 | none=>cases u with
  | none=>rfl
  | some _=>exact(show False from r).elim
 | some _=>cases u with
  | none=>exact(show False from r).elim
  | some _=>rfl
theorem KV.val{kvs:List (κ×V)}{vs:List (κ×Value)}(r:KV kvs vs)(k:κ):RelO (Cq kvs k) (valueAt vs k):=by
 unfold KV at r
 induction r with
 | nil=>exact a9
 | @cons p q ps qs h t ih =>
  obtain⟨h1,h2⟩:=h
  by_cases e:p.1=k
  ·have e':q.1=k:=h1.symm.trans e
   have b:valueAt (q::qs) k=some q.2:=by simp [valueAt,bo,e']
   rw [Dw e,b]; exact h2
  ·have e':¬q.1=k:=λz=>e (h1.trans z)
   have b:valueAt (q::qs) k=valueAt qs k:=by simp [valueAt,bo,e']
   rw [Dx e,b]; exact ih
theorem KV.any{kvs:List (κ×V)}{vs:List (κ×Value)}(r:KV kvs vs)(k:κ):(kvs.any λkv=>decide (kv.1=k))=vs.any λkv=>decide (kv.1=k):=by
 unfold KV at r
 induction r with
 | nil=>rfl
 | cons h t ih=>rw [b_,b_,ih,h.1]
theorem KV.repl{kvs:List (κ×V)}{vs:List (κ×Value)}(r:KV kvs vs)(k:κ){y:V}{u:Value}(ry:RelV y u) :
  KV (kvs.map λkv=>if kv.1=k then (kv.1,y) else kv) (vs.map λkv=>if kv.1=k then (kv.1,u) else kv):=by
 unfold KV at r ⊢
 induction r with
 | nil=>exact .nil
 | @cons p q ps qs h t ih =>
  rw [TW,TW]
  refine .cons ?_ ih
  obtain⟨h1,h2⟩:=h
  by_cases e:p.1=k
  ·rw [if_pos e,if_pos (h1.symm.trans e)]; exact⟨h1,ry⟩
  ·rw [if_neg e,if_neg (λz=>e (h1.trans z))]; exact⟨h1,h2⟩
theorem KV.put{kvs:List (κ×V)}{vs:List (κ×Value)}(r:KV kvs vs)(k:κ){y:V}{u:Value}(ry:RelV y u):KV (putK kvs k y) (stored vs k u):=by
 unfold putK stored
 rw [r.any k]
 by_cases e:(vs.any λkv=>decide (kv.1=k))=true
 ·rw [if_pos e,if_pos e]; exact r.repl k ry
 ·rw [if_neg e,if_neg e]; exact Paired.snoc r ⟨rfl,ry⟩
theorem KV.length{kvs:List (κ×V)}{vs:List (κ×Value)}(r:KV kvs vs):kvs.length=vs.length:=Paired.length r
end
theorem Nn{P:Program}{w:World}{k:Key}{u:Value}(r:RelV (kV k) u):(BQ P w).is k u=true:=by
 cases k with
 | inl i=>obtain⟨t,e⟩:=(show ∃t,u=eE i t from r); subst e; exact LU P w i t
 | inr x=>obtain⟨t,e⟩:=(show ∃t,u=eF x t from r); subst e; exact LS P w x t
theorem JM{P:Program}{w:World}:∀{ks:List Key} {us:List Value},Vals (ks.map kV) us->ItemsAre (BQ P w) ks us
 | [],_,r=>by rw [bw] at r; cases r; exact .nil
 | k::ks,_,r=>by
  rw [TW] at r
  cases r with
  | cons h t=>exact .cons (Nn h) (JM t)
noncomputable abbrev KT(H:Hp):List (List Key×V)->List (List Key×Addr×Value)->Prop:=Paired λp q=>p.1=q.1/\H q.2.1=some (.tup (p.1.map kV))/\RelV p.2 q.2.2
theorem KT.val{H:Hp}{kvs:List (List Key×V)}{xs:List (List Key×Addr×Value)}(r:KT H kvs xs)(k:List Key):RelO (Cq kvs k) ((atKey xs k).map (·.2)):=by
 induction r with
 | nil=>exact a9
 | @cons p q ps qs h t ih =>
  obtain⟨h1,_,h2⟩:=h
  by_cases e:p.1=k
  ·have e':q.1=k:=h1.symm.trans e
   have b:atKey (q::qs) k=some q.2:=by simp [atKey,bo,e']
   rw [Dw e,b]; exact h2
  ·have e':¬q.1=k:=λz=>e (h1.trans z)
   have b:atKey (q::qs) k=atKey qs k:=by simp [atKey,bo,e']
   rw [Dx e,b]; exact ih
theorem KT.repl{H:Hp}{kvs:List (List Key×V)}{xs:List (List Key×Addr×Value)}(r:KT H kvs xs)(k:List Key){y:V}{u:Value}(ry:RelV y u) :
  KT H (kvs.map λkv=>if kv.1=k then (kv.1,y) else kv) (xs.map (putAt k u)):=by
 induction r with
 | nil=>exact .nil
 | @cons p q ps qs h t ih =>
  rw [TW,TW]
  refine .cons ?_ ih
  obtain⟨h1,h2,h3⟩:=h
  unfold putAt
  by_cases e:p.1=k
  ·rw [if_pos e,if_pos (h1.symm.trans e)]; exact⟨h1,h2,ry⟩
  ·rw [if_neg e,if_neg (λz=>e (h1.trans z))]; exact⟨h1,h2,h3⟩
theorem KT.put{H:Hp}{kvs:List (List Key×V)}{xs:List (List Key×Addr×Value)}(r:KT H kvs xs)(k:List Key){b:Addr}{y:V}{u:Value}(hb:H b=some (.tup (k.map kV)))(ry:RelV y u) :
  KT H (putK kvs k y) (storedH xs k b u):=by
 have e:(kvs.any λkv=>decide (kv.1=k))=(atKey xs k).isSome:=by
  rw [K0,(r.val k).isSome_eq,Option.isSome_map]
 unfold putK storedH
 rw [e]
 by_cases q:(atKey xs k).isSome=true
 ·rw [if_pos q,if_pos q]; exact r.repl k ry
 ·rw [if_neg q,if_neg q]; exact Paired.snoc r ⟨rfl,hb,ry⟩
theorem KT.keeps{H H':Hp}{kvs:List (List Key×V)}{xs:List (List Key×Addr×Value)}(r:KT H kvs xs)(ht:∀b ys,H b=some (.tup ys)->H' b=some (.tup ys)):KT H' kvs xs :=
 Paired.mapP r λ_ _ z=>⟨z.1,ht _ _ z.2.1,z.2.2⟩
section
variable {P:Program}{w:World}{H:Hp}{h:Heap}{a:Addr}
theorem UR{u:HO}(ok:HOk P w H h)(e:Rd H a u):ObjOk P w H h a u:=e.ok ok
theorem Rj{kvs:List (Key×V)}(ok:HOk P w H h)(e:Rd H a (.dK kvs)):kvs.length<=sizeLine/\(a==sysModules)=false/\∃vs,KV kvs vs/\h.DictOf (BQ P w) a vs :=
 show ObjOk P w H h a (.dK kvs) from UR ok e
theorem Ut{kvs:List (Key×V)}(ok:HOk P w H h)(e:H a=some (.dK kvs)):kvs.length<=sizeLine/\(a==sysModules)=false/\∃vs,KV kvs vs/\h.DictOf (BQ P w) a vs:=Rj ok (.inl e)
theorem Mw{ks:List Key}(ok:HOk P w H h)(e:H a=some (.tup (ks.map kV))):(tupleKind (BQ P w)).is h ks a:=by
 obtain⟨_,its,r,o,h1,h2,n,h3,_⟩:=(show ObjOk P w H h a (.tup (ks.map kV)) from ok a _ e)
 exact⟨o,its.toArray,n,h1,h2,h3,by simpa using JM r⟩
theorem Lu{kvs:List (List Key×V)}(ok:HOk P w H h)(e:Rd H a (.dT kvs)):kvs.length<=sizeLine/\(a==sysModules)=false /\
  ∃xs,KT H kvs xs/\h.DictOfH (tupleKind (BQ P w)) a xs:=by
 obtain⟨z,y,xs,r,o,es,ep,h1,h2,h3,h4,h5⟩:=(show ObjOk P w H h a (.dT kvs) from UR ok e)
 refine⟨z,y,xs,r,o,es,ep,h1,h2,h3,h4,λx hx=>?_,h5⟩
 have all:∀{l:List (List Key×V)} {m:List (List Key×Addr×Value)},KT H l m->∀x∈m,(tupleKind (BQ P w)).is h x.1 x.2.1:=by
  intro l m q
  induction q with
  | nil=>intro x hx; exact nomatch hx
  | @cons p q ps qs hq t ih =>
   intro x hx
   rcases UF.mp hx with e | hx
   ·subst e
    exact Mw ok (by rw [← hq.1]; exact hq.2.1)
   ·exact ih x hx
 exact all r x hx
theorem X6{kvs:List (List Key×V)}(ok:HOk P w H h)(e:H a=some (.dT kvs)):kvs.length<=sizeLine/\(a==sysModules)=false /\
  ∃xs,KT H kvs xs/\h.DictOfH (tupleKind (BQ P w)) a xs:=Lu ok (.inl e)
end
noncomputable def Po(H:Hp)(a:Addr)(y:V)(r:Option V):Prop :=
 (∃kvs k,Rd H a (.dK kvs)/\y=kV k/\r=Cq kvs k)\/∃kvs k b,Rd H a (.dT kvs)/\y=.ref b/\H b=some (.tup (k.map kV))/\r=Cq kvs k
noncomputable def DPut(H:Hp)(a:Addr)(y v:V)(H':Hp):Prop :=
 (∃kvs k,H a=some (.dK kvs)/\y=kV k/\kvs.length<sizeLine/\H'=Ar H a (.dK (putK kvs k v))) \/
 ∃kvs k b,H a=some (.dT kvs)/\y=.ref b/\H b=some (.tup (k.map kV))/\kvs.length<sizeLine/\H'=Ar H a (.dT (putK kvs k v))
theorem DPut.t{H:Hp}{a b:Addr}{kvs:List (List Key×V)}{k:List Key}{v:V}(e:H a=some (.dT kvs))(eb:H b=some (.tup (k.map kV)))(hl:kvs.length<sizeLine) :
  DPut H a (.ref b) v (Ar H a (.dT (putK kvs k v))):=.inr ⟨kvs,k,b,e,rfl,eb,hl,rfl⟩
section
variable {X:Cx}{pins:List (Addr×Obj)}{σ:St}{H:Hp}{s:Shared}{a:Addr}{y v:V}{u r:Value}{o:Option V}{A:Around}{E:Value->Shared->Prop}
theorem Inv.big(I:Inv X pins σ H s):sysModules<s.heap.objs.size:=by
 have h:mainGlobals<s.heap.objs.size:=(I.mod.glob.keeps I.bk).lt
 exact Nat.lt_trans (by decide) h
theorem Pg{Q:Value->Shared->Prop}(hu:A.units+1<cLine)(I:Inv X pins σ H s)(g:Po H a y (some v))(ry:RelV y u)(h:∀w' s',Inv X pins σ H s'->RelV v w'->Q w' s') :
  wpAny (model X.prog X.w) A (getItem (.ref a) u) Q E s:=by
 rcases g with ⟨kvs,k,e,ey,l⟩ | ⟨kvs,k,b,e,ey,eb,l⟩
 ·subst ey
  obtain⟨z,hd,vs,rel,dd⟩:=Rj I.hok e
  obtain⟨w',hw,rw'⟩:=RelO.some_of (v:=v) (o:=valueAt vs k) (by rw [l]; exact rel.val k)
  exact wpAny_getItem_of (Nn ry) dd.mapOf hw (h w' _ (I.tok _) rw')
 ·subst ey
  cases (show u=TM b from ry)
  obtain⟨z,hd,xs,rel,dd⟩:=Lu I.hok e
  obtain⟨w',hw,rw'⟩:=RelO.some_of (v:=v) (o:=(atKey xs k).map (·.2)) (by rw [l]; exact rel.val k)
  obtain⟨p,hp,hp2⟩:=aY.mp hw
  refine wpAny_getItem_heap (tupleKind_room_in1 hu) (Mw I.hok eb) dd hp ?_
  rw [hp2]
  exact h w' _ (I.tok _) rw'
theorem Kb{h':Heap}{t':Nat}{ob:HO}(I:Inv X pins σ H s)(mu:YI (H a))(hs:bH a s.heap h')(he:∃q,h'.get? a=some q)(new:ObjOk X.prog X.w (Ar H a ob) h' a ob) :
  Inv X pins σ (Ar H a ob) { s with heap:=h',toks:=t' } :=
 I.write (x:=a) (e:=a) mu (.inl rfl) (λb q hb z=>(hs.2 b hb).trans z) he new
theorem Rk{P:Program}{w:World}{H':Hp}{h':Heap}{kvs:List (Key×V)}{vs:List (Key×Value)}(z:kvs.length<=sizeLine)(hd:(a==sysModules)=false)(rel:KV kvs vs)(dd:h'.DictOf (BQ P w) a vs) :
  ObjOk P w H' h' a (.dK kvs):=⟨z,hd,vs,rel,dd⟩
theorem Pf{H':Hp}{Q:Unit->Shared->Prop}(hu:A.units+1<cLine)(I:Inv X pins σ H s)(g:DPut H a y v H')(ry:RelV y u)(rv:RelV v r)(h:∀s',Inv X pins σ H' s'->Q () s') :
  wpAny (model X.prog X.w) A (setItem (.ref a) u r) Q E s:=by
 rcases g with ⟨kvs,k,e,ey,l,eH⟩ | ⟨kvs,k,b,e,ey,eb,l,eH⟩
 ·subst ey eH
  obtain⟨z,hd,vs,rel,dd⟩:=Ut I.hok e
  have hz:vs.length<=sizeLine:=by rw [← rel.length]; exact z
  have hl:(putK kvs k v).length<=sizeLine:=by have:=EB kvs k v; omega
  refine wpAny_setItem_pairs (hsz:=hz) (Nn ry) dd λh' dd' hs=>h _ ?_
  have he:∃q,h'.get? a=some q:=let ⟨q,_,_,hq,_⟩:=dd'; ⟨q,hq⟩
  exact Kb I (by rw [e]; exact a9) hs he (Rk hl hd (rel.put k rv) dd')
 ·subst ey eH
  cases (show u=TM b from ry)
  obtain⟨z,hd,xs,rel,dd⟩:=X6 I.hok e
  have hz:xs.length<=sizeLine:=by rw [← Paired.length rel]; exact z
  have hl:(putK kvs k v).length<=sizeLine:=by have:=EB kvs k v; omega
  refine wpAny_setItem_heap (hsz:=hz) (tupleKind_room_in1 hu) (Mw I.hok eb) dd λh' dd' hs=>h _ ?_
  obtain⟨q,es,ep,hq,h2,h3,h4,_,h5⟩:=dd'
  refine Kb I (by rw [e]; exact a9) hs ⟨q,hq⟩ ⟨hl,hd,_,(rel.put k eb rv).keeps λc ys ec=>?_,q,es,ep,hq,h2,h3,h4,h5⟩
  rw [AM (Xn ec e (λz=>nomatch z))]
  exact ec
end
section
variable {X:Cx}{pins:List (Addr×Obj)}{σ:St}{H:Hp}{s:Shared}{a:Addr}{kvs:List (Key×V)}{k:Key}{u:Value}{A:Around}{E:Value->Shared->Prop}
end
noncomputable def UD(i:Expr):Prop:=∀ov iv,subscripted i false ov iv=operate [ov,iv] (getItem ov iv)
theorem Sg{prog:Program}{w:World}{A:Around}{E:Value->Shared->Prop}{s:Shared}{env:Env}{value slice:Expr}{pos:Pos}{T id:String}{Q:Value->Shared->Prop}
  (hl:typeLookup (.type T) "__getitem__"=pure (some (.builtin id))) (hs:UD slice)
  (h:wpAny (model prog w) A (eval value env) (λo s₁=>wpAny (model prog w) A (eval slice env) (λi s₂=>s₂.TypeIs o T/\wpAny (model prog w) A (getItem o i) Q E s₂) E s₁) E s) :
  wpAny (model prog w) A (eval (.Subscript value slice pos) env) Q E s:=by
 refine Subscript_ (Z6 h (λo s₁ h₁=>Z6 h₁ (λi s₂ h₂=>?_) λ_ _ x=>x) λ_ _ x=>x)
 obtain⟨hT,h₂⟩:=h₂
 unfold subscriptTail
 refine Ch ?_
 rw [getitemInPython_of_ne hT.not_modules]
 refine Ch (wpAny_specialOf hT hl ?_)
 have fin:wpAny (model prog w) A (subscripted slice false o i) (λr s₃=>wpAny (model prog w) A (letTemporaryGo value o r >>= λ_=>pure r) Q E s₃) E s₂:=by
  rw [hs o i]
  exact wpAny_operating (Z6 h₂ (λr s₃ h₃=>Ch (wpAny_letTemporaryGo (Db h₃))) λ_ _ x=>x)
 first
  | exact Db (Ch fin)
  | exact Ch (Db (Ch fin))
  | exact Ch fin
theorem Ly{X:Cx}{pins:List (Addr×Obj)}{σ:St}{H:Hp}{s:Shared}{a:Addr}{y:V}{o:Option V}(I:Inv X pins σ H s)(g:Po H a y o):s.TypeIs (.ref a) "dict":=by
 rcases g with ⟨kvs,k,e,_,_⟩ | ⟨kvs,k,b,e,_,_,_⟩
 ·obtain⟨_,_,vs,_,dd⟩:=Rj I.hok e
  exact dd.typeIs
 ·obtain⟨_,_,xs,_,dd⟩:=Lu I.hok e
  exact dd.typeIs
noncomputable def W8(td ty:TE):TE:=λσ H Q=>td σ H λx H1=>ty σ H1 λy H2=>∃a v,x=.ref a/\Po H2 a y (some v)/\Q v H2
noncomputable def XB(td ty tv:TE):TS:=λD σ H=>tv σ H λv H1=>td σ H1 λx H2=>ty σ H2 λy H3=>∃a H4,x=.ref a/\DPut H3 a y v H4/\D.nx σ H4
section
variable {X:Cx}{o i e value:Expr}{pos pos' tpos:Pos}{td ty tv:TE}
theorem Nc(hu:X.A.units+1<cLine)(ho:PE X o td)(hi:PE X i ty)(hs:UD i):PE X (.Subscript o i pos) (W8 td ty):=by
 intro pins s σ H Q I h
 refine Sg PySem.F.slot_dict_getitem.lookup hs (BB (ho pins s σ H _ I h) λu s1 ⟨x,H1,I1,rx,q1⟩=>BB (hi pins s1 σ H1 _ I1 q1) λiv s2 ⟨y,H2,I2,ry,a,v,ex,g,q2⟩=>?_)
 subst ex
 obtain rfl:u=TM a:=rx
 exact⟨Ly I2 g,Pg hu I2 g ry λw' s3 I3 rw'=>⟨v,H2,I3,rw',q2⟩⟩
theorem Sq(hu:X.A.units+1<cLine)(ho:PE X o td)(hi:PE X i ty)(hv:PE X value tv)(hs:swapsWith value (some (.Subscript o i pos')) pos.line X.env=pure false) :
  PS X (.Assign [.Subscript o i pos'] value pos) (XB td ty tv):=by
 intro pins s σ H D I h
 refine wpAny_Assign_Subscript (BB (hv pins s σ H _ I h) λr s1 ⟨v,H1,I1,rv,q1⟩=>BB (ho pins s1 σ H1 _ I1 q1) λu s2 ⟨x,H2,I2,rx,q2⟩=>BB (hi pins s2 σ H2 _ I2 q2) λiv s3 ⟨y,H3,I3,ry,a,H4,ex,g,q3⟩=>?_) hs
 subst ex
 obtain rfl:u=TM a:=rx
 exact Pf hu I3 g ry rv λs4 I4=>⟨σ,H4,I4,q3⟩
end
theorem Rl{P:Program}{w:World}{H:Hp}(h:Heap)(hb:sysModules<h.objs.size):ObjOk P w H (h.push { cls:=.type "dict",data:=.dict #[] }) h.objs.size (.dK []) :=
 ⟨Zt _,beq_eq_false_iff_ne.mpr (bL (Zs hb)),[],.nil,Heap.DictOf.new h⟩
theorem Rc{P:Program}{w:World}{H:Hp}(h:Heap)(hb:sysModules<h.objs.size):ObjOk P w H (h.push { cls:=.type "dict",data:=.dict #[] }) h.objs.size (.dT []) :=
 ⟨Zt _,beq_eq_false_iff_ne.mpr (bL (Zs hb)),[],.nil,_,#[],0,XV _ rfl,⟨rfl,rfl,rfl⟩,rfl,rfl,eQ⟩
noncomputable def VH:TE:=λ_ H Q=>∀p,H p=none->Q (.ref p) (Ar H p (.dT []))
section
variable {X:Cx}{pos:Pos}
theorem Qo:PE X (.Dict [] [] pos) VH:=λpins s σ H Q I h =>
 wpAny_Dict_empty ⟨.ref s.heap.objs.size,_,I.laid (a:=s.heap.objs.size) (o:=.dT []) (t':=s.toks) (λ_ _ q=>Ev _ q) (Go _) (Rc s.heap I.big),rfl,h _ (I.hok.fresh (Go _))⟩
end
noncomputable def MM:List (TE×TE)->St->Hp->(List (V×V)->Hp->Prop)->Prop
 | [],_,H,Q=>Q [] H
 | (tk,tv)::r,σ,H,Q=>tk σ H λx H1=>tv σ H1 λy H2=>MM r σ H2 λps H3=>Q ((x,y)::ps) H3
noncomputable abbrev VV:List (V×V)->List (Value×Value)->Prop:=Paired λp q=>RelV p.1 q.1/\RelV p.2 q.2
noncomputable def YZ(X:Cx)(pos:Pos)(keys:List (Option Expr))(values:List Expr)(trs:List (TE×TE)):Prop :=
 ∀(pins:List (Addr×Obj)) (s:Shared) (σ:St) (H:Hp) (Q:List (V×V)->Hp->Prop),Inv X pins σ H s->MM trs σ H Q ->
  wpAny (model X.prog X.w) X.A (evalPairs (pairTrees keys values X.env pos)) (λvs s'=>∃ps H',Inv X pins σ H' s'/\VV ps vs/\Q ps H') X.xe s
theorem Sr{X:Cx}{pos:Pos}:YZ X pos [] [] []:=λpins s σ H Q I h=>pairTrees_nil_walk ⟨[],H,I,.nil,h⟩
theorem LJ{X:Cx}{pos:Pos}{k v:Expr}{ks:List (Option Expr)}{vs:List Expr}{tk tv:TE}{trs:List (TE×TE)}(hk:PE X k tk)(hv:PE X v tv)(hr:YZ X pos ks vs trs) :
  YZ X pos (some k::ks) (v::vs) ((tk,tv)::trs):=λpins s σ H Q I h =>
 pairTrees_cons_walk (BB (hk pins s σ H _ I h) λu s1 ⟨x,H1,I1,rx,q1⟩=>BB (hv pins s1 σ H1 _ I1 q1) λw2 s2 ⟨y,H2,I2,ry,q2⟩ =>
  BB (hr pins s2 σ H2 _ I2 q2) λws s3 ⟨ps,H3,I3,rel,q3⟩=>⟨(x,y)::ps,H3,I3,.cons ⟨rx,ry⟩ rel,q3⟩)
noncomputable def FE(kvs more:List (Key×V)):List (Key×V):=more.foldl (λacc kv=>putK acc kv.1 kv.2) kvs
theorem KV.merge:∀{more:List (Key×V)} {rs:List (Key×Value)} {kvs:List (Key×V)} {vs:List (Key×Value)},KV more rs->KV kvs vs->KV (FE kvs more) (merged vs rs):=by
 intro more rs kvs vs r
 unfold KV at r
 induction r generalizing kvs vs with
 | nil=>intro q; exact q
 | @cons p q ps qs h t ih =>
  intro r0
  have e:KV (putK kvs p.1 p.2) (stored vs q.1 q.2):=by
   have:=r0.put p.1 h.2
   rw [← h.1]; exact this
  exact ih e
theorem Em:∀(more kvs:List (Key×V)),(FE kvs more).length<=kvs.length+more.length
 | [],kvs=>by show kvs.length<=kvs.length+0; omega
 | p::r,kvs=>by
  have h1:=Em r (putK kvs p.1 p.2)
  have h2:=EB kvs p.1 p.2
  show (FE (putK kvs p.1 p.2) r).length<=_
  rw [No]; omega
theorem II{P:Program}{w:World}:∀{kvs:List (Key×V)} {ws:List (Value×Value)},VV (kvs.map λkv=>(kV kv.1,kv.2)) ws->∃rs,Carries (BQ P w) ws rs/\KV kvs rs
 | [],_,r=>by rw [bw] at r; cases r; exact⟨[],a9,.nil⟩
 | p::kvs,_,r=>by
  rw [TW] at r
  cases r with
  | @cons a b as bs h t =>
   obtain⟨rs,c,q⟩:=II (P:=P) (w:=w) t
   obtain⟨b1,b2⟩:=b
   exact⟨(p.1,b2)::rs,⟨Nn h.1,rfl,c⟩,.cons ⟨rfl,h.2⟩ q⟩
noncomputable def W7(trs:List (TE×TE)):TE:=λσ H Q=>∀p,H p=none->MM trs σ (Ar H p (.dK [])) λps H2=>H2 p=some (.dK [])/\∃kvs:List (Key×V),ps=kvs.map (λkv=>(kV kv.1,kv.2))/\kvs.length<=15/\Q (.ref p) (Ar H2 p (.dK (FE [] kvs)))
theorem S2{X:Cx}{pos:Pos}{keys:List (Option Expr)}{values:List Expr}{trs:List (TE×TE)}(h:YZ X pos keys values trs)(hall:keys.all (·.isSome)=true)(hl:keys.length=values.length)(h0:keys≠[])
  (h15:keys.length<=15):PE X (.Dict keys values pos) (W7 trs):=by
 intro pins s σ H Q I q
 have hn:=I.hok.fresh (Go s.heap.objs.size)
 have I1:=I.laid (a:=s.heap.objs.size) (o:=.dK []) (h':=s.heap.push { cls:=.type "dict",data:=.dict #[] }) (t':=s.toks) (λ_ _ q=>Ev _ q) (Go _) (Rl s.heap I.big)
 refine wpAny_Dict_walk (knd:=BQ X.prog X.w) hall hl h0 h15 (BB (h pins _ σ _ _ I1 (q _ hn)) λws s2 ⟨ps,H2,I2,rel,e,kvs,ep,lk,q2⟩=>?_)
 subst ep
 obtain⟨rs,c,rk⟩:=II (P:=X.prog) (w:=X.w) rel
 obtain⟨z,hd,vs0,r0,dd⟩:=Ut I2.hok e
 cases r0
 refine⟨rs,c,dd,λh' dd' hs=>⟨.ref s.heap.objs.size,_,?_,rfl,q2⟩⟩
 have hz:(FE [] kvs).length<=sizeLine:=by
  have h1:=Em kvs []
  rw [Zq] at h1
  rw [Z2]; omega
 have he:∃q,h'.get? s.heap.objs.size=some q:=let ⟨q,_,_,hq,_⟩:=dd'; ⟨q,hq⟩
 exact Kb I2 (by rw [e]; exact a9) hs he (Rk hz hd (rk.merge .nil) dd')
structure M1 (X:Cx) (o:Expr) (m:Str) (apos:Pos) (e:Expr) (cpos:Pos):Prop where
 base:attributeBase o m X.env (eval o X.env)=eval o X.env
 few:((backTo cpos (starEach [e] X.env)).all (λx=>!x.1)&&(backToKw cpos (keywordEach [] X.env)).all (λx=>x.1.isSome)
  && decide (([e]:List Expr).length+([]:List Keyword).length+(if ([]:List Keyword).isEmpty then 0 else 1)<30))=true
 line:(apos.endLine==cpos.line)=true
 trees:backTo cpos (starEach [e] X.env)=[(false,eval e X.env)]
structure M2 (X:Cx) (o:Expr) (m:Str) (apos:Pos) (e f:Expr) (cpos:Pos):Prop where
 base:attributeBase o m X.env (eval o X.env)=eval o X.env
 few:((backTo cpos (starEach [e,f] X.env)).all (λx=>!x.1)&&(backToKw cpos (keywordEach [] X.env)).all (λx=>x.1.isSome)
  && decide (([e,f]:List Expr).length+([]:List Keyword).length+(if ([]:List Keyword).isEmpty then 0 else 1)<30))=true
 line:(apos.endLine==cpos.line)=true
 trees:backTo cpos (starEach [e,f] X.env)=[(false,eval e X.env),(false,eval f X.env)]
section
variable {X:Cx}{pins:List (Addr×Obj)}{σ:St}{H:Hp}{s:Shared}{a:Addr}{y d:V}{u r:Value}{o:Option V}{A:Around}{E:Value->Shared->Prop}
end
section
variable {X:Cx}{o e f:Expr}{apos cpos:Pos}{td ty tx:TE}
end
section
variable {X:Cx}{pins:List (Addr×Obj)}{σ:St}{H:Hp}{s:Shared}{a:Addr}{kvs:List (Key×V)}{A:Around}{E:Value->Shared->Prop}
end
section
variable {X:Cx}{pins:List (Addr×Obj)}{σ:St}{H:Hp}{s:Shared}{a:Addr}{y:V}{u:Value}{A:Around}{E:Value->Shared->Prop}
end
end L2
set_option maxHeartbeats 4000000
namespace L2
open PySem PySem.Spec PyProof.Rows
section
theorem NC{env:Env}:∀(names:List (Str×NameKind)) (cs:List (Str×Addr)),(∀x,(x,Z_)∈names->∃c,env.cells.lookup x=some c)->(∀x c,cs.lookup x=some c->env.cells.lookup x=some c) ->
  ∃cl,(forIn names cs fun(x:Str×NameKind) (r:List (Str×Addr))=>(if (x.2==Z_)=true then do let a ← cellOf env x.1; pure (bp ((x.1,a)::r)) else pure (bp r):Sem (ForInStep (List (Str×Addr)))))=(pure cl:Sem _) /\
   (∀x c,cl.lookup x=some c->env.cells.lookup x=some c)/\(∀x,((x,Z_)∈names\/∃c,cs.lookup x=some c)->∃c,cl.lookup x=some c):=by
 intro names
 induction names with
 | nil =>
  intro cs _ h2
  exact⟨cs,rfl,h2,λx hx=>hx.elim (λz=>absurd z (by simp)) λz=>z⟩
 | cons p r ih =>
  intro cs h1 h2
  obtain⟨n,k⟩:=p
  by_cases hk:k=Z_
  ·subst hk
   obtain⟨c,hc⟩:=h1 n On
   have hcell:cellOf env n=pure c:=by simp only [cellOf,hc]
   obtain⟨cl,e,a,b⟩:=ih ((n,c)::cs) (λx hx=>h1 x (Is _ hx)) (λx c' hx=>by
    rw [aw] at hx
    cases hb:x==n with
    | true =>
     rw [hb] at hx
     have hx':some c=some c':=hx
     cases hx'
     have:x=n:=by simpa using hb
     rw [this]; exact hc
    | false=>rw [hb] at hx; exact h2 x c' hx)
   refine⟨cl,?_,a,λx hx=>b x ?_⟩
   ·rw [List.forIn_cons]
    simp only [beq_self_eq_true,if_true,hcell,pure_bind]
    exact e
   ·by_cases hxn:x=n
    ·subst hxn
     exact .inr ⟨c,by simp [aw]⟩
    ·rcases hx with hx | ⟨c',hx⟩
     ·rcases UF.mp hx with hx | hx
      ·cases hx; exact absurd rfl hxn
      ·exact .inl hx
     ·refine .inr ⟨c',?_⟩
      have:(x==n)=false:=by simpa using hxn
      rw [aw,this]
      exact hx
  ·have hk':(k==Z_)=false:=by simpa using hk
   obtain⟨cl,e,a,b⟩:=ih cs (λx hx=>h1 x (Is _ hx)) h2
   refine⟨cl,?_,a,λx hx=>b x ?_⟩
   ·rw [List.forIn_cons]
    simp only [hk',Z5,if_false,pure_bind]
    exact e
   ·rcases hx with hx | hx
    ·rcases UF.mp hx with hx | hx
     ·cases hx; exact absurd rfl hk
     ·exact .inl hx
    ·exact .inr hx
theorem IH{scope:Scope}{env:Env}(h:∀x,(x,Z_)∈scope.names->∃c,env.cells.lookup x=some c) :
  ∃cl,closureFor scope env=pure cl/\(∀x c,cl.lookup x=some c->env.cells.lookup x=some c)/\(∀x,(x,Z_)∈scope.names->∃c,cl.lookup x=some c):=by
 obtain⟨cl,e,a,b⟩:=NC scope.names [] h (λx c hx=>by simp at hx)
 refine⟨cl,?_,a,λx hx=>b x (.inl hx)⟩
 simp only [closureFor]
 rw [e,pure_bind]
variable {prog:Program}{w:World}{A:Around}{E:Value->Shared->Prop}{R:Result->Shared->Prop}{s:Shared}
theorem Kc{elt target iter:Expr}{ifs:List Expr}{scope:Scope}{pos:Pos}{it acc:Value}{env:Env}(I:Nat->Shared->Prop)
  (turn:∀n s,I n s->wpAny (model prog w) A (pyNext it) (λr s₁=>match r with
   | none=>R (.ok .next) s₁
   | some v=>wpAny (model prog w) A (letOwnedTupleGo target it v) (λ_ s₁'=>wpAny (model prog w) A (assign target env v) (λ_ s₂ =>
     wpAny (model prog w) A (forIn ifs true λc r=>if r=true then do let ok ← isTrue c env (eval c env); pure (bp ok) else pure (bp r)) (λok s₃ =>
      if ok=true then wpAny (model prog w) A (eval elt env) (λx s₄ =>
       wpAny (model prog w) A (call (.builtin "list.append") [acc,x]) (λ_ s₅=>∃m,m<n/\I m s₅) (λ_ _=>False) s₄) (λ_ _=>False) s₃
      else ∃m,m<n/\I m s₃) (λ_ _=>False) s₂) (λ_ _=>False) s₁') (λ_ _=>False) s₁) (λ_ _=>False) s)
  (n:Nat) (h:I n s) :
  codeAny (model prog w) A (.compLoop (.ListComp elt [⟨target,iter,ifs,0⟩] scope pos) 0 it acc env) R s:=by
 refine codeAny_loop rfl I (λn s hI=>?_) n h
 show wpAny _ A ((compTurn (.ListComp elt [⟨target,iter,ifs,0⟩] scope pos) 0 it acc env).onRaise (λx=>do noteFrame x env; theTreesLotGoes x)) _ _ s
 refine wpAny_noted ?_
 rw [compTurn_list]
 refine Ch (be (Ch (Z6 (turn n s hI) (λr s₁ h₁=>?_) λ_ _ h'=>h'.elim)))
 cases r with
 | none=>exact Db h₁
 | some v =>
  refine Ch (Z6 h₁ (λ_ s₁' h₁'=>?_) λ_ _ h'=>h'.elim)
  refine Ch (Z6 h₁' (λ_ s₂ h₂=>Ch (Z6 h₂ (λok s₃ h₃=>?_) λ_ _ h'=>h'.elim)) λ_ _ h'=>h'.elim)
  cases ok with
  | false=>exact Db ⟨rfl,h₃⟩
  | true =>
   exact Ch (Ch (Z6 h₃ (λx s₄ h₄=>Ch (Z6 h₄ (λ_ s₅ h₅=>Db (Db ⟨rfl,h₅⟩)) λ_ _ h'=>h'.elim)) λ_ _ h'=>h'.elim))
end
noncomputable def Av(X:Cx)(sc:Scope)(N':List Str)(cl:List (Str×Addr))(C:Addr)(s:Shared)(H:Hp)(ex:List Addr):Cx where
 prog:=X.prog
 w:=X.w
 K:=X.K
 mg:=X.mg
 base:=X.base
 A:=X.A
 N:=N'
 s₀:=s
 H₀:=H
 env:=compEnvC sc cl C X.env
 outer:=X.stack
 stack:=X.stack
 ex:=ex
 fn:=λ_=>false
 calm:=true
 pn:=[]
 xe:=λ_ _=>False
noncomputable def CI(js:List (Option Nat))(σ:St):St:=js.map λo=>match o with
 | some i=>(σ[i]?).getD none
 | none=>none
noncomputable def Tb(o:Option NameKind):Bool:=match o with
 | some .cell=>true
 | some .free=>true
 | _=>false
theorem Nv{o:Option NameKind}(h:Tb o=true):o=some .cell\/o=some .free:=by
 unfold Tb at h
 split at h
 ·exact .inl rfl
 ·exact .inr rfl
 ·cases h
noncomputable def isFree(o:Option NameKind):Bool:=match o with
 | some .free=>true
 | _=>false
theorem PK{o:Option NameKind}(h:isFree o=true):o=some .free:=by
 unfold isFree at h
 split at h
 ·rfl
 ·cases h
noncomputable def RF(o:Option NameKind):Bool:=match o with
 | some .local=>true
 | _=>false
theorem RE{o:Option NameKind}(h:RF o=true):o=some .local:=by
 unfold RF at h
 split at h
 ·rfl
 ·cases h
noncomputable def RH(k:ScopeKind):Bool:=match k with
 | .function=>true
 | _=>false
theorem RG{k:ScopeKind}(h:RH k=true):k=.function:=by
 unfold RH at h
 split at h
 ·rfl
 ·cases h
noncomputable def Ys(sc esc:Scope)(p:Str×NameKind):Bool:=match p.2 with
 | .cell=>false
 | .free=>Tb (esc.names.lookup p.1)
 | .local=>RF (sc.names.lookup p.1)
 | _=>true
noncomputable def Y2(x:Option Str)(y:Str):Bool:=match x with
 | some z=>z==y
 | none=>false
theorem V4{x:Option Str}{y:Str}(h:Y2 x y=true):x=some y:=by
 unfold Y2 at h
 split at h
 ·exact congrArg some (by simpa using h)
 ·cases h
noncomputable def Fs(sc esc:Scope)(N:List Str):List Str->List (Option Nat)->Bool
 | [],[]=>true
 | x::xs,some j::js=>isFree (sc.names.lookup x)&&Y2 (N[j]?) x&&Tb (esc.names.lookup x)&&Fs sc esc N xs js
 | _::xs,none::js=>Fs sc esc N xs js
 | _,_=>false
noncomputable def Gg(sc esc:Scope)(N N':List Str)(js:List (Option Nat)):Bool:=RH sc.kind&&sc.names.all (Ys sc esc)&&Fs sc esc N N' js
theorem EN{sc esc:Scope}{N:List Str}:∀{N':List Str} {js:List (Option Nat)},Fs sc esc N N' js=true->js.length=N'.length
 | [],[],_=>rfl
 | x::xs,some j::js,h=>by
  unfold Fs at h
  rw [Zo] at h
  rw [No,No,EN h.2]
 | x::xs,none::js,h=>by
  unfold Fs at h
  rw [No,No,EN h]
 | [],some _::_,h=>by unfold Fs at h; cases h
 | [],none::_,h=>by unfold Fs at h; cases h
 | _::_,[],h=>by unfold Fs at h; cases h
theorem Ke{sc esc:Scope}{N:List Str}:∀{N':List Str} {js:List (Option Nat)},Fs sc esc N N' js=true->∀{k:Nat} {x:Str} {j:Nat},N'[k]?=some x->js[k]?=some (some j) ->
  sc.names.lookup x=some .free/\N[j]?=some x/\(esc.names.lookup x=some .cell\/esc.names.lookup x=some .free)
 | [],_,_,k,x,j,h1,_=>by simp at h1
 | _::_,[],h,_,_,_,_,_=>by unfold Fs at h; cases h
 | y::ys,some i::js,h,k,x,j,h1,h2=>by
  unfold Fs at h
  rw [Zo,Zo,Zo] at h
  cases k with
  | zero =>
   simp at h1 h2
   subst h1 h2
   exact⟨PK h.1.1.1,V4 h.1.1.2,Nv h.1.2⟩
  | succ k=>exact Ke h.2 (k:=k) (by simpa using h1) (by simpa using h2)
 | y::ys,none::js,h,k,x,j,h1,h2=>by
  unfold Fs at h
  cases k with
  | zero=>simp at h2
  | succ k=>exact Ke h (k:=k) (by simpa using h1) (by simpa using h2)
theorem O9{js:List (Option Nat)}{σ:St}{k:Nat}{v:V}(h:(CI js σ)[k]?=some (some v)):∃j,js[k]?=some (some j)/\σ[j]?=some (some v):=by
 unfold CI at h
 rw [Zn] at h
 cases e:js[k]? with
 | none=>rw [e] at h; cases h
 | some o =>
  rw [e] at h
  cases o with
  | none=>cases h
  | some j =>
   refine⟨j,rfl,?_⟩
   have h':some ((σ[j]?).getD none)=some (some v):=h
   have h2:=T0 h'
   cases q:σ[j]? with
   | none=>rw [q] at h2; cases h2
   | some w=>rw [q] at h2; exact congrArg some h2
theorem CW{env:Env}:∀{names:List (Str×NameKind)} {x:Str},names.lookup x=some .free ->
  (names.map fun(n,k)=>if (k==Z_&&env.scope.kind==.function&&env.kindOf n==some .cell) then (n,cA) else (n,k)).lookup x=some .cell \/
  (names.map fun(n,k)=>if (k==Z_&&env.scope.kind==.function&&env.kindOf n==some .cell) then (n,cA) else (n,k)).lookup x=some .free
 | [],_,h=>by simp at h
 | (n,k)::r,x,h=>by
  have ih:=@CW env r x
  show aX x ((if (k==Z_&&env.scope.kind==.function&&env.kindOf n==some .cell)=true then (n,cA) else (n,k))::_)=_\/aX x ((if (k==Z_&&env.scope.kind==.function&&env.kindOf n==some .cell)=true then (n,cA) else (n,k))::_)=_
  by_cases hc:(k==Z_&&env.scope.kind==.function&&env.kindOf n==some .cell)=true
  ·rw [if_pos hc]
   cases hx:x==n with
   | true=>exact .inl (by simp only [aw,hx])
   | false =>
    simp only [aw,hx] at h ⊢
    exact ih h
  ·rw [if_neg hc]
   cases hx:x==n with
   | true =>
    simp only [aw,hx] at h ⊢
    exact .inr h
   | false =>
    simp only [aw,hx] at h ⊢
    exact ih h
theorem MV{env:Env}{sc:Scope}(hcell:∀y∈sc.names,y.2≠.cell){x:Str}(h:(relabel sc env).names.lookup x=some .cell\/(relabel sc env).names.lookup x=some .free):(x,Z_)∈sc.names:=by
 have hm:(x,cA)∈(relabel sc env).names\/(x,Z_)∈(relabel sc env).names:=h.elim (λz=>.inl (PySem.mem_of_lookup z)) λz=>.inr (PySem.mem_of_lookup z)
 have go:∀k:NameKind,(k=.cell\/k=.free)->(x,k)∈(relabel sc env).names->(x,Z_)∈sc.names:=by
  intro k hk hmem
  unfold relabel at hmem
  obtain⟨⟨n,k0⟩,hn,e⟩:=Zu.mp hmem
  by_cases hc:(k0==Z_&&env.scope.kind==.function&&env.kindOf n==some .cell)=true
  ·have e':(n,cA)=(x,k):=by
    have:=e
    simp only [hc,if_true] at this
    exact this
   have hk0:k0=.free:=by
    rw [Zo,Zo] at hc
    simpa using hc.1.1
   cases e'
   subst hk0
   exact hn
  ·have e':(n,k0)=(x,k):=by
    have:=e
    simp only [hc,if_false] at this
    exact this
   cases e'
   rcases hk with rfl | rfl
   ·exact absurd rfl (hcell _ hn)
   ·exact hn
 exact hm.elim (go _ (.inl rfl)) (go _ (.inr rfl))
section
variable {X:Cx}{pins:List (Addr×Obj)}{σ:St}{H:Hp}{s:Shared}
structure CompOk (X:Cx) (sc:Scope) (N':List Str) (js:List (Option Nat)):Prop where
 kind:sc.kind=.function
 cell:∀y∈sc.names,y.2≠.cell
 free:∀x,(x,Z_)∈sc.names->X.env.scope.names.lookup x=some .cell\/X.env.scope.names.lookup x=some .free
 names:∀y∈sc.names,y.2=.local->sc.names.lookup y.1=some .local
 cap:Fs sc X.env.scope X.N N' js=true
theorem CompOk.of{sc:Scope}{N':List Str}{js:List (Option Nat)}(h:Gg sc X.env.scope X.N N' js=true):CompOk X sc N' js:=by
 unfold Gg at h
 rw [Zo,Zo,ah] at h
 obtain⟨⟨h1,h2⟩,h3⟩:=h
 refine⟨RG h1,λy hy e=>?_,λx hx=>?_,λy hy e=>?_,h3⟩
 ·have q:=h2 y hy
  unfold Ys at q
  rw [e] at q
  cases q
 ·have q:=h2 _ hx
  exact Nv q
 ·have q:=h2 y hy
  unfold Ys at q
  rw [e] at q
  exact RE q
theorem Li{sc:Scope}{N':List Str}{js:List (Option Nat)}{cl:List (Str×Addr)}{fp:List Addr}{h₁:Heap}{tk:Nat}(I:Inv X pins σ H s)(hc:X.calm=true)(O:CompOk X sc N' js)
  (hcl:∀x c,cl.lookup x=some c->X.env.cells.lookup x=some c) (hcl2:∀x,(x,Z_)∈sc.names->∃c,cl.lookup x=some c)
  (hf:∀b∈fp,FR X pins H b) (ho:∀b∈fp,∃o,s.heap.get? b=some o)
  (hns:h₁.Ns (s.heap.objs.size+1) (λ_=>none)) (hk:∀b o,s.heap.get? b=some o->h₁.get? b=some o) (hD:∃n,h₁.get? s.heap.objs.size=some { cls:=.type "list",data:=.seq #[] n }) :
  Inv (Av X sc N' cl (s.heap.objs.size+1) s H fp) [] (CI js σ) (Ar H s.heap.objs.size (.lst [])) { s with heap:=h₁,toks:=tk }:=by
 have fr:∀a,s.heap.objs.size<=a->H a=none:=λa ha=>I.hok.fresh ha
 have cellLt:∀x c,cl.lookup x=some c->c<s.heap.objs.size:=λx c e=>by
  obtain⟨v,q⟩:=I.cell x c (hcl x c e)
  exact q.lt
 have ok:(Av X sc N' cl (s.heap.objs.size+1) s H fp).Ok:=by
  refine⟨I.ok.mod,O.kind,I.ok.glob,I.ok.blt,aG _,λx y c h1 h2=>I.ok.inj x y c (hcl x c h1) (hcl y c h2),λx hx=>?_,λx c hx=>?_,λ_=>I.ok.hd hc,I.ok.frames,.inl rfl,λb hb=>⟨?_,λx c e=>?_⟩,I.bs,Zv I.ok.bsz I.sz,λb o e hb=>?_,λb hb hb2=>?_,I.stack,I.stkFree⟩
  ·exact hcl2 x (MV (env:=X.env) O.cell hx)
  ·exact absurd (show false=true from hx) Tk
  ·obtain⟨o,e⟩:=ho b hb
   exact Zs (bt (Sc e))
  ·exact(hf b hb).2.2.2.2.1 x c (hcl x c e)
  ·rcases (hf b hb).2.2.2.1 with z | z
   ·exact I.ok.noex b o e z
   ·have h1:b<X.base.objs.size:=Sc e
    exact absurd (Zr h1 (Zv I.ok.bsz z)) (aU _)
  ·rcases UF.mp (I.stkSub b hb2) with z | z
   ·exact(hf b hb).2.1 z
   ·exact(hf b hb).2.2.1 z
 refine⟨ok,rfl,I.bare,?_,⟨_,hns,λi x v h1 h2 h3=>?_⟩,λx c e=>?_,?_,λx c e=>?_,λp hp=>absurd (show p∈([]:List (Addr×Obj)) from hp) (by simp),?_,?_⟩
 ·exact Un.laid hk (Go _) (fr _ (Go _))
 ·obtain⟨j,e1,e2⟩:=O9 h2
  obtain⟨c1,c2,c3⟩:=Ke O.cap h1 e1
  obtain⟨m,_,hl⟩:=I.loc
  obtain⟨u,r,l⟩:=hl j x v c2 e2 (.inr c3)
  refine⟨u,r,.inr ⟨CW c1,?_⟩⟩
  rcases l with ⟨l1,_⟩ | ⟨_,c,l2,l3⟩
  ·have l1':X.env.scope.names.lookup x=some .local:=l1
   rcases c3 with c3 | c3 <;> (rw [l1'] at c3; cases c3)
  ·obtain⟨c',e'⟩:=hcl2 x (PySem.mem_of_lookup c1)
   have:c'=c:=T0 ((hcl x c' e').symm.trans l2)
   subst this
   obtain⟨oc,hoc,hocd⟩:=id l3
   exact⟨c',e',oc,hk _ _ hoc,hocd⟩
 ·obtain⟨v,oc,hoc,hocd⟩:=I.cell x c (hcl x c e)
  exact⟨v,oc,hk _ _ hoc,hocd⟩
 ·show Ar H s.heap.objs.size (.lst []) (s.heap.objs.size+1)=none
  rw [AM (Nat.succ_ne_self _)]
  exact fr _ (aG _)
 ·show Ar H s.heap.objs.size (.lst []) c=none
  rw [AM (Zs (cellLt x c e))]
  exact I.freeC x c (hcl x c e)
 ·refine I.hok.laid hk (Go _) ?_
  obtain⟨n,e⟩:=hD
  exact⟨Zt _,[],n,.nil,e⟩
 ·unfold CI
  show (js.map _).length=N'.length
  rw [Cn]
  exact EN O.cap
theorem Un.but{fs ex:List Addr}{H H1:Hp}{h h1 h':Heap}{C:Addr}(u:Un fs ex H H1 h h1)(hC:h.get? C=none)(hs:∀b,b≠C->h'.get? b=h1.get? b):Un fs ex H H1 h h':=by
 have ne:∀{b:Addr} {o:Obj},h.get? b=some o->b≠C:=λ{b o} e z=>by rw [z,hC] at e; cases e
 refine⟨λb o e n h1 h2=>(hs b (ne e)).trans (u.keep b o e n h1 h2),λb o e n h1 h2=>?_,u.free,λb o e h1=>?_,u.tups,u.frzs,u.tbls⟩
 ·obtain⟨sl,q⟩:=u.slot b o e n h1 h2
  exact⟨sl,(hs b (ne e)).trans q⟩
 ·obtain⟨o',q⟩:=u.there b o e h1
  exact⟨o',(hs b (ne e)).trans q⟩
theorem Hv{sc:Scope}{N':List Str}{cl:List (Str×Addr)}{C:Addr}{fp:List Addr}{pins':List (Addr×Obj)}{σ':St}{H':Hp}{s':Shared}{h':Heap}(I:Inv X pins σ H s)(hf:∀b∈fp,FR X pins H b)(hC:s.heap.objs.size<=C)
  (J:Inv (Av X sc N' cl C s H fp) pins' σ' H' s') (hs:∀b,b≠C->h'.get? b=s'.heap.get? b):Inv X pins σ H' { s' with heap:=h' }:=by
 have nC:s.heap.get? C=none:=by
  cases e:s.heap.get? C with
  | none=>rfl
  | some o=>exact absurd (Sc e) (Nat.not_lt.mpr hC)
 have hC':H' C=none:=J.free
 refine I.call' (s':={ s' with heap:=h' }) (ch:=fp) J.os (Un.but J.base nC hs) (λa o e=>?_) J.bare λb hb=>?_
 ·exact(J.hok a o e).stay (λb u hb q=>(hs b (λz=>by
   rw [z] at hb
   rcases hb with z2 | z2
   ·rw [← z2,hC'] at e; cases e
   ·rw [hC'] at z2; cases z2)).trans q) (λ_ q=>q) λ_ _ q=>q
 ·obtain⟨f0,f1,f2,f3,f4,f5⟩:=hf b hb
  exact⟨f3,f1,f4,f5⟩
end
noncomputable def YE(X:Cx)(ifs:List Expr)(t:TT):Prop :=
 ∀(pins:List (Addr×Obj)) (s:Shared) (σ:St) (H:Hp) (Q:Bool->Hp->Prop),Inv X pins σ H s->t σ H Q ->
  wpAny (model X.prog X.w) X.A (forIn ifs true λc r=>if r=true then do let ok ← isTrue c X.env (eval c X.env); pure (bp ok) else pure (bp r)) (TP X pins σ Q) X.xe s
noncomputable def Yi:TT:=λ_ H Q=>Q true H
theorem Su{X:Cx}:YE X [] Yi:=λpins s σ H Q I h=>wpAny_tests_nil ⟨H,I,h⟩
theorem Ss{X:Cx}{c:Expr}{t:TT}(h:PT X c t):YE X [c] t:=λpins s σ H Q I q=>wpAny_tests_one (h pins s σ H Q I q)
noncomputable def P_(X:Cx)(sc:Scope)(N':List Str)(js:List (Option Nat))(tg elt:Expr)(ifs:List Expr)(wi:TI):TE:=λσ H Q=>wi σ H λJ H1=>∀l,H1 l=none->X.K.lookup l=none->∀cl C s H0 fp,∃(g:TG) (tt:TT) (te:TE) (W:Nat->Nat->St->Hp->Prop),
 PG (Av X sc N' cl C s H0 fp) tg g/\YE (Av X sc N' cl C s H0 fp) ifs tt/\PE (Av X sc N' cl C s H0 fp) elt te/\(∃m,W 0 m (CI js σ) (Ar H1 l (.lst [])))/\∀i m σ' H',W i m σ' H' ->
 (J.stop i H'/\Q (.ref l) H')\/(J.go i H'/\∀x H2,J.yld i H' x H2->g x σ' H2 λσ3 H3=>tt σ3 H3 λb H4=>if b=true then te σ3 H4 λy H5=>∃ys,H5 l=some (.lst ys)/\ys.length<sizeLine/\∃m',m'<m/\W (i+1) m' σ3 (Ar H5 l (.lst (ys++[y]))) else ∃m',m'<m/\W (i+1) m' σ3 H4)
section
variable {X:Cx}{tg elt iter:Expr}{ifs:List Expr}{sc:Scope}{pos:Pos}{N':List Str}{js:List (Option Nat)}{wi:TI}{g:TG}{tt:TT}{te:TE}
theorem JU{pins:List (Addr×Obj)}{σ:St}{H:Hp}{s:Shared}{cl:List (Str×Addr)}{C l it:Addr}{fp:List Addr}{tn:Nat->Heap->Prop}{J:It}{s3:Shared}{Q:VK}{R:Result->Shared->Prop}{W:Nat->Nat->St->Hp->Prop}{m0:Nat}{σ0:St}{H0:Hp}
  (I:Inv X pins σ H s) (hf:∀b∈fp,FR X pins H b) (hlt:∀b∈fp,b<s.heap.objs.size) (hC:s.heap.objs.size<=C)
  (T:Turn X.prog X.w X.K tg J fp it tn)
  (hg:PG (Av X sc N' cl C s H fp) tg g) (ht:YE (Av X sc N' cl C s H fp) ifs tt) (he:PE (Av X sc N' cl C s H fp) elt te)
  (hW:∀i m σ' H',W i m σ' H' ->
   (J.stop i H'/\Q (.ref l) H')\/(J.go i H'/\∀x H2,J.yld i H' x H2->g x σ' H2 λσ3 H3=>tt σ3 H3 λb H4=>if b=true then te σ3 H4 λy H5=>∃ys,H5 l=some (.lst ys)/\ys.length<sizeLine/\∃m',m'<m/\W (i+1) m' σ3 (Ar H5 l (.lst (ys++[y]))) else ∃m',m'<m/\W (i+1) m' σ3 H4))
  (hR:∀σ' H' s',Inv (Av X sc N' cl C s H fp) [] σ' H' s'->Q (.ref l) H'->R (.ok .next) s')
  (I3:Inv (Av X sc N' cl C s H fp) [] σ0 H0 s3) (t3:tn 0 s3.heap) (f3:∀b∈fp,H0 b=none) (w0:W 0 m0 σ0 H0) :
  codeAny (model X.prog X.w) X.A (.compLoop (.ListComp elt [⟨tg,iter,ifs,0⟩] sc pos) 0 (.ref it) (.ref l) (compEnvC sc cl C X.env)) R s3:=by
 have stat:∀{H':Hp},(∀b∈fp,H' b=none)->∀b∈fp,FR (Av X sc N' cl C s H fp) [] H' b:=λhn b hb=>by
  have q:=I3.ok.exf b hb
  refine⟨hn b hb,q.1,I3.ok.exfs b hb,.inl hb,q.2,λp hp=>absurd (show p∈([]:List (Addr×Obj)) from hp) (by simp)⟩
 refine Kc (λn s'=>∃i σ' H',Inv (Av X sc N' cl C s H fp) [] σ' H' s'/\tn i s'.heap/\(∀b∈fp,H' b=none)/\W i n σ' H') ?_ m0 ⟨0,σ0,H0,I3,t3,f3,w0⟩
 rintro n s4 ⟨i,σ4,H4,I4,st4,fr4,w4⟩
 rcases hW i n σ4 H4 w4 with ⟨stop,qn⟩ | ⟨go,step⟩
 ·refine BB (T.done (Av X sc N' cl C s H fp) rfl rfl rfl rfl i [] s4 σ4 H4 (λ_ _=>False) I4 (stat fr4) st4 stop) λr s5 ⟨hr,I5⟩=>?_
  subst hr
  exact hR σ4 H4 s5 I5 qn
 ·refine BB (T.item (Av X sc N' cl C s H fp) rfl rfl rfl rfl i [] s4 σ4 H4 (λ_ _=>False) I4 (stat fr4) st4 go) λr s5 ⟨u,hr,h5⟩=>?_
  subst hr
  refine BB h5 λ_ s6 ⟨x,H6,I6,r6,y6,st6,fr6⟩=>?_
  have I6':=I6.pinned (stat fr6) (T.obj _ _ st6)
  refine BB (hg _ s6 σ4 H6 x u _ I6' r6 (step x H6 y6)) λ_ s7 ⟨σ7,H7,I7,q7⟩=>?_
  have again:∀{σ9:St} {H9:Hp} {s9:Shared} {m':Nat},Inv (Av X sc N' cl C s H fp) ([]++Hd fp s6.heap) σ9 H9 s9->m'<n->W (i+1) m' σ9 H9->∃m,m<n/\∃i σ' H',Inv (Av X sc N' cl C s H fp) [] σ' H' s9/\tn i s9.heap/\(∀b∈fp,H' b=none)/\W i m σ' H':=λ{σ9 H9 s9 m'} I9 hm w9=>by
   refine⟨m',hm,i+1,σ9,H9,I9.unpinned,T.keep _ _ _ st6 λb hb o e=>(I9.pin (b,o) (Zz _ (Zz _ (DZ hb e)))).1,λb hb=>?_,w9⟩
   obtain⟨o,e,d⟩:=T.obj _ _ st6 b hb
   exact(I9.pin (b,o) (Zz _ (Zz _ (DZ hb e)))).2.1
  refine BB (ht _ s7 σ7 H7 _ I7 q7) λok s8 ⟨H8,I8,q8⟩=>?_
  cases ok with
  | false =>
   have q8':∃m',m'<n/\W (i+1) m' σ7 H8:=q8
   obtain⟨m',hm,w8⟩:=q8'
   show ∃m,m<n/\_
   exact again I8 hm w8
  | true =>
   refine BB (he _ s8 σ7 H8 _ I8 q8) λy s9 ⟨yv,H9,I9,ry,q9⟩=>?_
   obtain⟨ys,hl,hz,m',hm,w9⟩:=q9
   refine BB (CH (X:=Av X sc N' cl C s H fp) _ s9 σ7 H9 (.ref l) [yv] (.ref l) [y] (λv H'=>v=.non/\H'=Ar H9 l (.lst (ys++[yv]))) I9 rfl (.cons ry .nil) ⟨l,ys,yv,rfl,rfl,hl,hz,rfl,rfl⟩) λ_ sa ⟨v,Ha,Ia,_,_,eH⟩=>?_
   subst eH
   exact again Ia hm w9
theorem S3(hc:X.calm=true)(N':List Str)(js:List (Option Nat))(hi:PI X tg iter wi)
  (hB:Gg sc X.env.scope X.N N' js=true)
  (hs:autoParam (∀x,foldedSetIterable iter X.env x=pure x) zau2._auto_1) :
  PE X (.ListComp elt [⟨tg,iter,ifs,0⟩] sc pos) (P_ X sc N' js tg elt ifs wi):=by
 intro pins s σ H Q I h
 have O:CompOk X sc N' js:=CompOk.of hB
 obtain⟨cl,hclos,hcl,hcl2⟩:=IH (scope:=sc) (env:=X.env) λx hx=>I.ok.has x (O.free x hx)
 rw [eval_ListComp]
 refine wpAny_comprehension_free (use:=none) rfl hs hclos O.kind O.names (BB (hi pins s σ H _ I h) λv s1 h1=>BB h1 λitv s2 h2=>?_)
 obtain⟨it,fp,tn,J,H2,e,I2,T,st2,f2,hq⟩:=h2
 subst e
 have kfree:X.K.lookup s2.heap.objs.size=none:=by
  cases q:X.K.lookup s2.heap.objs.size with
  | none=>rfl
  | some o=>exact absurd (Sc (I2.kIn _ _ q)) (aU _)
 obtain⟨g,tt,te,W,hg,ht,he,⟨m0,w0⟩,hW⟩:=hq s2.heap.objs.size (I2.hok.fresh (Go _)) kfree cl (s2.heap.objs.size+1) s2 H2 fp
 refine Z3 (wpAny_newFunctionEnv O.cell (by intro y hy; simp at hy) (λh₁ hns₁ hsb₁=>?_) O.kind)
 dsimp only at hns₁ hsb₁ ⊢
 generalize hH2:s2.heap.push { cls:=.type "list",dict:=none,data:=.seq ([]:List Value).toArray }=Hh at hns₁ hsb₁ ⊢
 have hCe:Hh.objs.size=s2.heap.objs.size+1:=by rw [← hH2,cS]
 have hlt:∀b∈fp,b<s2.heap.objs.size:=λb hb=>by
  obtain⟨o,e,_⟩:=T.obj _ _ st2 b hb
  exact Sc e
 have old:∀b o,s2.heap.get? b=some o->h₁.get? b=some o:=λb o e=>hsb₁.extBut b o (by rw [hCe]; exact Zs (bt (Sc e))) (Ev _ (hH2▸Ev _ e))
 have hD:∃n,h₁.get? s2.heap.objs.size=some { cls:=.type "list",data:=.seq #[] n }:=⟨_,hsb₁.extBut _ _ (by rw [hCe]; exact Zs (Nat.lt_succ_self _)) (Ev _ (hH2▸XV _ rfl))⟩
 have I3:∀tk,Inv (Av X sc N' cl (s2.heap.objs.size+1) s2 H2 fp) [] (CI js σ) (Ar H2 s2.heap.objs.size (.lst [])) { s2 with heap:=h₁,toks:=tk }:=λtk =>
  Li I2 hc O hcl hcl2 f2 (λb hb=>let ⟨o,e,_⟩:=T.obj _ _ st2 b hb; ⟨o,e⟩) (by rw [← hCe]; exact hns₁) old hD
 have st3:tn 0 h₁:=T.keep _ _ _ st2 λb hb o e=>old b o e
 have fr3:∀b∈fp,Ar H2 s2.heap.objs.size (.lst []) b=none:=λb hb=>by
  rw [AM (Zs (hlt b hb))]
  exact(f2 b hb).1
 have loop:∀tk,codeAny (model X.prog X.w) X.A (.compLoop (.ListComp elt [⟨tg,iter,ifs,0⟩] sc pos) 0 (.ref it) (.ref s2.heap.objs.size) (compEnvC sc cl (s2.heap.objs.size+1) X.env))
   (compPost (model X.prog X.w) X.A X.xe none (EP X pins σ Q) (.ref s2.heap.objs.size) (s2.heap.objs.size+1)) { s2 with heap:=h₁,toks:=tk }:=λtk=>by
  refine JU (W:=W) (m0:=m0) (Q:=Q) I2 f2 hlt (aG _) T hg ht he hW (λσ' H' s' J' q'=>?_) (I3 tk) st3 fr3 w0
  obtain⟨m,hn,_⟩:=J'.loc
  exact⟨m,hn,λh' hs'=>⟨.ref _,H',Hv I2 f2 (aG _) J' λb hb=>hs'.2 b hb,rfl,q'⟩⟩
 rw [show (newEnv sc Hh.objs.size X.env.globals cl X.env.qual none .none (some X.env) builtinsNs).locals=s2.heap.objs.size+1 from hCe]
 show codeAny (model X.prog X.w) X.A (.compStart (.ListComp elt [⟨tg,iter,ifs,0⟩] sc pos) 0 (.ref it) (.ref s2.heap.objs.size) (compEnvC sc cl (s2.heap.objs.size+1) X.env)) _ _
 exact codeAny_compStart_list (loop _) (T.self _ 0 _ _ _ st3 (loop _))
end
end L2
namespace L2
open PySem
structure Fly (B:Heap) (l:List Env) (a C:Addr) (dx:Option Addr) (h:Heap):Prop where
 stays:B.StaysIn h
 new:B.get? a=none
 frames:h.FunFrames B l
 obj:∃vs sl tb,h.get? a=some ⟨.ref C,dx,.fields vs,sl⟩/\vs[2]?=some .none/\vs[1]?=some tb/\(tb=.none\/∃T oT ts,tb=.ref T/\B.get? T=none/\T≠a/\h.get? T=some oT/\oT.data=.fields ts/\3<ts.size)
section
variable {M:Model}{A:Around}{E:Value->Shared->Prop}{s:Shared}{B:Heap}{env:Env}{outer l:List Env}{L a C:Addr}{dx:Option Addr}{Q:Unit->Shared->Prop}
theorem size_of{vs:Array Value}{i:Nat}{x:Value}(h:vs[i]?=some x):i<vs.size:=(Array.getElem?_eq_some_iff.mp h).1
theorem JP{vs:Array Value}{sl:Array (Option Value)}{head tb:Value}{nx:Bool}(hfr:A.frames=some (env::outer))(hf:env.frame=some L)(hl:s.heap.FunFrames B (env::outer))(hs:B.StaysIn s.heap)(hn:B.get? a=none)
  (he:s.heap.get? a=some ⟨.ref C,dx,.fields vs,sl⟩) (h1:vs[1]?=some tb) (h2:vs[2]?=some .none)
  (h:∀h',Fly B (env::outer) a C dx h'->s.heap.UpToSlots h'->Q () { s with heap:=h' }) :
  wpAny M A (do let f ← frameOf env; let pl ← entryPlaceOf L nx; let b ← eW head f .none (rawInt L) .none pl; setField (.ref a) 1 b) Q E s:=by
 have z1:=size_of h1
 have z2:=size_of h2
 have na:a∉(env::outer).filterMap (·.frame):=λq=>by
  obtain⟨_,o,ho,hnf⟩:=hl.mem q
  rw [he] at ho
  cases ho
  exact hnf vs rfl
 refine Ch (wpAny_frameOf_fun hfr hl hf λk hk=>?_)
 refine Ch (wpAny_entryPlaceOf λpl hpl=>?_)
 unfold eW newFields
 refine Ch (Z3 ?_ (hpl.sizeOk5 _ _ _ _ _))
 have ka:k.get? a=some ⟨.ref C,dx,.fields vs,sl⟩:=(hk.2.1 a na).trans he
 have kB:B.StaysIn k:=λb o q=>(hk.2.1 b λz=>by rw [(hl.mem z).1] at q; cases q).trans (hs b o q)
 generalize hob:({ cls:=.type "traceback",dict:=none,data:=.fields ([head,.ref L,.none,rawInt L,.none]++(if pl.isEmpty then Re 6 Zx else pl)).toArray }:Obj)=ob
 have pa:(k.push ob).get? a=some ⟨.ref C,dx,.fields vs,sl⟩:=Ev _ ka
 refine bX pa rfl z1 ?_
 have ne:k.objs.size≠a:=cH (Sc ka)
 have ga:=af (au (·.setIfInBounds 1 (TM k.objs.size))) pa rfl
 have gT:((k.push ob).update a (au (·.setIfInBounds 1 (TM k.objs.size)))).get? k.objs.size=some ob:=by
  rw [aN _ _ (bL ne)]
  exact XV k (by subst hob; rfl)
 have kp:∀b o,b≠a->k.get? b=some o->((k.push ob).update a (au (·.setIfInBounds 1 (TM k.objs.size)))).get? b=some o:=λb o nb q=>by
  rw [aN _ _ (bL nb)]
  exact Ev _ q
 have nf:∀b o,s.heap.get? b=some o->(∀vs,o.data≠.fields vs)->b≠a:=λb o q hnf z=>by
  rw [z,he] at q
  cases q
  exact hnf vs rfl
 refine h _ ⟨λb o q=>kp b o (λz=>by rw [z,hn] at q; cases q) (kB b o q),hn,hl.of_keeps λb o q hnf=>?_,_,_,_,ga,?_,?_,.inr ⟨k.objs.size,ob,_,rfl,kB.fresh,ne,gT,by subst hob; rfl,?_⟩⟩ λb o q hnf=>?_
 ·obtain⟨sl',e⟩:=hk.2.2 b o q
  exact⟨_,kp b _ (nf b o q hnf) e,rfl⟩
 ·rw [Array.getElem?_setIfInBounds_ne (by decide)]; exact h2
 ·simp [z1]
 ·simp only [Rs,FM,No,Zq]; omega
 ·obtain⟨sl',e⟩:=hk.2.2 b o q
  exact⟨sl',kp b _ (nf b o q hnf) e⟩
theorem Fly.mark{T:Addr}{oT:Obj}{ts vs:Array Value}{x:Value}{sl:Array (Option Value)}(F:Fly B l a C dx s.heap)(he:s.heap.get? a=some ⟨.ref C,dx,.fields vs,sl⟩)(h1:vs[1]?=some (.ref T))(h2:vs[2]?=some .none)(nT:B.get? T=none)(ne:T≠a)(hT:s.heap.get? T=some oT)
  (hd:oT.data=.fields ts) (hz:3<ts.size):Fly B l a C dx (s.heap.update T (au (·.setIfInBounds 3 x)))/\s.heap.UpToSlots (s.heap.update T (au (·.setIfInBounds 3 x)))/\(s.heap.update T (au (·.setIfInBounds 3 x))).get? a=some ⟨.ref C,dx,.fields vs,sl⟩:=by
 have ot:∀b,b≠T->(s.heap.update T (au (·.setIfInBounds 3 x))).get? b=s.heap.get? b:=λb nb=>aN _ _ (bL nb)
 have nf:∀b o,s.heap.get? b=some o->(∀vs,o.data≠.fields vs)->b≠T:=λb o q hnf z=>by
  rw [z,hT] at q
  cases q
  exact hnf ts hd
 have ga:=(ot a (bL ne)).trans he
 refine⟨⟨λb o q=>(ot b λz=>by rw [z,nT] at q; cases q).trans (F.stays b o q),F.new,F.frames.of_keeps λb o q hnf=>⟨o,(ot b (nf b o q hnf)).trans q,rfl⟩,vs,sl,_,ga,h2,h1,.inr ⟨T,_,_,rfl,nT,ne,af _ hT (cq (bK hd _)),bK hd _,by simpa using hz⟩⟩,λb o q hnf=>⟨o.slots,(ot b (nf b o q hnf)).trans q⟩,ga⟩
theorem FH(F:Fly B l a C dx s.heap)(h:∀h',Fly B l a C dx h'->s.heap.UpToSlots h'->Q () { s with heap:=h' }):wpAny M A (setFlight (.ref a) none) Q E s:=by
 obtain⟨vs,sl,tb,he,h2,h1,hT⟩:=F.obj
 unfold setFlight
 refine Ch (al he rfl h1 ?_)
 rcases hT with rfl | ⟨T,oT,ts,rfl,nT,ne,gT,hd,hz⟩
 ·rw [if_neg (by decide)]
  exact Db (h _ F (eX _))
 ·rw [if_pos (show (TM T != Zx)=true by simp)]
  obtain⟨f1,f2,_⟩:=F.mark (x:=(none:Option Addr).elim Zx λf=>rawInt f) he h1 h2 nT ne gT hd hz
  exact bX gT hd hz (h _ f1 f2)
theorem Ll(hfr:A.frames=some (env::outer))(hf:env.frame=some L)(F:Fly B (env::outer) a C dx s.heap)
  (h:∀h',Fly B (env::outer) a C dx h'->s.heap.UpToSlots h'->Q () { s with heap:=h' }):wpAny M A (noteFrame (.ref a) env) Q E s:=by
 obtain⟨vs,sl,tb,he,h2,h1,hT⟩:=F.obj
 unfold noteFrame
 simp only [hf]
 refine Ch (al he rfl h1 ?_)
 rcases hT with rfl | ⟨T,oT,ts,rfl,nT,ne,gT,hd,hz⟩
 ·rw [if_neg (by decide)]
  exact JP hfr hf F.frames F.stays F.new he h1 h2 h
 ·rw [if_pos (show (TM T != Zx)=true by simp)]
  obtain⟨x,hx⟩:∃x,ts[3]?=some x:=⟨_,cG hz⟩
  refine Ch (al gT hd hx ?_)
  by_cases e:(x==rawInt L)=true
  ·rw [if_pos e]
   exact Db (h _ F (eX _))
  ·rw [if_neg e]
   obtain⟨f1,f2,f3⟩:=F.mark (x:=Zx) he h1 h2 nT ne gT hd hz
   refine Ch (bX gT hd hz ?_)
   exact JP hfr hf f1.frames f1.stays f1.new f3 h1 h2 λh' g1 g2=>h h' g1 (f2.trans g2)
theorem PQ(hfr:A.frames=some (env::outer))(hf:env.frame=some L)(F:Fly B (env::outer) a C dx s.heap)
  (h:∀h',Fly B (env::outer) a C dx h'->s.heap.UpToSlots h'->Q () { s with heap:=h' }):wpAny M A (leaving env (.ref a)) Q E s:=by
 unfold leaving
 exact Ch (Ll hfr hf F λh' f1 u1=>FH (s:={ s with heap:=h' }) f1 λh2 f2 u2=>h h2 f2 (u1.trans u2))
theorem Fly.tail(F:Fly B (env::outer) a C dx s.heap):Fly B outer a C dx s.heap:=⟨F.stays,F.new,F.frames.2.2,F.obj⟩
end
section
variable {prog:Program}{w:World}{A:Around}{E:Value->Shared->Prop}{R:Result->Shared->Prop}{h:Heap}{g:Array GenState}{d:Drawn}{t:Nat}{os:OsState}
variable {nm q:Str}{C N f:Addr}{bs bm bmB:List Value}{hdct:Bool}{sn:List Str}{sub:List Value}{ab:Bool}{col:Option Bool}{dd:Option Addr}{k0 k1 k2 k3 k5:Option Value}{B newId initId:String}{of:Obj}
noncomputable def Ba(C t:Addr):Obj:={ cls:=.ref C,data:=.fields #[.ref t,.none,.none,.none,.bool false,.none] }
noncomputable def YL(x:Addr)(R:Result->Shared->Prop)(r:Result)(s':Shared):Prop:=match r with
 | .ok (.ret v)=>v=.none/\R (.ok (.ret (.ref x))) s'
 | .ok _=>False
 | .error e=>R (.error e) s'
theorem Hb{s:Shared}{env:Env}{x:Sem Value}{Q:Flow->Shared->Prop}{M:Model}(hbase:bm.contains (.type "BaseException")=true)(hh:A.handled=none)
  (hx:wpAny M A x (λv s₁=>∃e dx vs sl,v=.ref e/\s₁.heap.get? C=some (excClassObj nm q C N bs bm hdct sn sub ab col dd k0 k1 k2 k3 k5 newId) /\
   s₁.heap.get? e=some ⟨.ref C,dx,.fields vs,sl⟩/\vs[1]?=some .none/\E (.ref e) s₁) E s) :
  wpAny M A (raiseStmt env (some x) none) Q E s:=by
 have hcB:(TM C::bm).contains (.type "BaseException")=true:=by rw [cL,hbase,Bool.or_true]
 unfold raiseStmt
 refine Ch (Z6 hx (λv s₁ h₁=>?_) λ_ _ x=>x)
 obtain⟨e,dx,vs,sl,rfl,hC,he,h1,hE⟩:=h₁
 obtain⟨hp,g,d,tk,os⟩:=s₁
 repeat (first | with_reducible refine Z4 he ?_ | with_reducible refine Z4 hC ?_ | (with_reducible refine aK hC ?_; rw [hcB]) | wp_step)
 rw [h1]
 refine Db ?_
 rw [if_neg (by decide)]
 exact Db (wpAny_raiseNew_none hh hE)
theorem PR{M:Model}{e D N':Addr}{oe:Obj}{nm' q':Str}{bs' bmD:List Value}{hdct':Bool}{sn':List Str}{sub':List Value}{ab':Bool}{col':Option Bool}{dd':Option Addr}{l0 l1 l2 l3 l5:Option Value}{newId':String}{Q:Bool->Shared->Prop}
  (hC:h.get? C=some (excClassObj nm q C N bs bm hdct sn sub ab col dd k0 k1 k2 k3 k5 newId)) (hD:h.get? D=some (excClassObj nm' q' D N' bs' bmD hdct' sn' sub' ab' col' dd' l0 l1 l2 l3 l5 newId')) (hbase:bmD.contains (.type "BaseException")=true)
  (he:h.get? e=some oe) (hcls:oe.cls=.ref C) (hq:Q ((TM C::bm).contains (.ref D)) ⟨h,g,d,t,os⟩):wpAny M A (excMatches (.ref e) (.ref D)) Q E ⟨h,g,d,t,os⟩:=by
 have hcB:(TM D::bmD).contains (.type "BaseException")=true:=by rw [cL,hbase,Bool.or_true]
 have f:=tc_notTuple
 generalize hb:(TM C::bm).contains (.ref D)=b at hq
 unfold excMatches
 repeat (first | (with_reducible refine Z4 he ?_; rw [hcls]) | with_reducible refine Z4 hD ?_ | (with_reducible refine aK hD ?_; rw [hcB]) | wp_step)
 refine aK hC ?_
 rw [hb]
 cases b <;> (wp_walk; exact hq)
end
noncomputable def CK:List Value:=[.type "ValueError",.type "Exception",.type "BaseException",.type "object"]
structure XC (K:Frag) (nm:Str) (C U:Addr):Prop where
 obj:∃q N bs sn sub ab col dd k0 k1 k2 k3 k5,K.lookup C=some (excClassObj nm q C N bs (.ref U::CK) true sn sub ab col dd k0 k1 k2 k3 k5 "ValueError.__new__")
 up:∃q N bs sn sub ab col dd k0 k1 k2 k3 k5 hd,K.lookup U=some (excClassObj "ThinError" q U N bs CK hd sn sub ab col dd k0 k1 k2 k3 k5 "ValueError.__new__")
 kp:keepIn K (.ref C)=true
 ga:PySem.W.findIn K (.ref C) "__getattribute__"=some (some (.builtin "BaseException.__getattribute__"))
 gt:PySem.W.findIn K (.ref C) "__getattr__"=some none
 sa:PySem.W.findIn K (.ref C) "__setattr__"=some (some (.builtin "object.__setattr__"))
 at_:nsIn K mainGlobals nm=some (some (.ref C))
 atU:nsIn K mainGlobals "ThinError"=some (some (.ref U))
 ca:PySem.W.findIn K (.ref C) "__class__"=some (some (.builtin "object.__class__"))
 nw:PySem.W.findIn K (.ref C) "word"=some none
 nn:PySem.W.findIn K (.ref C) "number"=some none
 nr:PySem.W.findIn K (.ref C) "row"=some none
section
variable {prog:Program}{w:World}{A:Around}{E:Value->Shared->Prop}{s:Shared}{K:Frag}{nm name:Str}{x C U:Addr}{v:Value}{R:Result->Shared->Prop}
theorem XC.cls(c:XC K nm C U):∃cd,PySem.W.clsIn K C=some cd/\cd.mro=.ref C::.ref U::CK/\cd.hasDict=true/\cd.name=nm:=by
 obtain⟨q,N,bs,sn,sub,ab,col,dd,k0,k1,k2,k3,k5,e⟩:=c.obj
 refine⟨_,by unfold PySem.W.clsIn; rw [e],rfl,rfl,rfl⟩
theorem Ng{ox:Obj}{od:Option Obj}{tk:Tok}(X:K.In s.heap)(c:XC K nm C U)(I:PySem.W.InstAt s.heap x ox C od)(ht:PySem.W.findIn K (.ref C) name=some none)
  (h:∀b,wpAny (model prog w) A.in1 (Builtin.ObjectAttr.storeInOwnDict (.ref x) (.ref C) (.str name tk) name v b)
   (λfin s'=>match fin with | .done f=>R (.ok f) s' | .again c'=>c'.quiet=true/\codeAny (model prog w) A c' R s') (λe s'=>R (.error e) s') s) :
  codeAny (model prog w) A (.call (.builtin "object.__setattr__") ⟨[.ref x,.str name tk,v],[]⟩) R s:=by
 have SF:=PySem.F.store_ValueError
 obtain⟨cd,hc,hm,_⟩:=c.cls
 have sub:PySem.W.Looks (model prog w) s.heap (isInstance (.ref x) (.type "object")) true:=I.type.andThen (PySem.W.looks_mroIn X (by unfold PySem.W.mroIn; rw [hc,ci,hm]; rfl))
 refine c0 SF.slot.plain SF.entry (@PySem.W.check_slot (model prog w) _ _ s "object.__setattr__" "object" "__setattr__" (.ref x) [.str name tk,v] [] _ SF.kind SF.split sub (SF.args (.ref x) (.str name tk) v) ?_)
 have hm':PySem.W.Looks (model prog w) s.heap (mroOf (.ref C)) cd.mro:=(PySem.W.looks_clsIn X hc).andThen .now
 rw [PySem.W.osa_eq,refuse_eq]
 refine Ch (Ch (I.type.here (Ch (hm'.here ?_))))
 rw [hm,refuseLoop_ref,refuseLoop_ref,show refuseLoop (.ref x) "__setattr__" CK=pure () from SF.passes _]
 exact Db (Ch (I.type.here (Ch ((PySem.W.looks_findIn X ht).here (Ch (Db (h _)))))))
theorem QI{vs:Array Value}{sl:Array (Option Value)}{Q:Unit->Shared->Prop}(X:K.In s.heap)(c:XC K nm C U)(hx:s.heap.get? x=some ⟨.ref C,none,.fields vs,sl⟩)(ht:PySem.W.findIn K (.ref C) name=some none)
  (h:∀h' t',h'.get? x=some ⟨.ref C,some s.heap.objs.size,.fields vs,sl⟩->h'.Ns1 s.heap.objs.size (λy=>if y=name then some v else none)->(∀b o,b≠x->s.heap.get? b=some o->h'.get? b=some o)->Q () { s with heap:=h',toks:=t' }) :
  wpAny (model prog w) A (setAttr (.ref x) name v) Q E s:=by
 obtain⟨cd,hc,hm,hd,_⟩:=c.cls
 have J:PySem.W.InstAt s.heap x ⟨.ref C,none,.fields vs,sl⟩ C none:=⟨hx,rfl,rfl,trivial⟩
 refine PySem.W.set_plain X J c.sa (Ng (s:={ s with toks:=s.toks+1 }) X c J ht λb=>?_)
 refine Ch (Db (Ch (Ch (wpAny_loadPart hx (Ch (PySem.W.Looks.here (s:={ s with toks:=s.toks+1 }) (PySem.W.looks_clsIn X hc) ?_))))))
 rw [hd]
 have hx1:(s.heap.push { cls:=.type "dict",data:=.dict #[] }).get? x=some ⟨.ref C,none,.fields vs,sl⟩:=Ev _ hx
 have nx:x≠s.heap.objs.size:=Zs (Sc hx)
 show wpAny _ _ (alloc _ >>= _) _ _ _
 refine Ch (wpAny_alloc (Ch (wpAny_update hx1 (Db ?_))))
 generalize hhd:((s.heap.push { cls:=.type "dict",data:=.dict #[] }).update x λo=>{ cls:=o.cls,dict:=some s.heap.objs.size,data:=o.data,slots:=o.slots })=hh
 have gd:hh.get? s.heap.objs.size=some { cls:=.type "dict",data:=.dict #[] }:=by
  rw [← hhd,Heap.get?_update_ne _ _ _ _ nx.symm]
  exact XV _ rfl
 have gx:hh.get? x=some ⟨.ref C,some s.heap.objs.size,.fields vs,sl⟩:=by
  rw [← hhd]
  exact af _ hx1 rfl
 have kb:∀b o,b≠x->s.heap.get? b=some o->hh.get? b=some o:=λb o nb e=>by
  rw [← hhd,Heap.get?_update_ne _ _ _ _ nb]
  exact Ev _ e
 have nd:hh.Ns s.heap.objs.size (λ_=>none):=⟨_,#[],_,gd,rfl,λe he=>absurd he (by simp),λ_=>rfl⟩
 show wpAny _ _ (c6 s.heap.objs.size _ name v) _ _ _
 unfold c6 Builtin.ObjectAttr.newKeyGuard
 refine Ch (Db (Ch (wpAny_nsSet1 (Heap.Ns1.of_empty nd) λh' hn hs=>?_)))
 obtain⟨oD,esD,epD,hoD,hdD,hcD⟩:=hn.count (PySem.Within.cons name v PySem.Within.nil)
 refine Ch (wpAny_lookBehind hoD (by rw [hdD]; exact pastItsLine_dict (Zv hcD (by rw [No,Zq,Z2]; omega))) ?_)
 refine Db (h h' _ ((hs.2 x nx).trans gx) hn λb o nb e=>(hs.2 b (Zs (Sc e))).trans (kb b o nb e))
theorem QH{vs:Array Value}{sl:Array (Option Value)}{d:Addr}{mA:Str->Option Value}{ns:List Str}{Q:Unit->Shared->Prop}(X:K.In s.heap)(c:XC K nm C U)(hx:s.heap.get? x=some ⟨.ref C,some d,.fields vs,sl⟩)(nd:s.heap.Ns1 d mA)(hw:PySem.Within mA ns)(hsz:ns.length<=sizeLine)(ht:PySem.W.findIn K (.ref C) name=some none)
  (h:∀h' t',h'.Ns1 d (λy=>if y=name then some v else mA y)->bH d s.heap h'->Q () { s with heap:=h',toks:=t' }) :
  wpAny (model prog w) A (setAttr (.ref x) name v) Q E s:=by
 obtain⟨cd,hc,hm,hd,_⟩:=c.cls
 obtain⟨o,_,_,ho,_⟩:=id nd
 have J:PySem.W.InstAt s.heap x ⟨.ref C,some d,.fields vs,sl⟩ C (some o):=⟨hx,rfl,rfl,ho⟩
 refine PySem.W.set_plain X J c.sa (Ng (s:={ s with toks:=s.toks+1 }) X c J ht λb=>?_)
 refine Ch (Db (Ch (Ch (wpAny_loadPart hx (Ch (PySem.W.Looks.here (s:={ s with toks:=s.toks+1 }) (PySem.W.looks_clsIn X hc) ?_))))))
 rw [hd]
 refine Db (a:=some d) (Ch (Db (Ch ?_)))
 refine wpAny_nsSet1 (s:={ s with toks:=s.toks+1 }) nd λh' hn hs=>?_
 obtain⟨oD,esD,epD,hoD,hdD,hcD⟩:=hn.count (PySem.Within.cons name v hw)
 refine Ch (wpAny_lookBehind hoD (by rw [hdD]; exact pastItsLine_dict (Zv hcD (by rw [No]; omega))) ?_)
 exact Db (h _ _ hn hs)
end
section
variable {M:Model}{prog:Program}{w:World}{A:Around}{E:Value->Shared->Prop}{R:Result->Shared->Prop}{h:Heap}{g:Array GenState}{d:Drawn}{t:Nat}{os:OsState}
variable {K:Frag}{nm q:Str}{C U N f:Addr}{bs:List Value}{sn:List Str}{sub:List Value}{ab:Bool}{col:Option Bool}{dd:Option Addr}{k0 k1 k2 k3 k5:Option Value}{rest:List Value}
theorem OB{Q:Unit->Shared->Prop}(hC:h.get? C=some (excClassObj nm q C N bs (.ref U::CK) true sn sub ab col dd k0 k1 k2 k3 k5 "ValueError.__new__"))
  (hq:Q () ⟨h,g,d,t,os⟩):wpAny M A (checkBuiltinCall "ValueError.__new__" ⟨.ref C::rest,[]⟩) Q E ⟨h,g,d,t,os⟩:=by
 have F:=PySem.F.excBase_ValueError
 have hcont:(TM C::.ref U::CK).contains (.type "ValueError")=true:=by simp [CK]
 have hstar:=F.noStar
 simp only [checkBuiltinCall,F.newKind,F.newSplit,F.newRow]
 repeat (first | refine Z4 hC ?_ | (refine aK hC ?_; rw [hcont]) | refine wpAny_staticBase_exc hC ?_ | refine d6 hC ?_ | simp only [bne_self_eq_false,Z5,if_false] | wp_step)
 exact hq
theorem N1(hC:h.get? C=some (excClassObj nm q C N bs (.ref U::CK) true sn sub ab col dd k0 k1 k2 k3 k5 "ValueError.__new__"))
  (hq:R (.ok (.ret (.ref (h.objs.size+1)))) ⟨(h.push { cls:=.type "tuple",data:=.seq rest.toArray }).push (Ba C h.objs.size),g,d,t,os⟩) (hrest:rest.length<=sizeLine) :
  codeAny (model prog w) A (.builtin "ValueError.__new__" ⟨.ref C::rest,[]⟩) R ⟨h,g,d,t,os⟩:=by
 have F:=PySem.F.excBase_ValueError
 have hends:=F.ends
 have hcB:(TM C::.ref U::CK).contains (.type "ValueError")=true:=by simp [CK]
 have hcA:(TM C::.ref U::CK).contains (.type "AttributeError")=false:=by simp [CK]
 have hcN:(TM C::.ref U::CK).contains (.type "NameError")=false:=by simp [CK]
 refine codeAny_builtinAt F.entry ?_
 unfold Builtin.«BaseException.__new__»
 refine wpAt_bind ?_
 show wpAt _ _ _ (stack >>= _) _ _ _
 refine wpAt_bind (wpAt_stack λp below=>wpAt_of_wpAny ?_)
 wp_walk
 refine wpAt_of_wpAny ?_
 rw [F.owner]
 repeat (first | with_reducible refine wpAny_madeHere_exc F.canon hC ?_ | with_reducible refine Z4 hC ?_ | (with_reducible refine aK hC ?_; first | rw [hcB] | rw [hcA] | rw [hcN]) | wp_step)
 show R _ _
 rw [cS]
 exact hq
theorem R0{e:Addr}{oe:Obj}{Q:Unit->Shared->Prop}(hC:h.get? C=some (excClassObj nm q C N bs (.ref U::CK) true sn sub ab col dd k0 k1 k2 k3 k5 "ValueError.__new__"))(he:h.get? e=some oe)(hcls:oe.cls=.ref C)(hq:Q () ⟨h,g,d,t,os⟩) :
  wpAny M A (checkBuiltinCall "ValueError.__init__" ⟨.ref e::rest,[]⟩) Q E ⟨h,g,d,t,os⟩:=by
 have F:=PySem.F.excBase_ValueError
 have hcB:(TM C::.ref U::CK).contains (.type "ValueError")=true:=by simp [CK]
 have hshort:=F.noStar
 simp only [checkBuiltinCall,F.initKind,F.initSplit,F.initRow]
 repeat (first | (with_reducible refine Z4 he ?_; rw [hcls]) | with_reducible refine Z4 hC ?_ | (with_reducible refine aK hC ?_; rw [hcB]) | wp_step)
 refine wpAny_onRaise ?_
 rw [show ∀(a b:String) (n:Nat),Bind.check ⟨.positional,"*","ValueError",.self,[⟨"args",.varPos,false⟩]⟩ a b n (List.map (λx=>x.fst) ({ pos:=TM e::rest }:Args).kw)=pure () from
  λa b n=>check_star_args _ _ _ _ _ _]
 exact Db hq
theorem RY(X:K.In h)(c:XC K nm C U)(hi:PySem.W.findIn K (.ref C) "__init__"=some (some (.ref f)))(hf:PySem.W.typeIn K (.ref f)=some (.type "function"))(hrest:rest.length<=sizeLine)
  (hq:codeAny (model prog w) (A.under (.builtin "type.__call__" ⟨.ref C::rest,[]⟩)) (.call (.ref f) ⟨.ref (h.objs.size+1)::rest,[]⟩) (YL (h.objs.size+1) R) ⟨(h.push { cls:=.type "tuple",data:=.seq rest.toArray }).push (Ba C h.objs.size),g,d,t,os⟩) :
  codeAny (model prog w) A (.call (.ref C) ⟨rest,[]⟩) R ⟨h,g,d,t,os⟩:=by
 have F:=PySem.F.excBase_ValueError
 obtain⟨q,N,bs,sn,sub,ab,col,dd,k0,k1,k2,k3,k5,eC⟩:=c.obj
 have hC:=X _ _ eC
 have f1:=tc_lookup
 have f2:=tc_bind (.ref C)
 have hT:(⟨h,g,d,t,os⟩:Shared).TypeIs (.ref C) "type":=⟨_,hC,rfl⟩
 refine codeAny_of_tree ?_
 show wpAny _ _ (callAny (.ref C) _) _ _ _
 repeat (any_goals (first | assumption | with_reducible refine Z4 hC ?_ | wp_step))
 refine⟨rfl,?_⟩
 refine codeAny_call_builtin_at (cM _ (by decide +kernel)) entry_typeCall (wpAny_check_type_call_sub hC ?_)
 repeat (first | with_reducible refine Z4 hC ?_ | with_reducible refine d6 hC ?_ | wp_step)
 refine codeAny_call_builtin_code (cM _ F.quiet) (OB hC ?_)
 refine N1 hC ?_ hrest
 show wpAny _ _ _ _ _ _
 have kk:∀b o,h.get? b=some o->((h.push { cls:=.type "tuple",data:=.seq rest.toArray }).push (Ba C h.objs.size)).get? b=some o:=λb o e=>Ev _ (Ev _ e)
 have hC₁:=kk _ _ hC
 have hget:((h.push { cls:=.type "tuple",data:=.seq rest.toArray }).push (Ba C h.objs.size)).get? (h.objs.size+1)=some (Ba C h.objs.size):=by unfold Ba; heap_get
 have hcC:(TM C::TM U::CK).contains (.ref C)=true:=by simp
 unfold isInstance
 unfold Ba at *
 repeat (first | with_reducible refine Z4 hget ?_ | (with_reducible refine aK hC₁ ?_; rw [hcC]) | wp_step)
 show wpAny _ _ (isSubtype (.ref C) (.ref C)) _ _ _
 refine aK hC₁ ?_
 rw [hcC,if_neg (by decide)]
 refine Ch (aD ?_)
 unfold callSpecial? specialOf
 repeat (first | with_reducible refine Z4 hget ?_ | wp_step)
 show wpAny _ _ (typeLookup (.ref C) _) _ _ _
 refine(PySem.W.looks_findIn (X.keeps kk) hi).here ?_
 refine aD (Ch ((PySem.W.bind_fn (X.keeps kk) _ hf).here ?_))
 refine Ch (b7 (cK hq λr s' z=>?_))
 rcases r with e | (v | _ | _ | _) <;> first | exact z | exact z.elim | skip
 obtain⟨rfl,z⟩:=z
 exact Db (Db z)
theorem PU(X:K.In h)(c:XC K nm C U)(hi:PySem.W.findIn K (.ref C) "__init__"=some (some (.builtin "ValueError.__init__")))(hrest:rest.length<=sizeLine)
  (hq:∀h',(∀b o,h.get? b=some o->h'.get? b=some o)->h'.get? (h.objs.size+1)=some (Ba C (h.objs.size+2))->R (.ok (.ret (.ref (h.objs.size+1)))) ⟨h',g,d,t,os⟩) :
  codeAny (model prog w) A (.call (.ref C) ⟨rest,[]⟩) R ⟨h,g,d,t,os⟩:=by
 have F:=PySem.F.excBase_ValueError
 obtain⟨q,N,bs,sn,sub,ab,col,dd,k0,k1,k2,k3,k5,eC⟩:=c.obj
 have hC:=X _ _ eC
 have f1:=tc_lookup
 have f2:=tc_bind (.ref C)
 have hT:(⟨h,g,d,t,os⟩:Shared).TypeIs (.ref C) "type":=⟨_,hC,rfl⟩
 refine codeAny_of_tree ?_
 show wpAny _ _ (callAny (.ref C) _) _ _ _
 repeat (any_goals (first | assumption | with_reducible refine Z4 hC ?_ | wp_step))
 refine⟨rfl,?_⟩
 refine codeAny_call_builtin_at (cM _ (by decide +kernel)) entry_typeCall (wpAny_check_type_call_sub hC ?_)
 repeat (first | with_reducible refine Z4 hC ?_ | with_reducible refine d6 hC ?_ | wp_step)
 refine codeAny_call_builtin_code (cM _ F.quiet) (OB hC ?_)
 refine N1 hC ?_ hrest
 show wpAny _ _ _ _ _ _
 have kk:∀b o,h.get? b=some o->((h.push { cls:=.type "tuple",data:=.seq rest.toArray }).push (Ba C h.objs.size)).get? b=some o:=λb o e=>Ev _ (Ev _ e)
 have hC₁:=kk _ _ hC
 have hget:((h.push { cls:=.type "tuple",data:=.seq rest.toArray }).push (Ba C h.objs.size)).get? (h.objs.size+1)=some (Ba C h.objs.size):=by unfold Ba; heap_get
 have hcC:(TM C::TM U::CK).contains (.ref C)=true:=by simp
 unfold isInstance
 unfold Ba at *
 repeat (first | with_reducible refine Z4 hget ?_ | (with_reducible refine aK hC₁ ?_; rw [hcC]) | wp_step)
 show wpAny _ _ (isSubtype (.ref C) (.ref C)) _ _ _
 refine aK hC₁ ?_
 rw [hcC,if_neg (by decide)]
 refine Ch (aD ?_)
 unfold callSpecial? specialOf
 repeat (first | with_reducible refine Z4 hget ?_ | wp_step)
 show wpAny _ _ (typeLookup (.ref C) _) _ _ _
 refine(PySem.W.looks_findIn (X.keeps kk) hi).here ?_
 refine aD (Ch (wpAny_of_eq (F.init.bind _) ?_))
 refine Ch (b7 (c0 F.init.plain F.initEntry (R0 hC₁ hget rfl ?_)))
 wp_walk
 refine hq _ (λb o e=>?_) ?_
 ·rw [aN _ _ (cH (bt (Sc e)))]
  exact Ev _ (kk b o e)
 ·refine(af (au (·.setIfInBounds 0 (TM _))) (Ev _ hget) rfl).trans ?_
  simp only [cS]
  rfl
end
section
variable {prog:Program}{w:World}{A:Around}{E:Value->Shared->Prop}{s:Shared}
end
end L2
namespace L2
open PySem PySem.Spec PyProof.Rows
structure CXD (P:Program) (w:World) (outer:List Env) (H:Hp) (s:Shared) (a C:Addr) (dx:Option Addr) (B:Heap) (H':Hp) (s':Shared):Prop where
 os:s'.os=s.os
 bare:AllBare s'.gens
 un:Un (KP outer) [] H H' s.heap s'.heap
 hok:HOk P w H' B
 all:∀b o o',s.heap.get? b=some o->b∉KP outer->s'.heap.get? b=some o'->B.get? b=some o'
 fly:Fly B outer a C dx s'.heap
 new:s.heap.objs.size<=a
 free:H' a=none
noncomputable def OS(P:Program)(w:World):Ps:=λouter H s E e s'=>∃a C dx B H',e=.ref a/\CXD P w outer H s a C dx B H' s'/\E (.ref C) dx H'
section
variable {P:Program}{w:World}{outer:List Env}{H H':Hp}{s s':Shared}{a C:Addr}{dx:Option Addr}{B h':Heap}
theorem CXD.step(x:CXD P w outer H s a C dx B H' s')(F:Fly B outer a C dx h')(u:s'.heap.UpToSlots h'):CXD P w outer H s a C dx B H' { s' with heap:=h' }:=by
 have fr:∀b∈KP outer,∃o,s'.heap.get? b=some o/\∀vs,o.data≠.fields vs:=λb hb=>(x.fly.frames.mem hb).2
 refine⟨x.os,x.bare,⟨λb o e n hb hx=>F.stays _ _ (x.all b o o e hb (x.un.keep b o e n hb hx)),λb o e n hb hx=>?_,x.un.free,λb o e hx=>?_,x.un.tups,x.un.frzs,x.un.tbls⟩,x.hok,λb o o' e hb q=>?_,F,x.new,x.free⟩
 ·obtain⟨sl,q⟩:=x.un.slot b o e n hb hx
  obtain⟨o',q',nf⟩:=fr b hb
  rw [q] at q'
  cases q'
  obtain⟨sl',q2⟩:=u b _ q nf
  exact⟨sl',q2⟩
 ·obtain⟨o1,q⟩:=x.un.there b o e hx
  by_cases hb:b∈KP outer
  ·obtain⟨o',q',nf⟩:=fr b hb
   obtain⟨sl',q2⟩:=u b _ q' nf
   exact⟨_,q2⟩
  ·exact⟨o1,F.stays _ _ (x.all b o o1 e hb q)⟩
 ·obtain⟨o1,q1⟩:=x.un.there b o e (by simp)
  have z:=x.all b o o1 e hb q1
  rw [F.stays _ _ z] at q
  cases q
  exact z
end
section
variable {X:Cx}{pins:List (Addr×Obj)}{σ:St}{H H':Hp}{s s':Shared}{a C:Addr}{dx:Option Addr}{B h':Heap}
theorem CXD.inv(x:CXD X.prog X.w X.stack H s a C dx B H' s')(I:Inv X pins σ H s):Inv X pins σ H' s' :=
 I.call' x.os x.un (x.hok.kept x.fly.stays) x.bare λb z=>absurd z (by simp)
theorem CXD.leave(x:CXD X.prog X.w X.stack H s a C dx B H' s')(I:Inv X pins σ H s)(hst:X.stack=X.env::X.outer)(hex:X.ex=[]):CXD X.prog X.w X.outer X.H₀ X.s₀ a C dx B H' s':=by
 have J:=x.inv I
 have fl:=x.fly
 rw [hst] at fl
 refine⟨J.os,J.bare,by have z:=J.base; rw [hex] at z; exact z,x.hok,λb o o' e hb q=>?_,fl.tail,Zv I.sz x.new,x.free⟩
 obtain⟨o1,e1⟩:=I.base.there b o e (by rw [hex]; simp)
 refine x.all b o1 o' e1 (λz=>?_) q
 rcases UF.mp (I.stkSub b z) with z | z
 ·exact absurd (Sc e) (by rw [z]; exact Nat.not_lt.mpr I.ok.above)
 ·exact hb z
theorem Qr{P:Program}{w:World}{K:Frag}{mg:Str->Option Value}{base:Heap}{N:List Str}{qual:Str}{scope:Scope}{f:Addr}{cd:Value}{A:Around}{outer:List Env}{s₀:Shared}{H₀:Hp}{E:XK} :
  FP (OS P w) (Fq (OS P w) P w K mg base N qual scope f cd A outer s₀ H₀ E) E:=by
 intro pins σ H s e s' I ⟨a,C,dx,B,H',he,x,q⟩
 subst he
 have hf:(envOfC qual scope s₀.heap.objs.size f cd).frame=some s₀.heap.objs.size:=rfl
 refine PQ I.ok.frames hf x.fly λh' f' u=>?_
 exact⟨a,C,dx,B,H',rfl,(x.step f' u).leave I rfl rfl,q⟩
theorem S5{P:Program}{w:World}{K:Frag}{mg:Str->Option Value}{base:Heap}{N:List Str}{qual:Str}{scope:Scope}{f:Addr}{cd:Value}{A:Around}{outer:List Env}{s₀:Shared}{H₀:Hp}{E:XK} :
  PassesOwn (model P w) (Fq (OS P w) P w K mg base N qual scope f cd A outer s₀ H₀ E).A (Fq (OS P w) P w K mg base N qual scope f cd A outer s₀ H₀ E).env (Fq (OS P w) P w K mg base N qual scope f cd A outer s₀ H₀ E).xe:=by
 show PassesOwn (model P w) _ _ λe s'=>wpAny _ _ (leaving _ e) _ _ s'
 passes_own
end
noncomputable def XO(a C:Addr)(dx:Option Addr)(h:Heap):Prop:=∃vs sl,h.get? a=some ⟨.ref C,dx,.fields vs,sl⟩/\vs[2]?=some .none/\vs[1]?=some .none
noncomputable def XF(d:Addr)(fs:List (Str×V))(h:Heap):Prop:=∃mA,h.Ns1 d mA/\(∀f,RelO (fs.lookup f) (mA f))/\PySem.Within mA (fs.map (·.1))/\fs.length<=1000
theorem XO.ok{P:Program}{w:World}{H:Hp}{a C:Addr}{dx:Option Addr}{h:Heap}(x:XO a C dx h):ObjOk P w H h a (.ext (XO a C dx)):=by
 refine⟨x,?_,λh1 h2 ⟨vs,sl,e,r⟩ k=>⟨vs,sl,k _ e,r⟩⟩
 obtain⟨vs,sl,e,_⟩:=x
 exact⟨_,e⟩
theorem XF.ok{P:Program}{w:World}{H:Hp}{d:Addr}{fs:List (Str×V)}{h:Heap}(x:XF d fs h):ObjOk P w H h d (.ext (XF d fs)):=by
 refine⟨x,?_,λh1 h2 ⟨mA,e,r⟩ k=>⟨mA,e.at k,r⟩⟩
 obtain⟨mA,⟨o,_,_,e,_⟩,_⟩:=x
 exact⟨_,e⟩
section
variable {X:Cx}{pins:List (Addr×Obj)}{σ:St}{H:Hp}{s:Shared}{a C U:Addr}{nm f:Str}{A:Around}{E:Value->Shared->Prop}
theorem QG{y:V}{u:Value}{Q:Unit->Shared->Prop}(I:Inv X pins σ H s)(e:H a=some (.ext (XO a C none)))(c:XC X.K nm C U)(n:FQ X.K C f)(ry:RelV y u)
  (h:∀d s',H d=none->d≠a->Inv X pins σ (Ar (Ar H d (.ext (XF d [(f,y)]))) a (.ext (XO a C (some d)))) s'->Q () s'):wpAny (model X.prog X.w) A (setAttr (.ref a) f u) Q E s:=by
 obtain⟨⟨vs,sl,hx,h2,h1⟩,_⟩:=(show ObjOk X.prog X.w H s.heap a _ from I.hok a _ e)
 refine QI I.kIn c hx n λh' t' gx gd kb=>?_
 have nd:H s.heap.objs.size=none:=I.hok.fresh (Go _)
 have ne:s.heap.objs.size≠a:=cH (Sc hx)
 have lt:∀{b:Addr} {o:Obj},s.heap.get? b=some o->b≠s.heap.objs.size:=λ{b o} q=>Zs (Sc q)
 have na:∀{b:Addr},H b=none->b≠a:=λ{b} q z=>by rw [z,e] at q; cases q
 have of:∀{b:Addr} {u:HO},H b=some u->(∀φ,u≠.ext φ)->Ar (Ar H s.heap.objs.size (.ext (XF s.heap.objs.size [(f,y)]))) a (.ext (XO a C (some s.heap.objs.size))) b=some u:=λ{b u} q hu=>by
  rw [AM (λz=>by rw [z,e] at q; exact hu _ (T0 q).symm),AM (λz=>by rw [z,nd] at q; cases q)]; exact q
 refine h s.heap.objs.size _ nd ne (I.un (h':=h') (t':=t') ⟨λb o q n _ _=>kb b o (na n) q,λb o q n _ _=>⟨o.slots,kb b o (na n) q⟩,λb o q n _=>?_,λb o q _=>?_,λb xs q=>of q (by intro φ z; cases z),λb o xs q=>of q (by intro φ z; cases z),λb ps q=>⟨#[],by rw [of q (by intro φ z; cases z)]; simp⟩⟩ ?_)
 ·rw [AM (na n),AM (lt q)]; exact n
 ·by_cases z:b=a
  ·rw [z]; exact⟨_,gx⟩
  ·exact⟨o,kb b o z q⟩
 ·intro b o q
  by_cases z:b=a
  ·subst z
   rw [AN] at q
   cases q
   exact XO.ok ⟨vs,sl,gx,h2,h1⟩
  ·rw [AM z] at q
   by_cases z2:b=s.heap.objs.size
   ·subst z2
    rw [AN] at q
    cases q
    refine XF.ok ⟨_,gd,λg=>?_,λg hg=>?_,by simp⟩
    ·by_cases hgf:g=f
     ·rw [if_pos hgf]
      have hb:(g==f)=true:=beq_iff_eq.mpr hgf
      simp only [aX,hb]
      exact ry
     ·rw [if_neg hgf]
      have hb:(g==f)=false:=beq_eq_false_iff_ne.mpr hgf
      simp only [aX,hb]
      trivial
    ·by_cases hgf:g=f
     ·simp [hgf]
     ·exact absurd (if_neg hgf) hg
   ·rw [AM z2] at q
    refine(I.hok b o q).stay (λc2 v hc r=>kb c2 v ?_ r) (λc2 r=>of r (by intro φ z; cases z)) λc2 xs r=>of r (by intro φ z; cases z)
    rcases hc with rfl | hc
    ·exact z
    ·intro zz; rw [zz,e] at hc; cases hc
theorem QF{d:Addr}{fs:List (Str×V)}{y:V}{u:Value}{Q:Unit->Shared->Prop}(I:Inv X pins σ H s)(e:H a=some (.ext (XO a C (some d))))(ed:H d=some (.ext (XF d fs)))(c:XC X.K nm C U)(n:FQ X.K C f)(ry:RelV y u)(hl:fs.length<1000)
  (h:∀s',Inv X pins σ (Ar H d (.ext (XF d (DC f y fs)))) s'->Q () s'):wpAny (model X.prog X.w) A (setAttr (.ref a) f u) Q E s:=by
 obtain⟨⟨vs,sl,hx,h2,h1⟩,_⟩:=(show ObjOk X.prog X.w H s.heap a _ from I.hok a _ e)
 obtain⟨⟨mA,nd,r,wi,_⟩,_⟩:=(show ObjOk X.prog X.w H s.heap d _ from I.hok d _ ed)
 refine QH I.kIn c hx nd wi (by rw [Cn,Z2]; omega) n λh' t' gd sb=>h _ ?_
 have hd:∃o,h'.get? d=some o:=let ⟨o,_,_,e',_⟩:=gd; ⟨o,e'⟩
 refine I.write (x:=d) (e:=d) (by rw [ed]; exact a9) (.inl rfl) (λb q hb z=>(sb.2 b hb).trans z) hd (XF.ok ⟨_,gd,λg=>?_,λg hg=>?_,?_⟩)
 ·show RelO ((DC f y fs).lookup g) (if g=f then some u else mA g)
  rw [GX]
  by_cases q:g=f
  ·rw [if_pos q,if_pos q]; exact ry
  ·rw [if_neg q,if_neg q]; exact r g
 ·by_cases q:g=f
  ·rw [q]; exact(GI f y fs).1
  ·refine(GI f y fs).2 g (wi g λz=>hg ?_)
   show (if g=f then some u else mA g)=none
   rw [if_neg q]; exact z
 ·have:=Ga f y fs; omega
end
noncomputable def ZZ(C:Addr)(ta tv:TE)(f:Str):TS:=λD σ H=>tv σ H λy H1=>ta σ H1 λx H2=>∃a,x=.ref a/\H2 a=some (.ext (XO a C none))/\∀d,H2 d=none->d≠a->D.nx σ (Ar (Ar H2 d (.ext (XF d [(f,y)]))) a (.ext (XO a C (some d))))
noncomputable def ZY(C:Addr)(ta tv:TE)(f:Str):TS:=λD σ H=>tv σ H λy H1=>ta σ H1 λx H2=>∃a d fs,x=.ref a/\H2 a=some (.ext (XO a C (some d)))/\H2 d=some (.ext (XF d fs))/\fs.length<1000/\D.nx σ (Ar H2 d (.ext (XF d (DC f y fs))))
section
variable {X:Cx}{o value:Expr}{nm f:Str}{C U:Addr}{pos pos':Pos}{ta tv:TE}
theorem Ui(c:XC X.K nm C U)(n:FQ X.K C f)(ha:PE X o ta)(hv:PE X value tv)(hs:swapsWith value (some (.Attribute o f pos')) pos.line X.env=pure false):PS X (.Assign [.Attribute o f pos'] value pos) (ZZ C ta tv f):=by
 intro pins s σ H D I h
 refine cv (BB (hv pins s σ H _ I h) λu s1 ⟨y,H1,I1,ry,q⟩=>BB (ha pins s1 σ H1 _ I1 q) λov s2 ⟨x,H2,I2,rx,a,ex,ea,q2⟩=>?_) hs
 subst ex
 obtain rfl:ov=TM a:=rx
 exact QG I2 ea c n ry λd s3 hd hne I3=>⟨σ,_,I3,q2 d hd hne⟩
theorem Uh(c:XC X.K nm C U)(n:FQ X.K C f)(ha:PE X o ta)(hv:PE X value tv)(hs:swapsWith value (some (.Attribute o f pos')) pos.line X.env=pure false):PS X (.Assign [.Attribute o f pos'] value pos) (ZY C ta tv f):=by
 intro pins s σ H D I h
 refine cv (BB (hv pins s σ H _ I h) λu s1 ⟨y,H1,I1,ry,q⟩=>BB (ha pins s1 σ H1 _ I1 q) λov s2 ⟨x,H2,I2,rx,a,d,fs,ex,ea,ed,l,q2⟩=>?_) hs
 subst ex
 obtain rfl:ov=TM a:=rx
 exact QF I2 ea ed c n ry l λs3 I3=>⟨σ,_,I3,q2⟩
end
noncomputable def del(H:Hp)(a:Addr):Hp:=λb=>if b=a then none else H b
theorem ID{H:Hp}{a b:Addr}(h:b≠a):del H a b=H b:=if_neg h
theorem EK{H:Hp}{a:Addr}:del H a a=none:=if_pos rfl
section
variable {X:Cx}{pins:List (Addr×Obj)}{σ:St}{H H1:Hp}{s s1:Shared}{a C U:Addr}{dx:Option Addr}{nm:Str}
theorem X0(I:Inv X pins σ H s)(os:s1.os=s.os)(bare:AllBare s1.gens)(u:Un (KP X.stack) [] H H1 s.heap s1.heap)(hok:HOk X.prog X.w H1 s1.heap)(ea:H1 a=some (.ext (XO a C dx)))(new:s.heap.objs.size<=a) :
  CXD X.prog X.w X.stack H s a C dx (PySem.W.hideAll s1.heap (a::KP X.stack)) (del H1 a) s1:=by
 have J:Inv X pins σ H1 s1:=I.call' os u hok bare λb z=>absurd z (by simp)
 have na:∀{b:Addr} {u:HO},H1 b=some u->(∀φ,u≠.ext φ)->b≠a:=λ{b u} q hu z=>by rw [z,ea] at q; exact hu _ (T0 q).symm
 have of:∀{b:Addr} {u:HO},H1 b=some u->(∀φ,u≠.ext φ)->del H1 a b=some u:=λq hu=>(ID (na q hu)).trans q
 have nf:∀{b:Addr} {u:HO},H1 b=some u->b∉KP X.stack:=λ{b u} q z=>by rw [J.stkFree b z] at q; cases q
 obtain⟨⟨vs,sl,hx,h2,h1⟩,_⟩:=(show ObjOk X.prog X.w H1 s1.heap a _ from hok a _ ea)
 refine⟨os,bare,⟨u.keep,u.slot,λb o q n hx=>?_,u.there,λb xs q=>of (u.tups b xs q) (by intro φ z; cases z),λb o xs q=>of (u.frzs b o xs q) (by intro φ z; cases z),λb ps q=>?_⟩,λb o q=>?_,λb o o' q hb q'=>?_,⟨λb o q=>PySem.W.of_hideAll _ q,PySem.W.hideAll_none _ (by simp),PySem.W.funFrames_hide J.stack λenv he b hb=>?_,vs,sl,.none,hx,h2,h1,.inl rfl⟩,new,EK⟩
 ·by_cases z:b=a
  ·rw [z]; exact EK
  ·rw [ID z]; exact u.free b o q n hx
 ·obtain⟨m,e⟩:=u.tbls b ps q
  exact⟨m,of e (by intro φ z; cases z)⟩
 ·have nb:b≠a:=λz=>by rw [z,EK] at q; cases q
  rw [ID nb] at q
  refine(hok b o q).stay (λc v hc r=>PySem.W.hideAll_get _ r λz=>?_) (λc r=>of r (by intro φ z; cases z)) λc xs r=>of r (by intro φ z; cases z)
  rcases UF.mp z with z | z
  ·rcases hc with hc | hc
   ·exact nb (hc.symm.trans z)
   ·rw [z,ea] at hc; cases hc
  ·rcases hc with hc | hc
   ·exact nf q (hc▸z)
   ·exact nf hc z
 ·refine PySem.W.hideAll_get _ q' λz=>?_
  rcases UF.mp z with z | z
  ·exact absurd (Sc q) (by rw [z]; exact Nat.not_lt.mpr new)
  ·exact hb z
 ·exact Is _ (dL.mpr ⟨env,he,hb⟩)
end
noncomputable def XS(X:Cx)(pins:List (Addr×Obj))(σ:St)(R:XK)(e:Value)(s':Shared):Prop:=∃H s,Inv X pins σ H s/\OS X.prog X.w X.stack H s R e s'
noncomputable def Made(X:Cx)(pins:List (Addr×Obj))(σ:St)(C:Addr)(R:XK)(v:Value)(s1:Shared):Prop:=∃a dx H s H1,v=.ref a/\Inv X pins σ H s/\s1.os=s.os/\AllBare s1.gens/\Un (KP X.stack) [] H H1 s.heap s1.heap/\HOk X.prog X.w H1 s1.heap/\H1 a=some (.ext (XO a C dx))/\s.heap.objs.size<=a/\R (.ref C) dx (del H1 a)
section
variable {X:Cx}{pins:List (Addr×Obj)}{σ:St}{H:Hp}{s:Shared}{C U:Addr}{nm:Str}{R:XK}
theorem Iw{e:Expr}{pos:Pos}{Q:Flow->Shared->Prop}{E':Value->Shared->Prop}(c:XC X.K nm C U)(hh:X.A.handled=none)(h:wpAny (model X.prog X.w) X.A (eval e X.env) (Made X pins σ C R) E' s)(hE:∀e s',XS X pins σ R e s'->E' e s') :
  wpAny (model X.prog X.w) X.A (exec (.Raise (some e) none pos) X.env) Q E' s:=by
 obtain⟨q,N,bs,sn,sub,ab,col,dd,k0,k1,k2,k3,k5,eC⟩:=c.obj
 have h':wpAny (model X.prog X.w) X.A (eval e X.env) (λv s₁=>∃e dx vs sl,v=.ref e/\s₁.heap.get? C=some (excClassObj nm q C N bs (.ref U::CK) true sn sub ab col dd k0 k1 k2 k3 k5 "ValueError.__new__") /\
   s₁.heap.get? e=some ⟨.ref C,dx,.fields vs,sl⟩/\vs[1]?=some .none/\E' (.ref e) s₁) E' s:=by
  refine BB h λv s1 ⟨a,dx,H0,s0,H1,ev,I,os,bare,u,hok,ea,new,r⟩=>?_
  obtain⟨⟨vs,sl,hx,h2,h1⟩,_⟩:=(show ObjOk X.prog X.w H1 s1.heap a _ from hok a _ ea)
  have J:Inv X pins σ H1 s1:=I.call' os u hok bare λb z=>absurd z (by simp)
  exact⟨a,dx,vs,sl,ev,J.kIn _ _ eC,hx,h1,hE _ _ ⟨H0,s0,I,a,C,dx,_,_,rfl,X0 I os bare u hok ea new,r⟩⟩
 rw [arm_exec_Raise]
 first
  | exact Ch (be (Hb rfl hh (Ch (Z6 h' (λv s₁ h₁=>Ch (be (Db h₁))) λ_ _ x=>x))))
  | (simp only [evalOpt,Option.map]; exact Ch (be (Hb rfl hh (Ch (Z6 h' (λv s₁ h₁=>Ch (be (Db h₁))) λ_ _ x=>x)))))
end
noncomputable def F7(C:Addr)(k1 k2:Str):Sp:=λvs H Q _=>∃a v1 v2,vs=[.ref a,v1,v2]/\H a=some (.ext (XO a C none)) /\
 ∀d,H d=none->d≠a->Q .non (Ar (Ar (Ar H d (.ext (XF d [(k1,v1)]))) a (.ext (XO a C (some d)))) d (.ext (XF d [(k1,v1),(k2,v2)])))
section
variable {X:Cx}{pins:List (Addr×Obj)}{σ:St}{H:Hp}{s:Shared}{C U f:Addr}{nm k1 k2 p0 p1 p2:Str}{R:XK}{E:Value->Shared->Prop}{k:Nat}{fd:FuncData}{us:List Value}{v1 v2:V}{vs:List V}
theorem TQ(c:XC X.K nm C U)(hi:PySem.W.findIn X.K (.ref C) "__init__"=some (some (.ref f)))(hf:PySem.W.typeIn X.K (.ref f)=some (.type "function"))(F:A5 X.prog X.w X.K X.mg X.base Cb k f fd [p0,p1,p2] (F7 C k1 k2))(hb:Binds X.K fd [p0,p1,p2] [])
  (hr:Room (k+1) X.A) (I:Inv X pins σ H s) (r:Vals [v1,v2] us) (h:∀d,H d=none->R (.ref C) (some d) (Ar H d (.ext (XF d [(k1,v1),(k2,v2)])))):wpAny (model X.prog X.w) X.A (call (.ref C) us) (Made X pins σ C R) E s:=by
 obtain⟨hh,g,dr,t,os⟩:=s
 have hl:us.length=2:=r.length.symm
 have ge:((hh.push { cls:=.type "tuple",data:=.seq us.toArray }).push (Ba C hh.objs.size)).get? (hh.objs.size+1)=some (Ba C hh.objs.size):=by unfold Ba; heap_get
 have kk:∀b o,hh.get? b=some o->((hh.push { cls:=.type "tuple",data:=.seq us.toArray }).push (Ba C hh.objs.size)).get? b=some o:=λb o e=>Ev _ (Ev _ e)
 have fa:H (hh.objs.size+1)=none:=I.hok.fresh (aG _)
 have I2:Inv X pins σ (Ar H (hh.objs.size+1) (.ext (XO (hh.objs.size+1) C none))) ⟨(hh.push { cls:=.type "tuple",data:=.seq us.toArray }).push (Ba C hh.objs.size),g,dr,t,os⟩:=I.laid (t':=t) kk (aG _) (XO.ok ⟨_,_,ge,rfl,rfl⟩)
 have hsp:F7 C k1 k2 [.ref (hh.objs.size+1),v1,v2] (Ar H (hh.objs.size+1) (.ext (XO (hh.objs.size+1) C none))) (λv H3=>v=.non/\∃d,H d=none/\d≠hh.objs.size+1 /\
   H3=Ar (Ar (Ar (Ar H (hh.objs.size+1) (.ext (XO (hh.objs.size+1) C none))) d (.ext (XF d [(k1,v1)]))) (hh.objs.size+1) (.ext (XO (hh.objs.size+1) C (some d)))) d (.ext (XF d [(k1,v1),(k2,v2)]))) E0 :=
  ⟨_,v1,v2,rfl,AN,λd hd hne=>⟨rfl,d,by rw [AM hne] at hd; exact hd,hne,rfl⟩⟩
 have r2:Vals [V.ref (hh.objs.size+1),v1,v2] (TM (hh.objs.size+1)::(us++[])):=by rw [aR]; exact .cons rfl r
 refine b7 (RY (K:=X.K) (U:=U) (nm:=nm) I.kIn c hi hf (by rw [hl]; decide) (cK (F.run _ X.stack _ _ ⟨TM (hh.objs.size+1)::us,[]⟩ _ _ _ E0 (hr.make C us []) (I2.env0.make C us []) (hb _ (TM (hh.objs.size+1)::us) I2.kIn (by simp [hl])) r2 hsp) λrr s' hq=>?_))
 rcases rr with e | (u | _ | _ | _) <;> first | exact am hq | skip
 obtain⟨v,H3,eos,bare,un,hok,rv,ev,d,hd,hne,eH⟩:=hq
 subst ev
 subst eH
 refine⟨rv,hh.objs.size+1,some d,H,_,_,rfl,I,eos,bare,(Un.laid kk (aG _) fa).trans un,hok,by rw [AM hne.symm,AN],aG _,?_⟩
 have e:del (Ar (Ar (Ar (Ar H (hh.objs.size+1) (.ext (XO (hh.objs.size+1) C none))) d (.ext (XF d [(k1,v1)]))) (hh.objs.size+1) (.ext (XO (hh.objs.size+1) C (some d)))) d (.ext (XF d [(k1,v1),(k2,v2)]))) (hh.objs.size+1)=Ar H d (.ext (XF d [(k1,v1),(k2,v2)])):=by
  funext b
  by_cases z:b=hh.objs.size+1
  ·rw [z,EK,AM hne.symm,fa]
  ·rw [ID z]
   by_cases z2:b=d
   ·rw [z2,AN,AN]
   ·rw [AM z2,AM z,AM z2,AM z,AM z2]
 rw [e]
 exact h d hd
theorem TR(c:XC X.K nm C U)(hi:PySem.W.findIn X.K (.ref C) "__init__"=some (some (.builtin "ValueError.__init__")))(I:Inv X pins σ H s)(hl:us.length<=sizeLine)(h:R (.ref C) none H):wpAny (model X.prog X.w) X.A (call (.ref C) us) (Made X pins σ C R) E s:=by
 obtain⟨hh,g,dr,t,os⟩:=s
 have fa:H (hh.objs.size+1)=none:=I.hok.fresh (aG _)
 refine b7 (PU (K:=X.K) (U:=U) (nm:=nm) I.kIn c hi hl λh' kk ge=>?_)
 have I2:Inv X pins σ (Ar H (hh.objs.size+1) (.ext (XO (hh.objs.size+1) C none))) ⟨h',g,dr,t,os⟩:=I.laid (t':=t) kk (aG _) (XO.ok ⟨_,_,ge,rfl,rfl⟩)
 refine⟨hh.objs.size+1,none,H,_,_,rfl,I,rfl,I.bare,Un.laid kk (aG _) fa,I2.hok,AN,aG _,?_⟩
 have e:del (Ar H (hh.objs.size+1) (.ext (XO (hh.objs.size+1) C none))) (hh.objs.size+1)=H:=by
  funext b
  by_cases z:b=hh.objs.size+1
  ·rw [z,EK,fa]
  ·rw [ID z,AM z]
 rw [e]
 exact h
end
noncomputable abbrev U3:=Ends->XK->St->Hp->Prop
noncomputable abbrev WR:=XK->St->Hp->VK->Prop
noncomputable def XE(X:Cx)(pins:List (Addr×Obj))(σ:St)(R:XK)(e:Value)(s':Shared):Prop:=X.xe e s'\/XS X pins σ R e s'
noncomputable def Wi(X:Cx)(st:Stmt)(t:U3):Prop :=
 ∀(pins:List (Addr×Obj)) (s:Shared) (σ:St) (H:Hp) (D:Ends) (R:XK),Inv X pins σ H s->t D R σ H->wpAny (model X.prog X.w) X.A (exec st X.env) (SP X pins D) (XE X pins σ R) s
noncomputable def WT(X:Cx)(st:List Stmt)(t:U3):Prop :=
 ∀(pins:List (Addr×Obj)) (s:Shared) (σ:St) (H:Hp) (D:Ends) (R:XK),Inv X pins σ H s->t D R σ H->wpAny (model X.prog X.w) X.A (execs st X.env) (SP X pins D) (XE X pins σ R) s
noncomputable def YG(X:Cx)(e:Expr)(t:WR):Prop :=
 ∀(pins:List (Addr×Obj)) (s:Shared) (σ:St) (H:Hp) (Q:VK) (R:XK),Inv X pins σ H s->t R σ H Q->wpAny (model X.prog X.w) X.A (eval e X.env) (EP X pins σ Q) (XE X pins σ R) s
section
variable {X:Cx}{st:Stmt}{rest:List Stmt}{t u:U3}{te:WR}{e:Expr}{es:List Expr}{ta:TA}{x nm k1 k2 p0 p1 p2:Str}{p pos cpos:Pos}{C U f:Addr}{k:Nat}{fd:FuncData}{ps:List Str}{sp:Sp}
theorem YR{α:Type}{t:Sem α}{Q:α->Shared->Prop}{pins:List (Addr×Obj)}{σ:St}{R:XK}{s:Shared}(h:wpAny (model X.prog X.w) X.A t Q X.xe s):wpAny (model X.prog X.w) X.A t Q (XE X pins σ R) s:=Z6 h (λ_ _ z=>z) λ_ _ z=>.inl z
theorem Ou{R:XK}(hx:FP (OS X.prog X.w) X R)(h:Wi X st t):PS X st (λD=>t D R):=λpins s σ H D I q =>
 Z6 (h pins s σ H D R I q) (λ_ _ z=>z) λe s' z=>z.elim id fun⟨H,s,J,c⟩=>hx pins σ H s e s' J c
theorem Qf(h1:Wi X st t):WT X [st] t:=by
 intro pins s σ H D R I h
 refine dk (Z6 (h1 pins s σ H D R I h) (λf s1 q=>?_) λ_ _ z=>z)
 cases f with
 | next =>
  obtain⟨σ',H',J,q⟩:=q
  exact cD ⟨σ',H',J,q⟩
 | brk=>exact q
 | cont=>exact q
 | ret v=>exact q
noncomputable def Sa(C:Addr)(k1 k2:Str)(ta:TA):U3:=λ_ R σ H=>ta σ H λvs H1=>∃v1 v2,vs=[v1,v2]/\∀d,H1 d=none->R (.ref C) (some d) (Ar H1 d (.ext (XF d [(k1,v1),(k2,v2)])))
noncomputable def Sb(C:Addr)(ta:TA):U3:=λ_ R σ H=>ta σ H λvs H1=>vs.length<=sizeLine/\R (.ref C) none H1
theorem Mc(c:XC X.K nm C U)(hi:PySem.W.findIn X.K (.ref C) "__init__"=some (some (.ref f)))(hf:PySem.W.typeIn X.K (.ref f)=some (.type "function"))(F:A5 X.prog X.w X.K X.mg X.base Cb k f fd [p0,p1,p2] (F7 C k1 k2))(hb:Binds X.K fd [p0,p1,p2] [])
  (hr:Room (k+1) X.A) (hg:Gl X x) (hm:X.mg x=some (.ref C)) (ha:PA X (e::es) ta) (hdb:autoParam ((x==("__debug__" : Str))=false) zau1._auto_1) (he:autoParam (starEach (e::es) X.env=(false,eval e X.env)::starEach es X.env) zau3._auto_1) (hpl:autoParam ((backTo cpos (starEach es X.env)).any (·.1)=false) zau3._auto_1) :
  Wi X (.Raise (some (.Call (.Name x p) (e::es) [] cpos)) none pos) (Sa C k1 k2 ta):=by
 intro pins s σ H D R I h
 refine Iw (R:=R) c hr.hd ?_ λ_ _ z=>.inr z
 refine ag (Df I hg hm ?_ hdb)
 refine PySem.W.callWith_K (h₀:=X.base) I.ok.mod.kin c.kp (BB (YR (ha cpos pins s σ H _ I h)) λus s1 ⟨vs,H1,I1,r,v1,v2,ev,q⟩=>⟨I1.kIn,?_⟩) he hpl
 subst ev
 exact TQ c hi hf F hb hr I1 r q
theorem Md(c:XC X.K nm C U)(hi:PySem.W.findIn X.K (.ref C) "__init__"=some (some (.builtin "ValueError.__init__")))(hh:X.A.handled=none)(hg:Gl X x)(hm:X.mg x=some (.ref C))(ha:PA X (e::es) ta)(hdb:autoParam ((x==("__debug__" : Str))=false) zau1._auto_1)(he:autoParam (starEach (e::es) X.env=(false,eval e X.env)::starEach es X.env) zau3._auto_1)(hpl:autoParam ((backTo cpos (starEach es X.env)).any (·.1)=false) zau3._auto_1) :
  Wi X (.Raise (some (.Call (.Name x p) (e::es) [] cpos)) none pos) (Sb C ta):=by
 intro pins s σ H D R I h
 refine Iw (R:=R) c hh ?_ λ_ _ z=>.inr z
 refine ag (Df I hg hm ?_ hdb)
 refine PySem.W.callWith_K (h₀:=X.base) I.ok.mod.kin c.kp (BB (YR (ha cpos pins s σ H _ I h)) λus s1 ⟨vs,H1,I1,r,hl,q⟩=>⟨I1.kIn,?_⟩) he hpl
 exact TR c hi I1 (by rw [Z9,← r.length]; exact hl) q
noncomputable def VI(sp:Sp)(ta:TA):WR:=λR σ H Q=>ta σ H λvs H1=>sp vs H1 Q R
theorem Qm(F:A5 X.prog X.w X.K X.mg X.base (OS X.prog X.w) k f fd ps sp)(hr:Room k X.A)(hg:Gl X x)(hm:X.mg x=some (.ref f))(hk:keepIn X.K (.ref f)=true)(hb:Binds X.K fd ps [])
  (ha:PA X (e::es) ta) (hdb:autoParam ((x==("__debug__" : Str))=false) zau1._auto_1) (he:autoParam (starEach (e::es) X.env=(false,eval e X.env)::starEach es X.env) zau3._auto_1) (hpl:autoParam ((backTo pos (starEach es X.env)).any (·.1)=false) zau3._auto_1) :
  YG X (.Call (.Name x p) (e::es) [] pos) (VI sp ta):=by
 intro pins s σ H Q R I h
 refine ag (Df I hg hm ?_ hdb)
 refine PySem.W.callWith_K (h₀:=X.base) I.ok.mod.kin hk (BB (YR (ha pos pins s σ H _ I h)) λus s1 ⟨vs,H1,I1,r,q⟩=>⟨I1.kIn,?_⟩) he hpl
 have hl:(us++[]).length=ps.length:=by rw [aR,← r.length]; exact F.len _ _ _ _ q
 have r2:Vals vs (us++[]):=by rw [aR]; exact r
 refine b7 (cK (F.run X.A X.stack s1 H1 ⟨us,[]⟩ (us++[]) vs Q R hr I1.env0 (hb s1 us I1.kIn hl) r2 q) λr s' hq=>?_)
 cases r with
 | error e=>exact .inr ⟨H1,s1,I1,hq⟩
 | ok fl =>
  cases fl with
  | ret u=>exact I1.after hq
  | next=>exact am hq
  | brk=>exact am hq
  | cont=>exact am hq
noncomputable def W0(i:Nat)(te:WR):U3:=λD R σ H=>te R σ H λv H1=>D.nx (σ.set i (some v)) H1
theorem Sm{i:Nat}{y:Str}{pos':Pos}(hN:X.N.Nodup)(hi:X.N[i]?=some y)(hy:Loc X.env.scope y)(he:YG X e te)(hs:autoParam (swapsWith e (some (.Name y pos')) pos.line X.env=pure false) zau3._auto_1)(hf:autoParam (X.fn y=true\/X.env.scope.names.lookup y=some .local) zau0._auto_1) :
  Wi X (.Assign [.Name y pos'] e pos) (W0 i te):=by
 intro pins s σ H D R I h
 refine wpAny_Assign_Name (BB (he pins s σ H _ R I h) λv s1 ⟨y,H1,I1,r1,q1⟩=>?_) hs
 exact FZ I1 hN hi hy r1 (λs2 I2=>⟨_,H1,I2,q1⟩) hf
end
noncomputable def Cx.hush(X:Cx)(A:Around):Cx:={ X with A:=A,calm:=false,xe:=λ_ _=>False }
section
variable {X:Cx}{A:Around}{pins:List (Addr×Obj)}{σ:St}{H:Hp}{s:Shared}
theorem Inv.hush(I:Inv X pins σ H s)(hf:A.frames=some X.stack):Inv (X.hush A) pins σ H s :=
 ⟨⟨I.ok.mod,I.ok.kind,I.ok.glob,I.ok.blt,I.ok.above,I.ok.inj,I.ok.has,I.ok.cab,λz=>absurd (show false=true from z) Tk,hf,I.ok.stk,I.ok.exf,I.ok.bs,I.ok.bsz,I.ok.noex,I.ok.exfs,I.ok.funs,I.ok.frf⟩,I.os,I.bare,I.base,I.loc,I.cell,I.free,I.freeC,I.pin,I.hok,I.len⟩
theorem Inv.unhush(I:Inv (X.hush A) pins σ H s)(ok:X.Ok):Inv X pins σ H s:=⟨ok,I.os,I.bare,I.base,I.loc,I.cell,I.free,I.freeC,I.pin,I.hok,I.len⟩
theorem Inv.track{a:Addr}{o:HO}(I:Inv X pins σ H s)(n:H a=none)(h1:X.s₀.heap.objs.size<=a)(h2:a≠X.env.locals)(h3:∀x c,X.env.cells.lookup x=some c->c≠a)(h4:∀p∈X.pn++pins,p.1≠a)(new:ObjOk X.prog X.w (Ar H a o) s.heap a o) :
  Inv X pins σ (Ar H a o) s:=by
 have of:∀{b:Addr} {u:HO},H b=some u->Ar H a o b=some u:=λ{b u} q=>by rw [AM (λz=>by rw [z,n] at q; cases q)]; exact q
 refine I.step (g':=s.gens) (d':=s.drawn) (t':=s.toks) (h':=s.heap) (ch:=[a]) (λb hb=>?_) (λb o _ _ _ e _=>e) (λb o _ _ _ e _=>⟨o.slots,e⟩) (λb o hc _ m=>?_) (λb o _ e=>⟨o,e⟩) (λb xs e=>of e) (λb o xs e=>of e) (λb ps e=>⟨#[],by rw [of e]; simp⟩) (λm hm=>hm) (λb u e=>?_) I.bare
 ·have e:b=a:=by simpa using hb
  subst e
  exact⟨.inr h1,h2,h3,h4⟩
 ·rw [AM (λz=>hc (by simp [z]))]; exact m
 ·by_cases z:b=a
  ·subst z
   rw [AN] at e
   cases e
   exact new
  ·rw [AM z] at e
   exact(I.hok b u e).stay (λ_ _ _ q=>q) (λ_ q=>of q) λ_ _ q=>of q
theorem Inv.gone{i:Nat}{x:Str}{v:Option Value}{m:Str->Option Value}{h':Heap}{t':Nat}(I:Inv X pins σ H s)(hN:X.N.Nodup)(hi:X.N[i]?=some x)
  (hl:∀(i:Nat) (x:Str) (v:V),X.N[i]?=some x->σ[i]?=some (some v)->SJ X.env.scope x->∃u,RelV v u/\Look X.env s.heap m x u)
  (hn:h'.Ns X.env.locals (λy=>if y=x then v else m y)) (hs:bH X.env.locals s.heap h'):Inv X pins (σ.set i none) H { s with heap:=h',toks:=t' }:=by
 have ne:∀{b:Addr} {o:Obj},X.s₀.heap.get? b=some o->b≠X.env.locals:=λ{b o} e=>Zs (Zr (Sc e) I.ok.above)
 refine⟨I.ok,I.os,I.bare,⟨λb o e n hb hx=>(hs.2 b (ne e)).trans (I.base.keep b o e n hb hx),λb o e n hb hx=>?_,I.base.free,λb o e hx=>?_,I.base.tups,I.base.frzs,I.base.tbls⟩,⟨_,hn,λj y v' e1 e2 e3=>?_⟩,λy c e=>?_,I.free,I.freeC,λp hp=>?_,λb o e=>?_,by simpa using I.len⟩
 ·obtain⟨sl,e1⟩:=I.base.slot b o e n hb hx
  exact⟨sl,(hs.2 b (ne e)).trans e1⟩
 ·obtain⟨o',e1⟩:=I.base.there b o e hx
  exact⟨o',(hs.2 b (ne e)).trans e1⟩
 ·by_cases hj:j=i
  ·subst hj
   rw [cW] at e2
   split at e2
   ·split at e2 <;> cases e2
   ·rename_i z; exact absurd rfl z
  ·rw [cx (bL hj)] at e2
   obtain⟨u',r',q⟩:=hl j y v' e1 e2 e3
   refine⟨u',r',?_⟩
   rcases q with ⟨k,e⟩ | ⟨k,c,e,z⟩
   ·refine .inl ⟨k,?_⟩
    have:y≠x:=λe=>hj (Ho hN e1 (e▸hi))
    simp [this,e]
   ·exact .inr ⟨k,c,e,z.sameBut hs (I.cne y c e)⟩
 ·obtain⟨w',z⟩:=I.cell y c e
  exact⟨w',z.sameBut hs (I.cne y c e)⟩
 ·obtain⟨e,n,ne,nf,d⟩:=I.pin p hp
  exact⟨(hs.2 p.1 ne).trans e,n,ne,nf,d⟩
 ·refine(I.hok b o e).stay (λc w' hc q=>(hs.2 c ?_).trans q) (λ_ q=>q) λ_ _ q=>q
  rintro rfl
  rcases hc with rfl | hc
  ·rw [I.free] at e; cases e
  ·rw [I.free] at hc; cases hc
end
noncomputable def XT(C:Addr)(dx:Option Addr)(a:Addr)(u:HO):Prop:=∃vs sl,u=.frz ⟨.ref C,dx,.fields vs,sl⟩ (.own a)/\vs[2]?=some .none
noncomputable abbrev TH:=Ends->Addr->Option Addr->St->Hp->Prop
noncomputable def PH(X:Cx)(hs:List ExceptHandler)(t:TH):Prop :=
 ∀(pins:List (Addr×Obj)) (σ:St) (D:Ends) (a C:Addr) (dx:Option Addr) (B:Heap) (H0:Hp) (s0:Shared) (H:Hp) (s:Shared),Inv X pins σ H0 s0->CXD X.prog X.w X.stack H0 s0 a C dx B H s->t D C dx σ H ->
  wpAny (model X.prog X.w) X.A (handleBy (.ref a) X.env hs) (SP X pins D) X.xe s
section
variable {X:Cx}{i:Nat}{n x:Str}{np pos:Pos}{b₀:Stmt}{suite body:List Stmt}{rest:List ExceptHandler}{Dc U:Addr}{nm:Str}{th:TH}{ts:Addr->TS}{tb:U3}
noncomputable def W5(K:Frag)(Dc:Addr)(i:Nat)(ts:Addr->TS)(th:TH):TH:=λD C dx σ H=>∃nm U,XC K nm C U/\((C=Dc\/U=Dc)/\(∀a u,H a=none->XT C dx a u->ts a { nx:=λσ' H'=>D.nx (σ'.set i none) H',rt:=D.rt,bk:=λσ' H'=>D.bk (σ'.set i none) H',ct:=λσ' H'=>D.ct (σ'.set i none) H' } (σ.set i (some (.ref a))) (Ar H a u))\/C≠Dc/\U≠Dc/\th D C dx σ H)
noncomputable def Wm(K:Frag)(D:Addr):Prop:=∃nm q N bs bm hd sn sub ab col dd k0 k1 k2 k3 k5,K.lookup D=some (excClassObj nm q D N bs bm hd sn sub ab col dd k0 k1 k2 k3 k5 "ValueError.__new__")/\bm.contains (.type "BaseException")=true
theorem XC.isX{K:Frag}{C:Addr}(c:XC K nm C U):Wm K C:=by
 obtain⟨q,N,bs,sn,sub,ab,col,dd,k0,k1,k2,k3,k5,e⟩:=c.obj
 exact⟨nm,q,N,bs,_,_,sn,sub,ab,col,dd,k0,k1,k2,k3,k5,e,by simp [CK]⟩
theorem XC.isU{K:Frag}{C:Addr}(c:XC K nm C U):Wm K U:=by
 obtain⟨q,N,bs,sn,sub,ab,col,dd,k0,k1,k2,k3,k5,hd,e⟩:=c.up
 exact⟨_,q,N,bs,_,_,sn,sub,ab,col,dd,k0,k1,k2,k3,k5,e,by simp [CK]⟩
theorem Ge{C U D:Addr}:(TM C::TM U::CK).contains (.ref D)=(decide (C=D)||decide (U=D)):=by
 simp only [cL,CK,List.contains_nil]
 have e1:∀(a b:Addr),(TM a==TM b)=decide (b=a):=λa b=>by
  by_cases h:b=a
  ·subst h; simp
  ·have h':¬a=b:=λz=>h z.symm
   simp [h,h']
 have e2:∀T:String,(TM D==bj T)=false:=λT=>rfl
 rw [e1,e1,e2,e2,e2,e2]
 simp
theorem Sw(hN:X.N.Nodup)(hi:X.N[i]?=some n)(hl:X.env.scope.names.lookup n=some .local)(hg:Gl X x)(hm:X.mg x=some (.ref Dc))(hD:Wm X.K Dc)(hst:X.stack=X.env::X.outer)(hfr:X.env.frame=some X.env.locals)
  (hs:∀a,PSs (X.hush (X.A.mark (some (.ref a)))) (b₀::suite) (ts a)) (hrest:PH X rest th) (hd:autoParam ((x==("__debug__" : Str))=false) zau1._auto_1) :
  PH X (.ExceptHandler (some (.Name x np)) (some n) (b₀::suite) pos::rest) (W5 X.K Dc i ts th):=by
 intro pins σ D a C dx B H0 s0 H s I c h
 obtain⟨nm,U,xc,h⟩:=h
 have J:=c.inv I
 have hfm:(X.A.mark (some (.ref a))).frames=some X.stack:=I.ok.frames
 have J':=J.hush hfm
 refine wpAny_handleBy_cons (codeAny_handlers_test ?_) (by intro q; cases q)
 refine Df (X:=X.hush (X.A.mark (some (.ref a)))) J' hg hm ?_ hd
 obtain⟨nm',q',N',bs',bmD,hd',sn',sub',ab',col',dd',l0,l1,l2,l3,l5,eD,hB⟩:=hD
 obtain⟨q,N,bs,sn,sub,ab,col,dd,k0,k1,k2,k3,k5,eC⟩:=xc.obj
 obtain⟨vs,sl,tb,hx,h2,h1,hT⟩:=c.fly.obj
 obtain⟨hh,g,dr,tk,os⟩:=s
 refine PR (J.kIn _ _ eC) (J.kIn _ _ eD) hB hx rfl ?_
 rw [Ge]
 rcases h with ⟨hCD,h⟩ | ⟨n1,n2,h⟩
 ·have e:(decide (C=Dc)||decide (U=Dc))=true:=by rcases hCD with z | z <;> simp [z]
  rw [e]
  refine codeAny_handlers_suite_as ?_
  refine FH (s:=⟨hh,g,dr,tk,os⟩) c.fly λh' f' u'=>?_
  have c2:=c.step f' u'
  have J2:=c2.inv I
  obtain⟨vs2,sl2,tb2,hx2,h22,_⟩:=f'.obj
  have J3:Inv X pins σ (Ar H a (.frz ⟨.ref C,dx,.fields vs2,sl2⟩ (.own a))) ⟨h',g,dr,tk,os⟩:=by
   refine J2.track c.free (Zv I.sz c.new) (cH (Zr I.lt c.new)) (λy c' e z=>?_) (λp hp z=>?_) ⟨hx2,_,hx2⟩
   ·obtain⟨v,q⟩:=I.cell y c' e
    exact absurd (Zr q.lt c.new) (by rw [z]; exact aU _)
   ·exact absurd (Zr (Sc (I.pin p hp).1) c.new) (by rw [z]; exact aU _)
  refine FZ J3 hN hi (.inl hl) (v:=.ref a) (u:=.ref a) rfl (λs4 J4=>?_) (.inr hl)
  have hsu:=hs a pins s4 _ _ _ (J4.hush hfm) (h a _ c.free ⟨vs2,sl2,rfl,h22⟩)
  refine Z6 hsu (λf s5 q5=>?_) λe s5 z=>z.elim
  have fin:∀{σ':St} {H':Hp} {P:St->Hp->Prop} {Q:Shared->Prop},Inv (X.hush (X.A.mark (some (.ref a)))) pins σ' H' s5->P (σ'.set i none) H'->(∀s6,Inv X pins (σ'.set i none) H' s6->Q s6) ->
    wpAny (model X.prog X.w) X.A (do bindName X.env n .none; unbindBehindTheSuite X.env n pos) (λ_ s6=>Q s6) X.xe s5:=λ{σ' H' P Q} K5 _ kq=>by
   obtain⟨m,hn,hlk⟩:=K5.loc
   refine wpAny_nameGoes_keeps (M:=model X.prog X.w) hl hn (by show (X.env.scope.kind==.class||(X.env.scope.kind==.module&&X.env.locals != X.env.globals))=false; rw [I.ok.kind]; rfl) λh6 v hn6 hs6=>?_
   exact kq _ ((K5.unhush I.ok).gone hN hi hlk hn6 hs6)
  cases f with
  | next =>
   obtain⟨σ',H',K5,q⟩:=q5
   exact fin (P:=D.nx) K5 q λs6 J6=>⟨_,H',J6,q⟩
  | brk =>
   obtain⟨σ',H',K5,q⟩:=q5
   exact fin (P:=D.bk) K5 q λs6 J6=>⟨_,H',J6,q⟩
  | cont =>
   obtain⟨σ',H',K5,q⟩:=q5
   exact fin (P:=D.ct) K5 q λs6 J6=>⟨_,H',J6,q⟩
  | ret u =>
   obtain⟨v,σ',H',K5,rv,q⟩:=q5
   exact fin (P:=λ_ H'=>D.rt v H') K5 q λs6 J6=>⟨v,_,H',J6,rv,q⟩
 ·have e:(decide (C=Dc)||decide (U=Dc))=false:=by simp [n1,n2]
  rw [e]
  exact hrest pins σ D a C dx B H0 s0 H _ I c h
noncomputable def VG:TH:=λ_ _ _ _ _=>False
theorem VY:PH X [] VG:=λ_ _ _ _ _ _ _ _ _ _ _ _ _ h=>h.elim
noncomputable def Yk(tb:U3)(th:TH):TS:=λD σ H=>tb D (λC dx H'=>∃Ca,C=.ref Ca/\th D Ca dx σ H') σ H
theorem VX{h₀:ExceptHandler}(hst:X.stack=X.env::X.outer)(hfr:X.env.frame=some X.env.locals)(hx:∀e s,X.xe e s->False)(hb:WT X body tb)(hh:PH X (h₀::rest) th):PS X (.Try body (h₀::rest) [] [] pos) (Yk tb th):=by
 intro pins s σ H D I h
 refine wpAny_Try_except (Z6 (hb pins s σ H D _ I h) (λf s1 q=>?_) λe s1 q=>?_)
 ·cases f with
  | next=>exact cD q
  | _=>exact q
 ·rcases q with q | ⟨H0,s0,I0,a,C,dx,B,H',rfl,c,Ca,eC,hth⟩
  ·exact(hx e s1 q).elim
  ·cases eC
   have fl:=c.fly
   rw [hst] at fl
   have fr:=I.ok.frames
   rw [hst] at fr
   refine Ll fr hfr fl λh1 f1 u1=>?_
   have c1:=c.step (by rw [hst]; exact f1) u1
   refine FH (s:={ s1 with heap:=h1 }) f1 λh2 f2 u2=>?_
   have c2:=c1.step (by rw [hst]; exact f2) u2
   exact hh pins σ D a C dx B H0 s0 H' _ I0 c2 hth
end
end L2
namespace Dp
open PySem PySem.Spec PyProof.Rows L2
inductive D where
 | non | bl (b:Bool) | int (i:Int) | str (x:Str) | tup (xs:List D) | lst (xs:List D) | dic (ks:List Key) (xs:List D) | fdi (ks:List Key) (xs:List D) | dit (ks:List (List Key)) (xs:List D)
 deriving Inhabited
noncomputable def NdT(M:Addr->Prop)(H:Hp)(a:Addr)(vs:List V):Prop:=H a=some (.tup vs)
noncomputable def NdL(M:Addr->Prop)(H:Hp)(a:Addr)(vs:List V):Prop:=¬M a/\H a=some (.lst vs)
noncomputable def NdD(M:Addr->Prop)(H:Hp)(a:Addr)(ks:List Key)(vs:List V):Prop:=¬M a/\H a=some (.dK (ks.zip vs))
noncomputable def NdF(M:Addr->Prop)(H:Hp)(a:Addr)(ks:List Key)(vs:List V):Prop:=∃o,¬M a/\H a=some (.frz o (.dK (ks.zip vs)))
noncomputable def NdU(M:Addr->Prop)(H:Hp)(a:Addr)(ks:List (List Key))(vs:List V):Prop:=¬M a/\H a=some (.dT (ks.zip vs))
mutual
noncomputable def At(K:Frag)(M:Addr->Prop)(H:Hp):D->V->Prop
 | .non,v=>v=.non
 | .bl b,v=>v=.bl b
 | .int i,v=>v=.int i
 | .str x,v=>v=.str x/\x.length<=sizeLine
 | .tup ds,v=>∃a vs,v=.ref a/\NdT M H a vs/\Ats K M H ds vs
 | .lst ds,v=>∃a vs,v=.ref a/\NdL M H a vs/\Ats K M H ds vs
 | .dic ks ds,v=>∃a vs,v=.ref a/\NdD M H a ks vs/\ks.length=ds.length/\Ats K M H ds vs
 | .fdi ks ds,v=>∃a vs,v=.ref a/\NdF M H a ks vs/\ks.length=ds.length/\Ats K M H ds vs
 | .dit ks ds,v=>∃a vs,v=.ref a/\NdU M H a ks vs/\ks.length=ds.length/\Ats K M H ds vs
noncomputable def Ats(K:Frag)(M:Addr->Prop)(H:Hp):List D->List V->Prop
 | [],vs=>vs=[]
 | d::ds,vs=>∃v r,vs=v::r/\At K M H d v/\Ats K M H ds r
end
section
variable {K:Frag}{M M':Addr->Prop}{H H':Hp}{a:Addr}{vs:List V}{ks:List Key}
theorem NdT.sq(h:NdT M H a vs):SqT K H a vs:=.inl (.inl h)
noncomputable def Pres(M:Addr->Prop)(H:Hp)(M':Addr->Prop)(H':Hp):Prop:=(∀b o,H b=some o->¬M b->H' b=some o)/\(∀b,M' b->M b\/H b=none)/\∀b vs,H b=some (.tup vs)->H' b=some (.tup vs)
theorem Pres.nd{u:HO}(p:Pres M H M' H')(n:¬M a)(h:H a=some u):¬M' a/\H' a=some u:=by
 refine⟨λz=>?_,p.1 _ _ h n⟩
 rcases p.2.1 a z with z | z
 ·exact n z
 ·rw [z] at h; cases h
theorem NdT.pres(p:Pres M H M' H')(h:NdT M H a vs):NdT M' H' a vs:=p.2.2 _ _ h
theorem NdL.pres(p:Pres M H M' H')(h:NdL M H a vs):NdL M' H' a vs:=p.nd h.1 h.2
theorem NdD.pres(p:Pres M H M' H')(h:NdD M H a ks vs):NdD M' H' a ks vs:=p.nd h.1 h.2
theorem NdU.pres{ks:List (List Key)}(p:Pres M H M' H')(h:NdU M H a ks vs):NdU M' H' a ks vs:=p.nd h.1 h.2
theorem NdF.pres(p:Pres M H M' H')(h:NdF M H a ks vs):NdF M' H' a ks vs:=let ⟨o,h1,h2⟩:=h; ⟨o,p.nd h1 h2⟩
mutual
theorem At.pres(p:Pres M H M' H'):∀{d:D} {v:V},At K M H d v->At K M' H' d v
 | .non,v,h=>h
 | .bl b,v,h=>h
 | .int i,v,h=>h
 | .str x,v,h=>h
 | .tup ds,v,h=>by
  obtain⟨a,vs,e,hn,hs⟩:=h
  exact⟨a,vs,e,hn.pres p,Ats.pres p hs⟩
 | .lst ds,v,h=>by
  obtain⟨a,vs,e,hn,hs⟩:=h
  exact⟨a,vs,e,hn.pres p,Ats.pres p hs⟩
 | .dic ks ds,v,h=>by
  obtain⟨a,vs,e,hn,hl,hs⟩:=h
  exact⟨a,vs,e,hn.pres p,hl,Ats.pres p hs⟩
 | .fdi ks ds,v,h=>by
  obtain⟨a,vs,e,hn,hl,hs⟩:=h
  exact⟨a,vs,e,hn.pres p,hl,Ats.pres p hs⟩
 | .dit ks ds,v,h=>by
  obtain⟨a,vs,e,hn,hl,hs⟩:=h
  exact⟨a,vs,e,hn.pres p,hl,Ats.pres p hs⟩
theorem Ats.pres(p:Pres M H M' H'):∀{ds:List D} {vs:List V},Ats K M H ds vs->Ats K M' H' ds vs
 | [],vs,h=>h
 | d::ds,vs,h=>by
  obtain⟨v,r,e,h1,h2⟩:=h
  exact⟨v,r,e,At.pres p h1,Ats.pres p h2⟩
end
theorem Pres.trans{M1 M2 M3:Addr->Prop}{H1 H2 H3:Hp}(p:Pres M1 H1 M2 H2)(q:Pres M2 H2 M3 H3):Pres M1 H1 M3 H3:=by
 refine⟨λb o e n=>?_,λb z=>?_,λb vs e=>q.2.2 b vs (p.2.2 b vs e)⟩
 ·refine q.1 b o (p.1 b o e n) λz=>?_
  rcases p.2.1 b z with z | z
  ·exact n z
  ·rw [z] at e; cases e
 ·rcases q.2.1 b z with z | z
  ·exact p.2.1 b z
  ·cases e:H1 b with
   | none=>exact .inr rfl
   | some o =>
    by_cases n:M1 b
    ·exact .inl n
    ·rw [p.1 b o e n] at z; cases z
theorem Pres.refl(M:Addr->Prop)(H:Hp):Pres M H M H:=⟨λ_ _ e _=>e,λ_ z=>.inl z,λ_ _ e=>e⟩
theorem Pres.less(h:∀b,M' b->M b):Pres M H M' H:=⟨λ_ _ e _=>e,λb z=>.inl (h b z),λ_ _ e=>e⟩
theorem Ats.length:∀{ds:List D} {vs:List V},Ats K M H ds vs->vs.length=ds.length
 | [],vs,h=>by cases h; rfl
 | d::ds,vs,h=>by
  obtain⟨v,r,e,h1,h2⟩:=h
  subst e
  rw [No,No,Ats.length h2]
theorem Ats.get:∀{ds:List D} {vs:List V} {i:Nat} {d:D},Ats K M H ds vs->ds[i]?=some d->∃v,vs[i]?=some v/\At K M H d v
 | [],vs,i,d,h,e=>by simp at e
 | d0::ds,vs,0,d,h,e=>by
  obtain⟨v,r,e1,h1,h2⟩:=h
  simp at e
  subst e e1
  exact⟨v,rfl,h1⟩
 | d0::ds,vs,i+1,d,h,e=>by
  obtain⟨v,r,e1,h1,h2⟩:=h
  subst e1
  obtain⟨u,e2,h3⟩:=Ats.get (i:=i) (d:=d) h2 (by simpa using e)
  exact⟨u,by simpa using e2,h3⟩
theorem Ats.append:∀{ds es:List D} {vs us:List V},Ats K M H ds vs->Ats K M H es us->Ats K M H (ds++es) (vs++us)
 | [],es,vs,us,h,g=>by cases h; exact g
 | d::ds,es,vs,us,h,g=>by
  obtain⟨v,r,e,h1,h2⟩:=h
  subst e
  exact⟨v,r++us,rfl,h1,Ats.append h2 g⟩
theorem Ats.drop:∀{ds:List D} {vs:List V} (n:Nat),Ats K M H ds vs->Ats K M H (ds.drop n) (vs.drop n)
 | ds,vs,0,h=>h
 | [],vs,n+1,h=>by cases h; exact rfl
 | d::ds,vs,n+1,h=>by
  obtain⟨v,r,e,h1,h2⟩:=h
  subst e
  exact Ats.drop n h2
theorem Ats.take:∀{ds:List D} {vs:List V} (n:Nat),Ats K M H ds vs->Ats K M H (ds.take n) (vs.take n)
 | ds,vs,0,h=>rfl
 | [],vs,n+1,h=>by cases h; exact rfl
 | d::ds,vs,n+1,h=>by
  obtain⟨v,r,e,h1,h2⟩:=h
  subst e
  exact⟨v,r.take n,rfl,h1,Ats.take n h2⟩
theorem Ats.one{d:D}{v:V}(h:At K M H d v):Ats K M H [d] [v]:=⟨v,[],rfl,h,rfl⟩
theorem Ats.reverse:∀{ds:List D} {vs:List V},Ats K M H ds vs->Ats K M H ds.reverse vs.reverse
 | [],vs,h=>by cases h; exact rfl
 | d::ds,vs,h=>by
  obtain⟨v,r,e,h1,h2⟩:=h
  subst e
  rw [cV,cV]
  exact Ats.append (Ats.reverse h2) (Ats.one h1)
end
inductive Kd where
 | sh | tp | fr
noncomputable def Tops(K:Frag)(M:Addr->Prop)(H:Hp)(a:Addr):D->Prop
 | .lst ds=>∃vs,H a=some (.lst vs)/\Ats K M H ds vs
 | .dic ks ds=>∃vs,H a=some (.dK (ks.zip vs))/\ks.length=ds.length/\Ats K M H ds vs
 | .dit ks ds=>∃vs,H a=some (.dT (ks.zip vs))/\ks.length=ds.length/\Ats K M H ds vs
 | _=>False
theorem Tops.notT{K:Frag}{M:Addr->Prop}{H:Hp}{a:Addr}{d:D}(h:Tops K M H a d){vs:List V}:H a≠some (.tup vs):=λq=>by
 cases d with
 | lst ds=>obtain⟨us,e,_⟩:=h; rw [e] at q; cases q
 | dic ks ds=>obtain⟨us,e,_⟩:=h; rw [e] at q; cases q
 | dit ks ds=>obtain⟨us,e,_⟩:=h; rw [e] at q; cases q
 | _=>exact h.elim
theorem Tops.pres{K:Frag}{M M':Addr->Prop}{H H':Hp}{a:Addr}{d:D}(h:Tops K M H a d)(p:Pres M H M' H')(e:∀o,H a=some o->H' a=some o):Tops K M' H' a d:=by
 cases d with
 | lst ds=>obtain⟨vs,h1,h2⟩:=h; exact⟨vs,e _ h1,h2.pres p⟩
 | dic ks ds=>obtain⟨vs,h1,h2,h3⟩:=h; exact⟨vs,e _ h1,h2,h3.pres p⟩
 | dit ks ds=>obtain⟨vs,h1,h2,h3⟩:=h; exact⟨vs,e _ h1,h2,h3.pres p⟩
 | _=>exact(show False from h).elim
theorem Tops.at{K:Frag}{M:Addr->Prop}{H:Hp}{a:Addr}{d:D}(h:Tops K M H a d)(n:¬M a):At K M H d (.ref a):=by
 cases d with
 | lst ds=>obtain⟨vs,h1,h2⟩:=h; exact⟨a,vs,rfl,⟨n,h1⟩,h2⟩
 | dic ks ds=>obtain⟨vs,h1,h2,h3⟩:=h; exact⟨a,vs,rfl,⟨n,h1⟩,h2,h3⟩
 | dit ks ds=>obtain⟨vs,h1,h2,h3⟩:=h; exact⟨a,vs,rfl,⟨n,h1⟩,h2,h3⟩
 | _=>exact(show False from h).elim
noncomputable def AtT(K:Frag)(U:Addr->Prop)(M:Addr->Prop)(H:Hp):D->V->Prop
 | .lst ds,v=>∃a vs,v=.ref a/\¬U a/\Rd H a (.lst vs)/\Ats K M H ds vs
 | .dic ks ds,v=>∃a vs,v=.ref a/\¬U a/\H a=some (.dK (ks.zip vs))/\ks.length=ds.length/\Ats K M H ds vs
 | .dit ks ds,v=>∃a vs,v=.ref a/\¬U a/\H a=some (.dT (ks.zip vs))/\ks.length=ds.length/\Ats K M H ds vs
 | d,v=>At K M H d v
theorem Tops.att{K:Frag}{U M:Addr->Prop}{H:Hp}{a:Addr}{d:D}(h:Tops K M H a d)(n:¬U a):AtT K U M H d (.ref a):=by
 cases d with
 | lst ds=>obtain⟨vs,h1,h2⟩:=h; exact⟨a,vs,rfl,n,.inl h1,h2⟩
 | dic ks ds=>obtain⟨vs,h1,h2,h3⟩:=h; exact⟨a,vs,rfl,n,h1,h2,h3⟩
 | dit ks ds=>obtain⟨vs,h1,h2,h3⟩:=h; exact⟨a,vs,rfl,n,h1,h2,h3⟩
 | _=>exact(show False from h).elim
noncomputable def VR(K:Frag)(U:Addr->Prop)(M:Addr->Prop)(H H':Hp):Kd->V->D->Prop
 | .sh,v,d=>At K M H' d v
 | .tp,v,d=>AtT K U M H' d v
 | .fr,v,d=>∃a,v=.ref a/\H a=none/\Tops K (λb=>M b\/b=a) H' a d
noncomputable def FeedOk(K:Frag)(M:Addr->Prop)(H:Hp)(f:Addr×Addr)(n:Nat):Prop :=
 ∃(at_ rest:Int) (cells:List Int),H f.1=some (.lst [.ref f.2,.int at_,.int rest])/\f.2≠f.1/\NdL M H f.2 (cells.map V.int)/\cells.length<=63/\0<=at_/\at_+n<=2 ^ 60
noncomputable def FeedC(K:Frag)(F:Option (Addr×Addr))(M:Addr->Prop)(H:Hp)(n:Nat):Prop:=∀f,F=some f->FeedOk K M H f n
noncomputable def Ext(U:Addr->Prop)(H H':Hp):Prop:=∀b o,H b=some o->∃o',H' b=some o'/\(¬U b->o'=o)/\∀vs,o=.tup vs->o'=o
theorem Ext.keep{U:Addr->Prop}{H H':Hp}(p:Ext U H H'){b:Addr}{o:HO}(e:H b=some o)(n:¬U b):H' b=some o:=by
 obtain⟨o',q,r,_⟩:=p b o e
 rw [q,r n]
theorem Ext.tup{U:Addr->Prop}{H H':Hp}(p:Ext U H H'){b:Addr}{vs:List V}(e:H b=some (.tup vs)):H' b=some (.tup vs):=by
 obtain⟨o',q,_,r⟩:=p b _ e
 rw [q,r vs rfl]
theorem Ext.free{U:Addr->Prop}{H H':Hp}(p:Ext U H H'){b:Addr}(e:H' b=none):H b=none:=by
 cases q:H b with
 | none=>rfl
 | some o =>
  obtain⟨o',z,_⟩:=p b o q
  rw [e] at z; cases z
theorem Ext.refl(U:Addr->Prop)(H:Hp):Ext U H H:=λ_ o e=>⟨o,e,λ_=>rfl,λ_ _=>rfl⟩
theorem Ext.trans{U:Addr->Prop}{H1 H2 H3:Hp}(p:Ext U H1 H2)(q:Ext U H2 H3):Ext U H1 H3:=λb o e=>by
 obtain⟨o',e1,r1,t1⟩:=p b o e
 obtain⟨o2,e2,r2,t2⟩:=q b o' e1
 exact⟨o2,e2,λn=>(r2 n).trans (r1 n),λvs z=>(t2 vs ((t1 vs z).trans z)).trans (t1 vs z)⟩
noncomputable def Grow(H H':Hp):Prop:=H'=H\/∃p o,H p=none/\H'=Ar H p o
theorem Grow.all{H H':Hp}(g:Grow H H'):∀b o,H b=some o->H' b=some o:=by
 intro b o e
 rcases g with rfl | ⟨p,u,n,rfl⟩
 ·exact e
 ·rw [AM (BM e n)]; exact e
theorem Grow.refl{H:Hp}:Grow H H:=.inl rfl
theorem Grow.ext{U:Addr->Prop}{H H':Hp}(g:Grow H H'):Ext U H H':=λb o e=>⟨o,g.all b o e,λ_=>rfl,λ_ _=>rfl⟩
theorem Grow.pres{M:Addr->Prop}{H H':Hp}(g:Grow H H'):Pres M H M H':=⟨λb o e _=>g.all b o e,λ_ z=>.inl z,λb vs e=>g.all b _ e⟩
theorem FeedOk.pres{K:Frag}{M M':Addr->Prop}{H H':Hp}{f:Addr×Addr}{n:Nat}(h:FeedOk K M H f n)(p:Pres M H M' H')(e:∀o,H f.1=some o->H' f.1=some o):FeedOk K M' H' f n:=by
 obtain⟨a,r,cs,h1,h2,h3,h4⟩:=h
 exact⟨a,r,cs,e _ h1,h2,h3.pres p,h4⟩
theorem FeedC.pres{K:Frag}{F:Option (Addr×Addr)}{M M':Addr->Prop}{H H':Hp}{n:Nat}(h:FeedC K F M H n)(p:Pres M H M' H')(e:∀f o,F=some f->H f.1=some o->H' f.1=some o):FeedC K F M' H' n:=λf hf=>(h f hf).pres p λo q=>e f o hf q
theorem FeedC.grow{K:Frag}{F:Option (Addr×Addr)}{M:Addr->Prop}{H H':Hp}{n:Nat}(h:FeedC K F M H n)(g:Grow H H'):FeedC K F M H' n:=h.pres g.pres λf o _ e=>g.all f.1 o e
theorem FeedC.more{K:Frag}{F:Option (Addr×Addr)}{M:Addr->Prop}{H:Hp}{n:Nat}(h:FeedC K F M H n)(a:Addr)(ha:∀f,F=some f->f.2≠a):FeedC K F (λb=>M b\/b=a) H n:=λf hf=>by
 obtain⟨x,r,cs,h1,h2,h3,h4⟩:=h f hf
 exact⟨x,r,cs,h1,h2,⟨λz=>z.elim h3.1 (ha f hf),h3.2⟩,h4⟩
noncomputable def AtX(K:Frag)(M:Addr->Prop)(H:Hp)(a:Addr)(nm:Str)(ks:List Str)(ds:List D):Prop:=∃C U dx u vs,XC K nm C U/\(¬M a/\H a=some u)/\XT C dx a u/\(dx=none/\ks=[]/\vs=[]\/∃d,dx=some d/\¬M d/\H d=some (.ext (XF d (ks.zip vs))))/\ks.length=ds.length/\Ats K M H ds vs
theorem AtX.pres{K:Frag}{M M':Addr->Prop}{H H':Hp}{a:Addr}{nm:Str}{ks:List Str}{ds:List D}(h:AtX K M H a nm ks ds)(p:Pres M H M' H'):AtX K M' H' a nm ks ds:=by
 obtain⟨C,U,dx,u,vs,c,⟨n,ha⟩,x,hd,hl,hs⟩:=h
 refine⟨C,U,dx,u,vs,c,p.nd n ha,x,?_,hl,hs.pres p⟩
 rcases hd with z | ⟨d,e1,n1,h1⟩
 ·exact .inl z
 ·exact .inr ⟨d,e1,p.nd n1 h1⟩
inductive Slot where
 | no | sh (d:D) | br (d:D) | fd | ow (d:D) | lt (a:Addr) (d:D) | ex (a:Addr) (nm:Str) (ks:List Str) (ds:List D)
noncomputable def Slot.owns:Slot->Bool
 | .ow _=>true
 | .lt _ _=>true
 | _=>false
noncomputable def SlotOk(K:Frag)(F:Option (Addr×Addr))(U:Addr->Prop)(M:Addr->Prop)(H:Hp):Slot->Option V->Prop
 | .no,_=>True
 | .sh d,o=>∃v,o=some v/\At K M H d v
 | .br d,o=>∃v,o=some v/\AtT K U M H d v
 | .fd,o=>∃f,o=some (.ref f.1)/\F=some f
 | .ow d,o=>∃a,o=some (.ref a)/\M a/\¬U a/\Tops K M H a d
 | .lt a d,o=>o=some (.ref a)/\M a/\¬U a/\Tops K M H a d
 | .ex a nm ks ds,o=>o=some (.ref a)/\AtX K M H a nm ks ds
structure Fm where
 M0:Addr->Prop
 F:Option (Addr×Addr)
 U:Addr->Prop
 V:Addr->Prop
 H0:Hp
 pins:List ((Addr->Prop)×Hp)
 kp:List (Addr×HO)
noncomputable def Apart(ρ:List Slot)(σ:L2.St):Prop:=∀(i j:Nat) (s t:Slot) (a:Addr),ρ[i]?=some s->s.owns=true->ρ[j]?=some t->t.owns=true->(σ[i]?).getD none=some (.ref a)->(σ[j]?).getD none=some (.ref a)->i=j
structure Rel (K:Frag) (C:Fm) (M:Addr->Prop) (H:Hp) (n:Nat) (ρ:List Slot) (σ:L2.St):Prop where
 len:ρ.length=σ.length
 sub:∀a,C.M0 a->M a
 dom:∀a,M a->∃o,H a=some o
 ext:Ext C.U C.H0 H
 fU:∀f,C.F=some f->C.U f.1
 uV:∀a,C.U a->C.V a
 vM:∀a,C.V a->M a
 feed:FeedC K C.F M H n
 sl:∀(i:Nat) (s:Slot),ρ[i]?=some s->SlotOk K C.F C.V M H s ((σ[i]?).getD none)
 pin:∀p∈C.pins,Pres p.1 p.2 M H
 br0:∀(i:Nat) (d:D) (a:Addr),ρ[i]?=some (.br d)->(σ[i]?).getD none=some (.ref a)->∃o,C.H0 a=some o
 new:∀(i:Nat) (s:Slot) (a:Addr),ρ[i]?=some s->s.owns=true->(σ[i]?).getD none=some (.ref a)->¬C.M0 a/\C.H0 a=none
 two:Apart ρ σ
 kept:∀p∈C.kp,H p.1=some p.2/\M p.1/\¬C.V p.1/\∀(i:Nat) (d:D),ρ[i]?=some (.ow d)->(σ[i]?).getD none≠some (.ref p.1)
section
variable {K:Frag}{C:Fm}{M:Addr->Prop}{H H':Hp}{n n':Nat}{ρ:List Slot}{σ:L2.St}{d:D}{v:V}{κ:Kd}
theorem Rel.pres(R:Rel K C M H n ρ σ)(e:Ext C.U H H'):Pres M H M H':=⟨λb o q nb=>e.keep q λz=>nb (R.vM b (R.uV b z)),λ_ z=>.inl z,λb vs q=>e.tup q⟩
theorem AtT.pres{U V':Addr->Prop}{M':Addr->Prop}(h:AtT K V' M H d v)(p:Pres M H M' H')(e:Ext U H H')(uV:∀a,U a->V' a):AtT K V' M' H' d v:=by
 cases d with
 | lst ds =>
  obtain⟨a,vs,e1,n1,hq,hs⟩:=h
  refine⟨a,vs,e1,n1,?_,hs.pres p⟩
  rcases hq with hq | ⟨o,hq⟩
  ·exact .inl (e.keep hq λz=>n1 (uV a z))
  ·exact .inr ⟨o,e.keep hq λz=>n1 (uV a z)⟩
 | dic ks ds =>
  obtain⟨a,vs,e1,n1,hq,hl,hs⟩:=h
  exact⟨a,vs,e1,n1,e.keep hq λz=>n1 (uV a z),hl,hs.pres p⟩
 | dit ks ds =>
  obtain⟨a,vs,e1,n1,hq,hl,hs⟩:=h
  exact⟨a,vs,e1,n1,e.keep hq λz=>n1 (uV a z),hl,hs.pres p⟩
 | non=>exact At.pres (K:=K) p (d:=.non) h
 | bl b=>exact At.pres (K:=K) p (d:=.bl b) h
 | int i=>exact At.pres (K:=K) p (d:=.int i) h
 | str x=>exact At.pres (K:=K) p (d:=.str x) h
 | tup ds=>exact At.pres (K:=K) p (d:=.tup ds) h
 | fdi ks ds=>exact At.pres (K:=K) p (d:=.fdi ks ds) h
theorem AtT.same{U V':Addr->Prop}{M':Addr->Prop}(h:AtT K U M H d v)(p:Pres M H M' H')(e:∀a o,v=.ref a->H a=some o->H' a=some o)(nv:∀a,v=.ref a->¬U a->¬V' a):AtT K V' M' H' d v:=by
 cases d with
 | lst ds =>
  obtain⟨a,vs,e1,n1,hq,hs⟩:=h
  refine⟨a,vs,e1,nv a e1 n1,?_,hs.pres p⟩
  rcases hq with hq | ⟨o,hq⟩
  ·exact .inl (e a _ e1 hq)
  ·exact .inr ⟨o,e a _ e1 hq⟩
 | dic ks ds =>
  obtain⟨a,vs,e1,n1,hq,hl,hs⟩:=h
  exact⟨a,vs,e1,nv a e1 n1,e a _ e1 hq,hl,hs.pres p⟩
 | dit ks ds =>
  obtain⟨a,vs,e1,n1,hq,hl,hs⟩:=h
  exact⟨a,vs,e1,nv a e1 n1,e a _ e1 hq,hl,hs.pres p⟩
 | non=>exact At.pres (K:=K) p (d:=.non) h
 | bl b=>exact At.pres (K:=K) p (d:=.bl b) h
 | int i=>exact At.pres (K:=K) p (d:=.int i) h
 | str x=>exact At.pres (K:=K) p (d:=.str x) h
 | tup ds=>exact At.pres (K:=K) p (d:=.tup ds) h
 | fdi ks ds=>exact At.pres (K:=K) p (d:=.fdi ks ds) h
theorem AtT.lies{U:Addr->Prop}{a:Addr}(h:AtT K U M H d (.ref a)):∃o,H a=some o:=by
 cases d with
 | lst ds =>
  obtain⟨b,vs,e,_,hq,_⟩:=h
  cases e
  rcases hq with hq | ⟨o,hq⟩
  ·exact⟨_,hq⟩
  ·exact⟨_,hq⟩
 | dic ks ds =>
  obtain⟨b,vs,e,_,hq,_⟩:=h
  cases e
  exact⟨_,hq⟩
 | dit ks ds =>
  obtain⟨b,vs,e,_,hq,_⟩:=h
  cases e
  exact⟨_,hq⟩
 | non=>cases (show V.ref a=.non from h)
 | bl b=>cases (show V.ref a=.bl b from h)
 | int i=>cases (show V.ref a=.int i from h)
 | str x=>cases (show V.ref a=.str x/\_ from h).1
 | tup ds =>
  obtain⟨b,vs,e,hq,_⟩:=h
  cases e
  exact⟨_,hq⟩
 | fdi ks ds =>
  obtain⟨b,vs,e,⟨o,_,hq⟩,_⟩:=h
  cases e
  exact⟨_,hq⟩
theorem SlotOk.pres{F:Option (Addr×Addr)}{U V' M':Addr->Prop}{s:Slot}{o:Option V}(h:SlotOk K F V' M H s o)(p:Pres M H M' H')(m:∀a,M a->M' a)(e:Ext U H H')(uV:∀a,U a->V' a):SlotOk K F V' M' H' s o:=by
 cases s with
 | no=>trivial
 | sh d=>obtain⟨v,e1,h1⟩:=h; exact⟨v,e1,h1.pres p⟩
 | ex a nm ks ds=>obtain⟨e1,h1⟩:=h; exact⟨e1,h1.pres p⟩
 | br d=>obtain⟨v,e1,h1⟩:=h; exact⟨v,e1,h1.pres p e uV⟩
 | fd=>exact h
 | ow d=>obtain⟨a,e1,h1,h2,h3⟩:=h; exact⟨a,e1,m a h1,h2,h3.pres p λo q=>e.keep q λz=>h2 (uV a z)⟩
 | lt a d=>obtain⟨e1,h1,h2,h3⟩:=h; exact⟨e1,m a h1,h2,h3.pres p λo q=>e.keep q λz=>h2 (uV a z)⟩
theorem Rel.step(R:Rel K C M H n ρ σ)(e:Ext C.U H H')(f:FeedC K C.F M H' n'):Rel K C M H' n' ρ σ:=by
 have p:=R.pres e
 refine⟨R.len,R.sub,λa z=>?_,R.ext.trans e,R.fU,R.uV,R.vM,f,λi s q=>(R.sl i s q).pres p (λ_ z=>z) e R.uV,λq hq=>(R.pin q hq).trans p,R.br0,R.new,R.two,λq hq=>?_⟩
 ·obtain⟨o,h1⟩:=R.dom a z
  obtain⟨o',h2,_⟩:=e a o h1
  exact⟨o',h2⟩
 ·obtain⟨h1,h2,h3,h4⟩:=R.kept q hq
  exact⟨e.keep h1 λz=>h3 (R.uV _ z),h2,h3,h4⟩
theorem Rel.udom(R:Rel K C M H n ρ σ):∀a,C.U a->∃o,H a=some o:=λa z=>R.dom a (R.vM a (R.uV a z))
theorem At.tp{U:Addr->Prop}(uM:∀a,U a->M a)(h:At K M H d v):AtT K U M H d v:=by
 cases d with
 | lst ds =>
  obtain⟨a,vs,e,hn,hs⟩:=h
  exact⟨a,vs,e,λz=>hn.1 (uM a z),.inl hn.2,hs⟩
 | dic ks ds =>
  obtain⟨a,vs,e,hn,hl,hs⟩:=h
  exact⟨a,vs,e,λz=>hn.1 (uM a z),hn.2,hl,hs⟩
 | dit ks ds =>
  obtain⟨a,vs,e,hn,hl,hs⟩:=h
  exact⟨a,vs,e,λz=>hn.1 (uM a z),hn.2,hl,hs⟩
 | non=>exact h
 | bl b=>exact h
 | int i=>exact h
 | str x=>exact h
 | tup ds=>exact h
 | fdi ks ds=>exact h
theorem VR.back{U V':Addr->Prop}{H1:Hp}(e:Ext U H H1)(h:VR K V' M H1 H' κ v d):VR K V' M H H' κ v d:=by
 cases κ with
 | sh=>exact h
 | tp=>exact h
 | fr =>
  obtain⟨a,e1,h1,h2⟩:=h
  exact⟨a,e1,e.free h1,h2⟩
theorem VR.shOf{U:Addr->Prop}(dom:∀a,M a->∃o,H a=some o)(h:VR K U M H H' κ v d)(hk:κ≠.tp):At K M H' d v:=by
 cases κ with
 | sh=>exact h
 | tp=>exact absurd rfl hk
 | fr =>
  obtain⟨a,rfl,h1,h2⟩:=h
  refine(h2.pres (Pres.less (M':=M) λ_ z=>.inl z) λ_ z=>z).at λz=>?_
  obtain⟨o,q⟩:=dom a z
  rw [h1] at q; cases q
theorem VR.tpOf{U:Addr->Prop}(dom:∀a,M a->∃o,H a=some o)(uM:∀a,U a->M a)(h:VR K U M H H' κ v d):AtT K U M H' d v:=by
 cases κ with
 | sh=>exact At.tp uM h
 | tp=>exact h
 | fr=>exact At.tp uM (VR.shOf dom h (by intro z; cases z))
theorem C1{α:Type}{l:List α}{i j:Nat}{x y:α}(h:(l.set i x)[j]?=some y):(j=i/\i<l.length/\y=x)\/(j≠i/\l[j]?=some y):=by
 rw [cW] at h
 by_cases e:i=j
 ·rw [if_pos e] at h
  by_cases hl:i<l.length
  ·rw [if_pos hl] at h
   exact .inl ⟨e.symm,hl,(T0 h).symm⟩
  ·rw [if_neg hl] at h; cases h
 ·rw [if_neg e] at h
  exact .inr ⟨λz=>e z.symm,h⟩
theorem E6{l:L2.St}{i j:Nat}{x:Option V}(h:j≠i):((l.set i x)[j]?).getD none=(l[j]?).getD none:=by
 rw [cW,if_neg (λz=>h z.symm)]
theorem MR{l:L2.St}{i:Nat}{x:Option V}(h:i<l.length):((l.set i x)[i]?).getD none=x:=by
 rw [cW,if_pos rfl,if_pos h]
 rfl
theorem Rel.set(R:Rel K C M H n ρ σ){i:Nat}(h:At K M H d v):Rel K C M H n (ρ.set i (.sh d)) (σ.set i (some v)):=by
 have two:∀(j:Nat) (s:Slot),(ρ.set i (.sh d))[j]?=some s->s.owns=true->ρ[j]?=some s/\((σ.set i (some v))[j]?).getD none=(σ[j]?).getD none:=λj s q o=>by
  rcases C1 q with ⟨_,_,rfl⟩ | ⟨hj,q⟩
  ·cases o
  ·exact⟨q,E6 hj⟩
 refine⟨by rw [aZ,aZ]; exact R.len,R.sub,R.dom,R.ext,R.fU,R.uV,R.vM,R.feed,λj s q=>?_,R.pin,λj e a q q2=>?_,λj s a q o q2=>?_,λj k s t a q1 o1 q2 o2 z1 z2=>?_,λp hp=>?_⟩
 ·rcases C1 q with ⟨rfl,hl,rfl⟩ | ⟨hj,q⟩
  ·rw [MR (by rw [← R.len]; exact hl)]
   exact⟨v,rfl,h⟩
  ·rw [E6 hj]
   exact R.sl j s q
 ·rcases C1 q with ⟨_,_,e⟩ | ⟨hj,q⟩
  ·cases e
  ·rw [E6 hj] at q2
   exact R.br0 j e a q q2
 ·obtain⟨q1,e⟩:=two j s q o
  rw [e] at q2
  exact R.new j s a q1 o q2
 ·obtain⟨p1,e1⟩:=two j s q1 o1
  obtain⟨p2,e2⟩:=two k t q2 o2
  rw [e1] at z1
  rw [e2] at z2
  exact R.two j k s t a p1 o1 p2 o2 z1 z2
 ·obtain⟨h1,h2,h3,h4⟩:=R.kept p hp
  refine⟨h1,h2,h3,λj e q=>?_⟩
  obtain⟨q1,e2⟩:=two j _ q rfl
  rw [e2]
  exact h4 j e q1
theorem Rel.owner(R:Rel K C M H n ρ σ){i:Nat}{s:Slot}(h:ρ[i]?=some s)(o:s.owns=true):∃a e,(σ[i]?).getD none=some (.ref a)/\M a/\¬C.V a/\Tops K M H a e/\¬C.M0 a/\C.H0 a=none:=by
 have q:=R.sl i s h
 cases s with
 | ow d=>obtain⟨a,e1,h1,h2,h3⟩:=q; exact⟨a,d,e1,h1,h2,h3,R.new i _ a h o e1⟩
 | lt a d=>obtain⟨e1,h1,h2,h3⟩:=q; exact⟨a,d,e1,h1,h2,h3,R.new i _ a h o e1⟩
 | _=>cases o
theorem Rel.setOw(R:Rel K C M H n ρ σ){i:Nat}{a:Addr}(e:Ext C.U H H')(f:FeedC K C.F M H' n')(ha:H a=none)(h:Tops K (λb=>M b\/b=a) H' a d) :
  Rel K C (λb=>M b\/b=a) H' n' (ρ.set i (.ow d)) (σ.set i (some (.ref a))):=by
 have R1:=R.step e f
 have ne:∀b,M b->b≠a:=λb z q=>by
  obtain⟨o,w⟩:=R.dom b z
  rw [q,ha] at w; cases w
 have a0:¬C.M0 a/\C.H0 a=none:=⟨λz=>ne a (R.sub a z) rfl,R.ext.free ha⟩
 have pr:Pres M H (λb=>M b\/b=a) H':=⟨λb o q nb=>e.keep q λz=>nb (R.vM b (R.uV b z)),λb z=>z.elim .inl λz=>.inr (by rw [z]; exact ha),λb vs q=>e.tup q⟩
 have two:∀(j:Nat) (s:Slot),(ρ.set i (.ow d))[j]?=some s->(j=i/\s=.ow d/\((σ.set i (some (.ref a)))[j]?).getD none=some (.ref a))\/(j≠i/\ρ[j]?=some s/\((σ.set i (some (.ref a)))[j]?).getD none=(σ[j]?).getD none):=λj s q=>by
  rcases C1 q with ⟨rfl,hl,rfl⟩ | ⟨hj,q⟩
  ·exact .inl ⟨rfl,rfl,MR (by rw [← R.len]; exact hl)⟩
  ·exact .inr ⟨hj,q,E6 hj⟩
 have old:∀(j:Nat) (s:Slot) (b:Addr),ρ[j]?=some s->s.owns=true->(σ[j]?).getD none=some (.ref b)->b≠a:=λj s b q o z=>by
  obtain⟨c,_,e1,m,_⟩:=R.owner q o
  rw [e1] at z
  cases z
  exact ne _ m
 have hd:∃o,H' a=some o:=by
  cases d with
  | lst ds=>obtain⟨vs,q,_⟩:=h; exact⟨_,q⟩
  | dic ks ds=>obtain⟨vs,q,_⟩:=h; exact⟨_,q⟩
  | dit ks ds=>obtain⟨vs,q,_⟩:=h; exact⟨_,q⟩
  | _=>exact(show False from h).elim
 refine⟨by rw [aZ,aZ]; exact R.len,λb z=>.inl (R.sub b z),λb z=>?_,R1.ext,R.fU,R.uV,λb z=>.inl (R.vM b z),f.more a λg hg q=>?_,λj s q=>?_,λq hq=>(R.pin q hq).trans pr,λj e2 b q q2=>?_,λj s b q o q2=>?_,λj k s t b q1 o1 q2 o2 z1 z2=>?_,λp hp=>?_⟩
 ·rcases z with z | z
  ·exact R1.dom b z
  ·rw [z]; exact hd
 ·obtain⟨_,_,_,_,_,h3,_⟩:=R.feed g hg
  have:=h3.2
  rw [q,ha] at this; cases this
 ·rcases two j s q with ⟨rfl,rfl,e1⟩ | ⟨hj,q1,e1⟩
  ·rw [e1]
   exact⟨a,rfl,.inr rfl,λz=>ne a (R.vM a z) rfl,h⟩
  ·rw [e1]
   exact(R.sl j s q1).pres pr (λ_ z=>.inl z) e R.uV
 ·rcases two j _ q with ⟨_,e1,_⟩ | ⟨hj,q1,e1⟩
  ·cases e1
  ·rw [e1] at q2
   exact R.br0 j e2 b q1 q2
 ·rcases two j s q with ⟨_,_,e1⟩ | ⟨hj,q1,e1⟩
  ·rw [e1] at q2
   cases q2
   exact a0
  ·rw [e1] at q2
   exact R.new j s b q1 o q2
 ·rcases two j s q1 with ⟨rfl,_,e1⟩ | ⟨hj,p1,e1⟩
  ·rw [e1] at z1
   cases z1
   rcases two k t q2 with ⟨rfl,_,_⟩ | ⟨hk,p2,e2⟩
   ·rfl
   ·rw [e2] at z2
    exact absurd rfl (old k t a p2 o2 z2)
  ·rw [e1] at z1
   rcases two k t q2 with ⟨rfl,_,e2⟩ | ⟨hk,p2,e2⟩
   ·rw [e2] at z2
    cases z2
    exact absurd rfl (old j s a p1 o1 z1)
   ·rw [e2] at z2
    exact R.two j k s t b p1 o1 p2 o2 z1 z2
 ·obtain⟨h1,h2,h3,h4⟩:=R1.kept p hp
  refine⟨h1,.inl h2,h3,λj e2 q=>?_⟩
  rcases two j _ q with ⟨_,_,e1⟩ | ⟨hj,q1,e1⟩
  ·rw [e1]
   intro z
   cases z
   exact ne _ h2 rfl
  ·rw [e1]
   exact h4 j e2 q1
theorem Rel.mut(R:Rel K C M H n ρ σ){i:Nat}{a:Addr}{e:D}{o:HO}(hi:ρ[i]?=some (.ow d))(ha:(σ[i]?).getD none=some (.ref a))(h:Tops K M (Ar H a o) a e) :
  Rel K C M (Ar H a o) n (ρ.set i (.ow e)) σ:=by
 obtain⟨b,_,e1,m,nv,t,n0,h0⟩:=R.owner hi rfl
 rw [ha] at e1
 cases e1
 have pr:Pres M H M (Ar H a o):=⟨λb o' q nb=>by rw [AM (λz=>nb (by rw [z]; exact m))]; exact q,λ_ z=>.inl z,λb vs q=>by rw [AM (λz=>t.notT (by rw [← z]; exact q))]; exact q⟩
 have old:∀(j:Nat) (s:Slot),(ρ.set i (.ow e))[j]?=some s->(j=i/\s=.ow e)\/(j≠i/\ρ[j]?=some s):=λj s q=>by
  rcases C1 q with ⟨rfl,hl,rfl⟩ | ⟨hj,q⟩
  ·exact .inl ⟨rfl,rfl⟩
  ·exact .inr ⟨hj,q⟩
 have far:∀(j:Nat) (s:Slot) (b:Addr),j≠i->ρ[j]?=some s->s.owns=true->(σ[j]?).getD none=some (.ref b)->b≠a:=λj s b hj q o z w=>by
  subst w
  exact hj (R.two j i s _ b q o hi rfl z ha)
 refine⟨by rw [aZ]; exact R.len,R.sub,λb z=>?_,λb o' q=>?_,R.fU,R.uV,R.vM,R.feed.pres pr λf o' hf q=>?_,λj s q=>?_,λq hq=>(R.pin q hq).trans pr,λj e2 b q q2=>?_,λj s b q o2 q2=>?_,λj k s t b q1 o1 q2 o2 z1 z2=>?_,λp hp=>?_⟩
 ·by_cases hb:b=a
  ·exact⟨o,by rw [hb,AN]⟩
  ·obtain⟨o',q⟩:=R.dom b z
   exact⟨o',by rw [AM hb]; exact q⟩
 ·obtain⟨o2,q2,r⟩:=R.ext b o' q
  have hb:b≠a:=λz=>by rw [z,h0] at q; cases q
  exact⟨o2,by rw [AM hb]; exact q2,r⟩
 ·have hb:f.1≠a:=λz=>nv (by rw [← z]; exact R.uV _ (R.fU f hf))
  rw [AM hb]; exact q
 ·rcases old j s q with ⟨rfl,rfl⟩ | ⟨hj,q1⟩
  ·rw [ha]
   exact⟨a,rfl,m,nv,h⟩
  ·have q2:=R.sl j s q1
   cases s with
   | no=>trivial
   | sh d=>obtain⟨v,e1,h1⟩:=q2; exact⟨v,e1,h1.pres pr⟩
   | ex a nm ks ds=>obtain⟨e1,h1⟩:=q2; exact⟨e1,h1.pres pr⟩
   | br d =>
    obtain⟨v,e1,h1⟩:=q2
    refine⟨v,e1,h1.same pr (λb o' z q=>?_) λ_ _ z=>z⟩
    subst z
    obtain⟨o3,w⟩:=R.br0 j d b q1 e1
    rw [AM (λz=>by rw [z,h0] at w; cases w)]
    exact q
   | fd=>exact q2
   | ow d =>
    obtain⟨b,e1,h1,h2,h3⟩:=q2
    exact⟨b,e1,h1,h2,h3.pres pr λo' w=>by rw [AM (far j _ b hj q1 rfl e1)]; exact w⟩
   | lt b d =>
    obtain⟨e1,h1,h2,h3⟩:=q2
    exact⟨e1,h1,h2,h3.pres pr λo' w=>by rw [AM (far j _ b hj q1 rfl e1)]; exact w⟩
 ·rcases old j _ q with ⟨_,e1⟩ | ⟨hj,q1⟩
  ·cases e1
  ·exact R.br0 j e2 b q1 q2
 ·rcases old j s q with ⟨rfl,_⟩ | ⟨hj,q1⟩
  ·exact R.new j _ b hi rfl q2
  ·exact R.new j s b q1 o2 q2
 ·rcases old j s q1 with ⟨rfl,rfl⟩ | ⟨hj,p1⟩
  ·rcases old k t q2 with ⟨rfl,_⟩ | ⟨hk,p2⟩
   ·rfl
   ·exact R.two j k _ t b hi rfl p2 o2 z1 z2
  ·rcases old k t q2 with ⟨rfl,rfl⟩ | ⟨hk,p2⟩
   ·exact R.two j k s _ b p1 o1 hi rfl z1 z2
   ·exact R.two j k s t b p1 o1 p2 o2 z1 z2
 ·obtain⟨h1,h2,h3,h4⟩:=R.kept p hp
  have hb:p.1≠a:=λz=>h4 i d hi (by rw [ha,z])
  refine⟨by rw [AM hb]; exact h1,h2,h3,λj e2 q=>?_⟩
  rcases old j _ q with ⟨rfl,_⟩ | ⟨hj,q1⟩
  ·exact h4 j d hi
  ·exact h4 j e2 q1
theorem Rel.lend(R:Rel K C M H n ρ σ){i:Nat}{a:Addr}{o:HO}(hi:ρ[i]?=some (.ow d))(ha:(σ[i]?).getD none=some (.ref a))(ho:H a=some o):Rel K { C with kp:=(a,o)::C.kp } M H n (ρ.set i (.lt a d)) σ:=by
 obtain⟨b,e1,m,nv,t⟩:=R.sl i _ hi
 rw [ha] at e1
 cases e1
 have old:∀(j:Nat) (s:Slot),(ρ.set i (.lt a d))[j]?=some s->(j=i/\s=.lt a d)\/(j≠i/\ρ[j]?=some s):=λj s q=>by
  rcases C1 q with ⟨rfl,hl,rfl⟩ | ⟨hj,q⟩
  ·exact .inl ⟨rfl,rfl⟩
  ·exact .inr ⟨hj,q⟩
 refine⟨by rw [aZ]; exact R.len,R.sub,R.dom,R.ext,R.fU,R.uV,R.vM,R.feed,λj s q=>?_,R.pin,λj e2 b q q2=>?_,λj s b q o2 q2=>?_,λj k s t b q1 o1 q2 o2 z1 z2=>?_,λp hp=>?_⟩
 ·rcases old j s q with ⟨rfl,rfl⟩ | ⟨hj,q1⟩
  ·exact⟨ha,m,nv,t⟩
  ·exact R.sl j s q1
 ·rcases old j _ q with ⟨_,e1⟩ | ⟨hj,q1⟩
  ·cases e1
  ·exact R.br0 j e2 b q1 q2
 ·rcases old j s q with ⟨rfl,_⟩ | ⟨hj,q1⟩
  ·exact R.new j _ b hi rfl q2
  ·exact R.new j s b q1 o2 q2
 ·rcases old j s q1 with ⟨rfl,rfl⟩ | ⟨hj,p1⟩
  ·rcases old k t q2 with ⟨rfl,_⟩ | ⟨hk,p2⟩
   ·rfl
   ·exact R.two j k _ t b hi rfl p2 o2 z1 z2
  ·rcases old k t q2 with ⟨rfl,rfl⟩ | ⟨hk,p2⟩
   ·exact R.two j k s _ b p1 o1 hi rfl z1 z2
   ·exact R.two j k s t b p1 o1 p2 o2 z1 z2
 ·rcases UF.mp hp with rfl | hp
  ·refine⟨ho,m,nv,λj e2 q z=>?_⟩
   rcases old j _ q with ⟨_,e1⟩ | ⟨hj,q1⟩
   ·cases e1
   ·exact hj (R.two j i _ _ a q1 rfl hi rfl z ha)
  ·obtain⟨h1,h2,h3,h4⟩:=R.kept p hp
   refine⟨h1,h2,h3,λj e2 q=>?_⟩
   rcases old j _ q with ⟨_,e1⟩ | ⟨hj,q1⟩
   ·cases e1
   ·exact h4 j e2 q1
theorem Rel.unlend{a:Addr}{o:HO}(R:Rel K { C with kp:=(a,o)::C.kp } M H n ρ σ){i:Nat}(hi:ρ[i]?=some (.lt a d))(hk:∀p∈C.kp,p.1≠a):Rel K C M H n (ρ.set i (.ow d)) σ:=by
 obtain⟨ha,m,nv,t⟩:=R.sl i _ hi
 have old:∀(j:Nat) (s:Slot),(ρ.set i (.ow d))[j]?=some s->(j=i/\s=.ow d)\/(j≠i/\ρ[j]?=some s):=λj s q=>by
  rcases C1 q with ⟨rfl,hl,rfl⟩ | ⟨hj,q⟩
  ·exact .inl ⟨rfl,rfl⟩
  ·exact .inr ⟨hj,q⟩
 refine⟨by rw [aZ]; exact R.len,R.sub,R.dom,R.ext,R.fU,R.uV,R.vM,R.feed,λj s q=>?_,R.pin,λj e2 b q q2=>?_,λj s b q o2 q2=>?_,λj k s t b q1 o1 q2 o2 z1 z2=>?_,λp hp=>?_⟩
 ·rcases old j s q with ⟨rfl,rfl⟩ | ⟨hj,q1⟩
  ·exact⟨a,ha,m,nv,t⟩
  ·exact R.sl j s q1
 ·rcases old j _ q with ⟨_,e1⟩ | ⟨hj,q1⟩
  ·cases e1
  ·exact R.br0 j e2 b q1 q2
 ·rcases old j s q with ⟨rfl,_⟩ | ⟨hj,q1⟩
  ·exact R.new j _ b hi rfl q2
  ·exact R.new j s b q1 o2 q2
 ·rcases old j s q1 with ⟨rfl,rfl⟩ | ⟨hj,p1⟩
  ·rcases old k t q2 with ⟨rfl,_⟩ | ⟨hk,p2⟩
   ·rfl
   ·exact R.two j k _ t b hi rfl p2 o2 z1 z2
  ·rcases old k t q2 with ⟨rfl,rfl⟩ | ⟨hk,p2⟩
   ·exact R.two j k s _ b p1 o1 hi rfl z1 z2
   ·exact R.two j k s t b p1 o1 p2 o2 z1 z2
 ·obtain⟨h1,h2,h3,h4⟩:=R.kept p (Is _ hp)
  refine⟨h1,h2,h3,λj e2 q=>?_⟩
  rcases old j _ q with ⟨rfl,_⟩ | ⟨hj,q1⟩
  ·rw [ha]
   intro z
   cases z
   exact hk p hp rfl
  ·exact h4 j e2 q1
end
noncomputable abbrev DW:=Nat->List Slot->(D->Nat->Prop)->Prop
noncomputable abbrev F4:=Nat->List Slot->(Bool->Nat->Prop)->Prop
noncomputable abbrev Eg:=Nat->List Slot->(List D->Nat->Prop)->Prop
noncomputable abbrev UG:=Nat->List Slot->(List Slot->Nat->Prop)->Prop
section
variable (X:Cx)
noncomputable def DE(e:Expr)(κ:Kd)(w:DW):Prop:=∃t,PE X e t/\∀(C:Fm) (M:Addr->Prop) (H:Hp) (n:Nat) (ρ:List Slot) (σ:L2.St) (P:D->Nat->Prop) (Q:VK),Rel X.K C M H n ρ σ->w n ρ P ->
 (∀v H' d n',Ext C.U H H'->FeedC X.K C.F M H' n'->VR X.K C.V M H H' κ v d->P d n'->Q v H')->t σ H Q
noncomputable def DT(e:Expr)(w:F4):Prop:=∃t,PT X e t/\∀(C:Fm) (M:Addr->Prop) (H:Hp) (n:Nat) (ρ:List Slot) (σ:L2.St) (P:Bool->Nat->Prop) (Q:Bool->Hp->Prop),Rel X.K C M H n ρ σ->w n ρ P ->
 (∀b H' n',Ext C.U H H'->FeedC X.K C.F M H' n'->P b n'->Q b H')->t σ H Q
noncomputable def DTW(e:Expr)(w:F4):Prop:=∃t,PW X e t/\∀(C:Fm) (M:Addr->Prop) (H:Hp) (n:Nat) (ρ:List Slot) (σ:L2.St) (P:Bool->Nat->Prop) (Q:Bool->Hp->Prop),Rel X.K C M H n ρ σ->w n ρ P ->
 (∀b H' n',Ext C.U H H'->FeedC X.K C.F M H' n'->P b n'->Q b H')->t σ H Q
noncomputable def U5(es:List Expr)(w:Eg):Prop:=∃t,PA X es t/\∀(C:Fm) (M:Addr->Prop) (H:Hp) (n:Nat) (ρ:List Slot) (σ:L2.St) (P:List D->Nat->Prop) (Q:List V->Hp->Prop),Rel X.K C M H n ρ σ->w n ρ P ->
 (∀vs H' ds n',Ext C.U H H'->FeedC X.K C.F M H' n'->Paired (λv d=>AtT X.K C.V M H' d v) vs ds->P ds n'->Q vs H')->t σ H Q
noncomputable def We(es:List Expr)(w:Eg):Prop:=∃t,PA X es t/\∀(C:Fm) (M:Addr->Prop) (H:Hp) (n:Nat) (ρ:List Slot) (σ:L2.St) (P:List D->Nat->Prop) (Q:List V->Hp->Prop),Rel X.K C M H n ρ σ->w n ρ P ->
 (∀vs H' ds n',Ext C.U H H'->FeedC X.K C.F M H' n'->Ats X.K M H' ds vs->P ds n'->Q vs H')->t σ H Q
noncomputable def Jg(K:Frag)(F:Option (Addr×Addr))(V' M:Addr->Prop)(H:Hp)(v:V)(s:Slot):Prop:=SlotOk K F V' M H s (some v)/\s.owns=false
noncomputable def Ye(e:Expr)(w:Nat->List Slot->(Slot->Nat->Prop)->Prop):Prop:=∃t,PE X e t/\∀(C:Fm) (M:Addr->Prop) (H:Hp) (n:Nat) (ρ:List Slot) (σ:L2.St) (P:Slot->Nat->Prop) (Q:VK),Rel X.K C M H n ρ σ->w n ρ P ->
 (∀v H' s n',Ext C.U H H'->FeedC X.K C.F M H' n'->Jg X.K C.F C.V M H' v s->P s n'->Q v H')->t σ H Q
noncomputable def Wq(es:List Expr)(w:UG):Prop:=∃t,PA X es t/\∀(C:Fm) (M:Addr->Prop) (H:Hp) (n:Nat) (ρ:List Slot) (σ:L2.St) (P:List Slot->Nat->Prop) (Q:List V->Hp->Prop),Rel X.K C M H n ρ σ->w n ρ P ->
 (∀vs H' ss n',Ext C.U H H'->FeedC X.K C.F M H' n'->Paired (Jg X.K C.F C.V M H') vs ss->P ss n'->Q vs H')->t σ H Q
end
noncomputable def AE(i:Nat):DW:=λn ρ P=>match ρ[i]? with
 | some (.sh d)=>P d n
 | _=>False
noncomputable def A0(i:Nat):DW:=λn ρ P=>match ρ[i]? with
 | some (.sh d)=>P d n
 | some (.br d)=>P d n
 | some (.ow d)=>P d n
 | some (.lt _ d)=>P d n
 | _=>False
noncomputable def wC(d:D):DW:=λn _ P=>P d n
section
variable {X:Cx}{a b c e:Expr}{κ κa κb:Kd}{wa wb wc:DW}{pos:Pos}
theorem getD_some{σ:L2.St}{i:Nat}{v:V}(h:(σ[i]?).getD none=some v):σ[i]?=some (some v):=by
 cases q:σ[i]? with
 | none=>rw [q] at h; cases h
 | some o=>rw [q] at h; exact congrArg some h
theorem T3{i:Nat}(h:PE X e (Bl i)):DE X e .sh (AE i):=by
 refine⟨_,h,λC M H n ρ σ P Q R w q=>?_⟩
 unfold AE at w
 split at w
 ·rename_i d hd
  obtain⟨v,e1,h1⟩:=R.sl i _ hd
  exact⟨v,getD_some e1,q v H d n (Ext.refl _ _) R.feed h1 w⟩
 ·exact w.elim
theorem Rv{i:Nat}(h:PE X e (Bl i)):DE X e .tp (A0 i):=by
 refine⟨_,h,λC M H n ρ σ P Q R w q=>?_⟩
 unfold A0 at w
 split at w
 ·rename_i d hd
  obtain⟨v,e1,h1⟩:=R.sl i _ hd
  exact⟨v,getD_some e1,q v H d n (Ext.refl _ _) R.feed (At.tp R.vM h1) w⟩
 ·rename_i d hd
  obtain⟨v,e1,h1⟩:=R.sl i _ hd
  exact⟨v,getD_some e1,q v H d n (Ext.refl _ _) R.feed h1 w⟩
 ·rename_i d hd
  obtain⟨a,e1,_,h2,h3⟩:=R.sl i _ hd
  exact⟨.ref a,getD_some e1,q _ H d n (Ext.refl _ _) R.feed (h3.att h2) w⟩
 ·rename_i a d hd
  obtain⟨e1,_,h2,h3⟩:=R.sl i _ hd
  exact⟨.ref a,getD_some e1,q _ H d n (Ext.refl _ _) R.feed (h3.att h2) w⟩
 ·exact w.elim
theorem dv(i:Nat){x:Str}{pos:Pos}(hN:autoParam (X.N[i]?=some x) zau3._auto_1)(hv:autoParam (SJ X.env.scope x) zau5._auto_1)(hd:autoParam ((x==("__debug__" : Str))=false) zau1._auto_1)
  (hcd:autoParam ((x==("__classdict__" : Str))=false) zau1._auto_1):DE X (.Name x pos) .sh (AE i):=T3 (D_ hN hv hd hcd)
theorem EI(i:Nat){x:Str}{pos:Pos}(hN:autoParam (X.N[i]?=some x) zau3._auto_1)(hv:autoParam (SJ X.env.scope x) zau5._auto_1)(hd:autoParam ((x==("__debug__" : Str))=false) zau1._auto_1)
  (hcd:autoParam ((x==("__classdict__" : Str))=false) zau1._auto_1):DE X (.Name x pos) .tp (A0 i):=Rv (D_ hN hv hd hcd)
theorem EM{d:D}{v:V}(h:PE X e (tC v))(hd:∀M H,At X.K M H d v):DE X e .sh (wC d) :=
 ⟨_,h,λC M H n ρ σ P Q R w q=>q v H d n (Ext.refl _ _) R.feed (hd M H) w⟩
theorem AC{i:Int}{j pos}:DE X (.Constant (.int i) j pos) .sh (wC (.int i)):=EM Au λ_ _=>rfl
theorem Fp{b:Bool}{j pos}:DE X (.Constant (.bool b) j pos) .sh (wC (.bl b)):=EM Xi λ_ _=>rfl
theorem IG{j pos}:DE X (.Constant .none j pos) .sh (wC .non):=EM Vd λ_ _=>rfl
theorem AH{x:Str}{j pos}(hx:autoParam (decide (x.length<=1000)=true) zau3._auto_1):DE X (.Constant (.str x) j pos) .sh (wC (.str x)) :=
 EM Jv λ_ _=>⟨rfl,Zv (of_decide_eq_true hx) (by rw [Z2]; decide)⟩
theorem Fo{x:Str}{i:Int}{t:Tok}{pos:Pos}(hg:Gl X x)(hm:X.mg x=some (.int i t))(hd:autoParam ((x==("__debug__" : Str))=false) zau1._auto_1):DE X (.Name x pos) .sh (wC (.int i)) :=
 EM (Jw hg hm (v:=.int i) ⟨t,rfl⟩ hd) λ_ _=>rfl
noncomputable def DR(K:Frag)(κ:Kd)(r:R2)(f:D->D->(D->Prop)->Prop):Prop:=∀(U:Addr->Prop) (M:Addr->Prop) (H:Hp) (d e:D) (x y:V) (P:D->Prop) (Q:VK),(∀a,M a->∃o,H a=some o)->(∀a,U a->M a) ->
 AtT K U M H d x->AtT K U M H e y->f d e P->(∀v H' z,Grow H H'->VR K U M H H' κ v z->P z->Q v H')->r x y H Q
noncomputable def Ac(f:D->D->(D->Prop)->Prop)(wa wb:DW):DW:=λn ρ P=>wa n ρ λx n1=>wb n1 ρ λy n2=>f x y λz=>P z n2
theorem Dk{r:R2}{f:D->D->(D->Prop)->Prop}(hA:DR X.K κ r f){ta tb:TE}(ha:∀(C:Fm) (M:Addr->Prop) (H:Hp) (n:Nat) (ρ:List Slot) (σ:L2.St) (P:D->Nat->Prop) (Q:VK),Rel X.K C M H n ρ σ->wa n ρ P ->
   (∀v H' d n',Ext C.U H H'->FeedC X.K C.F M H' n'->VR X.K C.V M H H' κa v d->P d n'->Q v H')->ta σ H Q)
  (hb:∀(C:Fm) (M:Addr->Prop) (H:Hp) (n:Nat) (ρ:List Slot) (σ:L2.St) (P:D->Nat->Prop) (Q:VK),Rel X.K C M H n ρ σ->wb n ρ P ->
   (∀v H' d n',Ext C.U H H'->FeedC X.K C.F M H' n'->VR X.K C.V M H H' κb v d->P d n'->Q v H')->tb σ H Q)
  (C:Fm) (M:Addr->Prop) (H:Hp) (n:Nat) (ρ:List Slot) (σ:L2.St) (P:D->Nat->Prop) (Q:VK) (R:Rel X.K C M H n ρ σ) (w:Ac f wa wb n ρ P)
  (q:∀v H' d n',Ext C.U H H'->FeedC X.K C.F M H' n'->VR X.K C.V M H H' κ v d->P d n'->Q v H'):Cz r ta tb σ H Q:=by
 refine ha C M H n ρ σ _ _ R w λx H1 d n1 e1 f1 r1 w1=>?_
 have R1:=R.step e1 f1
 refine hb C M H1 n1 ρ σ _ _ R1 w1 λy H2 e n2 e2 f2 r2 w2=>?_
 have R2':=R1.step e2 f2
 refine hA C.V M H2 d e x y _ _ R2'.dom R2'.vM ((r1.tpOf R.dom R.vM).pres (R1.pres e2) e2 R.uV) (r2.tpOf R1.dom R1.vM) w2 λv H3 z g vr p=>?_
 exact q v H3 z n2 ((e1.trans e2).trans g.ext) (f2.grow g) (VR.back (e1.trans e2) vr) p
theorem Ab{op:Operator}{r:R2}{f:D->D->(D->Prop)->Prop}(ho:OpR X (binaryOp op) r)(hA:DR X.K κ r f)(ha:DE X a κa wa)(hb:DE X b κb wb):DE X (.BinOp a op b pos) κ (Ac f wa wb):=by
 obtain⟨ta,ha1,ha2⟩:=ha
 obtain⟨tb,hb1,hb2⟩:=hb
 exact⟨_,Bh ho ha1 hb1,λC M H n ρ σ P Q R w q=>Dk hA ha2 hb2 C M H n ρ σ P Q R w q⟩
theorem Aj{r:R2}{f:D->D->(D->Prop)->Prop}(ho:IxR X r)(hA:DR X.K κ r f)(ha:DE X a κa wa)(hb:DE X b κb wb)(hs:autoParam (OQ b) zau6._auto_1):DE X (.Subscript a b pos) κ (Ac f wa wb):=by
 obtain⟨ta,ha1,ha2⟩:=ha
 obtain⟨tb,hb1,hb2⟩:=hb
 exact⟨_,Ek ho ha1 hb1 hs,λC M H n ρ σ P Q R w q=>Dk hA ha2 hb2 C M H n ρ σ P Q R w q⟩
theorem Bm{op:CmpOp}{r:R2}{f:D->D->(D->Prop)->Prop}(ho:OpR X (compareOp op) r)(hA:DR X.K .sh r f)(ha:DE X a κa wa)(hb:DE X b κb wb)(hm:behindInMarks op b=false):DE X (.Compare a [op] [b] pos) .sh (Ac f wa wb):=by
 obtain⟨ta,ha1,ha2⟩:=ha
 obtain⟨tb,hb1,hb2⟩:=hb
 exact⟨_,S4 ho ha1 hb1 hm,λC M H n ρ σ P Q R w q=>Dk hA ha2 hb2 C M H n ρ σ P Q R w q⟩
noncomputable def Ae(w:DW):F4:=λn ρ P=>w n ρ λd n1=>match d with
 | .bl b=>P b n1
 | _=>False
theorem FY{U:Addr->Prop}{K:Frag}{M:Addr->Prop}{H H':Hp}{v:V}{b:Bool}(h:VR K U M H H' κ v (.bl b)):v=.bl b:=by
 cases κ with
 | sh=>exact h
 | tp=>exact h
 | fr=>obtain⟨a,_,_,t⟩:=h; exact(show False from t).elim
theorem Ad{op:CmpOp}{r:R2}{f:D->D->(D->Prop)->Prop}(ho:OpR X (compareOp op) r)(hA:DR X.K .sh r f)(ha:DE X a κa wa)(hb:DE X b κb wb)(hm:behindInMarks op b=false):DT X (.Compare a [op] [b] pos) (Ae (Ac f wa wb)):=by
 obtain⟨ta,ha1,ha2⟩:=ha
 obtain⟨tb,hb1,hb2⟩:=hb
 refine⟨_,Fc ho ha1 hb1 hm,λC M H n ρ σ P Q R w q=>?_⟩
 refine Dk hA ha2 hb2 C M H n ρ σ _ _ R w λv H' d n' e f r p=>?_
 cases d with
 | bl b=>exact⟨b,FY r,q b H' n' e f p⟩
 | _=>exact p.elim
theorem FI(h:DE X e κ wa)(he:autoParam (∀whole,isTrue e X.env whole=(do let v ← whole; standAt e.pos; holding [v] (truthy v))) zau2._auto_1):DT X e (Ae wa):=by
 obtain⟨t,h1,h2⟩:=h
 refine⟨_,VU h1 he,λC M H n ρ σ P Q R w q=>?_⟩
 refine h2 C M H n ρ σ _ _ R w λv H' d n' e f r p=>?_
 cases d with
 | bl b=>exact⟨b,FY r,q b H' n' e f p⟩
 | _=>exact p.elim
noncomputable def E3(f g:D->D->(D->Prop)->Prop)(wa wb wc:DW):DW:=λn ρ P=>wa n ρ λx n1=>wb n1 ρ λy n2=>f x y λz=>match z with
 | .bl true=>wc n2 ρ λu n3=>g y u λr=>P r n3
 | .bl false=>P (.bl false) n2
 | _=>False
theorem L1{r r':R2}{f g:D->D->(D->Prop)->Prop}(hA:DR X.K .sh r f)(hB:DR X.K .sh r' g){ta tb tc:TE}{κc:Kd}(ha:∀(C:Fm) (M:Addr->Prop) (H:Hp) (n:Nat) (ρ:List Slot) (σ:L2.St) (P:D->Nat->Prop) (Q:VK),Rel X.K C M H n ρ σ->wa n ρ P ->
   (∀v H' d n',Ext C.U H H'->FeedC X.K C.F M H' n'->VR X.K C.V M H H' κa v d->P d n'->Q v H')->ta σ H Q)
  (hb:∀(C:Fm) (M:Addr->Prop) (H:Hp) (n:Nat) (ρ:List Slot) (σ:L2.St) (P:D->Nat->Prop) (Q:VK),Rel X.K C M H n ρ σ->wb n ρ P ->
   (∀v H' d n',Ext C.U H H'->FeedC X.K C.F M H' n'->VR X.K C.V M H H' κb v d->P d n'->Q v H')->tb σ H Q)
  (hc:∀(C:Fm) (M:Addr->Prop) (H:Hp) (n:Nat) (ρ:List Slot) (σ:L2.St) (P:D->Nat->Prop) (Q:VK),Rel X.K C M H n ρ σ->wc n ρ P ->
   (∀v H' d n',Ext C.U H H'->FeedC X.K C.F M H' n'->VR X.K C.V M H H' κc v d->P d n'->Q v H')->tc σ H Q)
  (C:Fm) (M:Addr->Prop) (H:Hp) (n:Nat) (ρ:List Slot) (σ:L2.St) (P:D->Nat->Prop) (Q:VK) (R:Rel X.K C M H n ρ σ) (w:E3 f g wa wb wc n ρ P)
  (q:∀v H' d n',Ext C.U H H'->FeedC X.K C.F M H' n'->VR X.K C.V M H H' .sh v d->P d n'->Q v H'):MN r r' ta tb tc σ H Q:=by
 refine ha C M H n ρ σ _ _ R w λx H1 d n1 e1 f1 r1 w1=>?_
 have R1:=R.step e1 f1
 refine hb C M H1 n1 ρ σ _ _ R1 w1 λy H2 e n2 e2 f2 r2 w2=>?_
 have R2':=R1.step e2 f2
 have ty:AtT X.K C.V M H2 e y:=r2.tpOf R1.dom R1.vM
 refine hA C.V M H2 d e x y _ _ R2'.dom R2'.vM ((r1.tpOf R.dom R.vM).pres (R1.pres e2) e2 R.uV) ty w2 λv H3 z gr vr p=>?_
 have R3:=R2'.step gr.ext (f2.grow gr)
 cases z with
 | bl k =>
  refine⟨k,vr,?_⟩
  cases k with
  | false=>exact q _ H3 (.bl false) n2 ((e1.trans e2).trans gr.ext) (f2.grow gr) (show VR X.K C.V M H H3 .sh (.bl false) (.bl false) from rfl) p
  | true =>
   show tc σ H3 _
   refine hc C M H3 n2 ρ σ _ _ R3 p λu H4 d4 n4 e4 f4 r4 w4=>?_
   have R4:=R3.step e4 f4
   refine hB C.V M H4 e d4 y u _ _ R4.dom R4.vM ((ty.pres gr.pres (gr.ext (U:=C.U)) R.uV).pres (R3.pres e4) e4 R.uV) (r4.tpOf R3.dom R3.vM) w4 λv5 H5 z5 g5 vr5 p5=>?_
   exact q v5 H5 z5 n4 ((((e1.trans e2).trans gr.ext).trans e4).trans g5.ext) (f4.grow g5) vr5 p5
 | _=>exact p.elim
theorem IE{op op':CmpOp}{r r':R2}{f g:D->D->(D->Prop)->Prop}{κc:Kd}(ho:OpR X (compareOp op) r)(hA:DR X.K .sh r f)(ho':OpR X (compareOp op') r')(hB:DR X.K .sh r' g)(ha:DE X a κa wa)(hb:DE X b κb wb)(hc:DE X c κc wc)
  (hm:autoParam (lastMarks [op,op'] [b,c]=false) zau4._auto_1):DE X (.Compare a [op,op'] [b,c] pos) .sh (E3 f g wa wb wc):=by
 obtain⟨ta,ha1,ha2⟩:=ha
 obtain⟨tb,hb1,hb2⟩:=hb
 obtain⟨tc,hc1,hc2⟩:=hc
 exact⟨_,Qp ho ho' ha1 hb1 hc1 hm,λC M H n ρ σ P Q R w q=>L1 hA hB ha2 hb2 hc2 C M H n ρ σ P Q R w q⟩
theorem Rf{op op':CmpOp}{r r':R2}{f g:D->D->(D->Prop)->Prop}{κc:Kd}(ho:OpR X (compareOp op) r)(hA:DR X.K .sh r f)(ho':OpR X (compareOp op') r')(hB:DR X.K .sh r' g)(ha:DE X a κa wa)(hb:DE X b κb wb)(hc:DE X c κc wc)
  (hm:autoParam (lastMarks [op,op'] [b,c]=false) zau4._auto_1):DT X (.Compare a [op,op'] [b,c] pos) (Ae (E3 f g wa wb wc)):=by
 obtain⟨ta,ha1,ha2⟩:=ha
 obtain⟨tb,hb1,hb2⟩:=hb
 obtain⟨tc,hc1,hc2⟩:=hc
 refine⟨_,Qe ho ho' ha1 hb1 hc1 hm,λC M H n ρ σ P Q R w q=>?_⟩
 refine L1 hA hB ha2 hb2 hc2 C M H n ρ σ _ _ R w λv H' d n' e f r p=>?_
 cases d with
 | bl b=>exact⟨b,r,q b H' n' e f p⟩
 | _=>exact p.elim
noncomputable def Kw(u v:F4):F4:=λn ρ P=>u n ρ λc n1=>if c=true then v n1 ρ P else P false n1
noncomputable def FU(u v:F4):F4:=λn ρ P=>u n ρ λc n1=>if c=true then P true n1 else v n1 ρ P
noncomputable def GS(u:F4):F4:=λn ρ P=>u n ρ λc n1=>P (!c) n1
variable {wA wB:F4}{rest:List Expr}
theorem N3(h:DT X a wA):DTW X (.BoolOp .And [a] pos) wA:=by
 obtain⟨t,h1,h2⟩:=h
 exact⟨t,NW h1,h2⟩
theorem C9(h:DT X a wA):DTW X (.BoolOp .Or [a] pos) wA:=by
 obtain⟨t,h1,h2⟩:=h
 exact⟨t,VT h1,h2⟩
theorem Ra(ha:DT X a wA)(hb:DTW X (.BoolOp .And (b::rest) pos) wB):DTW X (.BoolOp .And (a::b::rest) pos) (Kw wA wB):=by
 obtain⟨t,h1,h2⟩:=ha
 obtain⟨u,g1,g2⟩:=hb
 refine⟨_,Qb h1 g1,λC M H n ρ σ P Q R w q=>?_⟩
 refine h2 C M H n ρ σ _ _ R w λc H1 n1 e1 f1 p=>?_
 cases c with
 | false=>exact q false H1 n1 e1 f1 p
 | true=>exact g2 C M H1 n1 ρ σ P Q (R.step e1 f1) p λb H2 n2 e2 f2 p2=>q b H2 n2 (e1.trans e2) f2 p2
theorem DL(ha:DT X a wA)(hb:DTW X (.BoolOp .Or (b::rest) pos) wB):DTW X (.BoolOp .Or (a::b::rest) pos) (FU wA wB):=by
 obtain⟨t,h1,h2⟩:=ha
 obtain⟨u,g1,g2⟩:=hb
 refine⟨_,Xc h1 g1,λC M H n ρ σ P Q R w q=>?_⟩
 refine h2 C M H n ρ σ _ _ R w λc H1 n1 e1 f1 p=>?_
 cases c with
 | true=>exact q true H1 n1 e1 f1 p
 | false=>exact g2 C M H1 n1 ρ σ P Q (R.step e1 f1) p λb H2 n2 e2 f2 p2=>q b H2 n2 (e1.trans e2) f2 p2
theorem DTW.dt(h:DTW X e wA):DT X e wA:=by
 obtain⟨t,h1,h2⟩:=h
 exact⟨t,h1.pt,h2⟩
theorem FJ(ha:DT X a wA):DT X (.UnaryOp .Not a pos) (GS wA):=by
 obtain⟨t,h1,h2⟩:=ha
 refine⟨_,VW h1,λC M H n ρ σ P Q R w q=>?_⟩
 exact h2 C M H n ρ σ _ _ R w λc H1 n1 e1 f1 p=>q (!c) H1 n1 e1 f1 p
noncomputable def HF(u v:DW):DW:=λn ρ P=>u n ρ λc n1=>match c with
 | .bl true=>v n1 ρ P
 | .bl false=>P (.bl false) n1
 | _=>False
noncomputable def Wu(u v:DW):DW:=λn ρ P=>u n ρ λc n1=>match c with
 | .bl true=>P (.bl true) n1
 | .bl false=>v n1 ρ P
 | _=>False
noncomputable def U_(u:DW):DW:=λn ρ P=>u n ρ λc n1=>match c with
 | .bl b=>P (.bl (!b)) n1
 | _=>False
theorem C_{op}(h:DE X a κ wa):DE X (.BoolOp op [a] pos) κ wa:=by
 obtain⟨t,h1,h2⟩:=h
 exact⟨t,Vb h1,h2⟩
theorem DA(ha:DE X a κa wa)(hb:DE X (.BoolOp .And (b::rest) pos) .sh wb):DE X (.BoolOp .And (a::b::rest) pos) .sh (HF wa wb):=by
 obtain⟨t,h1,h2⟩:=ha
 obtain⟨u,g1,g2⟩:=hb
 refine⟨_,Ve h1 g1,λC M H n ρ σ P Q R w q=>?_⟩
 refine h2 C M H n ρ σ _ _ R w λc H1 d n1 e1 f1 r1 p=>?_
 cases d with
 | bl k =>
  refine⟨k,FY r1,?_⟩
  cases k with
  | false=>exact q _ H1 _ n1 e1 f1 (show VR X.K C.V M H H1 .sh (.bl false) (.bl false) from rfl) p
  | true =>
   show u σ H1 Q
   exact g2 C M H1 n1 ρ σ P Q (R.step e1 f1) p λv H2 d n2 e2 f2 r2 p2=>q v H2 d n2 (e1.trans e2) f2 r2 p2
 | _=>exact p.elim
theorem Uw(ha:DE X a κa wa)(hb:DE X (.BoolOp .Or (b::rest) pos) .sh wb):DE X (.BoolOp .Or (a::b::rest) pos) .sh (Wu wa wb):=by
 obtain⟨t,h1,h2⟩:=ha
 obtain⟨u,g1,g2⟩:=hb
 refine⟨_,Xh h1 g1,λC M H n ρ σ P Q R w q=>?_⟩
 refine h2 C M H n ρ σ _ _ R w λc H1 d n1 e1 f1 r1 p=>?_
 cases d with
 | bl k =>
  refine⟨k,FY r1,?_⟩
  cases k with
  | true=>exact q _ H1 _ n1 e1 f1 (show VR X.K C.V M H H1 .sh (.bl true) (.bl true) from rfl) p
  | false =>
   show u σ H1 Q
   exact g2 C M H1 n1 ρ σ P Q (R.step e1 f1) p λv H2 d n2 e2 f2 r2 p2=>q v H2 d n2 (e1.trans e2) f2 r2 p2
 | _=>exact p.elim
theorem Ru(ha:DE X a κa wa):DE X (.UnaryOp .Not a pos) .sh (U_ wa):=by
 obtain⟨t,h1,h2⟩:=ha
 refine⟨_,Vc h1,λC M H n ρ σ P Q R w q=>?_⟩
 refine h2 C M H n ρ σ _ _ R w λc H1 d n1 e1 f1 r1 p=>?_
 cases d with
 | bl k=>exact⟨k,FY r1,q _ H1 _ n1 e1 f1 (show VR X.K C.V M H H1 .sh (.bl (!k)) (.bl (!k)) from rfl) p⟩
 | _=>exact p.elim
noncomputable def Wv(t:F4)(u v:DW):DW:=λn ρ P=>t n ρ λc n1=>if c=true then u n1 ρ P else v n1 ρ P
theorem Rw(hc:DT X c wA)(ha:DE X a κ wa)(hb:DE X b κ wb):DE X (.IfExp c a b pos) κ (Wv wA wa wb):=by
 obtain⟨t,h1,h2⟩:=hc
 obtain⟨u,g1,g2⟩:=ha
 obtain⟨u',k1,k2⟩:=hb
 refine⟨_,LM h1 g1 k1,λC M H n ρ σ P Q R w q=>?_⟩
 refine h2 C M H n ρ σ _ _ R w λc H1 n1 e1 f1 p=>?_
 cases c with
 | true=>exact g2 C M H1 n1 ρ σ P Q (R.step e1 f1) p λv H2 d n2 e2 f2 r2 p2=>q v H2 d n2 (e1.trans e2) f2 (VR.back e1 r2) p2
 | false=>exact k2 C M H1 n1 ρ σ P Q (R.step e1 f1) p λv H2 d n2 e2 f2 r2 p2=>q v H2 d n2 (e1.trans e2) f2 (VR.back e1 r2) p2
noncomputable def AV:Eg:=λn _ P=>P [] n
noncomputable def AB(w:DW)(ws:Eg):Eg:=λn ρ P=>w n ρ λd n1=>ws n1 ρ λds n2=>P (d::ds) n2
variable {es:List Expr}{ws:Eg}
theorem AL:U5 X [] AV:=⟨_,B1,λC M H n ρ σ P Q R w q=>q [] H [] n (Ext.refl _ _) R.feed .nil w⟩
theorem AT:We X [] AV:=⟨_,B1,λC M H n ρ σ P Q R w q=>q [] H [] n (Ext.refl _ _) R.feed rfl w⟩
theorem AG(ha:DE X e κ wa)(hr:U5 X es ws)(hs:autoParam (starEach (e::es) X.env=(false,eval e X.env)::starEach es X.env) zau3._auto_1):U5 X (e::es) (AB wa ws):=by
 obtain⟨t,h1,h2⟩:=ha
 obtain⟨u,g1,g2⟩:=hr
 refine⟨_,A9 h1 g1 hs,λC M H n ρ σ P Q R w q=>?_⟩
 refine h2 C M H n ρ σ _ _ R w λv H1 d n1 e1 f1 r1 p=>?_
 have R1:=R.step e1 f1
 refine g2 C M H1 n1 ρ σ _ _ R1 p λvs H2 ds n2 e2 f2 r2 p2=>?_
 exact q (v::vs) H2 (d::ds) n2 (e1.trans e2) f2 (.cons ((r1.tpOf R.dom R.vM).pres (R1.pres e2) e2 R.uV) r2) p2
theorem AA(ha:DE X e κ wa)(hr:We X es ws)(hk:autoParam (κ≠.tp) zau7._auto_1)(hs:autoParam (starEach (e::es) X.env=(false,eval e X.env)::starEach es X.env) zau3._auto_1):We X (e::es) (AB wa ws):=by
 obtain⟨t,h1,h2⟩:=ha
 obtain⟨u,g1,g2⟩:=hr
 refine⟨_,A9 h1 g1 hs,λC M H n ρ σ P Q R w q=>?_⟩
 refine h2 C M H n ρ σ _ _ R w λv H1 d n1 e1 f1 r1 p=>?_
 have R1:=R.step e1 f1
 refine g2 C M H1 n1 ρ σ _ _ R1 p λvs H2 ds n2 e2 f2 r2 p2=>?_
 exact q (v::vs) H2 (d::ds) n2 (e1.trans e2) f2 ⟨v,vs,rfl,(r1.shOf R.dom hk).pres (R1.pres e2),r2⟩ p2
noncomputable def Du(ws:Eg):DW:=λn ρ P=>ws n ρ λds n1=>ds.length<=sizeLine/\P (.tup ds) n1
noncomputable def Cp(ws:Eg):DW:=λn ρ P=>ws n ρ λds n1=>ds.length<=sizeLine/\P (.lst ds) n1
theorem Hw{M:Addr->Prop}{H:Hp}{p:Addr}{o:HO}(h:H p=none):Pres M H (λb=>M b\/b=p) (Ar H p o):=⟨λb u e _=>by rw [AM (BM e h)]; exact e,λb z=>z.elim .inl λz=>.inr (by rw [z]; exact h),λb vs e=>by rw [AM (BM e h)]; exact e⟩
theorem Al{H:Hp}{p:Addr}{o:HO}(h:H p=none):Grow H (Ar H p o):=.inr ⟨p,o,h,rfl⟩
theorem Bi{x1}(h:We X es ws):DE X (.Tuple es x1 pos) .sh (Du ws):=by
 obtain⟨t,h1,h2⟩:=h
 refine⟨_,Qn h1,λC M H n ρ σ P Q R w q=>?_⟩
 refine h2 C M H n ρ σ _ _ R w λvs H1 ds n1 e1 f1 r1 p=>?_
 refine⟨by rw [r1.length]; exact p.1,λa ha=>?_⟩
 have g:Grow H1 (Ar H1 a (.tup vs)):=Al ha
 refine q _ _ (.tup ds) n1 (e1.trans g.ext) (f1.grow g) ⟨a,vs,rfl,AN,r1.pres g.pres⟩ p.2
theorem BN(h:We X es ws):DE X (.List es pos) .fr (Cp ws):=by
 obtain⟨t,h1,h2⟩:=h
 refine⟨_,Ml h1,λC M H n ρ σ P Q R w q=>?_⟩
 refine h2 C M H n ρ σ _ _ R w λvs H1 ds n1 e1 f1 r1 p=>?_
 refine⟨by rw [r1.length]; exact p.1,λa ha=>?_⟩
 have g:Grow H1 (Ar H1 a (.lst vs)):=Al ha
 exact q _ _ (.lst ds) n1 (e1.trans g.ext) (f1.grow g) (VR.back e1 ⟨a,rfl,ha,vs,AN,r1.pres (Hw ha)⟩) p.2
noncomputable def Cy(K:Frag)(κ:Kd)(r:List V->Hp->VK->Prop)(f:List D->(D->Prop)->Prop):Prop:=∀(U:Addr->Prop) (M:Addr->Prop) (H:Hp) (ds:List D) (vs:List V) (P:D->Prop) (Q:VK),(∀a,M a->∃o,H a=some o)->(∀a,U a->M a) ->
 Paired (λv d=>AtT K U M H d v) vs ds->f ds P->(∀v H' z,Grow H H'->VR K U M H H' κ v z->P z->Q v H')->r vs H Q
noncomputable def CM(f:List D->(D->Prop)->Prop)(ws:Eg):DW:=λn ρ P=>ws n ρ λds n1=>f ds λz=>P z n1
theorem Ux{r:List V->Hp->VK->Prop}{f:List D->(D->Prop)->Prop}{t:TA}(hA:Cy X.K κ r f)(h2:∀(C:Fm) (M:Addr->Prop) (H:Hp) (n:Nat) (ρ:List Slot) (σ:L2.St) (P:List D->Nat->Prop) (Q:List V->Hp->Prop),Rel X.K C M H n ρ σ->ws n ρ P ->
   (∀vs H' ds n',Ext C.U H H'->FeedC X.K C.F M H' n'->Paired (λv d=>AtT X.K C.V M H' d v) vs ds->P ds n'->Q vs H')->t σ H Q)
  (C:Fm) (M:Addr->Prop) (H:Hp) (n:Nat) (ρ:List Slot) (σ:L2.St) (P:D->Nat->Prop) (Q:VK) (R:Rel X.K C M H n ρ σ) (w:CM f ws n ρ P)
  (q:∀v H' d n',Ext C.U H H'->FeedC X.K C.F M H' n'->VR X.K C.V M H H' κ v d->P d n'->Q v H'):YS r t σ H Q:=by
 refine h2 C M H n ρ σ _ _ R w λvs H1 ds n1 e1 f1 r1 p=>?_
 have R1:=R.step e1 f1
 refine hA C.V M H1 ds vs _ _ R1.dom R1.vM r1 p λv H2 z g vr pz=>?_
 exact q v H2 z n1 (e1.trans g.ext) (f1.grow g) (VR.back e1 vr) pz
theorem AY{x:Str}{id:String}{p:Pos}{r:List V->Hp->VK->Prop}{f:List D->(D->Prop)->Prop}(hc:B9 X (.builtin id) r)(hA:Cy X.K κ r f)(hg:Gl X x)(hm:X.mg x=none)(hv:bootBuiltins x=some (.builtin id))(ha:U5 X (e::es) ws)
  (hn:autoParam (x ≠ "__name__") zau1._auto_1) (hdb:autoParam ((x==("__debug__" : Str))=false) zau1._auto_1)
  (he:autoParam (starEach (e::es) X.env=(false,eval e X.env)::starEach es X.env) zau3._auto_1) (hpl:autoParam ((backTo pos (starEach es X.env)).any (·.1)=false) zau3._auto_1):DE X (.Call (.Name x p) (e::es) [] pos) κ (CM f ws):=by
 obtain⟨t,h1,h2⟩:=ha
 exact⟨_,Cf hc hg hm hv h1 hn hdb he hpl,λC M H n ρ σ P Q R w q=>Ux hA h2 C M H n ρ σ P Q R w q⟩
theorem A7{x:Str}{T:String}{p:Pos}{r:List V->Hp->VK->Prop}{f:List D->(D->Prop)->Prop}(hc:B9 X (.type T) r)(hA:Cy X.K κ r f)(hg:Gl X x)(hm:X.mg x=none)(hv:bootBuiltins x=some (.type T))(ha:U5 X (e::es) ws)
  (hn:autoParam (x ≠ "__name__") zau1._auto_1) (hdb:autoParam ((x==("__debug__" : Str))=false) zau1._auto_1)
  (he:autoParam (starEach (e::es) X.env=(false,eval e X.env)::starEach es X.env) zau3._auto_1) (hpl:autoParam ((backTo pos (starEach es X.env)).any (·.1)=false) zau3._auto_1):DE X (.Call (.Name x p) (e::es) [] pos) κ (CM f ws):=by
 obtain⟨t,h1,h2⟩:=ha
 exact⟨_,JB hc hg hm hv h1 hn hdb he hpl,λC M H n ρ σ P Q R w q=>Ux hA h2 C M H n ρ σ P Q R w q⟩
end
end Dp
namespace L2
open PySem PySem.Spec PyProof.Rows
noncomputable def ZA(z:Str):It:=⟨λi _=>i<z.cps.size,λi H x H'=>H'=H/\∃c,z.cps[i]?=some c/\x=.str ⟨#[c]⟩,λi _=>z.cps.size<=i⟩
theorem K3{P:Program}{w:World}{K:Frag}{tg:Expr}(it:Addr)(z:Str)(t:Tok)(ty:String)(hty:ty = "str_ascii_iterator"\/ty = "str_iterator")
  (W:∀A':Around,A'.handled=none->Walks P w A' it [it] [it] z.cps.size (SignAt z) (λi h=>h.IsStrIter it ty z t i)):Turn P w K tg (ZA z) [it] it (λi h=>h.IsStrIter it ty z t i) where
 mem:=by simp
 obj:=λi h st b hb=>by
  have e:b=it:=by simpa using hb
  subst e
  obtain⟨o,e,c,d⟩:=st
  exact⟨o,e,λv z=>by rw [d] at z; cases z⟩
 keep:=λi h h' st k=>let ⟨o,ho,r⟩:=st; ⟨o,k it (by simp) o ho,r⟩
 item:=by
  intro X hP hw hK hc i pins s σ H E I hf st hg
  subst hP hw hK
  obtain⟨f0,f1,f2,f3,f4,f5⟩:=hf it (by simp)
  refine(W X.A (I.ok.hd hc)).item i s _ _ hg st λv h' tk hv st' kk=>?_
  obtain⟨c,u,hcu,rfl⟩:=hv
  have I1:Inv X pins σ H { s with heap:=h',toks:=tk }:=I.turned (λb o hb e=>kk b o (by simpa using hb) e) f0 f1 f3 f4 f5
  obtain⟨o,e,cc,d⟩:=id st'
  exact⟨_,rfl,Nx (s:={ s with heap:=h',toks:=tk }) e cc d (by rcases hty with rfl | rfl <;> decide) ⟨.str ⟨#[c]⟩,H,I1,⟨_,rfl⟩,⟨rfl,c,hcu,rfl⟩,st',λb hb=>(hf b hb).1⟩⟩
 done:=by
  intro X hP hw hK hc i pins s σ H E I hf st hg
  subst hP hw hK
  obtain⟨f0,f1,f2,f3,f4,f5⟩:=hf it (by simp)
  have hx:z.cps[i]?=none:=by
   have:z.cps.size<=i:=hg
   simp [this]
  rcases hty with rfl | rfl
  ·exact wpAny_pyNext_ascii_end (I.ok.hd hc) st hx λh' eb=>⟨rfl,I.turned (t':=s.toks) (λb o hb e=>eb b o hb e) f0 f1 f3 f4 f5⟩
  ·exact wpAny_pyNext_wide_end (I.ok.hd hc) st hx λh' eb=>⟨rfl,I.turned (t':=s.toks) (λb o hb e=>eb b o hb e) f0 f1 f3 f4 f5⟩
 self:=λA i s Q E st h=>by
  rcases hty with rfl | rfl
  ·exact wpAny_pyIter_striter_ascii st h
  ·exact wpAny_pyIter_striter_wide st h
section
variable {X:Cx}{tg:Expr}
noncomputable def Yy(K:Frag)(tl:TE):TI:=λσ H R=>tl σ H λx H1 =>
 (∃a,x=.ref a/\(∃xs,SqL K H1 a xs)/\R (ZP K a) H1)\/(∃a,x=.ref a/\(∃xs,SqT K H1 a xs)/\R (Y_ K a) H1)\/∃z,x=.str z/\R (ZA z) H1
theorem Qj{l:Expr}{tl:TE}(hl:PE X l tl):PI X tg l (Yy X.K tl):=by
 intro pins s σ H R I h
 refine BB (hl pins s σ H _ I h) λv s1 ⟨x,H1,I1,r1,q1⟩=>?_
 have hne:∀b,b∈[s1.heap.objs.size]->FR X pins H1 b:=λb hb=>by
  have e:b=s1.heap.objs.size:=by simpa using hb
  subst e
  exact I1.fpOk (Go _) (I1.hok.fresh (Go _))
 rcases q1 with ⟨a,e,⟨xs,hq⟩,q⟩ | ⟨a,e,⟨xs,hq⟩,q⟩ | ⟨z,e,q⟩
 ·subst e
  cases r1
  obtain⟨its,rv,p,hz⟩:=I1.list hq
  refine cX p.isList ?_
  exact⟨s1.heap.objs.size,[s1.heap.objs.size],_,_,H1,rfl,I1.kept (t':=s1.toks) λb o e=>Ev _ e,OW a _,⟨_,XV _ rfl,rfl,rfl⟩,hne,q⟩
 ·subst e
  cases r1
  obtain⟨its,rv,p,hz⟩:=I1.tuple hq
  refine dP (show s1.heap.IsTuple a its.toArray from p) ?_
  exact⟨s1.heap.objs.size,[s1.heap.objs.size],_,_,H1,rfl,I1.kept (t':=s1.toks) λb o e=>Ev _ e,MJ a _,⟨_,XV _ rfl,rfl,rfl⟩,hne,q⟩
 ·subst e
  obtain⟨t,rfl⟩:=r1
  cases ha:z.cps.all (·<128)
  ·refine wpAny_pyIter_wide ha ?_
   exact⟨s1.heap.objs.size,[s1.heap.objs.size],_,_,H1,rfl,I1.kept (t':=s1.toks) λb o e=>Ev _ e,K3 _ z t "str_iterator" (.inr rfl) (λA' hA=>Walks.strWide hA _ z t),⟨_,XV _ rfl,rfl,rfl⟩,hne,q⟩
  ·refine wpAny_pyIter_ascii ha ?_
   exact⟨s1.heap.objs.size,[s1.heap.objs.size],_,_,H1,rfl,I1.kept (t':=s1.toks) λb o e=>Ev _ e,K3 _ z t "str_ascii_iterator" (.inl rfl) (λA' hA=>Walks.strAscii hA _ z t),⟨_,XV _ rfl,rfl,rfl⟩,hne,q⟩
end
section
variable {X:Cx}
theorem Ib(bs:List Bool):((Z0 bs.length).all λi=>(bs[i]?).getD true)=bs.all id:=by
 induction bs with
 | nil=>rfl
 | cons b r ih =>
  rw [No,cf,bg,en,bg]
  simp only [List.getElem?_cons_zero,Option.getD_some,id_eq]
  congr 1
theorem L7(hc:X.calm=true):B9 X (.builtin "all") (λxs H Q=>∃(p:Addr) (bs:List Bool),xs=[.ref p]/\SqL X.K H p (bs.map V.bl)/\Q (.bl (bs.all id)) H):=by
 intro pins s σ H xs us Q I r h
 obtain⟨p,bs,rfl,hq,q⟩:=h
 obtain⟨u,rfl,rx⟩:=vals1 r
 cases rx
 obtain⟨its,r',pl,hz⟩:=I.list hq
 have hlen:=r'.length
 have hl:s.heap.IsList p its.toArray:=pl.isList
 have hlt:p<s.heap.objs.size:=by obtain⟨_,e,_⟩:=id hl; exact Sc e
 refine call_all_walk (cX hl ?_)
 refine⟨s.heap.objs.size,[s.heap.objs.size,p],[s.heap.objs.size],its.toArray.size,_,_,λi=>(bs[i]?).getD true,rfl,Walks.list (A:=X.A.in1) (I.ok.hd hc) _ p (Zs hlt) its.toArray,
  ⟨⟨_,XV _ rfl,rfl,rfl⟩,hl.push _⟩,λi v s' Q' E' hP hQ=>?_,λh' tk hk=>?_⟩
 ·have hv:its[i]?=some v:=by simpa using hP
  have hb:∃b,bs[i]?=some b:=by
   have hi:i<its.length:=(Z1.mp hv).1
   rw [Cn] at hlen
   exact⟨bs[i]'(by omega),Op (by omega)⟩
  obtain⟨b,eb⟩:=hb
  obtain⟨u,eu,ru⟩:=r'.get (i:=i) (x:=.bl b) (by rw [Zn,eb]; rfl)
  rw [hv] at eu
  cases eu
  cases ru
  simp only [eb,Option.getD_some] at hQ
  exact aP hQ
 ·have e:((Z0 its.toArray.size).all λi=>(bs[i]?).getD true)=bs.all id:=by
   rw [Rs,← hlen,Cn]; exact Ib bs
  rw [e]
  exact⟨.bl _,H,I.kept (t':=tk) λb x e=>hk b x (λhm=>by rw [Zp.mp hm] at e; exact aU _ (Sc e)) (Ev _ e),rfl,q⟩
theorem L6:B9 X (.builtin "isinstance") (λxs H Q=>∃x T t b,xs=[x,.ty T]/\FO X.K H x t/\PySem.W.kitOne X.K t (.type T)=some b/\Q (.bl b) H):=by
 intro pins s σ H xs us Q I r h
 obtain⟨x,T,t,b,rfl,ty,e,q⟩:=h
 obtain⟨u,w',rfl,rx,rt⟩:=vals2 r
 cases rt
 exact PJ I rx ty e λtk=>⟨.bl b,H,I.tok _,rfl,q⟩
theorem O1:OpR X (compareOp .LtE) (λx y H Q=>∃i j,x=.str i/\y=.str j/\Q (.bl (!(j.cps.toList<i.cps.toList))) H):=by
 intro pins s σ H x y v u Q I rx ry h
 obtain⟨i,j,rfl,rfl,q⟩:=h
 obtain⟨t,rfl⟩:=rx
 obtain⟨t',rfl⟩:=ry
 exact PySem.P.le_str ⟨.bl _,H,I,rfl,q⟩
theorem HH{ys:List Str}:∀{us:List Value},Vals (ys.map V.str) us->StrsAre us ys:=by
 induction ys with
 | nil=>intro us r; rw [bw] at r; cases r; exact .nil
 | cons n ns ih =>
  intro us r
  rw [TW] at r
  cases r with
  | cons r1 r2 =>
   obtain⟨t,e⟩:=r1
   subst e
   exact .cons n t (ih r2)
theorem G3:YJ X "str.join" (λx xs H Q=>∃(z:Str) (p:Addr) (ys:List Str),x=.str z/\xs=[.ref p]/\SqL X.K H p (ys.map V.str)/\(ys.map (·.length)).sum+ys.length*z.length<=16777216/\Q (.str (Txt.join z ys)) H):=by
 intro pins s σ H x xs v us Q I rx rv h
 obtain⟨z,p,ys,rfl,rfl,hq,hz,q⟩:=h
 obtain⟨t,rfl⟩:=rx
 obtain⟨u,rfl,ru⟩:=vals1 rv
 cases ru
 obtain⟨its,r',pl,_⟩:=I.list hq
 exact join_list pl.isList (HH r') hz λt' k=>⟨.str _,H,I.tok _,⟨_,rfl⟩,q⟩
theorem VJ:SlR X (λx lo hi H Q=>∃z,x=.str z/\z.length<=sizeLine/\Q (.str (Txt.slice z lo hi)) H):=by
 intro pins s σ H x v vl vu lo hi sl Q I rx hs pl pu h
 obtain⟨z,rfl,hz,q⟩:=h
 obtain⟨t,rfl⟩:=rx
 refine⟨"str",_,F.slot_str_getitem.lookup,cz _ _ _,?_⟩
 have fin:∀t' k,EP X pins σ Q (.str (Txt.slice z lo hi) t') { s with toks:=k }:=λt' k=>⟨.str _,H,I.tok _,⟨_,rfl⟩,q⟩
 cases pl with
 | none =>
  cases pu with
  | none=>exact bd (l:=none) (u:=none) (st:=none) hs rfl (c7 ⟨Zv (Txt.slice_le z _ _) hz,λt' k=>fin t' k⟩)
  | int j tj=>exact bd (l:=none) (u:=some (j,tj)) (st:=none) hs rfl (c7 ⟨Zv (Txt.slice_le z _ _) hz,λt' k=>fin t' k⟩)
 | int i ti =>
  cases pu with
  | none=>exact bd (l:=some (i,ti)) (u:=none) (st:=none) hs rfl (c7 ⟨Zv (Txt.slice_le z _ _) hz,λt' k=>fin t' k⟩)
  | int j tj=>exact bd (l:=some (i,ti)) (u:=some (j,tj)) (st:=none) hs rfl (c7 ⟨Zv (Txt.slice_le z _ _) hz,λt' k=>fin t' k⟩)
theorem Oz(hu:X.A.units<cLine):OpR X (compareOp .NotEq) (λx y H Q=>∃a b xs,x=.ref a/\y=.ref b/\SqL X.K H a xs/\SqL X.K H b []/\Q (.bl (!xs.isEmpty)) H):=by
 intro pins s σ H x y v u Q I rx ry h
 obtain⟨a,b,xs,rfl,rfl,ha,hb,q⟩:=h
 cases rx
 cases ry
 obtain⟨its,r1,p1,_⟩:=I.list ha
 obtain⟨its2,r2,p2,_⟩:=I.list hb
 cases r2
 cases r1 with
 | nil=>exact SeqAt.RcNeAt.lists (e:=λ_=>true) p1.isList p2.isList rfl hu (λj h1 h2=>absurd h1 (by simp)) X.prog X.w X.xe _ ⟨.bl _,H,I,rfl,q⟩
 | cons r1 r2=>exact SeqAt.RcNeAt.lists_lengths p1.isList p2.isList (by simp) hu X.prog X.w X.xe _ ⟨.bl _,H,I,rfl,q⟩
end
end L2
namespace Dp
open PySem PySem.Spec PyProof.Rows L2
noncomputable def WS(K:Frag)(F:Option (Addr×Addr))(U V' M:Addr->Prop)(H:Hp)(n:Nat)(ss:List Slot)(vs:List V):Prop :=
 (∀a,M a->∃o,H a=some o)/\(∀f,F=some f->U f.1)/\(∀a,U a->V' a)/\(∀a,V' a->M a)/\FeedC K F M H n/\Paired (Jg K F V' M H) vs ss
noncomputable abbrev W2:=List Slot->Nat->(D->Nat->Prop)->Prop
noncomputable def E5(K:Frag)(κ:Kd)(W:W2)(np:Nat):Sp:=λvs H Q _=>vs.length=np/\∃(F:Option (Addr×Addr)) (U V' M:Addr->Prop) (n:Nat) (ss:List Slot) (P:D->Nat->Prop),WS K F U V' M H n ss vs/\W ss n P /\
 ∀v H' d n',Ext U H H'->FeedC K F M H' n'->VR K V' M H H' κ v d->P d n'->Q v H'
noncomputable def Ap(w:DW):Nat->List Slot->(Slot->Nat->Prop)->Prop:=λn ρ P=>w n ρ λd n1=>P (.sh d) n1
noncomputable def CC(w:DW):Nat->List Slot->(Slot->Nat->Prop)->Prop:=λn ρ P=>w n ρ λd n1=>P (.br d) n1
noncomputable def A_(i:Nat):Nat->List Slot->(Slot->Nat->Prop)->Prop:=λn ρ P=>match ρ[i]? with
 | some .fd=>P .fd n
 | _=>False
noncomputable def Am:UG:=λn _ P=>P [] n
noncomputable def AI(w:Nat->List Slot->(Slot->Nat->Prop)->Prop)(ws:UG):UG:=λn ρ P=>w n ρ λs n1=>ws n1 ρ λss n2=>P (s::ss) n2
noncomputable def An(W:W2)(was:UG):DW:=λn ρ P=>was n ρ λss n1=>W ss n1 P
section
variable {X:Cx}{a b c e:Expr}{es:List Expr}{κ κa κb:Kd}{wa wb wc:DW}{pos:Pos}{w1:Nat->List Slot->(Slot->Nat->Prop)->Prop}{was:UG}{ws:Eg}
theorem Aq(h:DE X e κ wa)(hk:autoParam (κ≠.tp) zau7._auto_1):Ye X e (Ap wa):=by
 obtain⟨t,h1,h2⟩:=h
 refine⟨t,h1,λC M H n ρ σ P Q R w q=>h2 C M H n ρ σ _ _ R w λv H' d n' e f r p=>?_⟩
 exact q v H' (.sh d) n' e f ⟨⟨v,rfl,r.shOf R.dom hk⟩,rfl⟩ p
theorem Do(h:DE X e κ wa):Ye X e (CC wa):=by
 obtain⟨t,h1,h2⟩:=h
 refine⟨t,h1,λC M H n ρ σ P Q R w q=>h2 C M H n ρ σ _ _ R w λv H' d n' e f r p=>?_⟩
 exact q v H' (.br d) n' e f ⟨⟨v,rfl,r.tpOf R.dom R.vM⟩,rfl⟩ p
theorem BG(i:Nat){x:Str}{pos:Pos}(hN:autoParam (X.N[i]?=some x) zau3._auto_1)(hv:autoParam (SJ X.env.scope x) zau5._auto_1)(hd:autoParam ((x==("__debug__" : Str))=false) zau1._auto_1)
  (hcd:autoParam ((x==("__classdict__" : Str))=false) zau1._auto_1):Ye X (.Name x pos) (A_ i):=by
 refine⟨_,D_ hN hv hd hcd,λC M H n ρ σ P Q R w q=>?_⟩
 unfold A_ at w
 split at w
 ·rename_i hd
  obtain⟨f,e1,h1⟩:=R.sl i _ hd
  exact⟨.ref f.1,getD_some e1,q _ H .fd n (Ext.refl _ _) R.feed ⟨⟨f,rfl,h1⟩,rfl⟩ w⟩
 ·exact w.elim
theorem AW:Wq X [] Am:=⟨_,B1,λC M H n ρ σ P Q R w q=>q [] H [] n (Ext.refl _ _) R.feed .nil w⟩
theorem AD(ha:Ye X e w1)(hr:Wq X es was)(hs:autoParam (starEach (e::es) X.env=(false,eval e X.env)::starEach es X.env) zau3._auto_1):Wq X (e::es) (AI w1 was):=by
 obtain⟨t,h1,h2⟩:=ha
 obtain⟨u,g1,g2⟩:=hr
 refine⟨_,A9 h1 g1 hs,λC M H n ρ σ P Q R w q=>?_⟩
 refine h2 C M H n ρ σ _ _ R w λv H1 d n1 e1 f1 r1 p=>?_
 have R1:=R.step e1 f1
 refine g2 C M H1 n1 ρ σ _ _ R1 p λvs H2 ds n2 e2 f2 r2 p2=>?_
 exact q (v::vs) H2 (d::ds) n2 (e1.trans e2) f2 (.cons ⟨r1.1.pres (R1.pres e2) (λ_ z=>z) e2 R.uV,r1.2⟩ r2) p2
theorem T7{k:Nat}{f:Addr}{fd:FuncData}{ps:List Str}{W:W2}{x:Str}{p:Pos}(G:A5 X.prog X.w X.K X.mg X.base Cb k f fd ps (E5 X.K κ W ps.length))(hW:∀ss n P,W ss n P->ss.length=ps.length)
  (hr:Room k X.A) (hg:Gl X x) (hm:X.mg x=some (.ref f)) (hk:keepIn X.K (.ref f)=true) (hb:Binds X.K fd ps []) (ha:Wq X (e::es) was)
  (hdb:autoParam ((x==("__debug__" : Str))=false) zau1._auto_1) (he:autoParam (starEach (e::es) X.env=(false,eval e X.env)::starEach es X.env) zau3._auto_1) (hpl:autoParam ((backTo pos (starEach es X.env)).any (·.1)=false) zau3._auto_1) :
  DE X (.Call (.Name x p) (e::es) [] pos) κ (An W was):=by
 obtain⟨t,h1,h2⟩:=ha
 refine⟨_,Nd G hr hg hm hk hb .nil Qs h1 hdb he hpl,λC M H n ρ σ P Q R w q=>?_⟩
 refine h2 C M H n ρ σ _ _ R w λvs H1 ss n1 e1 f1 r1 p=>?_
 have R1:=R.step e1 f1
 show E5 X.K κ W ps.length (vs++[]) H1 Q E0
 rw [aR]
 refine⟨(Paired.length r1).trans (hW _ _ _ p),C.F,C.U,C.V,M,n1,ss,P,⟨R1.dom,R1.fU,R1.uV,R1.vM,f1,r1⟩,p,λv H2 d n2 e2 f2 r2 p2=>?_⟩
 exact q v H2 d n2 (e1.trans e2) f2 (VR.back e1 r2) p2
noncomputable def Y8(K:Frag)(κ:Kd)(T:String)(r:V->List V->Hp->VK->Prop)(f:D->List D->(D->Prop)->Prop):Prop:=∀(U:Addr->Prop) (M:Addr->Prop) (H:Hp) (d:D) (ds:List D) (x:V) (vs:List V) (P:D->Prop) (Q:VK),(∀a,M a->∃o,H a=some o)->(∀a,U a->M a) ->
 AtT K U M H d x->Paired (λv d=>AtT K U M H d v) vs ds->f d ds P->(∀v H' z,Grow H H'->VR K U M H H' κ v z->P z->Q v H')->r x vs H Q
noncomputable def Yx(T:String)(d:D):Prop:=match d with
 | .str _=>T = "str"
 | .int _=>T = "int"
 | .lst _=>T = "list"
 | _=>False
noncomputable def UO(T:String)(f:D->List D->(D->Prop)->Prop)(wo:DW)(ws:Eg):DW:=λn ρ P=>wo n ρ λd n1=>Yx T d/\ws n1 ρ λds n2=>f d ds λz=>P z n2
theorem RC{T:String}{K:Frag}{U:Addr->Prop}{M:Addr->Prop}{H:Hp}{d:D}{x:V}(h:Yx T d)(hx:AtT K U M H d x):Yf K T x H:=by
 cases d with
 | str z=>obtain⟨e,_⟩:=hx; subst e; exact h
 | int i=>cases (show x=.int i from hx); exact h
 | lst ds=>obtain⟨a,vs,e,_,hq,_⟩:=hx; subst e; exact .inl ⟨h,vs,.inl hq⟩
 | _=>exact(show False from h).elim
theorem IF{name:Str}{apos cpos:Pos}{T id:String}{r:V->List V->Hp->VK->Prop}{f:D->List D->(D->Prop)->Prop}(pa:PlainAttrs T)(slot:PySem.Slot T name id)(hty:typeOf (.builtin id)=pure (.type "method_descriptor"))(hm:YJ X id r)
  (hA:Y8 X.K κ T r f) (ho:DE X a κa wa) (ha:U5 X (e::es) ws)
  (hbase:autoParam (attributeBase a name X.env (eval a X.env)=eval a X.env) zau3._auto_1)
  (hfew:autoParam (((backTo cpos (starEach (e::es) X.env)).all (λx=>!x.1)&&(backToKw cpos (keywordEach [] X.env)).all (λx=>x.1.isSome)
   && decide ((e::es).length+([]:List Keyword).length+(if ([]:List Keyword).isEmpty then 0 else 1)<30))=true) zau3._auto_1)
  (hline:autoParam ((apos.endLine==cpos.line)=true) zau3._auto_1) (hs:autoParam (starEach (e::es) X.env=(false,eval e X.env)::starEach es X.env) zau3._auto_1) (hplain:autoParam ((backTo cpos (starEach es X.env)).any (·.1)=false) zau3._auto_1) :
  DE X (.Call (.Attribute a name apos) (e::es) [] cpos) κ (UO T f wa ws):=by
 obtain⟨t,h1,h2⟩:=ho
 obtain⟨u,g1,g2⟩:=ha
 refine⟨_,Uj pa slot hty hm h1 g1 hbase hfew hline hs hplain,λC M H n ρ σ P Q R w q=>?_⟩
 refine h2 C M H n ρ σ _ _ R w λx H1 d n1 e1 f1 r1 p=>?_
 have R1:=R.step e1 f1
 have tx:=r1.tpOf R.dom R.vM
 refine⟨RC p.1 tx,?_⟩
 refine g2 C M H1 n1 ρ σ _ _ R1 p.2 λvs H2 ds n2 e2 f2 r2 p2=>?_
 have R2':=R1.step e2 f2
 refine hA C.V M H2 d ds x vs _ _ R2'.dom R2'.vM (tx.pres (R1.pres e2) e2 R.uV) r2 p2 λv H3 z g vr pz=>?_
 exact q v H3 z n2 ((e1.trans e2).trans g.ext) (f2.grow g) (VR.back (e1.trans e2) vr) pz
noncomputable def DO(X:Cx)(e:Option Expr)(w:Nat->List Slot->(Option Int->Nat->Prop)->Prop):Prop:=∃t,PO X e t/\∀(C:Fm) (M:Addr->Prop) (H:Hp) (n:Nat) (ρ:List Slot) (σ:L2.St) (P:Option Int->Nat->Prop) (Q:Option Int->Hp->Prop),Rel X.K C M H n ρ σ->w n ρ P ->
 (∀o H' n',Ext C.U H H'->FeedC X.K C.F M H' n'->P o n'->Q o H')->t σ H Q
noncomputable def Ax:Nat->List Slot->(Option Int->Nat->Prop)->Prop:=λn _ P=>P none n
noncomputable def BE(w:DW):Nat->List Slot->(Option Int->Nat->Prop)->Prop:=λn ρ P=>w n ρ λd n1=>match d with
 | .int i=>P (some i) n1
 | _=>False
theorem Az:DO X none Ax:=⟨_,Na,λC M H n ρ σ P Q R w q=>q none H n (Ext.refl _ _) R.feed w⟩
theorem Mz{U:Addr->Prop}{K:Frag}{M:Addr->Prop}{H H':Hp}{v:V}{i:Int}(h:VR K U M H H' κ v (.int i)):v=.int i:=by
 cases κ with
 | sh=>exact h
 | tp=>exact h
 | fr=>obtain⟨a,_,_,t⟩:=h; exact(show False from t).elim
theorem Ao(h:DE X e κ wa):DO X (some e) (BE wa):=by
 obtain⟨t,h1,h2⟩:=h
 refine⟨_,NZ h1,λC M H n ρ σ P Q R w q=>?_⟩
 refine h2 C M H n ρ σ _ _ R w λv H1 d n1 e1 f1 r1 p=>?_
 cases d with
 | int i=>exact⟨i,Mz r1,q _ H1 n1 e1 f1 p⟩
 | _=>exact p.elim
noncomputable def ZL(K:Frag)(κ:Kd)(r:V->Option Int->Option Int->Hp->VK->Prop)(f:D->Option Int->Option Int->(D->Prop)->Prop):Prop:=∀(U:Addr->Prop) (M:Addr->Prop) (H:Hp) (d:D) (x:V) (lo hi:Option Int) (P:D->Prop) (Q:VK),(∀a,M a->∃o,H a=some o)->(∀a,U a->M a) ->
 AtT K U M H d x->f d lo hi P->(∀v H' z,Grow H H'->VR K U M H H' κ v z->P z->Q v H')->r x lo hi H Q
noncomputable def F5(f:D->Option Int->Option Int->(D->Prop)->Prop)(w:DW)(wl wh:Nat->List Slot->(Option Int->Nat->Prop)->Prop):DW:=λn ρ P=>w n ρ λd n1=>wl n1 ρ λlo n2=>wh n2 ρ λhi n3=>f d lo hi λz=>P z n3
theorem BS{lo hi:Option Expr}{p2:Pos}{r:V->Option Int->Option Int->Hp->VK->Prop}{f:D->Option Int->Option Int->(D->Prop)->Prop}{wl wh:Nat->List Slot->(Option Int->Nat->Prop)->Prop}(hr:SlR X r)(hA:ZL X.K κ r f)(he:DE X e κa wa)(hl:DO X lo wl)(hh:DO X hi wh) :
  DE X (.Subscript e (.Slice lo hi none p2) pos) κ (F5 f wa wl wh):=by
 obtain⟨t,h1,h2⟩:=he
 obtain⟨u,g1,g2⟩:=hl
 obtain⟨u',k1,k2⟩:=hh
 refine⟨_,LL hr h1 g1 k1,λC M H n ρ σ P Q R w q=>?_⟩
 refine h2 C M H n ρ σ _ _ R w λv H1 d n1 e1 f1 r1 p=>?_
 have R1:=R.step e1 f1
 have tv:=r1.tpOf R.dom R.vM
 refine g2 C M H1 n1 ρ σ _ _ R1 p λlo H2 n2 e2 f2 p2=>?_
 have R2':=R1.step e2 f2
 refine k2 C M H2 n2 ρ σ _ _ R2' p2 λhi H3 n3 e3 f3 p3=>?_
 have R3:=R2'.step e3 f3
 refine hA C.V M H3 d v lo hi _ _ R3.dom R3.vM ((tv.pres (R1.pres e2) e2 R.uV).pres (R2'.pres e3) e3 R.uV) p3 λv H4 z g vr pz=>?_
 exact q v H4 z n3 (((e1.trans e2).trans e3).trans g.ext) (f3.grow g) (VR.back ((e1.trans e2).trans e3) vr) pz
end
structure E2 where
 nx:Nat->List Slot->Prop
 rt:D->Nat->Prop
 bk:Nat->List Slot->Prop:=λ_ _=>False
 ct:Nat->List Slot->Prop:=λ_ _=>False
noncomputable abbrev AS:=E2->Nat->List Slot->Prop
structure F3 (K:Frag) (C:Fm) (κ:Kd) (D2:E2) (E:Ends):Prop where
 nx:∀M H n ρ σ,Rel K C M H n ρ σ->D2.nx n ρ->E.nx σ H
 rt:∀v H d n,Ext C.U C.H0 H->FeedC K C.F C.M0 H n->VR K C.V C.M0 C.H0 H κ v d->D2.rt d n->E.rt v H
 bk:∀M H n ρ σ,Rel K C M H n ρ σ->D2.bk n ρ->E.bk σ H
 ct:∀M H n ρ σ,Rel K C M H n ρ σ->D2.ct n ρ->E.ct σ H
noncomputable def DS(X:Cx)(κ:Kd)(st:Stmt)(w:AS):Prop:=∃t,PS X st t/\∀(C:Fm) (M:Addr->Prop) (H:Hp) (n:Nat) (ρ:List Slot) (σ:L2.St) (D2:E2) (E:Ends),Rel X.K C M H n ρ σ->F3 X.K C κ D2 E->w D2 n ρ->t E σ H
noncomputable def Pq(X:Cx)(κ:Kd)(st:List Stmt)(w:AS):Prop:=∃t,PSs X st t/\∀(C:Fm) (M:Addr->Prop) (H:Hp) (n:Nat) (ρ:List Slot) (σ:L2.St) (D2:E2) (E:Ends),Rel X.K C M H n ρ σ->F3 X.K C κ D2 E->w D2 n ρ->t E σ H
noncomputable def A2:AS:=λD2 n ρ=>D2.nx n ρ
noncomputable def Ai(u v:AS):AS:=λD2 n ρ=>u { D2 with nx:=v D2 } n ρ
noncomputable def A1(w:DW):AS:=λD2 n ρ=>w n ρ λd n1=>D2.rt d n1
noncomputable def BP(t:F4)(u v:AS):AS:=λD2 n ρ=>t n ρ λc n1=>if c=true then u D2 n1 ρ else v D2 n1 ρ
noncomputable def Bc(i:Nat)(w:DW):AS:=λD2 n ρ=>w n ρ λd n1=>D2.nx n1 (ρ.set i (.sh d))
section
variable {X:Cx}{κ κe:Kd}{st:Stmt}{rest:List Stmt}{u v:AS}{wa:DW}{wA:F4}{e c:Expr}{pos:Pos}
theorem Ag:Pq X κ [] A2:=⟨_,Ju,λC M H n ρ σ D2 E R L w=>L.nx M H n ρ σ R w⟩
theorem AF(h1:DS X κ st u)(h2:Pq X κ rest v):Pq X κ (st::rest) (Ai u v):=by
 obtain⟨t,a1,a2⟩:=h1
 obtain⟨t',b1,b2⟩:=h2
 refine⟨_,BK a1 b1,λC M H n ρ σ D2 E R L w=>?_⟩
 exact a2 C M H n ρ σ { D2 with nx:=v D2 } { E with nx:=t' E } R ⟨λM H n ρ σ R w=>b2 C M H n ρ σ D2 E R L w,L.rt,L.bk,L.ct⟩ w
theorem AJ(h1:DS X κ st u):Pq X κ [st] u:=by
 obtain⟨t,a1,a2⟩:=h1
 exact⟨t,Ct a1,a2⟩
theorem VN{K:Frag}{C:Fm}{M:Addr->Prop}{H H':Hp}{n n':Nat}{ρ:List Slot}{σ:L2.St}{D2:E2}{E:Ends}{d:D}{v:V}(R:Rel K C M H n ρ σ)(L:F3 K C κ D2 E)(e:Ext C.U H H')(f:FeedC K C.F M H' n')(r:VR K C.V M H H' κ v d)(hk:κ≠.tp)(p:D2.rt d n'):E.rt v H':=by
 have less:Pres M H' C.M0 H':=Pres.less R.sub
 refine L.rt v H' d n' (R.ext.trans e) (f.pres less λ_ _ _ z=>z) ?_ p
 cases κ with
 | sh=>exact At.pres less r
 | tp=>exact absurd rfl hk
 | fr =>
  have r':=VR.back (κ:=.fr) R.ext r
  obtain⟨a,e1,h1,h2⟩:=r'
  exact⟨a,e1,h1,h2.pres (Pres.less λb z=>z.imp (R.sub b) id) λ_ z=>z⟩
theorem AZ(h:DE X e κ wa)(hk:autoParam (κ≠.tp) zau7._auto_1):DS X κ (.Return (some e) pos) (A1 wa):=by
 obtain⟨t,a1,a2⟩:=h
 refine⟨_,GC a1,λC M H n ρ σ D2 E R L w=>?_⟩
 exact a2 C M H n ρ σ _ _ R w λv H' d n' e1 f1 r1 p=>VN R L e1 f1 r1 hk p
theorem A3{a b:List Stmt}(hc:DT X c wA)(ha:Pq X κ a u)(hb:Pq X κ b v):DS X κ (.If c a b pos) (BP wA u v):=by
 obtain⟨t,a1,a2⟩:=hc
 obtain⟨t',b1,b2⟩:=ha
 obtain⟨t'',c1,c2⟩:=hb
 refine⟨_,NY a1 b1 c1,λC M H n ρ σ D2 E R L w=>?_⟩
 refine a2 C M H n ρ σ _ _ R w λb H1 n1 e1 f1 p=>?_
 cases b with
 | true=>exact b2 C M H1 n1 ρ σ D2 E (R.step e1 f1) L p
 | false=>exact c2 C M H1 n1 ρ σ D2 E (R.step e1 f1) L p
theorem Aw{i:Nat}{x:Str}{pos':Pos}(hN:X.N.Nodup)(hi:X.N[i]?=some x)(hx:Loc X.env.scope x)(he:DE X e κe wa)(hk:autoParam (κe≠.tp) zau7._auto_1)(hs:autoParam (swapsWith e (some (.Name x pos')) pos.line X.env=pure false) zau3._auto_1)
  (hf:autoParam (X.fn x=true\/X.env.scope.names.lookup x=some .local) zau0._auto_1):DS X κ (.Assign [.Name x pos'] e pos) (Bc i wa):=by
 obtain⟨t,a1,a2⟩:=he
 refine⟨_,FA hN hi hx a1 hs hf,λC M H n ρ σ D2 E R L w=>?_⟩
 refine a2 C M H n ρ σ _ _ R w λv H' d n' e1 f1 r1 p=>?_
 exact L.nx M H' n' _ _ ((R.step e1 f1).set (r1.shOf R.dom hk)) p
end
section
variable {X:Cx}{κ κe:Kd}{e:Expr}{wa:DW}{pos:Pos}
noncomputable def Dv(i:Nat)(w:DW):AS:=λD2 n ρ=>w n ρ λd n1=>D2.nx n1 (ρ.set i (.ow d))
theorem Di{i:Nat}{x:Str}{pos':Pos}(hN:X.N.Nodup)(hi:X.N[i]?=some x)(hx:Loc X.env.scope x)(he:DE X e .fr wa)(hs:autoParam (swapsWith e (some (.Name x pos')) pos.line X.env=pure false) zau3._auto_1)
  (hf:autoParam (X.fn x=true\/X.env.scope.names.lookup x=some .local) zau0._auto_1):DS X κ (.Assign [.Name x pos'] e pos) (Dv i wa):=by
 obtain⟨t,a1,a2⟩:=he
 refine⟨_,FA hN hi hx a1 hs hf,λC M H n ρ σ D2 E R L w=>?_⟩
 refine a2 C M H n ρ σ _ _ R w λv H' d n' e1 f1 r1 p=>?_
 obtain⟨a,rfl,h1,h2⟩:=r1
 exact L.nx _ H' n' _ _ (R.setOw e1 f1 h1 h2) p
noncomputable def Px(i:Nat):AS:=λD2 n ρ=>∃d,ρ[i]?=some (.ow d)/\D2.rt d n
theorem N4{x:Str}{p:Pos}(i:Nat)(h:PE X (.Name x p) (Bl i)):DS X .fr (.Return (some (.Name x p)) pos) (Px i):=by
 refine⟨_,GC h,λC M H n ρ σ D2 E R L ⟨d,hd,hw⟩=>?_⟩
 obtain⟨a,e1,m,nv,t⟩:=R.sl i _ hd
 refine⟨.ref a,getD_some e1,L.rt _ H d n R.ext (R.feed.pres (Pres.less R.sub) λ_ _ _ z=>z) ⟨a,rfl,(R.new i _ a hd rfl e1).2,?_⟩ hw⟩
 exact t.pres (Pres.less λb z=>z.elim (R.sub b) λz=>by rw [z]; exact m) λ_ z=>z
noncomputable def WV(K:Frag)(r:V->List V->Hp->VK->Prop)(f:D->List D->(D->D->Prop)->Prop):Prop:=∀(M:Addr->Prop) (H:Hp) (a:Addr) (d:D) (ds:List D) (vs:List V) (P:D->D->Prop) (Q:VK),M a->Tops K M H a d->Ats K M H ds vs->f d ds P ->
 (∀o e z v,Tops K M (Ar H a o) a e->At K M (Ar H a o) z v->P e z->Q v (Ar H a o))->r (.ref a) vs H Q
noncomputable def SN(i:Nat)(T:String)(f:D->List D->(D->D->Prop)->Prop)(ws:Eg):AS:=λD2 n ρ=>∃d,ρ[i]?=some (.ow d)/\Yx T d/\ws n ρ λds n1=>f d ds λe _=>D2.nx n1 (ρ.set i (.ow e))
theorem Fd{M:Addr->Prop}{H:Hp}{a:Addr}{o u:HO}(m:M a)(e:H a=some u)(t:autoParam (∀vs,u≠.tup vs) zau8._auto_1):Pres M H M (Ar H a o):=⟨λb o' q nb=>by rw [AM (λz=>nb (by rw [z]; exact m))]; exact q,λ_ z=>.inl z,λb vs q=>by rw [AM (λz=>by rw [z,e] at q; exact t vs (T0 q))]; exact q⟩
theorem Fn{x name:Str}{p apos cpos:Pos}{T id:String}{r:V->List V->Hp->VK->Prop}{f:D->List D->(D->D->Prop)->Prop}{es:List Expr}{ws:Eg}(i:Nat)(pa:PlainAttrs T)(slot:PySem.Slot T name id)(hty:typeOf (.builtin id)=pure (.type "method_descriptor"))
  (hm:YJ X id r) (hA:WV X.K r f) (h:PE X (.Name x p) (Bl i)) (ha:We X (e::es) ws)
  (hbase:autoParam (attributeBase (.Name x p) name X.env (eval (.Name x p) X.env)=eval (.Name x p) X.env) zau3._auto_1)
  (hfew:autoParam (((backTo cpos (starEach (e::es) X.env)).all (λx=>!x.1)&&(backToKw cpos (keywordEach [] X.env)).all (λx=>x.1.isSome)
   && decide ((e::es).length+([]:List Keyword).length+(if ([]:List Keyword).isEmpty then 0 else 1)<30))=true) zau3._auto_1)
  (hline:autoParam ((apos.endLine==cpos.line)=true) zau3._auto_1) (hs:autoParam (starEach (e::es) X.env=(false,eval e X.env)::starEach es X.env) zau3._auto_1) (hplain:autoParam ((backTo cpos (starEach es X.env)).any (·.1)=false) zau3._auto_1)
  (hsw:autoParam (swapsWith (.Call (.Attribute (.Name x p) name apos) (e::es) [] cpos) none pos.line X.env=pure false) zau3._auto_1) :
  DS X κ (.Expr (.Call (.Attribute (.Name x p) name apos) (e::es) [] cpos) pos) (SN i T f ws):=by
 obtain⟨t,a1,a2⟩:=ha
 refine⟨_,Sn (Uj pa slot hty hm h a1 hbase hfew hline hs hplain) hsw,λC M H n ρ σ D2 E R L ⟨d,hd,hT,hw⟩=>?_⟩
 obtain⟨a,e1,m,nv,tt⟩:=R.sl i _ hd
 refine⟨.ref a,getD_some e1,RC hT (tt.att nv),?_⟩
 refine a2 C M H n ρ σ _ _ R hw λvs H1 ds n1 ee f1 r1 p=>?_
 have R1:=R.step ee f1
 obtain⟨a',e1',m',nv',tt'⟩:=R1.sl i _ hd
 rw [e1] at e1'
 cases e1'
 exact hA M H1 a d ds vs _ _ m' tt' r1 p λo d' z v t2 hz pp=>L.nx M _ n1 _ σ (R1.mut hd e1 t2) pp
noncomputable def M7(d:D)(ds:List D)(P:D->D->Prop):Prop:=∃xs y,d=.lst xs/\ds=[y]/\xs.length<sizeLine/\P (.lst (xs++[y])) .non
theorem Jd{K:Frag}:WV K NV M7:=by
 intro M H a d ds vs P Q m t hv w q
 obtain⟨xs,y,rfl,rfl,hl,w⟩:=w
 obtain⟨us,h1,h2⟩:=t
 obtain⟨u,r,rfl,hu,hr⟩:=hv
 cases (show r=[] from hr)
 refine⟨a,us,u,rfl,rfl,h1,by rw [h2.length]; exact hl,q _ (.lst (xs++[y])) .non _ ⟨us++[u],AN,?_⟩ rfl w⟩
 exact(h2.append (Ats.one hu)).pres (Fd m h1)
noncomputable def Tl(d:D)(ds:List D)(P:D->D->Prop):Prop:=∃xs ys,d=.lst xs/\ds=[.lst ys]/\xs.length+ys.length<=sizeLine/\P (.lst (xs++ys)) .non
theorem SH{K:Frag}:WV K NT Tl:=by
 intro M H a d ds vs P Q m t hv w q
 obtain⟨xs,ys,rfl,rfl,hl,w⟩:=w
 obtain⟨us,h1,h2⟩:=t
 obtain⟨u,r,rfl,hu,hr⟩:=hv
 cases (show r=[] from hr)
 obtain⟨b,zs,rfl,hb,hz⟩:=hu
 refine⟨a,b,us,zs,rfl,rfl,h1,hb.2,by rw [h2.length,hz.length]; exact hl,q _ (.lst (xs++ys)) .non _ ⟨us++zs,AN,?_⟩ rfl w⟩
 exact(h2.append hz).pres (Fd m h1)
end
noncomputable def Yields(K:Frag)(M:Addr->Prop)(H:Hp)(J:It)(ds:List D):Prop:=∀(i:Nat) (M':Addr->Prop) (H':Hp),Pres M H M' H'->(∀a,M' a->∃o,H' a=some o) ->
 (∀d,ds[i]?=some d->J.go i H'/\∀x H2,J.yld i H' x H2->Grow H' H2/\At K M' H2 d x)/\(ds.length<=i->J.stop i H')
noncomputable def OF(K:Frag)(U M:Addr->Prop)(H:Hp)(J:It)(ds:List D):Prop:=∀(i:Nat) (M':Addr->Prop) (H':Hp),Pres M H M' H'->Ext U H H'->(∀a,M' a->∃o,H' a=some o) ->
 (∀d,ds[i]?=some d->J.go i H'/\∀x H2,J.yld i H' x H2->Grow H' H2/\At K M' H2 d x)/\(ds.length<=i->J.stop i H')
theorem Yields.e{K:Frag}{U M:Addr->Prop}{H:Hp}{J:It}{ds:List D}(h:Yields K M H J ds):OF K U M H J ds:=λi M' H' p _ d=>h i M' H' p d
noncomputable def Wp(X:Cx)(tg iter:Expr)(w:Eg):Prop:=∃wi,PI X tg iter wi/\∀(C:Fm) (M:Addr->Prop) (H:Hp) (n:Nat) (ρ:List Slot) (σ:L2.St) (P:List D->Nat->Prop) (R:It->Hp->Prop),Rel X.K C M H n ρ σ->w n ρ P ->
 (∀J H' ds n',Ext C.U H H'->FeedC X.K C.F M H' n'->OF X.K C.U M H' J ds->P ds n'->R J H')->wi σ H R
noncomputable def DI(X:Cx)(tg iter:Expr)(w:Eg):Prop:=∃wi,PI X tg iter wi/\∀(C:Fm) (M:Addr->Prop) (H:Hp) (n:Nat) (ρ:List Slot) (σ:L2.St) (P:List D->Nat->Prop) (R:It->Hp->Prop),Rel X.K C M H n ρ σ->w n ρ P ->
 (∀J H' ds n',Ext C.U H H'->FeedC X.K C.F M H' n'->Yields X.K M H' J ds->P ds n'->R J H')->wi σ H R
noncomputable def signs(x:Str):List D:=x.cps.toList.map λc=>.str ⟨#[c]⟩
noncomputable def CS(w:DW):Eg:=λn ρ P=>w n ρ λd n1=>match d with
 | .lst ds=>P ds n1
 | .tup ds=>P ds n1
 | .str x=>P (signs x) n1
 | _=>False
theorem MI{K:Frag}{M:Addr->Prop}{H:Hp}{a:Addr}{vs:List V}{ds:List D}(h:NdT M H a vs)(hs:Ats K M H ds vs):Yields K M H (Y_ K a) ds:=by
 intro i M' H' p _
 have hq:SqT K H' a vs:=(h.pres p).sq
 refine⟨λd hd=>?_,λhl=>⟨vs,hq,by rw [hs.length]; exact hl⟩⟩
 obtain⟨v,e,hv⟩:=(hs.pres p).get hd
 refine⟨⟨vs,v,hq,e⟩,λx H2 y=>?_⟩
 obtain⟨e2,y⟩:=y
 subst e2
 have:some v=some x:=e.symm.trans (y vs hq)
 cases this
 exact⟨.refl,hv⟩
theorem yields_str{K:Frag}{M:Addr->Prop}{H:Hp}{z:Str}:Yields K M H (ZA z) (signs z):=by
 intro i M' H' p _
 refine⟨λd hd=>?_,λhl=>?_⟩
 ·unfold signs at hd
  rw [Zn] at hd
  have hi:i<z.cps.size:=by
   cases q:z.cps.toList[i]? with
   | none=>rw [q] at hd; cases hd
   | some c=>simpa using (Z1.mp q).1
  refine⟨hi,λx H2 y=>?_⟩
  obtain⟨e2,c,hc,rfl⟩:=y
  subst e2
  have:z.cps.toList[i]?=some c:=by simpa using hc
  rw [this] at hd
  have hd':D.str ⟨#[c]⟩=d:=T0 hd
  subst hd'
  exact⟨.refl,rfl,by rw [Z2]; show 1<=16777216; decide⟩
 ·show z.cps.size<=i
  unfold signs at hl
  simpa using hl
noncomputable def CF(lo:Int)(n:Nat):List D:=(Z0 n).map fun(i:Nat)=>.int (lo+(i:Int))
theorem FS{K:Frag}{M:Addr->Prop}{H:Hp}{lo:Int}{m:Nat}:Yields K M H (YK lo m) (CF lo m):=by
 intro i M' H' p _
 refine⟨λd hd=>?_,λhl=>?_⟩
 ·unfold CF at hd
  rw [Zn] at hd
  have hi:i<m:=by
   cases q:(Z0 m)[i]? with
   | none=>rw [q] at hd; cases hd
   | some c=>simpa using (Z1.mp q).1
  rw [List.getElem?_range hi] at hd
  have hd':D.int (lo+i)=d:=T0 hd
  subst hd'
  refine⟨hi,λx H2 y=>?_⟩
  obtain⟨e2,e3⟩:=y
  subst e2
  exact⟨.refl,e3⟩
 ·show m<=i
  unfold CF at hl
  simpa using hl
section
variable {X:Cx}{tg e e2:Expr}{es:List Expr}{κ:Kd}{wa:DW}{ws:Eg}{p pos:Pos}
noncomputable def GR(ws:Eg):Eg:=λn ρ P=>ws n ρ λds n1=>∃j:Int,ds=[.int j]/\(-(2 ^ 62)<=j/\j<2 ^ 62)/\P (CF 0 j.toNat) n1
theorem CJ(hg:Gl X "range")(hm:X.mg "range"=none)(ha:U5 X [e] ws)(hs:autoParam (starEach [e] X.env=[(false,eval e X.env)]) zau3._auto_1):DI X tg (.Call (.Name "range" p) [e] [] pos) (GR ws):=by
 obtain⟨t,a1,a2⟩:=ha
 refine⟨_,Ox hg hm a1 hs,λC M H n ρ σ P Rr R w q=>?_⟩
 refine a2 C M H n ρ σ _ _ R w λvs H1 ds n1 e1 f1 r1 p=>?_
 obtain⟨j,rfl,hj,p⟩:=p
 cases r1 with
 | cons r rr =>
  cases rr
  have hv:_=V.int j:=r
  exact⟨j,by rw [hv],hj.1,hj.2,q _ H1 _ n1 e1 f1 FS p⟩
theorem DI.c(h:DI X tg e ws):Wp X tg e ws:=by
 obtain⟨wi,a1,a2⟩:=h
 exact⟨wi,a1,λC M H n ρ σ P Rr R w q=>a2 C M H n ρ σ P Rr R w λJ H' ds n' e1 f1 y p=>q J H' ds n' e1 f1 y.e p⟩
theorem B5(h:DE X e κ wa):Wp X tg e (CS wa):=by
 obtain⟨t,a1,a2⟩:=h
 refine⟨_,Qj a1,λC M H n ρ σ P Rr R w q=>?_⟩
 refine a2 C M H n ρ σ _ _ R w λv H1 d n1 e1 f1 r1 p=>?_
 have hv:AtT X.K C.V M H1 d v:=r1.tpOf R.dom R.vM
 cases d with
 | lst ds =>
  obtain⟨a,vs,e,nv,hr,hs⟩:=hv
  refine .inl ⟨a,e,⟨vs,.inl hr⟩,q _ H1 ds n1 e1 f1 (λi M' H' pr ex _=>?_) p⟩
  have hq:SqL X.K H' a vs:=by
   rcases hr with hr | ⟨o,hr⟩
   ·exact .inl (.inl (ex.keep hr λz=>nv (R.uV a z)))
   ·exact .inl (.inr ⟨o,ex.keep hr λz=>nv (R.uV a z)⟩)
  refine⟨λd hd=>?_,λhl=>⟨vs,hq,by rw [hs.length]; exact hl⟩⟩
  obtain⟨v,e,hv⟩:=(hs.pres pr).get hd
  refine⟨⟨vs,v,hq,e⟩,λx H2 y=>?_⟩
  obtain⟨e2,y⟩:=y
  subst e2
  have:some v=some x:=e.symm.trans (y vs hq)
  cases this
  exact⟨.refl,hv⟩
 | tup ds =>
  obtain⟨a,vs,e,hn,hs⟩:=hv
  exact .inr (.inl ⟨a,e,⟨vs,hn.sq⟩,q _ H1 ds n1 e1 f1 (MI hn hs).e p⟩)
 | str z=>exact .inr (.inr ⟨z,hv.1,q _ H1 _ n1 e1 f1 yields_str.e p⟩)
 | _=>exact p.elim
end
noncomputable abbrev BW:=D->List Slot->(List Slot->Prop)->Prop
noncomputable def DG(X:Cx)(tg:Expr)(b:BW):Prop:=∃g,PG X tg g/\∀(C:Fm) (M:Addr->Prop) (H:Hp) (n:Nat) (ρ:List Slot) (σ:L2.St) (d:D) (v:V) (P:List Slot->Prop) (Q:L2.St->Hp->Prop),Rel X.K C M H n ρ σ->At X.K M H d v->b d ρ P ->
 (∀ρ' σ',Rel X.K C M H n ρ' σ'->P ρ'->Q σ' H)->g v σ H Q
noncomputable def BH(i:Nat):BW:=λd ρ P=>P (ρ.set i (.sh d))
theorem Ay{X:Cx}{i:Nat}{x:Str}{pos:Pos}(hN:X.N.Nodup)(hi:X.N[i]?=some x)(hx:Loc X.env.scope x)(hf:autoParam (X.fn x=true\/X.env.scope.names.lookup x=some .local) zau0._auto_1):DG X (.Name x pos) (BH i) :=
 ⟨_,Sy hN hi hx hf,λC M H n ρ σ d v P Q R h w q=>q _ _ (R.set h) w⟩
noncomputable def Bk(b:BW)(body:AS)(D2:E2):List D->Nat->List Slot->Prop
 | [],n,ρ=>D2.nx n ρ
 | d::ds,n,ρ=>b d ρ λρ1=>body { D2 with nx:=Bk b body D2 ds,ct:=Bk b body D2 ds,bk:=D2.nx } n ρ1
noncomputable def OU(src:Eg)(b:BW)(body:AS):AS:=λD2 n ρ=>src n ρ λds n1=>Bk b body D2 ds n1 ρ
theorem Rel.unpin{K:Frag}{C:Fm}{p:(Addr->Prop)×Hp}{M:Addr->Prop}{H:Hp}{n:Nat}{ρ:List Slot}{σ:L2.St}(R:Rel K { C with pins:=p::C.pins } M H n ρ σ):Rel K C M H n ρ σ :=
 ⟨R.len,R.sub,R.dom,R.ext,R.fU,R.uV,R.vM,R.feed,R.sl,λq hq=>R.pin q (Is _ hq),R.br0,R.new,R.two,R.kept⟩
theorem Rel.pinned{K:Frag}{C:Fm}{M:Addr->Prop}{H:Hp}{n:Nat}{ρ:List Slot}{σ:L2.St}(R:Rel K C M H n ρ σ):Rel K { C with pins:=(M,H)::C.pins } M H n ρ σ :=
 ⟨R.len,R.sub,R.dom,R.ext,R.fU,R.uV,R.vM,R.feed,R.sl,λq hq=>(UF.mp hq).elim (λe=>e▸Pres.refl M H) (R.pin q),R.br0,R.new,R.two,R.kept⟩
section
variable {X:Cx}{κ:Kd}{tg iter:Expr}{body:List Stmt}{src:Eg}{b:BW}{wb:AS}{pos:Pos}
theorem IC(hp:PassesOwn (model X.prog X.w) X.A X.env X.xe)(hc:X.calm=true)(hi:DI X tg iter src)(hg:DG X tg b)(hb:Pq X κ body wb)
  (hs:autoParam (∀x,foldedSetIterable iter X.env x=pure x) zau2._auto_1):DS X κ (.For tg iter body [] pos) (OU src b wb):=by
 obtain⟨wi,a1,a2⟩:=hi
 obtain⟨g,g1,g2⟩:=hg
 obtain⟨tb,b1,b2⟩:=hb
 refine⟨_,Me hp hc a1 g1 b1 hs,λC M H n ρ σ D2 E R L w=>?_⟩
 refine a2 C M H n ρ σ _ _ R w λJ H1 ds n1 e1 f1 y w1=>?_
 have R1:=R.step e1 f1
 refine⟨λi m σ' H'=>m=ds.length - i/\i<=ds.length/\∃M' n' ρ',Rel X.K { C with pins:=(M,H1)::C.pins } M' H' n' ρ' σ'/\Bk b wb D2 (ds.drop i) n' ρ',⟨ds.length,by simp,Zt _,M,n1,ρ,R1.pinned,w1⟩,?_⟩
 rintro i m σ' H' ⟨rfl,hi,M',n',ρ',R',w'⟩
 have pr:Pres M H1 M' H':=R'.pin (M,H1) On
 by_cases hlt:i<ds.length
 ·have ed:ds.drop i=ds[i]::ds.drop (i+1):=ay hlt
  rw [ed] at w'
  obtain⟨go,yl⟩:=(y i M' H' pr R'.dom).1 ds[i] (Op hlt)
  refine .inr ⟨go,λσ2 H2=>∃M2 n2 ρ2,Rel X.K { C with pins:=(M,H1)::C.pins } M2 H2 n2 ρ2 σ2/\Bk b wb D2 (ds.drop (i+1)) n2 ρ2,λσ2 H2 ⟨M2,n2,ρ2,R2',w2⟩=>⟨ds.length - (i+1),by omega,rfl,hlt,M2,n2,ρ2,R2',w2⟩,λx H2 hy=>?_⟩
  obtain⟨gr,hx⟩:=yl x H2 hy
  have R2':=R'.step gr.ext (R'.feed.grow gr)
  refine g2 _ M' H2 n' ρ' σ' ds[i] x _ _ R2' hx w' λρ3 σ3 R3 w3=>?_
  refine b2 _ M' H2 n' ρ3 σ3 { D2 with nx:=Bk b wb D2 (ds.drop (i+1)),ct:=Bk b wb D2 (ds.drop (i+1)),bk:=D2.nx } _ R3 ⟨λM4 H4 n4 ρ4 σ4 R4 w4=>⟨M4,n4,ρ4,R4,w4⟩,L.rt,λM4 H4 n4 ρ4 σ4 R4 w4=>L.nx M4 H4 n4 ρ4 σ4 R4.unpin w4,λM4 H4 n4 ρ4 σ4 R4 w4=>⟨M4,n4,ρ4,R4,w4⟩⟩ w3
 ·have e:i=ds.length:=by omega
  subst e
  rw [cj] at w'
  exact .inl ⟨(y _ M' H' pr R'.dom).2 (Go _),L.nx M' H' n' ρ' σ' R'.unpin w'⟩
end
noncomputable def EA(b:BW)(tt:F4)(te:DW)(P:List D->Nat->Prop):List D->List D->Nat->List Slot->Prop
 | [],acc,n,_=>P acc n
 | d::ds,acc,n,ρ=>b d ρ λρ1=>tt n ρ1 λc n1=>if c=true then te n1 ρ1 λy n2=>EA b tt te P ds (acc++[y]) n2 ρ1 else EA b tt te P ds acc n1 ρ1
noncomputable def O8:Slot->Slot
 | .ow d=>.br d
 | .lt _ d=>.br d
 | s=>s
theorem O7(s:Slot):(O8 s).owns=false:=by cases s <;> rfl
theorem Dd{js:List (Option Nat)}{ρ:List Slot}{i:Nat}{s:Slot}(h:(js.map λo=>match o with | some i=>O8 ((ρ[i]?).getD .no) | none=>Slot.no)[i]?=some s):s.owns=false:=by
 rw [Zn] at h
 cases q:js[i]? with
 | none=>rw [q] at h; cases h
 | some o =>
  rw [q] at h
  cases o with
  | none =>
   have e:Slot.no=s:=T0 h
   rw [← e]; rfl
  | some j =>
   have e:O8 ((ρ[j]?).getD .no)=s:=T0 h
   rw [← e]; exact O7 _
noncomputable def Fh(js:List (Option Nat))(ρ:List Slot):List Slot:=js.map λo=>match o with
 | some i=>O8 ((ρ[i]?).getD .no)
 | none=>.no
noncomputable def CB(js:List (Option Nat))(src:Eg)(b:BW)(tt:F4)(te:DW):DW:=λn ρ P=>src n ρ λds n1=>ds.length<=10000000/\EA b tt te (λacc n2=>P (.lst acc) n2) ds [] n1 (Fh js ρ)
noncomputable def Wo(X:Cx)(ifs:List Expr)(w:F4):Prop:=∃t,YE X ifs t/\∀(C:Fm) (M:Addr->Prop) (H:Hp) (n:Nat) (ρ:List Slot) (σ:L2.St) (P:Bool->Nat->Prop) (Q:Bool->Hp->Prop),Rel X.K C M H n ρ σ->w n ρ P ->
 (∀b H' n',Ext C.U H H'->FeedC X.K C.F M H' n'->P b n'->Q b H')->t σ H Q
noncomputable def Eh:F4:=λn _ P=>P true n
theorem Bp{X:Cx}:Wo X [] Eh:=⟨_,Su,λC M H n ρ σ P Q R w q=>q true H n (Ext.refl _ _) R.feed w⟩
theorem N6{X:Cx}{c:Expr}{w:F4}(h:DT X c w):Wo X [c] w:=by
 obtain⟨t,h1,h2⟩:=h
 exact⟨t,Ss h1,h2⟩
theorem JJ{js:List (Option Nat)}{ρ:List Slot}{σ:L2.St}{i:Nat}{s:Slot}(hs:(Fh js ρ)[i]?=some s):s=.no\/∃(j:Nat) (s':Slot),ρ[j]?=some s'/\s=O8 s'/\((CI js σ)[i]?).getD none=(σ[j]?).getD none:=by
 unfold Fh at hs
 unfold CI
 rw [Zn] at hs ⊢
 cases q:js[i]? with
 | none=>rw [q] at hs; cases hs
 | some o =>
  rw [q] at hs
  cases o with
  | none=>exact .inl (T0 hs).symm
  | some j =>
   have e:O8 ((ρ[j]?).getD .no)=s:=T0 hs
   cases q2:ρ[j]? with
   | none=>rw [q2] at e; exact .inl e.symm
   | some s' =>
    rw [q2] at e
    exact .inr ⟨j,s',q2,e.symm,rfl⟩
theorem LZ{K:Frag}{F:Option (Addr×Addr)}{U U' M M':Addr->Prop}{H H':Hp}{js:List (Option Nat)}{ρ:List Slot}{σ:L2.St}(hsl:∀(i:Nat) (s:Slot),ρ[i]?=some s->SlotOk K F U M H s ((σ[i]?).getD none))
  (pr:Pres M H M' H') (br:∀d v,AtT K U M H d v->AtT K U' M' H' d v):∀(i:Nat) (s:Slot),(Fh js ρ)[i]?=some s->SlotOk K F U' M' H' s (((CI js σ)[i]?).getD none):=by
 intro i s hs
 rcases JJ (σ:=σ) hs with rfl | ⟨j,s',q,rfl,e⟩
 ·trivial
 ·rw [e]
  have h1:=hsl j s' q
  cases s' with
  | no=>trivial
  | sh d=>obtain⟨v,e1,h2⟩:=h1; exact⟨v,e1,h2.pres pr⟩
  | ex a nm ks ds=>obtain⟨e1,h2⟩:=h1; exact⟨e1,h2.pres pr⟩
  | br d=>obtain⟨v,e1,h2⟩:=h1; exact⟨v,e1,br d v h2⟩
  | fd=>exact h1
  | ow d=>obtain⟨a,e1,_,nv,t⟩:=h1; exact⟨.ref a,e1,br d _ (t.att nv)⟩
  | lt a d=>obtain⟨e1,_,nv,t⟩:=h1; exact⟨.ref a,e1,br d _ (t.att nv)⟩
theorem Nj{K:Frag}{F:Option (Addr×Addr)}{U M:Addr->Prop}{H:Hp}{js:List (Option Nat)}{ρ:List Slot}{σ:L2.St}(hsl:∀(i:Nat) (s:Slot),ρ[i]?=some s->SlotOk K F U M H s ((σ[i]?).getD none)){i:Nat}{d:D}{a:Addr}
  (hs:(Fh js ρ)[i]?=some (.br d)) (ha:((CI js σ)[i]?).getD none=some (.ref a)):∃o,H a=some o:=by
 rcases JJ (σ:=σ) hs with z | ⟨j,s',q,z,e⟩
 ·cases z
 ·rw [e] at ha
  have h1:=hsl j s' q
  rw [ha] at h1
  cases s' with
  | br d=>obtain⟨v,e1,h2⟩:=h1; cases e1; exact h2.lies
  | ow d=>obtain⟨b,e1,_,nv,t⟩:=h1; cases e1; exact(t.att nv).lies
  | lt b d=>obtain⟨e1,_,nv,t⟩:=h1; cases e1; exact(t.att nv).lies
  | no=>cases z
  | sh d=>cases z
  | ex a nm ks ds=>cases z
  | fd=>cases z
section
variable {X:Cx}{κe:Kd}{tg elt iter:Expr}{ifs:List Expr}{sc:Scope}{pos:Pos}{src:Eg}{b:BW}{tt:F4}{te:DW}
theorem B7(hc:X.calm=true)(N':List Str)(js:List (Option Nat))(hi:Wp X tg iter src)(hg:∀cl C s H fp,DG (Av X sc N' cl C s H fp) tg b)(ht:∀cl C s H fp,Wo (Av X sc N' cl C s H fp) ifs tt)(he:∀cl C s H fp,DE (Av X sc N' cl C s H fp) elt κe te)
  (hB:Gg sc X.env.scope X.N N' js=true) (hk:autoParam (κe≠.tp) zau7._auto_1)
  (hs:autoParam (∀x,foldedSetIterable iter X.env x=pure x) zau2._auto_1):DE X (.ListComp elt [⟨tg,iter,ifs,0⟩] sc pos) .fr (CB js src b tt te):=by
 obtain⟨wi,a1,a2⟩:=hi
 refine⟨_,S3 hc N' js a1 hB hs,λC M H n ρ σ P Q R w q=>?_⟩
 refine a2 C M H n ρ σ _ _ R w λJ H1 ds n1 e1 f1 y w1=>?_
 obtain⟨hlen,w1⟩:=w1
 have R1:=R.step e1 f1
 intro l hl hkl cl Ca s0 H0 fp
 obtain⟨g,g1,g2⟩:=hg cl Ca s0 H0 fp
 obtain⟨tc,c1,c2⟩:=ht cl Ca s0 H0 fp
 obtain⟨tx,x1,x2⟩:=he cl Ca s0 H0 fp
 have noU:¬C.U l:=λz=>by
  obtain⟨o,z⟩:=R1.udom l z
  rw [hl] at z; cases z
 generalize hM':(λb=>M b\/b=l)=M'
 have M'l:M' l:=by rw [← hM']; exact .inr rfl
 have M'of:∀b,M b->M' b:=λb z=>by rw [← hM']; exact .inl z
 have ofM':∀b,M' b->M b\/b=l:=λb z=>by rw [← hM'] at z; exact z
 have inV:∀b,C.V b\/b=l->M' b:=λb z=>z.elim (λz=>M'of b (R1.vM b z)) λz=>by rw [z]; exact M'l
 have lenj:js.length=N'.length:=EN (CompOk.of hB).cap
 refine⟨g,tc,tx,λi m σ' H'=>m=ds.length - i/\i<=ds.length/\∃n' ρ' acc vs,Rel X.K ⟨M',C.F,C.U,λb=>C.V b\/b=l,H1,[],[]⟩ M' H' n' ρ' σ'/\H' l=some (.lst vs)/\Ats X.K M' H' acc vs/\acc.length<=i/\Pres M H1 M' H' /\
   EA b tt te (λacc n2=>P (.lst acc) n2) (ds.drop i) acc n' ρ',g1,c1,x1,⟨ds.length,by simp,Zt _,n1,Fh js ρ,[],[],?_⟩,?_⟩
 ·have gr:Grow H1 (Ar H1 l (.lst [])):=Al hl
  have pr:Pres M H1 M' (Ar H1 l (.lst [])):=⟨λb o e _=>gr.all b o e,λb z=>(ofM' b z).elim .inl λz=>.inr (by rw [z]; exact hl),λb vs e=>gr.all b _ e⟩
  refine⟨⟨?_,λa z=>z,λa z=>?_,gr.ext,R1.fU,λa z=>.inl (R1.uV a z),inV,f1.pres pr λf o _ e=>gr.all f.1 o e,?_,λp hp=>absurd hp (by simp),λi d a q z=>Nj R1.sl q z,λi s a q o _=>absurd o (by rw [Dd q]; decide),λi j s t a q o _ _ _ _=>absurd o (by rw [Dd q]; decide),λp hp=>absurd hp (by simp)⟩,AN,rfl,Zt _,pr,w1⟩
  ·unfold Fh CI
   rw [Cn,Cn]
  ·rcases ofM' a z with z | z
   ·obtain⟨o,z⟩:=R1.dom a z
    exact⟨o,gr.all a o z⟩
   ·subst z
    exact⟨_,AN⟩
  ·refine LZ R1.sl pr λd v h=>h.same pr (λa o _ e=>gr.all a o e) λa e n1 z=>z.elim n1 λz=>?_
   subst e
   obtain⟨o,w⟩:=h.lies
   rw [z,hl] at w
   cases w
 ·rintro i m σ' H' ⟨rfl,hi,n',ρ',acc,vs,R',hlv,hac,hal,pr,w'⟩
  by_cases hlt:i<ds.length
  ·have ed:ds.drop i=ds[i]::ds.drop (i+1):=ay hlt
   rw [ed] at w'
   obtain⟨go,yl⟩:=(y i M' H' pr R'.ext R'.dom).1 ds[i] (Op hlt)
   refine .inr ⟨go,λx H2 hy=>?_⟩
   obtain⟨gr,hx⟩:=yl x H2 hy
   have R2':=R'.step gr.ext (R'.feed.grow gr)
   refine g2 _ M' H2 n' ρ' σ' ds[i] x _ _ R2' hx w' λρ3 σ3 R3 w3=>?_
   refine c2 _ M' H2 n' ρ3 σ3 _ _ R3 w3 λc H4 n4 e4 f4 w4=>?_
   have R4:=R3.step e4 f4
   have p4:Pres M' H' M' H4:=gr.pres.trans (R3.pres e4)
   have l4:H4 l=some (.lst vs):=e4.keep (gr.all _ _ hlv) noU
   cases c with
   | false=>exact⟨ds.length - (i+1),by omega,rfl,hlt,n4,ρ3,acc,vs,R4,l4,hac.pres p4,by omega,pr.trans p4,w4⟩
   | true =>
    refine x2 _ M' H4 n4 ρ3 σ3 _ _ R4 w4 λyv H5 d5 n5 e5 f5 r5 w5=>?_
    have R5:=R4.step e5 f5
    have p5:Pres M' H4 M' H5:=R4.pres e5
    have l5:H5 l=some (.lst vs):=e5.keep l4 noU
    have hy5:=r5.shOf R4.dom hk
    have a5:=(hac.pres p4).pres p5
    have pu:Pres M' H5 M' (Ar H5 l (.lst (vs++[yv]))):=Fd M'l l5
    have hvl:vs.length=acc.length:=hac.length
    refine⟨vs,l5,by rw [Z2]; omega,ds.length - (i+1),by omega,rfl,hlt,n5,ρ3,acc++[d5],vs++[yv],?_,AN,(a5.append (Ats.one hy5)).pres pu,by rw [FM,Z7]; omega,(pr.trans p4).trans (p5.trans pu),w5⟩
    refine⟨R5.len,R5.sub,λa z=>?_,λb o e=>?_,R5.fU,R5.uV,R5.vM,?_,λj s hs=>?_,λp hp=>absurd hp (by simp),R5.br0,R5.new,R5.two,λp hp=>absurd hp (by simp)⟩
    ·by_cases ha:a=l
     ·subst ha; exact⟨_,AN⟩
     ·rw [AM ha]; exact R5.dom a z
    ·obtain⟨o',q1,q2⟩:=R5.ext b o e
     by_cases hb:b=l
     ·subst hb
      have e':H1 b=some o:=e
      rw [hl] at e'; cases e'
     ·exact⟨o',by rw [AM hb]; exact q1,q2⟩
    ·refine f5.pres pu λf o hf e=>?_
     rw [AM (λz=>noU (by rw [← z]; exact R1.fU f hf))]
     exact e
    ·have hs5:=R5.sl j s hs
     cases s with
     | no=>trivial
     | sh d=>obtain⟨v,e1,h2⟩:=hs5; exact⟨v,e1,h2.pres pu⟩
     | ex a nm ks ds=>obtain⟨e1,h2⟩:=hs5; exact⟨e1,h2.pres pu⟩
     | br d =>
      obtain⟨v,e1,h2⟩:=hs5
      refine⟨v,e1,h2.same pu (λa o z e=>?_) λ_ _ z=>z⟩
      subst z
      obtain⟨o3,w⟩:=R5.br0 j d a hs e1
      have hal:a≠l:=λz=>by
       have w':H1 a=some o3:=w
       rw [z,hl] at w'; cases w'
      rw [AM hal]; exact e
     | ow d =>
      obtain⟨a,e1,h2,_⟩:=hs5
      exact absurd h2 (R5.new j _ a hs rfl e1).1
     | lt a d =>
      obtain⟨e1,h2,_⟩:=hs5
      exact absurd h2 (R5.new j _ a hs rfl e1).1
     | fd=>exact hs5
  ·have e:i=ds.length:=by omega
   subst e
   rw [cj] at w'
   refine .inl ⟨(y _ M' H' pr R'.ext R'.dom).2 (Go _),?_⟩
   have eb:Ext C.U H1 H':=R'.ext
   have less:Pres M' H' M H':=Pres.less M'of
   refine q _ H' (.lst acc) n' (e1.trans eb) (R'.feed.pres less λ_ _ _ z=>z) (VR.back e1 ?_) w'
   exact⟨l,rfl,hl,vs,hlv,by rw [hM']; exact hac⟩
end
theorem Iz{K:Frag}{F:Option (Addr×Addr)}{U V' M:Addr->Prop}{H:Hp}{n:Nat}{ss:List Slot}{vs:List V}{N:List Str}(h:WS K F U V' M H n ss vs)(hl:vs.length<=N.length) :
  Rel K ⟨M,F,U,V',H,[],[]⟩ M H n (ss++Re (N.length - ss.length) .no) (L2.start N vs):=by
 obtain⟨dom,fU,uV,vM,fd,pa⟩:=h
 have el:vs.length=ss.length:=Paired.length pa
 have go:∀{vs:List V} {ss:List Slot} {i:Nat} {s:Slot},Paired (Jg K F V' M H) vs ss->ss[i]?=some s->∃v,vs[i]?=some v/\Jg K F V' M H v s:=by
  intro vs ss i s pa
  induction pa generalizing i with
  | nil=>intro e; simp at e
  | cons r t ih =>
   intro e
   cases i with
   | zero=>simp at e; subst e; exact⟨_,rfl,r⟩
   | succ i =>
    obtain⟨v,e1,h1⟩:=ih (i:=i) (by simpa using e)
    exact⟨v,by simpa using e1,h1⟩
 have at_:∀(i:Nat) (s:Slot),(ss++Re (N.length - ss.length) Slot.no)[i]?=some s->s=.no\/∃v,((L2.start N vs)[i]?).getD none=some v/\Jg K F V' M H v s:=by
  intro i s hs
  by_cases hi:i<ss.length
  ·rw [cF hi] at hs
   obtain⟨v,e1,h1⟩:=go pa hs
   refine .inr ⟨v,?_,h1⟩
   unfold L2.start
   rw [cF (by rw [Cn,el]; exact hi),Zn,e1]
   rfl
  ·rw [bN (by omega),cT] at hs
   split at hs
   ·exact .inl (T0 hs).symm
   ·cases hs
 refine⟨?_,λa z=>z,dom,Ext.refl _ _,fU,uV,vM,fd,λi s hs=>?_,λp hp=>absurd hp (by simp),λi d a hs ha=>?_,λi s a hs o _=>?_,λi j s t a hs o _ _ _ _=>?_,λp hp=>absurd hp (by simp)⟩
 ·unfold L2.start
  simp only [FM,Cn,eP]
  omega
 ·rcases at_ i s hs with rfl | ⟨v,e,h⟩
  ·trivial
  ·rw [e]; exact h.1
 ·rcases at_ i _ hs with z | ⟨v,e,h⟩
  ·cases z
  ·rw [e] at ha
   cases ha
   obtain⟨v,e1,h1⟩:=h.1
   cases e1
   exact h1.lies
 ·rcases at_ i s hs with rfl | ⟨v,e,h⟩
  ·cases o
  ·rw [h.2] at o; cases o
 ·rcases at_ i s hs with rfl | ⟨v,e,h⟩
  ·cases o
  ·rw [h.2] at o; cases o
theorem Hx{P:Program}{w:World}{K:Frag}{mg:Str->Option Value}{base:Heap}{x qual:Str}{st:Stmt}{f:Addr}{fd:FuncData}{N ps:List Str}{k:Nat}{κ:Kd}{W:W2}{wb:AS}(F:Fun K x qual st f fd)(S:Ah N ps (AK st))(hNp:ps.length<=N.length)
  (hb:∀(cdv:Value) (A:Around) (outer:List Env) (s:Shared) (H:Hp) (E:XK),Room k (A.deeper (envOfC qual (AK st) s.heap.objs.size f cdv))->Pq (Fq Cb P w K mg base N qual (AK st) f cdv A outer s H E).nox κ (BV st) wb)
  (hW:∀ss n Pd,ss.length=ps.length->W ss n Pd->wb { nx:=λn _=>κ=.sh/\Pd .non n,rt:=Pd } n (ss++Re (N.length - ps.length) .no)) :
  A5 P w K mg base Cb (k+1) f fd ps (E5 K κ W ps.length):=by
 refine F.ok S (λvs H Q E h=>h.1) (λcdv A outer s H vs Q E hr h=>?_)
 obtain⟨hl,F0,U,V',M,n,ss,Pd,ra,hw,q⟩:=h
 obtain⟨t,t1,t2⟩:=hb cdv A outer s H E hr
 refine⟨t,t1,?_⟩
 have el:vs.length=ss.length:=Paired.length ra.2.2.2.2.2
 have R:=Iz (N:=N) ra (by omega)
 refine t2 ⟨M,F0,U,V',H,[],[]⟩ M H n _ _ { nx:=λn _=>κ=.sh/\Pd .non n,rt:=Pd } _ R ⟨λM1 H1 n1 ρ1 σ1 R1 p=>?_,λv H1 d n1 e1 f1 r1 p=>q v H1 d n1 e1 f1 r1 p,λ_ _ _ _ _ _ z=>z.elim,λ_ _ _ _ _ _ z=>z.elim⟩ ?_
 ·obtain⟨hk,p⟩:=p
  subst hk
  exact q .non H1 .non n1 R1.ext (R1.feed.pres (Pres.less R1.sub) λ_ _ _ z=>z) rfl p
 ·have e:ss.length=ps.length:=by omega
  have h1:=hW ss n Pd e hw
  rw [← e] at h1
  exact h1
end Dp
namespace L2
open PySem PySem.Spec PyProof.Rows
section
variable {X:Cx}
theorem Inv.rdl{pins:List (Addr×Obj)}{σ:L2.St}{H:Hp}{s:Shared}{l:Addr}{xs:List V}(I:Inv X pins σ H s)(h:Rd H l (.lst xs)):xs.length<=sizeLine/\∃(its:List Value) (n:Nat),Vals xs its/\xs.length=its.length/\s.heap.get? l=some { cls:=.type "list",data:=.seq its.toArray n }:=by
 obtain⟨z,its,n,r,e⟩:=h.ok I.hok
 exact⟨z,its,n,r,r.length,e⟩
theorem DY:OpR X (binaryOp .Add) (λx y H Q=>∃l b xs zs,x=.ref l/\y=.ref b/\Rd H l (.lst xs)/\Rd H b (.lst zs)/\xs.length+zs.length<=sizeLine/\∀p,H p=none->Q (.ref p) (Ar H p (.lst (xs++zs)))):=by
 intro pins s σ H x y v u Q I rx ry h
 obtain⟨l,b,xs,zs,rfl,rfl,hH,hB,hz,q⟩:=h
 cases rx
 cases ry
 obtain⟨z,its,n,r,hl,e⟩:=I.rdl hH
 obtain⟨z2,its2,n2,r2,hl2,e2⟩:=I.rdl hB
 refine PySem.P.add_list e e2 ?_ (by rw [Rs,Rs]; omega)
 have ea:its.toArray++its2.toArray=(its++its2).toArray:=by simp
 rw [ea]
 exact⟨.ref _,_,I.lnew (t':=s.toks) (r.append r2) (by rw [FM]; omega),rfl,q _ I.fresh⟩
end
end L2
namespace Dp
open PySem PySem.Spec PyProof.Rows L2
section
variable {K:Frag}
theorem AtT.int{U M:Addr->Prop}{H:Hp}{i:Int}{v:V}(h:AtT K U M H (.int i) v):v=.int i:=h
theorem AtT.bl{U M:Addr->Prop}{H:Hp}{i:Bool}{v:V}(h:AtT K U M H (.bl i) v):v=.bl i:=h
theorem AtT.str{U M:Addr->Prop}{H:Hp}{x:Str}{v:V}(h:AtT K U M H (.str x) v):v=.str x/\x.length<=sizeLine:=h
theorem AtT.tup{U M:Addr->Prop}{H:Hp}{ds:List D}{v:V}(h:AtT K U M H (.tup ds) v):∃a vs,v=.ref a/\NdT M H a vs/\Ats K M H ds vs:=h
noncomputable def YX(g:Int->Int->(D->Prop)->Prop)(d e:D)(P:D->Prop):Prop:=match d,e with
 | .int i,.int j=>g i j P
 | _,_=>False
theorem KW{g:Int->Int->(D->Prop)->Prop}{d e:D}{P:D->Prop}(w:YX g d e P):∃i j,d=.int i/\e=.int j/\g i j P:=by
 unfold YX at w
 split at w
 ·exact⟨_,_,rfl,rfl,w⟩
 ·exact w.elim
noncomputable def f2(g:Int->Int->D):D->D->(D->Prop)->Prop:=YX λi j P=>P (g i j)
noncomputable def V3(C:Int->Int->Prop)(g:Int->Int->D):D->D->(D->Prop)->Prop:=YX λi j P=>C i j/\P (g i j)
theorem SE{g:Int->Int->Int}:DR K .sh (GV λi j=>.int (g i j)) (f2 λi j=>.int (g i j)):=by
 intro U M H d e x y P Q dom vM hx hy w q
 obtain⟨i,j,rfl,rfl,w⟩:=KW w
 exact⟨i,j,hx,hy,q _ H (.int (g i j)) .refl rfl w⟩
theorem Kl{g:Int->Int->Bool}:DR K .sh (GV λi j=>.bl (g i j)) (f2 λi j=>.bl (g i j)):=by
 intro U M H d e x y P Q dom vM hx hy w q
 obtain⟨i,j,rfl,rfl,w⟩:=KW w
 exact⟨i,j,hx,hy,q _ H (.bl (g i j)) .refl rfl w⟩
theorem FN{C:Int->Int->Prop}{g:Int->Int->Int}:DR K .sh (rI C λi j=>.int (g i j)) (V3 C λi j=>.int (g i j)):=by
 intro U M H d e x y P Q dom vM hx hy w q
 obtain⟨i,j,rfl,rfl,w⟩:=KW w
 exact⟨i,j,hx,hy,w.1,q _ H (.int (g i j)) .refl rfl w.2⟩
noncomputable def Ur(g:Str->Str->(D->Prop)->Prop)(d e:D)(P:D->Prop):Prop:=match d,e with
 | .str i,.str j=>g i j P
 | _,_=>False
theorem Nz{g:Str->Str->(D->Prop)->Prop}{d e:D}{P:D->Prop}(w:Ur g d e P):∃i j,d=.str i/\e=.str j/\g i j P:=by
 unfold Ur at w
 split at w
 ·exact⟨_,_,rfl,rfl,w⟩
 ·exact w.elim
theorem IL{g:Str->Str->Bool}:DR K .sh (λx y H Q=>∃i j,x=.str i/\y=.str j/\Q (.bl (g i j)) H) (Ur λi j P=>P (.bl (g i j))):=by
 intro U M H d e x y P Q dom vM hx hy w q
 obtain⟨i,j,rfl,rfl,w⟩:=Nz w
 exact⟨i,j,hx.1,hy.1,q _ H (.bl (g i j)) .refl rfl w⟩
theorem Pn:DR K .sh (λx y H Q=>∃i j,x=.str i/\y=.str j/\i.length+j.length<=sizeLine/\Q (.str (i++j)) H) (Ur λi j P=>i.length+j.length<=sizeLine/\P (.str (i++j))):=by
 intro U M H d e x y P Q dom vM hx hy w q
 obtain⟨i,j,rfl,rfl,w⟩:=Nz w
 exact⟨i,j,hx.1,hy.1,w.1,q _ H (.str (i++j)) .refl ⟨rfl,by rw [show (i++j).length=i.length+j.length from Str.length_append i j]; exact w.1⟩ w.2⟩
noncomputable def Y1(g:List D->List D->(D->Prop)->Prop)(d e:D)(P:D->Prop):Prop:=match d,e with
 | .tup i,.tup j=>g i j P
 | _,_=>False
noncomputable def YW(g:List D->List D->(D->Prop)->Prop)(d e:D)(P:D->Prop):Prop:=match d,e with
 | .lst i,.lst j=>g i j P
 | _,_=>False
theorem Tg{g:List D->List D->(D->Prop)->Prop}{d e:D}{P:D->Prop}(w:Y1 g d e P):∃i j,d=.tup i/\e=.tup j/\g i j P:=by
 unfold Y1 at w
 split at w
 ·exact⟨_,_,rfl,rfl,w⟩
 ·exact w.elim
theorem Th{g:List D->List D->(D->Prop)->Prop}{d e:D}{P:D->Prop}(w:YW g d e P):∃i j,d=.lst i/\e=.lst j/\g i j P:=by
 unfold YW at w
 split at w
 ·exact⟨_,_,rfl,rfl,w⟩
 ·exact w.elim
theorem EG{M:Addr->Prop}{H:Hp}{p:Addr}{vs:List V}{ds:List D}(dom:∀a,M a->∃o,H a=some o)(hp:H p=none)(h:Ats K M H ds vs):At K M (Ar H p (.tup vs)) (.tup ds) (.ref p):=by
 exact⟨p,vs,rfl,AN,h.pres (Al hp).pres⟩
theorem B4{U M:Addr->Prop}{H:Hp}{p:Addr}{vs:List V}{ds:List D}(hp:H p=none)(h:Ats K M H ds vs):VR K U M H (Ar H p (.lst vs)) .fr (.ref p) (.lst ds) :=
 ⟨p,rfl,hp,vs,AN,h.pres (Hw hp)⟩
theorem Pm:DR K .sh (QZ K) (Y1 λi j P=>i≠[]/\i.length+j.length<=sizeLine/\P (.tup (i++j))):=by
 intro U M H d e x y P Q dom vM hx hy w q
 obtain⟨i,j,rfl,rfl,w⟩:=Tg w
 obtain⟨a,vs,rfl,ha,hs⟩:=hx.tup
 obtain⟨b,us,rfl,hb,ht⟩:=hy.tup
 have l1:=hs.length
 have l2:=ht.length
 refine⟨a,b,vs,us,rfl,rfl,ha.sq,hb.sq,λz=>w.1 ?_,by rw [l1,l2]; exact w.2.1,λz=>?_,λz p hp=>?_⟩
 ·rw [z] at l1; exact eA.mp l1.symm
 ·rw [z] at l2
  have:j=[]:=eA.mp l2.symm
  subst this
  exact q _ H (.tup i) .refl ⟨a,vs,rfl,ha,hs⟩ (by have:=w.2.2; rw [aR] at this; exact this)
 ·exact q _ _ (.tup (i++j)) (Al hp) (EG dom hp (hs.append ht)) w.2.2
theorem CL:DR K .fr (λx y H Q=>∃l b xs zs,x=.ref l/\y=.ref b/\Rd H l (.lst xs)/\Rd H b (.lst zs)/\xs.length+zs.length<=sizeLine/\∀p,H p=none->Q (.ref p) (Ar H p (.lst (xs++zs)))) (YW λi j P=>i.length+j.length<=sizeLine/\P (.lst (i++j))):=by
 intro U M H d e x y P Q dom vM hx hy w q
 obtain⟨i,j,rfl,rfl,w⟩:=Th w
 obtain⟨a,vs,rfl,_,ha,hs⟩:=hx
 obtain⟨b,us,rfl,_,hb,ht⟩:=hy
 exact⟨a,b,vs,us,rfl,rfl,ha,hb,by rw [hs.length,ht.length]; exact w.1,λp hp=>q _ _ (.lst (i++j)) (Al hp) (B4 hp (hs.append ht)) w.2⟩
noncomputable def EH(neg:Bool)(d e:D)(P:D->Prop):Prop:=match d,e with
 | .bl i,.bl j=>P (.bl (if neg then !(i==j) else i==j))
 | .int i,.int j=>P (.bl (if neg then !(i==j) else i==j))
 | .str i,.str j=>P (.bl (if neg then !(i==j) else i==j))
 | _,_=>False
theorem N0{neg:Bool}{d e:D}{P:D->Prop}(w:EH neg d e P):(∃i j,d=.bl i/\e=.bl j/\P (.bl (if neg then !(i==j) else i==j)))\/(∃i j,d=.int i/\e=.int j/\P (.bl (if neg then !(i==j) else i==j)))\/∃i j,d=.str i/\e=.str j/\P (.bl (if neg then !(i==j) else i==j)):=by
 unfold EH at w
 split at w
 ·exact .inl ⟨_,_,rfl,rfl,w⟩
 ·exact .inr (.inl ⟨_,_,rfl,rfl,w⟩)
 ·exact .inr (.inr ⟨_,_,rfl,rfl,w⟩)
 ·exact w.elim
theorem Bu:DR K .sh ZF (EH false):=by
 intro U M H d e x y P Q dom vM hx hy w q
 rcases N0 w with ⟨i,j,rfl,rfl,w⟩ | ⟨i,j,rfl,rfl,w⟩ | ⟨i,j,rfl,rfl,w⟩
 ·rw [hx.bl,hy.bl]; exact⟨rfl,q _ H _ .refl (by rw [Ka]; rfl) w⟩
 ·rw [hx.int,hy.int]; exact⟨rfl,q _ H _ .refl (by rw [G6]; rfl) w⟩
 ·rw [hx.str.1,hy.str.1]; exact⟨rfl,q _ H _ .refl (by rw [G5]; rfl) w⟩
theorem Y5:DR K .sh ZC (EH true):=by
 intro U M H d e x y P Q dom vM hx hy w q
 rcases N0 w with ⟨i,j,rfl,rfl,w⟩ | ⟨i,j,rfl,rfl,w⟩ | ⟨i,j,rfl,rfl,w⟩
 ·rw [hx.bl,hy.bl]; exact⟨rfl,q _ H _ .refl (by rw [Ka]; rfl) w⟩
 ·rw [hx.int,hy.int]; exact⟨rfl,q _ H _ .refl (by rw [G6]; rfl) w⟩
 ·rw [hx.str.1,hy.str.1]; exact⟨rfl,q _ H _ .refl (by rw [G5]; rfl) w⟩
noncomputable def Nu:D->Bool
 | .non=>true
 | _=>false
theorem RD{U M:Addr->Prop}{H:Hp}{d:D}{x:V}(h:AtT K U M H d x):decide (x=.non)=Nu d:=by
 cases d with
 | non=>rw [show x=.non from h]; rfl
 | bl b=>rw [h.bl]; rfl
 | int i=>rw [h.int]; rfl
 | str z=>rw [h.str.1]; rfl
 | tup ds=>obtain⟨a,vs,rfl,_⟩:=h.tup; rfl
 | lst ds=>obtain⟨a,vs,rfl,_⟩:=h; rfl
 | dic ks ds=>obtain⟨a,vs,rfl,_⟩:=h; rfl
 | fdi ks ds=>obtain⟨a,vs,rfl,_⟩:=h; rfl
 | dit ks ds=>obtain⟨a,vs,rfl,_⟩:=h; rfl
noncomputable def B_(d e:D)(P:D->Prop):Prop:=match d,e with
 | .lst ds,.int i=>∃z,atI ds i=some z/\P z
 | .tup ds,.int i=>∃z,atI ds i=some z/\P z
 | .str x,.int i=>∃c,atI x.cps.toList i=some c/\P (.str ⟨#[c]⟩)
 | _,_=>False
theorem Ti{d e:D}{P:D->Prop}(w:B_ d e P):(∃ds i z,d=.lst ds/\e=.int i/\atI ds i=some z/\P z)\/(∃ds i z,d=.tup ds/\e=.int i/\atI ds i=some z/\P z)\/∃x i c,d=.str x/\e=.int i/\atI x.cps.toList i=some c/\P (.str ⟨#[c]⟩):=by
 unfold B_ at w
 split at w
 ·obtain⟨z,h1,h2⟩:=w; exact .inl ⟨_,_,z,rfl,rfl,h1,h2⟩
 ·obtain⟨z,h1,h2⟩:=w; exact .inr (.inl ⟨_,_,z,rfl,rfl,h1,h2⟩)
 ·obtain⟨z,h1,h2⟩:=w; exact .inr (.inr ⟨_,_,z,rfl,rfl,h1,h2⟩)
 ·exact w.elim
theorem Ats.atI{M:Addr->Prop}{H:Hp}{ds:List D}{vs:List V}{i:Int}{z:D}(h:Ats K M H ds vs)(e:atI ds i=some z):∃v,L2.atI vs i=some v/\At K M H z v:=by
 unfold L2.atI at e ⊢
 rw [h.length]
 cases q:SQ ds.length i with
 | none=>rw [q] at e; cases e
 | some j =>
  rw [q] at e
  exact h.get e
theorem A4:DR K .sh (ZD K) B_:=by
 intro U M H d e x y P Q dom vM hx hy w q
 rcases Ti w with ⟨ds,i,z,rfl,rfl,hz,w⟩ | ⟨ds,i,z,rfl,rfl,hz,w⟩ | ⟨x,i,c,rfl,rfl,hc,w⟩
 ·obtain⟨a,vs,rfl,_,ha,hs⟩:=hx
  obtain⟨v,hv,hAt⟩:=hs.atI hz
  exact .inl ⟨a,vs,i,v,rfl,hy,.inl ha,hv,q v H z .refl hAt w⟩
 ·obtain⟨a,vs,rfl,ha,hs⟩:=hx.tup
  obtain⟨v,hv,hAt⟩:=hs.atI hz
  exact .inr (.inl ⟨a,vs,i,v,rfl,hy,ha.sq,hv,q v H z .refl hAt w⟩)
 ·exact .inr (.inr ⟨x,i,c,hx.str.1,hy,hx.str.2,hc,q _ H (.str ⟨#[c]⟩) .refl ⟨rfl,by rw [Z2]; show 1<=16777216; decide⟩ w⟩)
noncomputable def cutD{α:Type}(xs:List α)(lo hi:Option Int):List α:=(xs.drop (HT.sIx xs.length 0 lo)).take (HT.sIx xs.length xs.length hi - HT.sIx xs.length 0 lo)
theorem Cu{R:V->D->Prop}{vs:List V}{d:D}(h:Paired R vs [d]):∃v,vs=[v]/\R v d:=by
 cases h with
 | cons r t=>cases t; exact⟨_,rfl,r⟩
noncomputable def Yu:D->Option Nat
 | .str x=>some x.length
 | .tup xs=>some xs.length
 | .lst xs=>some xs.length
 | _=>none
noncomputable def Bt(ds:List D)(P:D->Prop):Prop:=∃d n,ds=[d]/\Yu d=some n/\P (.int (n:Int))
theorem BO:Cy K .sh (λxs H Q=>∃x n,xs=[x]/\WY K x H n/\Q (.int n) H) Bt:=by
 intro U M H ds vs P Q dom vM hp w q
 obtain⟨d,n,rfl,hn,w⟩:=w
 obtain⟨v,rfl,hx⟩:=Cu hp
 refine⟨v,n,rfl,?_,q _ H (.int (n:Int)) .refl rfl w⟩
 cases d with
 | str z=>cases hn; rw [hx.str.1]; exact⟨hx.str.2,rfl⟩
 | tup xs =>
  cases hn
  obtain⟨a,us,rfl,ha,hs⟩:=hx.tup
  exact .inr ⟨us,ha.sq,hs.length.symm⟩
 | lst xs =>
  cases hn
  obtain⟨a,us,rfl,_,ha,hs⟩:=hx
  exact .inl ⟨us,.inl ha,hs.length.symm⟩
 | _=>cases hn
noncomputable def allB:List D->Option (List Bool)
 | []=>some []
 | .bl b::r=>(allB r).map (b::·)
 | _::_=>none
theorem OE{M:Addr->Prop}{H:Hp}:∀{ds:List D} {vs:List V} {bs:List Bool},allB ds=some bs->Ats K M H ds vs->vs=bs.map V.bl
 | [],vs,bs,e,h=>by cases e; exact h
 | .bl b::r,vs,bs,e,h=>by
  obtain⟨v,r',e1,h1,h2⟩:=h
  unfold allB at e
  obtain⟨bs',e2,rfl⟩:=aY.mp e
  rw [e1,OE e2 h2,show v=.bl b from h1]
  rfl
 | .non::r,vs,bs,e,h=>by unfold allB at e; cases e
 | .int _::r,vs,bs,e,h=>by unfold allB at e; cases e
 | .str _::r,vs,bs,e,h=>by unfold allB at e; cases e
 | .tup _::r,vs,bs,e,h=>by unfold allB at e; cases e
 | .lst _::r,vs,bs,e,h=>by unfold allB at e; cases e
 | .dic _ _::r,vs,bs,e,h=>by unfold allB at e; cases e
 | .fdi _ _::r,vs,bs,e,h=>by unfold allB at e; cases e
 | .dit _ _::r,vs,bs,e,h=>by unfold allB at e; cases e
noncomputable def RW(ds:List D)(P:D->Prop):Prop:=∃xs bs,ds=[.lst xs]/\allB xs=some bs/\P (.bl (bs.all id))
theorem U2:Cy K .sh (λxs H Q=>∃(p:Addr) (bs:List Bool),xs=[.ref p]/\SqL K H p (bs.map V.bl)/\Q (.bl (bs.all id)) H) RW:=by
 intro U M H ds vs P Q dom vM hp w q
 obtain⟨xs,bs,rfl,e,w⟩:=w
 obtain⟨v,rfl,hx⟩:=Cu hp
 obtain⟨a,us,rfl,_,ha,hs⟩:=hx
 have:=OE e hs
 subst this
 exact⟨a,bs,rfl,.inl ha,q _ H (.bl (bs.all id)) .refl rfl w⟩
noncomputable def CV:List D->Option (List Str)
 | []=>some []
 | .str b::r=>(CV r).map (b::·)
 | _::_=>none
theorem Ki{M:Addr->Prop}{H:Hp}:∀{ds:List D} {vs:List V} {bs:List Str},CV ds=some bs->Ats K M H ds vs->vs=bs.map V.str
 | [],vs,bs,e,h=>by cases e; exact h
 | .str b::r,vs,bs,e,h=>by
  obtain⟨v,r',e1,h1,h2⟩:=h
  unfold CV at e
  obtain⟨bs',e2,rfl⟩:=aY.mp e
  rw [e1,Ki e2 h2,h1.1]
  rfl
 | .non::r,vs,bs,e,h=>by unfold CV at e; cases e
 | .int _::r,vs,bs,e,h=>by unfold CV at e; cases e
 | .bl _::r,vs,bs,e,h=>by unfold CV at e; cases e
 | .tup _::r,vs,bs,e,h=>by unfold CV at e; cases e
 | .lst _::r,vs,bs,e,h=>by unfold CV at e; cases e
 | .dic _ _::r,vs,bs,e,h=>by unfold CV at e; cases e
 | .fdi _ _::r,vs,bs,e,h=>by unfold CV at e; cases e
 | .dit _ _::r,vs,bs,e,h=>by unfold CV at e; cases e
noncomputable def Lp(d:D)(ds:List D)(P:D->Prop):Prop:=∃(z:Str) (xs:List D) (ys:List Str),d=.str z/\ds=[.lst xs]/\CV xs=some ys/\(ys.map (·.length)).sum+ys.length*z.length<=16777216/\(Txt.join z ys).length<=16777216/\P (.str (Txt.join z ys))
theorem Kk:Y8 K .sh "str" (λx xs H Q=>∃(z:Str) (p:Addr) (ys:List Str),x=.str z/\xs=[.ref p]/\SqL K H p (ys.map V.str)/\(ys.map (·.length)).sum+ys.length*z.length<=16777216/\Q (.str (Txt.join z ys)) H) Lp:=by
 intro U M H d ds x vs P Q dom vM hx hp w q
 obtain⟨z,xs,ys,rfl,rfl,e,h1,h2,w⟩:=w
 obtain⟨v,rfl,hy⟩:=Cu hp
 obtain⟨a,us,rfl,_,ha,hs⟩:=hy
 have:=Ki e hs
 subst this
 exact⟨z,a,ys,hx.str.1,rfl,.inl ha,h1,q _ H (.str (Txt.join z ys)) .refl ⟨rfl,by rw [Z2]; exact h2⟩ w⟩
noncomputable def M6(ds:List D)(P:D->Prop):Prop:=match ds with
 | [.lst xs]=>P (.lst xs)
 | [.tup xs]=>P (.lst xs)
 | _=>False
theorem UB:Cy K .fr (λxs H Q=>∃p ys,xs=[.ref p]/\(SqL K H p ys\/SqT K H p ys)/\∀l,H l=none->Q (.ref l) (Ar H l (.lst ys))) M6:=by
 intro U M H ds vs P Q dom vM hp w q
 unfold M6 at w
 split at w
 ·obtain⟨v,rfl,hx⟩:=Cu hp
  obtain⟨a,us,rfl,_,ha,hs⟩:=hx
  exact⟨a,us,rfl,.inl (.inl ha),λl hl=>q _ _ _ (Al hl) (B4 hl hs) w⟩
 ·obtain⟨v,rfl,hx⟩:=Cu hp
  obtain⟨a,us,rfl,ha,hs⟩:=hx.tup
  exact⟨a,us,rfl,.inr ha.sq,λl hl=>q _ _ _ (Al hl) (B4 hl hs) w⟩
 ·exact w.elim
end
noncomputable def Ww:D->String
 | .non => "NoneType"
 | .bl _ => "bool"
 | .int _ => "int"
 | .str _ => "str"
 | .tup _ => "tuple"
 | .lst _ => "list"
 | .dic _ _ => "dict"
 | .fdi _ _ => "dict"
 | .dit _ _ => "dict"
noncomputable def Vz(t T:String):Bool:=t==T||(t == "bool"&&T == "int")
noncomputable def SS(T:String)(wa:DW):DW:=λn ρ P=>wa n ρ λd n1=>P (.bl (Vz (Ww d) T)) n1
structure UE (K:Frag) (T:String):Prop where
 ans:∀t∈["NoneType","bool","int","str","tuple","list","dict"],PySem.W.kitOne K (.type t) (.type T)=some (Vz t T)
theorem SW{K:Frag}{M U:Addr->Prop}{H:Hp}{d:D}{x:V}(h:AtT K U M H d x):FO K H x (.type (Ww d)):=by
 cases d with
 | non=>cases (show x=.non from h); exact .non
 | bl b=>cases h.bl; exact .bl b
 | int i=>cases h.int; exact .int i
 | str z=>cases h.str.1; exact .str z
 | tup ds =>
  obtain⟨a,vs,rfl,ha,hs⟩:=h.tup
  exact .tup ha
 | lst ds =>
  obtain⟨a,vs,rfl,_,ha,hs⟩:=h
  rcases ha with ha | ⟨o,ha⟩
  ·exact .lst ha
  ·exact .frz ha
 | dic ks ds =>
  obtain⟨a,vs,rfl,_,ha,_⟩:=h
  exact .dK ha
 | fdi ks ds =>
  obtain⟨a,vs,rfl,⟨o,_,ha⟩,_⟩:=h
  exact .dF ha
 | dit ks ds =>
  obtain⟨a,vs,rfl,_,ha,_⟩:=h
  exact .dT ha
theorem SX(d:D):Ww d∈["NoneType","bool","int","str","tuple","list","dict"]:=by cases d <;> simp [Ww]
theorem NB{X:Cx}{a:Expr}{κ:Kd}{wa:DW}{T:String}{Tn:Str}{p p2 pos:Pos}(kt:UE X.K T)(ha:DE X a κ wa)(hg:Gl X "isinstance")(hm:X.mg "isinstance"=none)(hgT:Gl X Tn)(hmT:X.mg Tn=none)(hvT:bootBuiltins Tn=some (.type T))
  (hnT:autoParam (Tn ≠ "__name__") zau1._auto_1) (hdT:autoParam ((Tn==("__debug__" : Str))=false) zau1._auto_1)
  (he:autoParam (starEach [a,.Name Tn p2] X.env=(false,eval a X.env)::starEach [.Name Tn p2] X.env) zau3._auto_1) (he2:autoParam (starEach [.Name Tn p2] X.env=[(false,eval (.Name Tn p2) X.env)]) zau3._auto_1)
  (hpl:autoParam ((backTo pos (starEach [.Name Tn p2] X.env)).any (·.1)=false) zau3._auto_1):DE X (.Call (.Name "isinstance" p) [a,.Name Tn p2] [] pos) .sh (SS T wa):=by
 obtain⟨t,h1,h2⟩:=ha
 have pT:PE X (.Name Tn p2) (tC (.ty T)):=Nf hgT hmT hvT (v:=.ty T) rfl hnT hdT
 refine⟨_,Cf L6 hg hm (by decide +kernel) (A9 h1 (A9 pT B1 he2) he) (by decide) (by decide) he hpl,λC M H n ρ σ P Q R w q=>?_⟩
 refine h2 C M H n ρ σ _ _ R w λv H1 d n1 e1 f1 r1 p=>?_
 exact⟨v,T,_,_,rfl,SW (r1.tpOf R.dom R.vM),kt.ans _ (SX d),q _ H1 (.bl (Vz (Ww d) T)) n1 e1 f1 rfl p⟩
section
variable {K:Frag}{X:Cx}
noncomputable def Us(d e:D)(P:D->Prop):Prop:=match d,e with
 | .int i,.int j=>P (.int (i+j))
 | .str i,.str j=>i.length+j.length<=sizeLine/\P (.str (i++j))
 | .tup i,.tup j=>i≠[]/\i.length+j.length<=sizeLine/\P (.tup (i++j))
 | .lst i,.lst j=>i.length+j.length<=sizeLine/\P (.lst (i++j))
 | _,_=>False
noncomputable def Ud:R2:=λx y H Q=>∃l b xs zs,x=.ref l/\y=.ref b/\Rd H l (.lst xs)/\Rd H b (.lst zs)/\xs.length+zs.length<=sizeLine/\∀p,H p=none->Q (.ref p) (Ar H p (.lst (xs++zs)))
noncomputable def Ub:R2:=λx y H Q=>∃i j,x=.str i/\y=.str j/\i.length+j.length<=sizeLine/\Q (.str (i++j)) H
noncomputable def LG(g:Str->Str->Bool):R2:=λx y H Q=>∃i j,x=.str i/\y=.str j/\Q (.bl (g i j)) H
noncomputable def Qa(K:Frag):R2:=λx y H Q=>(GV λi j=>.int (i+j)) x y H Q\/Ub x y H Q\/QZ K x y H Q\/Ud x y H Q
theorem op_addU:OpR X (binaryOp .Add) (Qa X.K):=op_add.or ((show OpR X (binaryOp .Add) Ub from Mp).or (op_catT.or (show OpR X (binaryOp .Add) Ud from DY)))
theorem Ko:DR X.K .sh (Qa X.K) Us:=λU M H d e x y P Q dom vM hx hy w q=>by
 unfold Us at w
 split at w
 ·exact .inl (SE (K:=X.K) (g:=λi j=>i+j) U M H (.int _) (.int _) x y P Q dom vM hx hy w q)
 ·exact .inr (.inl (Pn (K:=X.K) U M H (.str _) (.str _) x y P Q dom vM hx hy w q))
 ·exact .inr (.inr (.inl (Pm (K:=X.K) U M H (.tup _) (.tup _) x y P Q dom vM hx hy w q)))
 ·exact .inr (.inr (.inr (CL (K:=X.K) U M H (.lst _) (.lst _) x y P Q dom vM hx hy w λv H' z g r p=>q v H' z g (r.shOf dom (by intro z; cases z)) p)))
 ·exact w.elim
noncomputable def X2(d e:D)(P:D->Prop):Prop:=match d,e with
 | .int i,.int j=>P (.bl (decide (i<j)))
 | .str i,.str j=>P (.bl (decide (i.cps.toList<j.cps.toList)))
 | _,_=>False
noncomputable def VO:R2:=λx y H Q=>(GV λi j=>.bl (decide (i<j))) x y H Q\/LG (λi j=>decide (i.cps.toList<j.cps.toList)) x y H Q
theorem op_ltU:OpR X (compareOp .Lt) VO:=op_lt.or O0
theorem Uz:DR X.K .sh VO X2:=λU M H d e x y P Q dom vM hx hy w q=>by
 unfold X2 at w
 split at w
 ·exact .inl (Kl (K:=X.K) (g:=λi j=>decide (i<j)) U M H (.int _) (.int _) x y P Q dom vM hx hy w q)
 ·exact .inr (IL (K:=X.K) (g:=λi j=>decide (i.cps.toList<j.cps.toList)) U M H (.str _) (.str _) x y P Q dom vM hx hy w q)
 ·exact w.elim
noncomputable def GK(d e:D)(P:D->Prop):Prop:=match d,e with
 | .int i,.int j=>P (.bl (decide (i<=j)))
 | .str i,.str j=>P (.bl (!(decide (j.cps.toList<i.cps.toList))))
 | _,_=>False
noncomputable def XQ:R2:=λx y H Q=>(GV λi j=>.bl (decide (i<=j))) x y H Q\/LG (λi j=>!(decide (j.cps.toList<i.cps.toList))) x y H Q
theorem Cg:OpR X (compareOp .LtE) XQ:=op_le.or O1
theorem EV:DR X.K .sh XQ GK:=λU M H d e x y P Q dom vM hx hy w q=>by
 unfold GK at w
 split at w
 ·exact .inl (Kl (K:=X.K) (g:=λi j=>decide (i<=j)) U M H (.int _) (.int _) x y P Q dom vM hx hy w q)
 ·exact .inr (IL (K:=X.K) (g:=λi j=>!(decide (j.cps.toList<i.cps.toList))) U M H (.str _) (.str _) x y P Q dom vM hx hy w q)
 ·exact w.elim
noncomputable def XY:R2:=GV λi j=>.bl (decide (j<i))
theorem He:OpR X (compareOp .Gt) XY:=op_gt
theorem ME:DR X.K .sh XY (f2 λi j=>.bl (decide (j<i))):=Kl
noncomputable def XW:R2:=LG λi j=>!(aA j i 0 j.length 1).isEmpty
theorem Mn:OpR X (compareOp .In) XW:=O2
theorem SG:DR X.K .sh XW (Ur λi j P=>P (.bl (!(aA j i 0 j.length 1).isEmpty))):=IL
noncomputable def XD:V->Option Int->Option Int->Hp->VK->Prop:=λx lo hi H Q=>∃z,x=.str z/\z.length<=sizeLine/\Q (.str (Txt.slice z lo hi)) H
theorem sl_U:SlR X XD:=VJ
noncomputable def SR(w:DW):DW:=λn ρ P=>w n ρ λd n1=>∃i,d=.int i/\P (.int (-i)) n1
theorem NA{a:Expr}{κ:Kd}{wa:DW}{pos:Pos}(h:DE X a κ wa):DE X (.UnaryOp .USub a pos) .sh (SR wa):=by
 obtain⟨t,h1,h2⟩:=h
 refine⟨_,Xg VA h1,λC M H n ρ σ P Q R w q=>?_⟩
 refine h2 C M H n ρ σ _ _ R w λv H1 d n1 e1 f1 r1 p=>?_
 obtain⟨i,rfl,p⟩:=p
 exact⟨i,Mz r1,q _ H1 (.int (-i)) n1 e1 f1 rfl p⟩
noncomputable def Got(P:Program)(w:World)(K:Frag)(mg:Str->Option Value)(base:Heap)(x:Str)(k:Nat)(ps:List Str)(κ:Kd)(W:W2):Prop :=
 ∃f fd,A5 P w K mg base Cb k f fd ps (E5 K κ W ps.length)/\mg x=some (.ref f)/\keepIn K (.ref f)=true/\Binds K fd ps []/\∀ss n P,W ss n P->ss.length=ps.length
theorem AO{e:Expr}{es:List Expr}{k:Nat}{ps:List Str}{κ:Kd}{W:W2}{x:Str}{p pos:Pos}{was:UG}(G:Got X.prog X.w X.K X.mg X.base x k ps κ W)
  (hr:Room k X.A) (hg:Gl X x) (ha:Wq X (e::es) was)
  (hdb:autoParam ((x==("__debug__" : Str))=false) zau1._auto_1) (he:autoParam (starEach (e::es) X.env=(false,eval e X.env)::starEach es X.env) zau3._auto_1) (hpl:autoParam ((backTo pos (starEach es X.env)).any (·.1)=false) zau3._auto_1) :
  DE X (.Call (.Name x p) (e::es) [] pos) κ (An W was):=by
 obtain⟨f,fd,G,hm,hk,hb,hW⟩:=G
 exact T7 G hW hr hg hm hk hb ha hdb he hpl
noncomputable def Ug(np:Nat)(g:List D->D):W2:=λss n P=>∃ds:List D,ds.length=np/\ss=ds.map .sh/\P (g ds) n
theorem GB{np:Nat}{g:List D->D}{ss:List Slot}{n:Nat}{P:D->Nat->Prop}(h:Ug np g ss n P):ss.length=np:=by
 obtain⟨ds,e,rfl,_⟩:=h
 rw [Cn]; exact e
theorem TX:UE K "int":=⟨λt ht=>by
 simp only [UF,aB,or_false] at ht
 rcases ht with rfl | rfl | rfl | rfl | rfl | rfl | rfl <;> kernel_rfl⟩
theorem Q8:UE K "bool":=⟨λt ht=>by
 simp only [UF,aB,or_false] at ht
 rcases ht with rfl | rfl | rfl | rfl | rfl | rfl | rfl <;> kernel_rfl⟩
theorem TV:UE K "str":=⟨λt ht=>by
 simp only [UF,aB,or_false] at ht
 rcases ht with rfl | rfl | rfl | rfl | rfl | rfl | rfl <;> kernel_rfl⟩
end
theorem MD{α:Type}(p:α->Bool):∀l:List α,allB (l.map λc=>.bl (p c))=some (l.map p)
 | []=>rfl
 | a::l=>by
  rw [TW,TW]
  unfold allB
  rw [MD p l]
  rfl
theorem R6{b1 b2:Bool}{P:D->Nat->Prop}{n:Nat}{k:(D->Nat->Prop)->Prop}(hk:b1=true->P (.bl b2) n->k P)(h:P (.bl (b1&&b2)) n):(match (.bl b1:D) with | .bl true=>k P | .bl false=>P (.bl false) n | _=>False):=by
 cases b1 with
 | false=>exact h
 | true=>exact hk rfl h
theorem V0{P:Program}{w:World}{K:Frag}{mg:Str->Option Value}{base:Heap}{x:Str}{st:Stmt}{f:Addr}{fd:FuncData}{k:Nat}{ps:List Str}{κ:Kd}{W:W2}(F:Fun K x x st f fd)(m:mg x=some (.ref f))(b:Binds K fd ps [])
  (hW:∀ss n P,W ss n P->ss.length=ps.length) (ok:A5 P w K mg base Cb k f fd ps (E5 K κ W ps.length)):Got P w K mg base x k ps κ W:=⟨f,fd,ok,m,F.kp,b,hW⟩
noncomputable def K9(K:Frag):Sp:=λvs H Q _=>∃a ns,vs=[V.ref a]/\(eN (α:=Int) ns<=63/\SqL K H a (ns.map V.int))/\∀H',Q (.bl true) H'
noncomputable def Ji(K:Frag):Sp:=λvs H Q _=>∃a ns,vs=[V.ref a]/\(eN (α:=Int) ns<=63/\SqL K H a (ns.map V.int)) /\
 ∀(c f:Addr) (H':Hp),c≠f->H' c=some (.lst (ns.map V.int))->H' f=some (.lst [.ref c,.int 0,.int 0])->Q (.ref f) H'
theorem X8{ns:List Int}(h:ns.length<=63):Ij (ns.map V.int) none (some 63)=ns.map V.int:=by
 have e:HT.sIx (ns.map V.int).length (ns.map V.int).length (some 63)=ns.length:=by
  rw [show (63:Int)=((63:Nat):Int) from rfl,HT.sIx_nat,Cn,Nat.min_eq_right h]
 unfold Ij
 rw [e,HT.sIx_none,List.drop_zero,Nat.sub_zero]
 exact List.take_of_length_le (by rw [Cn]; exact Go _)
theorem Xz{P:Program}{w:World}{K:Frag}{mg:Str->Option Value}{base:Heap}{st s1:Stmt}{rest:List Stmt}{f:Addr}{fd:FuncData}{Nr:List Str}{k n0:Nat}{wb:AS}(F:Fun K "law" "law" st f fd)
  (S:Ah ("_law_script" :: "_law_feed_here"::Nr) ["_law_script"] (AK st)) (hbd:BV st=s1::rest) (hn0:n0<=2 ^ 60)
  (h1:∀(cdv:Value) (A:Around) (outer:List Env) (s:Shared) (H:Hp) (E:XK),Room k (A.deeper (envOfC "law" (AK st) s.heap.objs.size f cdv)) ->
   PS (Fq Cb P w K mg base ("_law_script" :: "_law_feed_here"::Nr) "law" (AK st) f cdv A outer s H E).nox s1 (K8 (NQ (Ji K) [] E0 (NP (Bl 0) P9)) (Gb 1)))
  (h2:∀(cdv:Value) (A:Around) (outer:List Env) (s:Shared) (H:Hp) (E:XK),Room k (A.deeper (envOfC "law" (AK st) s.heap.objs.size f cdv)) ->
   Pq (Fq Cb P w K mg base ("_law_script" :: "_law_feed_here"::Nr) "law" (AK st) f cdv A outer s H E).nox .sh rest wb)
  (hW:wb { nx:=λ_ _=>False,rt:=λd _=>d=.bl true } n0 (.no::.fd::Re Nr.length .no)):A5 P w K mg base Cb (k+1) f fd ["_law_script"] (K9 K):=by
 refine F.ok S (λvs H Q E h=>?_) (λcdv A outer s H vs Q E hr h=>?_)
 ·obtain⟨a,ns,rfl,_⟩:=h
  rfl
 ·obtain⟨a,ns,rfl,⟨hl,hS⟩,q⟩:=h
  obtain⟨t,t1,t2⟩:=h2 cdv A outer s H E hr
  refine⟨Ob (K8 (NQ (Ji K) [] E0 (NP (Bl 0) P9)) (Gb 1)) t,by rw [hbd]; exact BK (h1 cdv A outer s H E hr) t1,?_⟩
  refine⟨_,rfl,a,ns,rfl,⟨hl,hS⟩,λc g H' hcg hc hg=>?_⟩
  have at_:∀(i:Nat) (sl:Slot),(Slot.no::Slot.fd::Re Nr.length Slot.no)[i]?=some sl->Slot.no=sl\/(Slot.fd=sl/\i=1):=by
   intro i sl hs
   match i,hs with
   | 0,hs=>exact .inl (T0 hs)
   | 1,hs=>exact .inr ⟨T0 hs,rfl⟩
   | i+2,hs =>
    rw [eB,eB,cT] at hs
    split at hs
    ·exact .inl (T0 hs)
    ·cases hs
  have R:Rel K ⟨λb=>b=g,some (g,c),λb=>b=g,λb=>b=g,H',[],[]⟩ (λb=>b=g) H' n0 (.no::.fd::Re Nr.length .no) ((start ("_law_script" :: "_law_feed_here"::Nr) [V.ref a]).set 1 (some (.ref g))):=by
   refine⟨by simp [L2.start],λ_ z=>z,λb z=>⟨_,(congrArg H' z).trans hg⟩,Ext.refl _ _,λb z=>by rw [← T0 z],λ_ z=>z,λ_ z=>z,λb z=>?_,λi sl hs=>?_,λp hp=>absurd hp (by simp),λi d b hs _=>?_,λi sl b hs o _=>?_,λi j sl t b hs o _ _ _ _=>?_,λp hp=>absurd hp (by simp)⟩
   ·have e:(g,c)=b:=T0 z
    subst e
    exact⟨0,0,ns,hg,hcg,⟨hcg,hc⟩,hl,by decide,by omega⟩
   ·rcases at_ i sl hs with e | ⟨e,rfl⟩
    ·rw [← e]; trivial
    ·rw [← e]
     exact⟨(g,c),by simp [L2.start],rfl⟩
   ·rcases at_ i _ hs with e | ⟨e,_⟩ <;> cases e
   ·rcases at_ i sl hs with e | ⟨e,_⟩ <;> (rw [← e] at o; cases o)
   ·rcases at_ i sl hs with e | ⟨e,_⟩ <;> (rw [← e] at o; cases o)
  refine t2 _ _ H' n0 _ _ { nx:=λ_ _=>False,rt:=λd _=>d=.bl true } _ R ⟨λ_ _ _ _ _ _ z=>z.elim,λv H2 d n' _ _ r p=>?_,λ_ _ _ _ _ _ z=>z.elim,λ_ _ _ _ _ _ z=>z.elim⟩ hW
  have e:d=.bl true:=p
  subst e
  have e2:v=.bl true:=r
  subst e2
  exact q H2
end Dp
namespace L2
open PySem PySem.Spec PyProof.Rows
section
variable {X:Cx}
theorem FV:∀{us:List Value} {ys:List Str},StrsAre us ys->Vals (ys.map V.str) us
 | _,_,.nil=>.nil
 | _,_,.cons x t r=>.cons ⟨t,rfl⟩ (FV r)
noncomputable def QX(K:Frag):List V->Hp->VK->Prop:=λxs H Q=>∃(p:Addr) (ss:List Str),xs=[.ref p]/\SqL K H p (ss.map V.str)/\ss.length<64/\∀(ss':List Str) (l:Addr),ss'.Perm ss->sortedS ss'=true->H l=none->Q (.ref l) (Ar H l (.lst (ss'.map V.str)))
theorem NE:B9 X (.builtin "sorted") (QX X.K):=by
 intro pins s σ H xs us Q I r h
 obtain⟨p,ss,rfl,hq,h64,q⟩:=h
 obtain⟨u,rfl,rx⟩:=vals1 r
 cases rx
 obtain⟨its,r',pl,hz⟩:=I.list hq
 have hlen:=r'.length
 rw [Cn] at hlen
 refine sorted_strs pl.isList (HH r') (by omega) λout ss' a1 a2 a3=>?_
 obtain⟨e,he⟩:=sortedAll_at s.heap its out
 have hl':ss'.length=ss.length:=a2.length_eq
 have hn:H (s.heap.objs.size+1)=none:=I.hok.fresh (aG _)
 refine⟨.ref (s.heap.objs.size+1),_,I.laid (t':=s.toks) (λb o z=>sortedAll_old z) (aG _) (show ObjOk X.prog X.w _ _ _ (.lst (ss'.map V.str)) from⟨?_,out.toList,e,FV a1,?_⟩),rfl,q ss' _ a2 a3 hn⟩
 ·rw [Cn,Z2]; omega
 ·exact he
noncomputable def UX:R2:=λx y H Q=>∃z k,x=.str z/\y=.int k/\MulOk z k/\Q (.str (Txt.mul z k)) H
theorem S7:OpR X (binaryOp .Mult) UX:=by
 intro pins s σ H x y v u Q I rx ry h
 obtain⟨z,k,rfl,rfl,hm,q⟩:=h
 obtain⟨t,rfl⟩:=rx
 obtain⟨t',rfl⟩:=ry
 exact SB.mul hm λt' k=>⟨.str _,H,I.tok _,⟨_,rfl⟩,q⟩
end
end L2
namespace Dp
open PySem PySem.Spec PyProof.Rows L2
section
variable {K:Frag}
noncomputable def Cv(ds:List D)(P:D->Prop):Prop:=match ds with
 | [.lst xs]=>P (.tup xs)
 | [.tup xs]=>P (.tup xs)
 | _=>False
theorem DP:Cy K .sh (λxs H Q=>∃p ys,xs=[.ref p]/\((SqL K H p ys/\∀l,H l=none->Q (.ref l) (Ar H l (.tup ys)))\/(SqT K H p ys/\Q (.ref p) H))) Cv:=by
 intro U M H ds vs P Q dom vM hp w q
 unfold Cv at w
 split at w
 ·obtain⟨v,rfl,hx⟩:=Cu hp
  obtain⟨a,us,rfl,_,ha,hs⟩:=hx
  exact⟨a,us,rfl,.inl ⟨.inl ha,λl hl=>q _ _ (.tup _) (Al hl) (EG dom hl hs) w⟩⟩
 ·obtain⟨v,rfl,hx⟩:=Cu hp
  obtain⟨a,us,rfl,ha,hs⟩:=hx.tup
  exact⟨a,us,rfl,.inr ⟨ha.sq,q _ H (.tup _) .refl ⟨a,us,rfl,ha,hs⟩ w⟩⟩
 ·exact w.elim
theorem Ats.strs{M:Addr->Prop}{H:Hp}:∀{ss:List Str},(∀x∈ss,x.length<=sizeLine)->Ats K M H (ss.map D.str) (ss.map V.str)
 | [],_=>rfl
 | x::r,h=>⟨.str x,r.map V.str,rfl,⟨rfl,h x On⟩,Ats.strs λy hy=>h y (Is _ hy)⟩
theorem Ats.strs_le{M:Addr->Prop}{H:Hp}:∀{ss:List Str} {vs:List V},Ats K M H (ss.map D.str) vs->∀x∈ss,x.length<=sizeLine
 | [],_,_=>λx hx=>by cases hx
 | y::r,vs,h=>λx hx=>by
  obtain⟨v,t,e,h1,h2⟩:=h
  rcases UF.mp hx with rfl | hx
  ·exact h1.2
  ·exact Ats.strs_le h2 x hx
noncomputable def RN(ds:List D)(P:D->Prop):Prop:=∃(xs:List D) (ss:List Str),ds=[.lst xs]/\CV xs=some ss/\ss.length<64/\∀ss':List Str,ss'.Perm ss->sortedS ss'=true->P (.lst (ss'.map .str))
theorem OD:∀{xs:List D} {ss:List Str},CV xs=some ss->xs=ss.map .str
 | [],ss,h=>by cases h; rfl
 | .str b::r,ss,h=>by
  unfold CV at h
  obtain⟨t,e,rfl⟩:=aY.mp h
  rw [TW,← OD e]
 | .non::r,ss,h=>by unfold CV at h; cases h
 | .int _::r,ss,h=>by unfold CV at h; cases h
 | .bl _::r,ss,h=>by unfold CV at h; cases h
 | .tup _::r,ss,h=>by unfold CV at h; cases h
 | .lst _::r,ss,h=>by unfold CV at h; cases h
 | .dic _ _::r,ss,h=>by unfold CV at h; cases h
 | .fdi _ _::r,ss,h=>by unfold CV at h; cases h
 | .dit _ _::r,ss,h=>by unfold CV at h; cases h
theorem UA:Cy K .fr (QX K) RN:=by
 intro U M H ds vs P Q dom vM hp w q
 obtain⟨xs,ss,rfl,e,h64,w⟩:=w
 obtain⟨v,rfl,hx⟩:=Cu hp
 obtain⟨a,us,rfl,_,ha,hs⟩:=hx
 have:=Ki e hs
 subst this
 have e2:=OD e
 subst e2
 refine⟨a,ss,rfl,.inl ha,h64,λss' l h1 h2 hl=>?_⟩
 exact q _ _ _ (Al hl) (B4 hl (Ats.strs λx hx=>hs.strs_le x (h1.mem_iff.mp hx))) (w ss' h1 h2)
noncomputable def RP(d e:D)(P:D->Prop):Prop:=match d,e with
 | .int i,.int j=>CMul i j/\P (.int (i*j))
 | .str z,.int k=>MulOk z k/\(Txt.mul z k).length<=sizeLine/\P (.str (Txt.mul z k))
 | _,_=>False
noncomputable def UY:R2:=λx y H Q=>(rI CMul λi j=>.int (i*j)) x y H Q\/UX x y H Q
theorem S9{X:Cx}:OpR X (binaryOp .Mult) UY:=op_mul.or S7
theorem WK:DR K .sh UY RP:=λU M H d e x y P Q dom vM hx hy w q=>by
 unfold RP at w
 split at w
 ·exact .inl (FN (K:=K) (C:=CMul) (g:=λi j=>i*j) U M H (.int _) (.int _) x y P Q dom vM hx hy w q)
 ·rename_i z k
  exact .inr ⟨z,k,hx.1,hy,w.1,q _ H (.str _) .refl ⟨rfl,w.2.1⟩ w.2.2⟩
 ·exact w.elim
end
section
variable {X:Cx}{tg e e2:Expr}{es:List Expr}{ws:Eg}{p pos:Pos}
noncomputable def UL(ws:Eg):Eg:=λn ρ P=>ws n ρ λds n1=>∃i j:Int,ds=[.int i,.int j]/\(-(2 ^ 62)<=i/\i<2 ^ 62/\-(2 ^ 62)<=j/\j<2 ^ 62)/\P (CF i (j - i).toNat) n1
theorem Pe(hg:Gl X "range")(hm:X.mg "range"=none)(ha:U5 X [e,e2] ws)(hs:autoParam (starEach [e,e2] X.env=[(false,eval e X.env),(false,eval e2 X.env)]) zau3._auto_1)(hs2:autoParam (starEach [e2] X.env=[(false,eval e2 X.env)]) zau3._auto_1):DI X tg (.Call (.Name "range" p) [e,e2] [] pos) (UL ws):=by
 obtain⟨t,a1,a2⟩:=ha
 refine⟨_,Ow hg hm a1 hs hs2,λC M H n ρ σ P Rr R w q=>?_⟩
 refine a2 C M H n ρ σ _ _ R w λvs H1 ds n1 e1 f1 r1 p=>?_
 obtain⟨i,j,rfl,hj,p⟩:=p
 cases r1 with
 | cons r rr =>
  cases rr with
  | cons r' rr =>
   cases rr
   have hv:_=V.int i:=r
   have hv':_=V.int j:=r'
   exact⟨i,j,by rw [hv,hv'],hj,q _ H1 _ n1 e1 f1 FS p⟩
noncomputable def Yc(X:Cx)(ts:List Expr)(b:List D->List Slot->(List Slot->Prop)->Prop):Prop:=∃g,YF X ts g/\∀(C:Fm) (M:Addr->Prop) (H:Hp) (n:Nat) (ρ:List Slot) (σ:L2.St) (ds:List D) (vs:List V) (P:List Slot->Prop) (Q:L2.St->Hp->Prop),Rel X.K C M H n ρ σ->Ats X.K M H ds vs->b ds ρ P ->
 (∀ρ' σ',Rel X.K C M H n ρ' σ'->P ρ'->Q σ' H)->g vs σ H Q
noncomputable def OC:List D->List Slot->(List Slot->Prop)->Prop:=λds ρ P=>ds=[]/\P ρ
noncomputable def EO(b:BW)(bs:List D->List Slot->(List Slot->Prop)->Prop):List D->List Slot->(List Slot->Prop)->Prop:=λds ρ P=>match ds with
 | d::r=>b d ρ λρ1=>bs r ρ1 P
 | []=>False
theorem N7:Yc X [] OC:=⟨_,Sx,λC M H n ρ σ ds vs P Q R h w q=>by
 obtain⟨rfl,w⟩:=w
 exact⟨h,q ρ σ R w⟩⟩
theorem EJ{b:BW}{bs:List D->List Slot->(List Slot->Prop)->Prop}(h1:DG X e b)(h2:Yc X es bs)(hs:autoParam ((assignEach (e::es) X.env).map (·.2)=assign e X.env::(assignEach es X.env).map (·.2)) zau3._auto_1):Yc X (e::es) (EO b bs):=by
 obtain⟨g,a1,a2⟩:=h1
 obtain⟨g',b1,b2⟩:=h2
 refine⟨_,Qk a1 b1 hs,λC M H n ρ σ ds vs P Q R h w q=>?_⟩
 cases ds with
 | nil=>exact w.elim
 | cons d r =>
  obtain⟨v,vr,e,hv,hr⟩:=h
  exact⟨v,vr,e,a2 C M H n ρ σ d v _ _ R hv w λρ' σ' R' w'=>b2 C M H n ρ' σ' r vr _ _ R' hr w' q⟩
noncomputable def T8(k:Nat)(bs:List D->List Slot->(List Slot->Prop)->Prop):BW:=λd ρ P=>match d with
 | .tup ds=>ds.length=k/\bs ds ρ P
 | _=>False
theorem Rp{bs:List D->List Slot->(List Slot->Prop)->Prop}{k:Nat}{j:Nat}(hc:X.calm=true)(h:Yc X es bs)(hn:autoParam ((assignEach es X.env).length=k) zau3._auto_1)(hst:autoParam ((assignEach es X.env).findIdx? (·.1)=none) zau3._auto_1):DG X (.Tuple es j pos) (T8 k bs):=by
 obtain⟨g,a1,a2⟩:=h
 refine⟨_,VZ hc a1 hn hst,λC M H n ρ σ d v P Q R h w q=>?_⟩
 cases d with
 | tup ds =>
  obtain⟨a,vs,rfl,hq,hs⟩:=h
  exact⟨a,vs,rfl,hq.sq,by rw [hs.length]; exact w.1,a2 C M H n ρ σ ds vs P Q R hs w.2 q⟩
 | _=>exact w.elim
end
end Dp
namespace L2
open PySem PySem.Spec PyProof.Rows
mutual
noncomputable def RV(H:Hp):PyData->V->Prop
 | .none,v=>v=.non
 | .bool b,v=>v=.bl b
 | .int i,v=>v=.int i
 | .str x,v=>v=.str x
 | .tuple xs,v=>∃a vs,v=.ref a/\H a=some (.tup vs)/\RVs H xs vs
 | .list xs,v=>∃a vs,v=.ref a/\Rd H a (.lst vs)/\RVs H xs vs
 | .dict _,_=>False
noncomputable def RVs(H:Hp):List PyData->List V->Prop
 | [],vs=>vs=[]
 | x::xs,vs=>∃v r,vs=v::r/\RV H x v/\RVs H xs r
end
section
variable {X:Cx}{pins:List (Addr×Obj)}{σ:L2.St}{H:Hp}{s:Shared}
mutual
theorem RV.reads(I:Inv X pins σ H s):∀{d:PyData} {v:V} {u:Value},RV H d v->RelV v u->∃as,Reads s.heap u d as
 | .none,v,u,h,r=>by
  cases (show v=.non from h)
  cases (show u=Zx from r)
  exact⟨_,.none⟩
 | .bool b,v,u,h,r=>by
  cases (show v=.bl b from h)
  cases (show u=bi b from r)
  exact⟨_,.bool b⟩
 | .int i,v,u,h,r=>by
  cases (show v=.int i from h)
  obtain⟨t,rfl⟩:=r
  exact⟨_,.int i t⟩
 | .str x,v,u,h,r=>by
  cases (show v=.str x from h)
  obtain⟨t,rfl⟩:=r
  exact⟨_,.str x t⟩
 | .tuple xs,v,u,h,r=>by
  obtain⟨a,vs,rfl,hq,hs⟩:=h
  cases r
  obtain⟨its,rv,⟨o,e,c,n,d⟩,_⟩:=I.tuple (X:=X) (xs:=vs) (.inl (.inl hq))
  obtain⟨as,ra⟩:=RVs.reads I hs rv
  exact⟨_,.tuple e c d ra⟩
 | .list xs,v,u,h,r=>by
  obtain⟨a,vs,rfl,hq,hs⟩:=h
  cases r
  obtain⟨its,rv,pl,_⟩:=I.list (X:=X) (xs:=vs) (.inl hq)
  obtain⟨o,e,c,n,d⟩:=pl.isList
  obtain⟨as,ra⟩:=RVs.reads I hs rv
  exact⟨_,.list e c d ra⟩
 | .dict _,v,u,h,r=>h.elim
theorem RVs.reads(I:Inv X pins σ H s):∀{ds:List PyData} {vs:List V} {us:List Value},RVs H ds vs->Vals vs us->∃as,ReadsAll s.heap us ds as
 | [],vs,us,h,r=>by
  cases (show vs=[] from h)
  cases r
  exact⟨_,.nil⟩
 | d::ds,vs,us,h,r=>by
  obtain⟨v,w,rfl,h1,h2⟩:=h
  cases r with
  | cons r1 r2 =>
   obtain⟨as,a1⟩:=RV.reads I h1 r1
   obtain⟨bs,a2⟩:=RVs.reads I h2 r2
   exact⟨_,.cons a1 a2⟩
end
end
theorem RV.noDict{H:Hp}:∀(d:PyData) (v:V),RV H d v->d.hasDict=false
 | d,v,h=>by
  have go:∀(n:Nat),(∀(d:PyData) (v:V),sizeOf d<=n->RV H d v->d.hasDict=false)/\∀(ds:List PyData) (vs:List V),sizeOf ds<=n->RVs H ds vs->da ds=false:=by
   intro n
   induction n with
   | zero =>
    refine⟨λd v h _=>?_,λds vs h _=>?_⟩
    ·cases d <;> simp at h
    ·cases ds <;> simp at h
   | succ n ih =>
    refine⟨λd v h hr=>?_,λds vs h hr=>?_⟩
    ·cases d with
     | tuple xs =>
      obtain⟨a,vs,_,_,hs⟩:=hr
      simp only [bx]
      exact ih.2 xs vs (by simp at h; omega) hs
     | list xs =>
      obtain⟨a,vs,_,_,hs⟩:=hr
      simp only [bx]
      exact ih.2 xs vs (by simp at h; omega) hs
     | dict kvs=>exact(show False from hr).elim
     | none=>simp only [bx]
     | bool b=>simp only [bx]
     | int i=>simp only [bx]
     | str x=>simp only [bx]
    ·cases ds with
     | nil=>simp only [da]
     | cons x xs =>
      obtain⟨v,w,_,h1,h2⟩:=hr
      simp only [da,ih.1 x v (by simp at h; omega) h1,ih.2 xs w (by simp at h; omega) h2,eU]
  exact(go (sizeOf d)).1 d v (Go _) h
section
variable {X:Cx}
noncomputable def UW:List V->Hp->VK->Prop:=λxs H Q=>∃x d,xs=[x]/\RV H d x/\d.showable=true/\d.depth<=100/\d.shown.length<=sizeLine/\Q (.str d.shown) H
theorem JV{k:Nat}(hr:Room k X.A):B9 X (.builtin "repr") UW:=by
 intro pins s σ H xs us Q I r h
 obtain⟨x,d,rfl,hx,hs,hd,hz,q⟩:=h
 obtain⟨u,rfl,rx⟩:=vals1 r
 have hu:=hr.un
 cases d with
 | none =>
  cases (show x=.non from hx)
  cases (show u=Zx from rx)
  exact PySem.P.repr_of_none ⟨.str _,H,I.tok _,⟨_,rfl⟩,q⟩
 | bool b =>
  cases (show x=.bl b from hx)
  cases (show u=bi b from rx)
  refine PySem.P.repr_of_bool ⟨.str _,H,I.tok _,⟨_,rfl⟩,?_⟩
  have e:PyData.shown (.bool b)=if b then ("True" : Str) else "False":=by cases b <;> rfl
  rw [e] at q
  exact q
 | int i =>
  cases (show x=.int i from hx)
  obtain⟨t,rfl⟩:=rx
  refine PySem.P.repr_of_int (by simpa [PyData.showable] using hs) ⟨.str _,H,I.tok _,⟨_,rfl⟩,q⟩
 | str z =>
  cases (show x=.str z from hx)
  obtain⟨t,rfl⟩:=rx
  exact PySem.P.repr_of_str ⟨.str _,H,I.tok _,⟨_,rfl⟩,q⟩ hz
 | tuple ds =>
  obtain⟨as,ra⟩:=RV.reads I hx rx
  obtain⟨a,vs,rfl,_⟩:=id hx
  cases rx
  refine repr_of_reads' ra hs (PyData.noDict_hsm (RV.noDict _ _ hx)) hr.gd (by omega) (λ_ _ e=>e) (λh' u tk hk=>⟨.str _,H,I.kept (t':=tk) hk,⟨_,rfl⟩,q⟩) hz
 | list ds =>
  obtain⟨as,ra⟩:=RV.reads I hx rx
  obtain⟨a,vs,rfl,_⟩:=id hx
  cases rx
  refine repr_of_reads' ra hs (PyData.noDict_hsm (RV.noDict _ _ hx)) hr.gd (by omega) (λ_ _ e=>e) (λh' u tk hk=>⟨.str _,H,I.kept (t':=tk) hk,⟨_,rfl⟩,q⟩) hz
 | dict _=>exact(show False from hx).elim
noncomputable def Xb:R2:=λx y H Q=>∃d e,RV H d x/\RV H e y/\d.canLay0=true/\e.canLay0=true/\d.depth<=100/\Q (.bl (dh d e)) H
theorem Mo{k:Nat}(hr:Room k X.A):OpR X (compareOp .Eq) Xb:=by
 intro pins s σ H x y v u Q I rx ry h
 obtain⟨d,e,hx,hy,h1,h2,hd,q⟩:=h
 obtain⟨as,ra⟩:=RV.reads I hx rx
 obtain⟨bs,rb⟩:=RV.reads I hy ry
 have hu:=hr.un
 have hm:min d.depth e.depth<=d.depth:=Nat.min_le_left _ _
 exact PySem.SeqAt.compareEq_reads ra rb h1 h2 (by omega) ⟨.bl _,H,I,rfl,q⟩
noncomputable def VQ(neg:Bool):R2:=λx y H Q=>∃d es,RV H d x/\(RV H (.list es) y\/RV H (.tuple es) y)/\d.canLay0=true/\a_ es=true/\d.depth<=100/\Q (.bl (if neg then !(es.any λy=>dh y d) else es.any λy=>dh y d)) H
theorem Jy{k:Nat}(hr:Room k X.A):OpR X (compareOp .In) (VQ false):=by
 intro pins s σ H x y v u Q I rx ry h
 obtain⟨d,es,hx,hy,h1,h2,hd,q⟩:=h
 obtain⟨as,ra⟩:=RV.reads I hx rx
 have hu:=hr.un
 have hm:min (aL es) d.depth<=d.depth:=dw _ _
 rcases hy with hy | hy
 ·obtain⟨bs,rb⟩:=RV.reads I hy ry
  exact PySem.SeqAt.in_list_reads rb ra h2 h1 (by omega) ⟨.bl _,H,I,rfl,q⟩
 ·obtain⟨bs,rb⟩:=RV.reads I hy ry
  exact PySem.SeqAt.in_tuple_reads rb ra h2 h1 (by omega) ⟨.bl _,H,I,rfl,q⟩
theorem JC{k:Nat}(hr:Room k X.A):OpR X (compareOp .NotIn) (VQ true):=by
 intro pins s σ H x y v u Q I rx ry h
 obtain⟨d,es,hx,hy,h1,h2,hd,q⟩:=h
 obtain⟨as,ra⟩:=RV.reads I hx rx
 have hu:=hr.un
 have hm:min (aL es) d.depth<=d.depth:=dw _ _
 rcases hy with hy | hy
 ·obtain⟨bs,rb⟩:=RV.reads I hy ry
  exact PySem.SeqAt.notIn_list_reads rb ra h2 h1 (by omega) ⟨.bl _,H,I,rfl,q⟩
 ·obtain⟨bs,rb⟩:=RV.reads I hy ry
  exact PySem.SeqAt.notIn_tuple_reads rb ra h2 h1 (by omega) ⟨.bl _,H,I,rfl,q⟩
end
end L2
namespace Dp
open PySem PySem.Spec PyProof.Rows L2
mutual
noncomputable def toPy:D->PyData
 | .non=>.none
 | .bl b=>.bool b
 | .int i=>.int i
 | .str x=>.str x
 | .tup ds=>.tuple (A6 ds)
 | .lst ds=>.list (A6 ds)
 | .dic _ _=>.dict []
 | .fdi _ _=>.dict []
 | .dit _ _=>.dict []
noncomputable def A6:List D->List PyData
 | []=>[]
 | d::ds=>toPy d::A6 ds
end
mutual
noncomputable def El:D->Bool
 | .tup ds=>CG ds
 | .lst ds=>CG ds
 | .dic _ _=>false
 | .fdi _ _=>false
 | .dit _ _=>false
 | _=>true
noncomputable def CG:List D->Bool
 | []=>true
 | d::ds=>El d&&CG ds
end
theorem Ir(ds:List D):A6 ds=ds.map toPy:=by
 induction ds with
 | nil=>rfl
 | cons d r ih=>rw [A6,ih,TW]
section
variable {K:Frag}{M:Addr->Prop}{H:Hp}
mutual
theorem At.rv:∀{d:D} {v:V},At K M H d v->El d=true->RV H (toPy d) v
 | .non,v,h,_=>h
 | .bl b,v,h,_=>h
 | .int i,v,h,_=>h
 | .str x,v,h,_=>h.1
 | .tup ds,v,h,n=>by
  obtain⟨a,vs,e,hn,hs⟩:=h
  exact⟨a,vs,e,hn,Ats.rv hs n⟩
 | .lst ds,v,h,n=>by
  obtain⟨a,vs,e,hn,hs⟩:=h
  exact⟨a,vs,e,.inl hn.2,Ats.rv hs n⟩
 | .dic ks ds,v,h,n=>by cases n
 | .fdi ks ds,v,h,n=>by cases n
 | .dit ks ds,v,h,n=>by cases n
theorem Ats.rv:∀{ds:List D} {vs:List V},Ats K M H ds vs->CG ds=true->RVs H (A6 ds) vs
 | [],vs,h,_=>h
 | d::ds,vs,h,n=>by
  obtain⟨v,r,e,h1,h2⟩:=h
  have n':(El d&&CG ds)=true:=n
  rw [Zo] at n'
  exact⟨v,r,e,At.rv h1 n'.1,Ats.rv h2 n'.2⟩
end
theorem AtT.rv{U:Addr->Prop}{d:D}{v:V}(h:AtT K U M H d v)(n:El d=true):RV H (toPy d) v:=by
 cases d with
 | lst ds =>
  obtain⟨a,vs,e,_,hq,hs⟩:=h
  exact⟨a,vs,e,hq,Ats.rv hs n⟩
 | dic ks ds=>cases n
 | fdi ks ds=>cases n
 | dit ks ds=>cases n
 | non=>exact h
 | bl b=>exact h
 | int i=>exact h
 | str x=>exact h.1
 | tup ds=>exact At.rv (K:=K) (M:=M) (d:=.tup ds) h n
noncomputable def QE(d:D):Prop:=El d=true/\(toPy d).showable=true/\(toPy d).depth<=100/\(toPy d).shown.length<=sizeLine
noncomputable def MQ(d:D):Str:=(toPy d).shown
noncomputable def RO(ds:List D)(P:D->Prop):Prop:=∃d,ds=[d]/\QE d/\P (.str (MQ d))
theorem SD:Cy K .sh UW RO:=by
 intro U M H ds vs P Q dom vM hp w q
 obtain⟨d,rfl,hd,w⟩:=w
 obtain⟨v,rfl,hx⟩:=Cu hp
 exact⟨v,toPy d,rfl,hx.rv hd.1,hd.2.1,hd.2.2.1,hd.2.2.2,q _ H (.str (MQ d)) .refl ⟨rfl,hd.2.2.2⟩ w⟩
noncomputable def EC(d:D):Prop:=El d=true/\(toPy d).canLay0=true/\(toPy d).depth<=100
noncomputable def PY(d e:D):Bool:=dh (toPy d) (toPy e)
noncomputable def To(d e:D)(P:D->Prop):Prop:=EC d/\EC e/\P (.bl (PY d e))
theorem SI:DR K .sh Xb To:=λU M H d e x y P Q dom vM hx hy w q =>
 ⟨toPy d,toPy e,hx.rv w.1.1,hy.rv w.2.1.1,w.1.2.1,w.2.1.2.1,w.1.2.2,q _ H (.bl (PY d e)) .refl rfl w.2.2⟩
noncomputable def Yq:D->Option (List D)
 | .lst ds=>some ds
 | .tup ds=>some ds
 | _=>none
noncomputable def Lr(neg:Bool)(d e:D)(P:D->Prop):Prop:=EC d/\EC e/\∃es,Yq e=some es/\P (.bl (if neg then !(es.any λy=>PY y d) else es.any λy=>PY y d))
theorem Jc{neg:Bool}:DR K .sh (VQ neg) (Lr neg):=λU M H d e x y P Q dom vM hx hy w q=>by
 obtain⟨h1,h2,es,he,w⟩:=w
 have any_eq:∀es:List D,(es.map toPy).any (λy=>dh y (toPy d))=es.any λy=>PY y d:=λes=>by rw [List.any_map]; rfl
 cases e with
 | lst ds =>
  cases he
  refine⟨toPy d,A6 es,hx.rv h1.1,.inl (hy.rv h2.1),h1.2.1,by simpa [toPy,PyData.canLay0] using h2.2.1,h1.2.2,?_⟩
  rw [Ir,any_eq]
  exact q _ H (.bl _) .refl rfl w
 | tup ds =>
  cases he
  refine⟨toPy d,A6 es,hx.rv h1.1,.inr (hy.rv h2.1),h1.2.1,by simpa [toPy,PyData.canLay0] using h2.2.1,h1.2.2,?_⟩
  rw [Ir,any_eq]
  exact q _ H (.bl _) .refl rfl w
 | _=>cases he
noncomputable def X1(d e:D)(P:D->Prop):Prop:=EC d/\EC e/\P (.bl (!PY d e))
end
end Dp
namespace L2
open PySem PySem.Spec PyProof.Rows
noncomputable def XJ:R2:=λx y H Q=>∃d e,RV H d x/\RV H e y/\d.canLay0=true/\e.canLay0=true/\d.depth<=100/\Q (.bl (!PyData.eqv d e)) H
theorem Vh{X:Cx}{k:Nat}(hr:Room k X.A):OpR X (compareOp .NotEq) XJ:=by
 intro pins s σ H x y v u Q I rx ry h
 obtain⟨d,e,hx,hy,h1,h2,hd,q⟩:=h
 obtain⟨as,ra⟩:=RV.reads I hx rx
 obtain⟨bs,rb⟩:=RV.reads I hy ry
 have hu:=hr.un
 have hm:min d.depth e.depth<=d.depth:=Nat.min_le_left _ _
 exact PySem.SeqAt.compareNe_reads ra rb h1 h2 (by omega) ⟨.bl _,H,I,rfl,q⟩
end L2
namespace Dp
open PySem PySem.Spec PyProof.Rows L2
theorem X_{K:Frag}:DR K .sh XJ X1:=λU M H d e x y P Q dom vM hx hy w q =>
 ⟨toPy d,toPy e,hx.rv w.1.1,hy.rv w.2.1.1,w.1.2.1,w.2.1.2.1,w.1.2.2,q _ H (.bl (!PY d e)) .refl rfl w.2.2⟩
end Dp
namespace L2
open PySem PySem.Spec PyProof.Rows
noncomputable def kOf:Key->V
 | .inl i=>.int i
 | .inr x=>.str x
noncomputable def Um:Key->Key->Bool
 | .inl i,.inl j=>decide (i<j)
 | .inr x,.inr y=>decide (x.cps.toList<y.cps.toList)
 | _,_=>false
noncomputable def Ej:Key->Key->Bool
 | .inl _,.inl _=>true
 | .inr _,.inr _=>true
 | _,_=>false
noncomputable def BD:List Key->List Key->Bool
 | [],[]=>false
 | [],_::_=>true
 | _::_,[]=>false
 | x::xs,y::ys=>if x=y then BD xs ys else Um x y
noncomputable def A8:List Key->List Key->Bool
 | x::xs,y::ys=>Ej x y&&A8 xs ys
 | _,_=>true
theorem IA{A:Around}{s:Shared}{x y:Key}{u v:Value}(rx:RelV (kOf x) u)(ry:RelV (kOf y) v):∃e,SeqAt.EqAt A s u v e/\(e=true↔x=y):=by
 cases x with
 | inl i =>
  cases y with
  | inl j=>exact⟨_,KY rx ry rfl rfl,by simp [kOf,X4]⟩
  | inr z=>exact⟨_,KY rx ry rfl rfl,by simp [kOf,X4]⟩
 | inr z =>
  cases y with
  | inl j=>exact⟨_,KY rx ry rfl rfl,by simp [kOf,X4]⟩
  | inr z'=>exact⟨_,KY rx ry rfl rfl,by simp [kOf,X4]⟩
theorem QQ(A:Around)(s:Shared){x y:Key}{u v:Value}(rx:RelV (kOf x) u)(ry:RelV (kOf y) v)(hs:Ej x y=true)(prog:Program)(w:World)(E:Value->Shared->Prop)(Q:Value->Shared->Prop)(h:Q (.bool (Um x y)) s) :
  wpAny (model prog w) A (richCompare .Lt u v) Q E s:=by
 cases x with
 | inl i =>
  cases y with
  | inl j =>
   obtain⟨t,rfl⟩:=rx
   obtain⟨t',rfl⟩:=ry
   exact(eM h:wpAny (model prog w) A (compareOp .Lt (.int i t) (.int j t')) Q E s)
  | inr z=>cases hs
 | inr z =>
  cases y with
  | inl j=>cases hs
  | inr z' =>
   obtain⟨t,rfl⟩:=rx
   obtain⟨t',rfl⟩:=ry
   exact(PySem.P.lt_str h:wpAny (model prog w) A (compareOp .Lt (.str z t) (.str z' t')) Q E s)
section
open PySem.SeqAt
open PySem.AutoSeq1 (wpAny_loadPart')
open PySem.MeetsSeq PySem.MeetsSeq2 PySem.MeetsSeq3
theorem IS(l b:Addr)(items items2:Array Value)(n n2:Nat)(dd dd2:Option Addr)(sl sl2:Array (Option Value))(ns ms:List Key)(hi:Vals (ns.map kOf) items.toList)(hj:Vals (ms.map kOf) items2.toList)(hsame:A8 ns ms=true) :
  Meets (Builtin.«tuple.__lt__» ⟨[.ref l,.ref b],[]⟩)
   (λ_ R s=>s.heap.get? l=some { cls:=.type "tuple",dict:=dd,data:=.seq items n,slots:=sl }/\s.heap.get? b=some { cls:=.type "tuple",dict:=dd2,data:=.seq items2 n2,slots:=sl2 } /\
    R (.ok (.ret (.bool (BD ns ms)))) s) :=
 .of_wp λprog w A R s h=>by
  obtain⟨hp,g,d,tk,os⟩:=s; obtain⟨hl,hb,h⟩:=h
  have f2:=cN
  have z1:items.size=ns.length:=by have:=hi.length; rw [Cn] at this; rw [this]; simp
  have z2:items2.size=ms.length:=by have:=hj.length; rw [Cn] at this; rw [this]; simp
  wp_walk using aM hl,aM hb,d7 _ (λrest b s'=>b.1=none/\s'=⟨hp,g,d,tk,os⟩/\∃(vs ws:List Value) (ns' ms':List Key),rest=vs.zip ws /\
   Vals (ns'.map kOf) vs/\Vals (ms'.map kOf) ws/\A8 ns' ms'=true/\ns'.length+items2.size=ms'.length+items.size/\R (.ok (.ret (.bool (BD ns' ms')))) ⟨hp,g,d,tk,os⟩) _
  case turn =>
   rintro ⟨y,x⟩ rest b s' ⟨hb',rfl,vs,ws,ns',ms',hz,hvi,hwi,hsm,hlen,hR⟩
   cases ns' with
   | nil=>cases hvi; rw [cY] at hz; cases hz
   | cons a ns' =>
    cases ms' with
    | nil=>cases hwi; rw [cO] at hz; cases hz
    | cons c ms' =>
     rw [TW] at hvi hwi
     cases hvi with
     | cons ra hvi' =>
      cases hwi with
      | cons rc hwi' =>
       rw [aj] at hz
       injection hz with hyx hrest
       injection hyx with hy hx
       subst hy hx
       have hR':R (.ok (.ret (.bool (if a=c then BD ns' ms' else Um a c)))) ⟨hp,g,d,tk,os⟩:=hR
       have hsm':(Ej a c&&A8 ns' ms')=true:=hsm
       rw [Zo] at hsm'
       simp only [No] at hlen
       obtain⟨e,he,hiff⟩:=IA (A:=A.in1) (s:=⟨hp,g,d,tk,os⟩) ra rc
       refine Ch (he prog w _ _ ?_)
       cases e with
       | true =>
        rw [if_pos (hiff.mp rfl)] at hR'
        wp_walk
        exact⟨rfl,rfl,_,_,_,_,hrest,hvi',hwi',hsm'.2,by omega,hR'⟩
       | false =>
        rw [if_neg (λq=>absurd (hiff.mpr q) Tk)] at hR'
        have hri:=QQ A.in1 ⟨hp,g,d,tk,os⟩ ra rc hsm'.1 prog w
        wp_walk using hri
        exact⟨_,rfl,by simpa using hR'⟩
  case fin =>
   rintro ⟨b1,b2⟩ s' ⟨hb',rfl,vs,ws,ns',ms',hz,hvi,hwi,hsm,hlen,hR⟩
   simp only at hb'
   subst hb'
   have hv:BD ns' ms'=decide (items.size<items2.size):=by
    cases ns' with
    | nil =>
     cases ms' with
     | nil =>
      simp only [Zq] at hlen
      exact(decide_eq_false (by omega)).symm
     | cons c u =>
      simp only [Zq,No] at hlen
      exact(decide_eq_true (by omega)).symm
    | cons a t =>
     cases ms' with
     | nil =>
      simp only [Zq,No] at hlen
      exact(decide_eq_false (by omega)).symm
     | cons c u =>
      rw [TW] at hvi hwi
      cases hvi
      cases hwi
      rw [aj] at hz
      cases hz
   rw [hv] at hR
   wp_walk
   exact⟨_,rfl,by simpa [bc] using hR⟩
  case h =>
   exact⟨rfl,rfl,items.toList,items2.toList,ns,ms,rfl,hi,hj,hsame,by omega,h⟩
end
section
variable {X:Cx}
noncomputable def XM(K:Frag):R2:=λx y H Q=>∃a b ns ms,x=.ref a/\y=.ref b/\SqT K H a (ns.map kOf)/\SqT K H b (ms.map kOf)/\A8 ns ms=true/\Q (.bl (BD ns ms)) H
theorem Vi(hu:X.A.units<cLine):OpR X (compareOp .Lt) (XM X.K):=by
 intro pins s σ H x y v u Q I rx ry h
 obtain⟨a,b,ns,ms,rfl,rfl,ha,hb,hsm,q⟩:=h
 cases rx
 cases ry
 obtain⟨its,r1,p1,_⟩:=I.tuple ha
 obtain⟨its2,r2,p2,_⟩:=I.tuple hb
 obtain⟨⟨cls,dd,data,sl⟩,ho,hc,n,hd⟩:=id p1
 obtain⟨⟨cls2,dd2,data2,sl2⟩,ho2,hc2,n2,hd2⟩:=id p2
 simp only at hc hd hc2 hd2
 subst hc hd hc2 hd2
 exact cg (op:=.Lt) ⟨_,ho,rfl⟩ ⟨_,ho2,rfl⟩ PySem.F.slot_tuple_lt PySem.F.entry_tuple_lt (PySem.F.args_tuple_lt_2 _ _) (IS a b its.toArray its2.toArray n n2 dd dd2 sl sl2 ns ms r1 r2 hsm)
  ⟨ho,ho2,show bi (BD ns ms)≠c8/\EP X pins σ Q (.bool (BD ns ms)) s from⟨(λx=>nomatch x),⟨.bl _,H,I,rfl,q⟩⟩⟩ hu
end
noncomputable def ItAt(κ:Bool)(h:Heap)(it l:Addr)(k:Nat):Prop:=match κ with
 | true=>h.IsListIter it l k
 | false=>h.IsTupleIter it l k
noncomputable def SqAt(κ:Bool)(h:Heap)(l:Addr)(items:Array Value):Prop:=match κ with
 | true=>h.IsList l items
 | false=>h.IsTuple l items
section
variable {κ:Bool}{h h':Heap}{it l b:Addr}{k:Nat}{items:Array Value}
theorem ItAt.mv(x:ItAt κ h it l k)(e:∀o,h.get? it=some o->h'.get? it=some o):ItAt κ h' it l k:=by
 cases κ with
 | true=>obtain⟨o,ho,r⟩:=x; exact⟨o,e o ho,r⟩
 | false=>obtain⟨o,ho,r⟩:=x; exact⟨o,e o ho,r⟩
theorem SqAt.mv(x:SqAt κ h l items)(e:∀o,h.get? l=some o->h'.get? l=some o):SqAt κ h' l items:=by
 cases κ with
 | true=>obtain⟨o,ho,r⟩:=x; exact⟨o,e o ho,r⟩
 | false=>obtain⟨o,ho,r⟩:=x; exact⟨o,e o ho,r⟩
theorem ItAt.eb(x:ItAt κ h it l k)(hs:eO b h h')(n:it≠b):ItAt κ h' it l k:=x.mv λo e=>hs it o n e
theorem SqAt.eb(x:SqAt κ h l items)(hs:eO b h h')(n:l≠b):SqAt κ h' l items:=x.mv λo e=>hs l o n e
theorem ItAt.lies(x:ItAt κ h it l k):∃o,h.get? it=some o/\∀v,o.data≠.cell v:=by
 cases κ with
 | true=>obtain⟨o,ho,_,d⟩:=x; exact⟨o,ho,λv z=>by rw [d] at z; cases z⟩
 | false=>obtain⟨o,ho,_,d⟩:=x; exact⟨o,ho,λv z=>by rw [d] at z; cases z⟩
theorem SqAt.lies(x:SqAt κ h l items):∃o,h.get? l=some o:=by
 cases κ with
 | true=>obtain⟨o,ho,_⟩:=x; exact⟨o,ho⟩
 | false=>obtain⟨o,ho,_⟩:=x; exact⟨o,ho⟩
end
section
variable {prog:Program}{w:World}{A:Around}{E:Value->Shared->Prop}{s:Shared}
theorem Pc{κ:Bool}{it l:Addr}{i:Nat}{items:Array Value}{x:Value}{Q:Value->Shared->Prop}(hit:ItAt κ s.heap it l i)(hl:SqAt κ s.heap l items)(hx:items[i]?=some x)
  (hQ:∀h',ItAt κ h' it l (i+1)->bH it s.heap h'->Q x { s with heap:=h' }):wpAny (model prog w) A (bU (.ref it)) Q E s:=by
 cases κ with
 | true=>exact wpAny_nextOf_list_item hit hl hx hQ
 | false =>
  have hit':s.heap.IsTupleIter it l i:=hit
  have hl':s.heap.IsTuple l items:=hl
  obtain⟨o,ho,hc,hd⟩:=id hit'; obtain⟨ol,hol,_,nl,hdl⟩:=hl'
  unfold bU
  refine Ch (aS (name:=aH "__next__") hit'.typeIs bP (av bP hit'.typeIs dQ ?_ (dG _)))
  show wpAny (model prog w) _ (field (.ref it) 0 >>= _) _ _ s; refine Ch (al ho hd (x:=.ref l) rfl ?_)
  show wpAny (model prog w) _ (if (TM l==Zx)=true then _ else _) _ _ s; rw [if_neg (show ¬((TM l==Zx)=true) from Tk)]
  show wpAny (model prog w) _ (field (.ref it) 1 >>= _) _ _ s; refine Ch (al ho hd (x:=.int i 0) rfl ?_)
  show wpAny (model prog w) _ (seqItems? (.ref l) >>= _) _ _ s; refine Ch (wpAny_seqItems hol hdl ?_); simp only [bQ,hx]
  refine Ch (bX ho hd (by simp) (Db ⟨x,rfl,Db (hQ _ (show Heap.IsTupleIter _ it l (i+1) from ?_) (cB ..))⟩))
  exact⟨_,af _ ho (cq (bK hd _)),(Obj.cls_mapFields ..).trans hc,by(rw [bK hd]; simp [rawInt])⟩
theorem Lx{κ:Bool}{it l:Addr}{i:Nat}{items:Array Value}{Q:Value->Shared->Prop}(hh:A.handled=none)(hit:ItAt κ s.heap it l i)(hl:SqAt κ s.heap l items)(hx:items[i]?=none)
  (hE:∀h' e,eO it s.heap h'->(∃o,h'.get? e=some o/\o.cls=.type "StopIteration")->E (.ref e) { s with heap:=h' }):wpAny (model prog w) A (bU (.ref it)) Q E s:=by
 cases κ with
 | true=>exact wpAny_nextOf_list_end hh hit hl hx hE
 | false =>
  have hit':s.heap.IsTupleIter it l i:=hit
  have hl':s.heap.IsTuple l items:=hl
  obtain⟨o,ho,hc,hd⟩:=id hit'; obtain⟨ol,hol,_,nl,hdl⟩:=hl'
  unfold bU
  refine Ch (aS (name:=aH "__next__") hit'.typeIs bP (av bP hit'.typeIs dQ ?_ (dG _)))
  show wpAny (model prog w) _ (field (.ref it) 0 >>= _) _ _ s; refine Ch (al ho hd (x:=.ref l) rfl ?_)
  show wpAny (model prog w) _ (if (TM l==Zx)=true then _ else _) _ _ s; rw [if_neg (show ¬((TM l==Zx)=true) from Tk)]
  show wpAny (model prog w) _ (field (.ref it) 1 >>= _) _ _ s; refine Ch (al ho hd (x:=.int i 0) rfl ?_)
  show wpAny (model prog w) _ (seqItems? (.ref l) >>= _) _ _ s; refine Ch (wpAny_seqItems hol hdl ?_); simp only [bQ,hx]
  refine Ch (wpAny_rule (Ch (bX ho hd (by simp) ?_))); show wpAny (model prog w) _ (newExc (.type "StopIteration") [] >>= _) _ _ _
  refine Ch ?_; simp only [newExc,newTuple]; refine Ch (Z3 ?_ (by size_fits))
  refine Ch (m:=firstArgMember _ _) (wpAny_of_eq (a:=Zx) (by first | rfl | (simp only [firstArgMember]; rfl)) ?_); refine Z3 ?_ (by size_fits)
  simp only [raiseNew]; refine Ch (wpAny_handled ?_); first | rw [show A.in1.handled=none from hh] | rw [hh]
  refine Ch (Db (wpAny_throw ?_)); exact hE _ _ (((cB ..).extBut.push _).push _) ⟨_,XV _ rfl,rfl⟩
structure Zi (z TI TO i1 i2 l1 l2:Addr):Prop where
 TIz:TI≠z
 TOz:TO≠z
 i1z:i1≠z
 i2z:i2≠z
 TOi1:TO≠i1
 TOi2:TO≠i2
 i12:i1≠i2
 l1z:l1≠z
 l1TO:l1≠TO
 l1i1:l1≠i1
 l1i2:l1≠i2
 l2z:l2≠z
 l2TO:l2≠TO
 l2i1:l2≠i1
 l2i2:l2≠i2
end
noncomputable def Vy(κ:Bool):String:=match κ with
 | true => "list_iterator"
 | false => "tuple_iterator"
noncomputable def JN(κ:Bool)(l:Addr):Obj:={ cls:=.type (Vy κ),data:=.fields #[.ref l,.int 0 0] }
theorem RB(κ:Bool)(h:Heap)(l:Addr):ItAt κ (h.push (JN κ l)) h.objs.size l 0:=by
 cases κ with
 | true=>exact⟨_,XV _ rfl,rfl,rfl⟩
 | false=>exact⟨_,XV _ rfl,rfl,rfl⟩
section
variable {prog:Program}{w:World}{A:Around}{E:Value->Shared->Prop}{s:Shared}
end
section
variable {X:Cx}{pins:List (Addr×Obj)}{σ:L2.St}{H:Hp}{s:Shared}{h':Heap}
theorem Inv.turnedL{t':Nat}{ch:List Addr}(I:Inv X pins σ H s)(hf:∀b∈ch,FR X pins H b)(k:∀b o,b∉ch->s.heap.get? b=some o->h'.get? b=some o):Inv X pins σ H { s with heap:=h',toks:=t' }:=by
 have nit:∀b u,H b=some u->b∉ch:=λb u e z=>by rw [(hf b z).1] at e; cases e
 refine I.step (g':=s.gens) (d':=s.drawn) (ch:=ch) (λb hb=>?_) (λb o _ _ hc e _=>k b o hc e) (λb o _ _ hc e _=>⟨o.slots,k b o hc e⟩) (λ_ _ _ _ n=>n) (λb o hc e=>⟨o,k b o hc e⟩) (λ_ _ e=>e) (λ_ _ _ e=>e) (λb ps e=>⟨#[],by rw [e]; simp⟩) (λm hm=>?_) (λb u e=>?_) I.bare
 ·obtain⟨f0,f1,f2,f3,f4,f5⟩:=hf b hb
  exact⟨f3,f1,f4,f5⟩
 ·obtain⟨o,es,ep,ho,r⟩:=hm
  exact⟨o,es,ep,k _ o (λz=>(hf _ z).2.1 rfl) ho,r⟩
 ·exact(I.hok b u e).stay (λc v hc q=>k c v (hc.elim (λz=>by rw [z]; exact nit b u e) λz=>nit c _ z) q) (λ_ q=>q) λ_ _ q=>q
theorem Inv.turnLaid{t':Nat}{ch:List Addr}{a:Addr}{o:HO}(I:Inv X pins σ H s)(hf:∀b∈ch,FR X pins H b)(k:∀b o,b∉ch->s.heap.get? b=some o->h'.get? b=some o)(ha:s.heap.objs.size<=a)(new:ObjOk X.prog X.w (Ar H a o) h' a o) :
  Inv X pins σ (Ar H a o) { s with heap:=h',toks:=t' }:=by
 have nit:∀b u,H b=some u->b∉ch:=λb u e z=>by rw [(hf b z).1] at e; cases e
 have hn:H a=none:=I.hok.fresh ha
 have up:∀b u,H b=some u->Ar H a o b=some u:=λb u e=>by rw [AM (BM e hn)]; exact e
 refine I.step (g':=s.gens) (d':=s.drawn) (ch:=ch) (λb hb=>?_) (λb o _ _ hc e _=>k b o hc e) (λb o _ _ hc e _=>⟨o.slots,k b o hc e⟩) (λb u _ e n=>?_) (λb o hc e=>⟨o,k b o hc e⟩) (λb xs e=>up _ _ e) (λb o u e=>up _ _ e) (λb ps e=>⟨#[],by rw [up _ _ e]; simp⟩) (λm hm=>?_) (λb u e=>?_) I.bare
 ·obtain⟨f0,f1,f2,f3,f4,f5⟩:=hf b hb
  exact⟨f3,f1,f4,f5⟩
 ·rw [AM (Zs (Zr (Sc e) ha))]; exact n
 ·obtain⟨o,es,ep,ho,r⟩:=hm
  exact⟨o,es,ep,k _ o (λz=>(hf _ z).2.1 rfl) ho,r⟩
 ·by_cases hb:b=a
  ·subst hb; rw [AN] at e; cases e; exact new
  ·rw [AM hb] at e
   exact(I.hok b u e).stay (λc v hc q=>k c v (hc.elim (λz=>by rw [z]; exact nit b u e) λz=>nit c _ z) q) (λc q=>up _ _ q) λc xs q=>up _ _ q
end
noncomputable def SqK(κ:Bool)(K:Frag)(H:Hp)(a:Addr)(xs:List V):Prop:=match κ with
 | true=>SqL K H a xs
 | false=>SqT K H a xs
theorem SqK.at{κ:Bool}{X:Cx}{pins:List (Addr×Obj)}{σ:L2.St}{H:Hp}{s:Shared}{a:Addr}{xs:List V}(I:Inv X pins σ H s)(h:SqK κ X.K H a xs):∃its:List Value,Vals xs its/\SqAt κ s.heap a its.toArray:=by
 cases κ with
 | true=>obtain⟨its,r,pl,_⟩:=I.list h; exact⟨its,r,pl.isList⟩
 | false=>obtain⟨its,r,p,_⟩:=I.tuple h; exact⟨its,r,p⟩
structure ZI (κ1 κ2:Bool) (z TI TO i1 i2 a b:Addr) (k:Nat) (h:Heap):Prop where
 z:IsZip h z TI TO .none
 ti:IsPair h TI (.ref i1) (.ref i2)
 to:∃a b,IsPair h TO a b
 i1:ItAt κ1 h i1 a k
 i2:ItAt κ2 h i2 b k
section
variable {X:Cx}
end
end L2
namespace Dp
open PySem PySem.Spec PyProof.Rows L2
section
variable {K:Frag}
end
section
variable {X:Cx}{e1 e2:Expr}{es:List Expr}{j:Nat}{tpos p pos:Pos}{ws:Eg}
noncomputable def Yw:D->Option Key
 | .int i=>some (.inl i)
 | .str x=>some (.inr x)
 | _=>none
noncomputable def Fi:List D->Option (List Key)
 | []=>some []
 | d::ds=>match Yw d,Fi ds with
  | some k,some ks=>some (k::ks)
  | _,_=>none
theorem Ck{K:Frag}{M:Addr->Prop}{H:Hp}:∀{ds:List D} {vs:List V} {ks:List Key},Fi ds=some ks->Ats K M H ds vs->vs=ks.map kOf
 | [],vs,ks,e,h=>by cases e; exact h
 | d::ds,vs,ks,e,h=>by
  obtain⟨v,r,e1,h1,h2⟩:=h
  unfold Fi at e
  split at e
  ·rename_i k ks' hk hks
   cases e
   rw [e1,Ck hks h2,TW]
   congr 1
   cases d with
   | int i=>cases hk; exact h1
   | str x=>cases hk; exact h1.1
   | _=>cases hk
  ·cases e
noncomputable def KU(d e:D)(P:D->Prop):Prop:=match d,e with
 | .int i,.int j=>P (.bl (decide (i<j)))
 | .str i,.str j=>P (.bl (decide (i.cps.toList<j.cps.toList)))
 | .tup xs,.tup ys=>∃ks ls,Fi xs=some ks/\Fi ys=some ls/\A8 ks ls=true/\P (.bl (BD ks ls))
 | _,_=>False
noncomputable def XN(K:Frag):R2:=λx y H Q=>VO x y H Q\/XM K x y H Q
theorem FC{k:Nat}(hr:Room k X.A):OpR X (compareOp .Lt) (XN X.K):=op_ltU.or (Vi hr.units0)
theorem IM:DR X.K .sh (XN X.K) KU:=λU M H d e x y P Q dom vM hx hy w q=>by
 unfold KU at w
 split at w
 ·exact .inl (Uz (X:=X) U M H (.int _) (.int _) x y P Q dom vM hx hy w q)
 ·exact .inl (Uz (X:=X) U M H (.str _) (.str _) x y P Q dom vM hx hy w q)
 ·obtain⟨ks,ls,h1,h2,h3,w⟩:=w
  obtain⟨a,vs,rfl,ha,hs⟩:=hx.tup
  obtain⟨b,us,rfl,hb,ht⟩:=hy.tup
  have e1:=Ck h1 hs
  have e2:=Ck h2 ht
  subst e1 e2
  exact .inr ⟨a,b,ks,ls,rfl,rfl,ha.sq,hb.sq,h3,q _ H (.bl _) .refl rfl w⟩
 ·exact w.elim
end
end Dp
namespace L2
open PySem PySem.Spec PyProof.Rows
section
variable {prog:Program}{w:World}{A:Around}{E:Value->Shared->Prop}{s:Shared}
theorem K6{t sl:Addr}{items:Array Value}{vl vu:Value}{lo hi:Option Int}{Q:Value->Shared->Prop}(ht:IsTup s.heap t items)(hs:s.heap.IsSliceOf sl vl vu .none)(pl:IsPart vl lo)(pu:IsPart vu hi)
  (hw:HT.sIx items.size 0 lo=0/\HT.sIx items.size items.size hi=items.size) (h:Q (.ref t) s):wpAny (model prog w) A (getItem (.ref t) (.ref sl)) Q E s:=by
 obtain⟨os,hos,hcs,hds⟩:=id hs
 have hTs:s.TypeIs (.ref sl) "slice":=⟨os,hos,hcs⟩
 unfold getItem
 (try with_reducible refine aD ?_); (first | refine Ch (Db ?_) | skip)
 refine Ch (dY ht.typeIs (by decide) (Ch (aS (name:=aH "__getitem__") ht.typeIs Zy (av Zy ht.typeIs dD ?_ (dN _ _)))))
 show wpAny (model prog w) _ (b9 (.ref t) >>= _) _ _ s
 refine Ch (tupleItemsOf_ ht (Ch (d3 hTs ?_))); rw [if_pos (by decide)]
 refine Ch (HT.sliceApplied_gen hs pl pu ?_)
 have hyes:(((HT.sIx items.size 0 lo:Nat):Int)==0&&(1:Int)==1&&(HT.sIx items.size items.size hi - HT.sIx items.size 0 lo)==items.size)=true:=by rw [hw.1,hw.2]; simp
 show wpAny (model prog w) _ (if (((HT.sIx items.size 0 lo:Nat):Int)==0&&(1:Int)==1&&(HT.sIx items.size items.size hi - HT.sIx items.size 0 lo)==items.size)=true then _ else _) _ _ s
 rw [if_pos hyes]
 refine Ch (m:=dU _) ?_
 unfold dU
 refine Ch (d3 ht.typeIs (Db ?_))
 show wpAny (model prog w) _ (if ((bj "tuple"==bj "tuple")=true) then _ else _) _ _ s
 rw [if_pos (by decide)]
 first
  | exact Ch (wpAny_rule (Ch (Db (Db ⟨_,rfl,Db h⟩))))
  | exact Ch (wpAny_rule (Db ⟨_,rfl,Db h⟩))
  | exact Ch (Ch (wpAny_rule (Db (Db ⟨_,rfl,Db h⟩))))
theorem Hy{α β:Type}{f g:α->Option β}:∀{l:List α},(∀a∈l,f a=g a)->l.filterMap f=l.filterMap g
 | [],_=>rfl
 | a::l,h=>by
  have ih:=Hy (f:=f) (g:=g) (l:=l) λx hx=>h x (Is _ hx)
  rw [bF,bF,h a On,ih]
theorem QK(l:List Value):∀(n:Nat),n<=l.length->((Z0 n).filterMap fun(k:Nat)=>l[n - 1 - k]?)=(l.take n).reverse:=by
 intro n
 induction n with
 | zero=>intro _; simp
 | succ n ih =>
  intro h
  have hlt:n<l.length:=h
  rw [cf,bF]
  have e0:l[n+1 - 1 - 0]?=some l[n]:=by rw [show n+1 - 1 - 0=n by omega,Op hlt]
  simp only [e0]
  rw [dM]
  have e1:((fun(k:Nat)=>l[n+1 - 1 - k]?)∘Nat.succ)=fun(k:Nat)=>l[n - 1 - k]?:=by
   funext k
   show l[n+1 - 1 - (k+1)]?=l[n - 1 - k]?
   rw [show n+1 - 1 - (k+1)=n - 1 - k by omega]
  rw [e1,ih (by omega),List.take_add_one,Op hlt,List.reverse_append]
  rfl
theorem Fb(xs:Array Value):((Z0 xs.size).filterMap fun(k:Nat)=>xs[(((xs.size:Int) - 1)+(k:Int)*(-1)).toNat]?).toArray=xs.toList.reverse.toArray:=by
 have h:=QK xs.toList xs.toList.length (Go _)
 rw [List.take_length] at h
 have e:(Z0 xs.size).filterMap (fun(k:Nat)=>xs[(((xs.size:Int) - 1)+(k:Int)*(-1)).toNat]?)=(Z0 xs.toList.length).filterMap fun(k:Nat)=>xs.toList[xs.toList.length - 1 - k]?:=by
  rw [show xs.toList.length=xs.size from Z8]
  refine Hy λk hk=>?_
  have hk:=aW.mp hk
  rw [show (((xs.size:Int) - 1)+(k:Int)*(-1)).toNat=xs.size - 1 - k by omega]
  simp
 rw [e,h]
theorem MC{sl:Addr}{t:Tok}{n:Nat}{Q:Int×Int×Nat->Shared->Prop}(hs:s.heap.IsSliceOf sl .none .none (.int (-1) t))(h:Q ((n:Int) - 1,-1,n) s):wpAny (model prog w) A (bO (.ref sl) (pure (n:Int))) Q E s:=by
 obtain⟨os,hos,hcs,hds⟩:=id hs
 unfold bO dg
 refine Ch (Ch (al hos hds (x:=.none) rfl (Ch (al hos hds (x:=.none) rfl (Ch (al hos hds (x:=.int (-1) t) rfl (Db ?_)))))))
 refine Ch (HT.slicePart_ (IsPart.int (-1) t) ?_)
 show wpAny (model prog w) _ (if ((-1:Int)==0)=true then _ else _) _ _ s
 rw [if_neg (by decide)]
 refine Ch (HT.slicePart_ IsPart.none (Ch (HT.slicePart_ IsPart.none (Ch (Db ?_)))))
 show wpAny (model prog w) _ (match ax none none (-1) (n:Int) with | (lo,hi)=>pure (lo,(-1:Int),aF lo hi (-1))) _ _ s
 have e1:ax none none (-1) (n:Int)=((n:Int) - 1,-1):=rfl
 rw [e1]
 have e2:aF ((n:Int) - 1) (-1) (-1)=n:=by
  unfold aF
  rw [if_neg (by decide)]
  by_cases hn:(n:Int) - 1 > -1
  ·rw [if_pos hn]
   simp
  ·rw [if_neg hn]
   omega
 show wpAny (model prog w) _ (pure ((n:Int) - 1,(-1:Int),aF ((n:Int) - 1) (-1) (-1))) _ _ s
 rw [e2]
 exact Db h
theorem OZ{t sl:Addr}{items:Array Value}{tk:Tok}{Q:Value->Shared->Prop}(ht:IsTup s.heap t items)(hs:s.heap.IsSliceOf sl .none .none (.int (-1) tk))(hsz:items.size<=sizeLine)
  (h:Q (.ref s.heap.objs.size) { s with heap:=s.heap.push { cls:=.type "tuple",data:=.seq items.toList.reverse.toArray } }):wpAny (model prog w) A (getItem (.ref t) (.ref sl)) Q E s:=by
 obtain⟨os,hos,hcs,hds⟩:=id hs
 have hTs:s.TypeIs (.ref sl) "slice":=⟨os,hos,hcs⟩
 have htake:sizeOk (.seq items.toList.reverse.toArray):=by
  show items.toList.reverse.toArray.size<=sizeLine
  simpa using hsz
 unfold getItem
 (try with_reducible refine aD ?_); (first | refine Ch (Db ?_) | skip)
 refine Ch (dY ht.typeIs (by decide) (Ch (aS (name:=aH "__getitem__") ht.typeIs Zy (av Zy ht.typeIs dD ?_ (dN _ _)))))
 show wpAny (model prog w) _ (b9 (.ref t) >>= _) _ _ s
 refine Ch (tupleItemsOf_ ht (Ch (d3 hTs ?_))); rw [if_pos (by decide)]
 refine Ch (MC hs ?_)
 have hno:¬(((items.size:Int) - 1==0&&(-1:Int)==1&&items.size==items.size)=true):=by simp
 show wpAny (model prog w) _ (if ((items.size:Int) - 1==0&&(-1:Int)==1&&items.size==items.size)=true then _ else _) _ _ s
 rw [if_neg hno,Fb]
 first
  | exact Ch (m:=aI _) (Z3 (Db ⟨_,rfl,Db h⟩) htake)
  | exact Ch (m:=aI _) (Z3 (Ch (Db (Db ⟨_,rfl,Db h⟩))) htake)
  | exact Ch (Ch (m:=aI _) (Z3 (Db (Db ⟨_,rfl,Db h⟩)) htake))
  | exact Ch (Ch (m:=aI _) (Z3 (Db ⟨_,rfl,Db h⟩) htake))
theorem Ih(items:Array Value):slicePick items none none (some (-1))=items.toList.reverse.toArray:=by
 unfold slicePick
 have e1:sliceBounds none none (some (-1)) items.size=((items.size:Int) - 1,-1,-1):=rfl
 rw [e1]
 simp only [sliceRange]
 rw [← Fb,dM]
 congr 1
 have e2:(if (-1:Int) > 0 then if (items.size:Int) - 1 < -1 then (-1 - ((items.size:Int) - 1)+-1 - 1) / -1 else 0 else if (items.size:Int) - 1 > -1 then ((items.size:Int) - 1 - -1 - -1 - 1) / - -1 else 0).toNat=items.size:=by
  rw [if_neg (by decide)]
  by_cases hn:(items.size:Int) - 1 > -1
  ·rw [if_pos hn]
   have:- -1=(1:Int):=rfl
   rw [this,Int.ediv_one]
   omega
  ·rw [if_neg hn]
   omega
 rw [e2]
 refine Hy λk _=>?_
 show items[((items.size:Int) - 1+-1*(k:Int)).toNat]?=items[((items.size:Int) - 1+(k:Int)*(-1)).toNat]?
 rw [Int.mul_comm]
end
section
variable {X:Cx}{e st:Expr}{te tst:TE}{pos p2:Pos}
noncomputable def Yr(K:Frag):V->Hp->VK->Prop:=λx H Q=>(∃a xs,x=.ref a/\SqL K H a xs/\∀p,H p=none->Q (.ref p) (Ar H p (.lst xs.reverse)))\/∃a xs,x=.ref a/\SqT K H a xs/\∀p,H p=none->Q (.ref p) (Ar H p (.tup xs.reverse))
noncomputable def Yl(K:Frag)(te tst:TE):TE:=λσ H Q=>te σ H λx H1=>tst σ H1 λi H2=>i=.int (-1)/\Yr K x H2 Q
theorem Va(he:PE X e te)(hst:PE X st tst):PE X (.Subscript e (.Slice none none (some st) p2) pos) (Yl X.K te tst):=by
 intro pins s σ H Q I h
 refine Subscript_ (BB (he pins s σ H _ I h) λv s1 ⟨x,H1,I1,r1,q1⟩=>?_)
 refine wpAny_Slice ?_
 rw [evalPart_none,evalPart_some]
 refine Db (Db (BB (hst pins s1 σ H1 _ I1 q1) λvs s3 ⟨i,H3,I3,r3,q3⟩=>?_))
 obtain⟨rfl,q3⟩:=q3
 obtain⟨t,rfl⟩:=r3
 have I4:Inv X pins σ H3 { s3 with heap:=s3.heap.push { cls:=.type "slice",data:=.fields #[.none,.none,.int (-1) t] } }:=I3.kept (t':=s3.toks) λb ob q=>Ev _ q
 have hs:({ s3 with heap:=s3.heap.push { cls:=.type "slice",data:=.fields #[.none,.none,.int (-1) t] } }:Shared).heap.IsSliceOf s3.heap.objs.size .none .none (.int (-1) t):=ej ..
 show wpAny (model X.prog X.w) X.A (subscriptTail e (.Slice none none (some st) p2) v (.ref s3.heap.objs.size)) (EP X pins σ Q) X.xe { s3 with heap:=s3.heap.push { cls:=.type "slice",data:=.fields #[.none,.none,.int (-1) t] } }
 rcases q3 with ⟨a,xs,rfl,hq,q⟩ | ⟨a,xs,rfl,hq,q⟩
 ·cases r1
  obtain⟨its,r,ht,hz⟩:=I4.list hq
  have hlen:=r.length
  refine tail_any (ops:=[.ref a,.ref s3.heap.objs.size]) ht.isList.typeIs dZ.lookup ?_ (by with_unfolding_all rfl)
  refine wpAny_getItem_list_slice ht.isList hs .none .none (.int (-1) t) (by decide) ?_ (by rw [Rs]; omega)
  rw [Ih]
  refine⟨.ref _,_,I4.laid (t':=s3.toks) (o:=.lst xs.reverse) (λb ob q=>Ev _ q) (Go _) ?_,rfl,q _ (I4.hok.fresh (Go _))⟩
  exact⟨by rw [cC]; exact hz,_,0,r.reverse,XV _ rfl⟩
 ·cases r1
  obtain⟨its,r,ht,hz⟩:=I4.tuple hq
  have hlen:=r.length
  refine tail_any (ops:=[.ref a,.ref s3.heap.objs.size]) ht.typeIs Zy.lookup ?_ (by with_unfolding_all rfl)
  refine OZ ht hs (by rw [Rs]; omega) ?_
  refine⟨.ref _,_,I4.laid (t':=s3.toks) (o:=.tup xs.reverse) (λb ob q=>Ev _ q) (Go _) ?_,rfl,q _ (I4.hok.fresh (Go _))⟩
  exact⟨by rw [cC]; exact hz,_,r.reverse,IsTupN.new _ _⟩
noncomputable def UU(K:Frag):V->Option Int->Option Int->Hp->VK->Prop:=λx lo hi H Q=>∃a xs,x=.ref a/\SqT K H a xs/\(HT.sIx xs.length 0 lo=0/\HT.sIx xs.length xs.length hi=xs.length)/\Q (.ref a) H
theorem Sh:SlR X (UU X.K):=by
 intro pins s σ H x v vl vu lo hi sl Q I rx hs pl pu h
 obtain⟨a,xs,rfl,hx,hw,q⟩:=h
 cases rx
 obtain⟨its,r,ht,hz⟩:=I.tuple hx
 have hlen:its.toArray.size=xs.length:=by rw [Rs]; exact r.length.symm
 exact⟨"tuple",_,Zy.lookup,ht.typeIs,K6 ht hs pl pu (by rw [hlen]; exact hw) ⟨.ref a,H,I,rfl,q⟩⟩
end
section
variable {X:Cx}
noncomputable def QY(K:Frag):R2:=λx y H Q=>∃a b ys,x=.ref a/\y=.ref b/\SqT K H a []/\SqT K H b ys/\Q (.ref b) H
theorem Qv:OpR X (binaryOp .Add) (QY X.K):=by
 intro pins s σ H x y v u Q I rx ry h
 obtain⟨a,b,ys,rfl,rfl,ha,hb,q⟩:=h
 cases rx
 cases ry
 obtain⟨its,r1,p1,_⟩:=I.tuple ha
 obtain⟨its2,r2,p2,_⟩:=I.tuple hb
 cases r1
 obtain⟨⟨cls,dd,data,sl⟩,ho,hc,n,hd⟩:=id p1
 obtain⟨⟨cls2,dd2,data2,sl2⟩,ho2,hc2,n2,hd2⟩:=id p2
 simp only at hc hd hc2 hd2
 subst hc hd hc2 hd2
 exact concat_meets ⟨_,ho,rfl⟩ ⟨_,ho2,rfl⟩ du seq_tuple_add PySem.F.slot_tuple_add PySem.F.entry_tuple_add (PySem.F.args_tuple_add_2 _ _) (tuple_addW0 a b _ its2.toArray n n2 dd dd2 sl sl2 (by simp)) ⟨ho,ho2,⟨.ref b,H,I,rfl,q⟩⟩
noncomputable def bI(b:Bool):Int:=if b=true then 1 else 0
noncomputable def YU(g:Int->Int->Int):R2:=λx y H Q=>∃k j,x=.bl k/\y=.int j/\Q (.int (g (bI k) j)) H
noncomputable def ZE(g:Int->Int->Int):R2:=λx y H Q=>∃i k,x=.int i/\y=.bl k/\Q (.int (g i (bI k))) H
theorem op_add_bi:OpR X (binaryOp .Add) (YU λi j=>i+j):=by
 intro pins s σ H x y v u Q I rx ry h
 obtain⟨k,j,rfl,rfl,q⟩:=h
 cases rx
 obtain⟨t,rfl⟩:=ry
 exact PySem.IntBool.add_bool_int ⟨.int _,H,I.tok _,⟨_,rfl⟩,q⟩
theorem op_sub_bi:OpR X (binaryOp .Sub) (YU λi j=>i - j):=by
 intro pins s σ H x y v u Q I rx ry h
 obtain⟨k,j,rfl,rfl,q⟩:=h
 cases rx
 obtain⟨t,rfl⟩:=ry
 exact PySem.IntBool.sub_bool_int ⟨.int _,H,I.tok _,⟨_,rfl⟩,q⟩
theorem Oy:OpR X (binaryOp .Sub) (ZE λi j=>i - j):=by
 intro pins s σ H x y v u Q I rx ry h
 obtain⟨i,k,rfl,rfl,q⟩:=h
 obtain⟨t,rfl⟩:=rx
 cases ry
 exact PySem.IntBool.sub_int_bool ⟨.int _,H,I.tok _,⟨_,rfl⟩,q⟩
noncomputable def UT:List V->Hp->VK->Prop:=λxs H Q=>(∃i,xs=[.int i]/\i.natAbs.log2<1920/\Q (.str (toString i)) H)\/∃b,xs=[.bl b]/\Q (.str (if b then "True" else "False")) H
theorem GP:B9 X (.type "str") UT:=by
 intro pins s σ H xs us Q I r h
 rcases h with h | ⟨b,rfl,q⟩
 ·exact Kf pins s σ H xs us Q I r h
 ·obtain⟨u,rfl,rx⟩:=vals1 r
  cases rx
  exact PySem.P.str_of_bool ⟨.str _,H,I.tok _,⟨_,rfl⟩,q⟩
end
end L2
namespace Dp
open PySem PySem.Spec PyProof.Rows L2
section
variable {K:Frag}{X:Cx}
noncomputable def Ak(d e:D)(P:D->Prop):Prop:=match d,e with
 | .int i,.int j=>P (.int (i+j))
 | .bl k,.int j=>P (.int (bI k+j))
 | .str i,.str j=>i.length+j.length<=sizeLine/\P (.str (i++j))
 | .tup i,.tup j=>i.length+j.length<=sizeLine/\P (.tup (i++j))
 | .lst i,.lst j=>i.length+j.length<=sizeLine/\P (.lst (i++j))
 | _,_=>False
noncomputable def Ue(K:Frag):R2:=λx y H Q=>Qa K x y H Q\/(YU λi j=>i+j) x y H Q\/QY K x y H Q
theorem AQ:OpR X (binaryOp .Add) (Ue X.K):=op_addU.or (op_add_bi.or Qv)
theorem Aa:DR X.K .sh (Ue X.K) Ak:=λU M H d e x y P Q dom vM hx hy w q=>by
 unfold Ak at w
 split at w
 ·exact .inl (Ko (X:=X) U M H (.int _) (.int _) x y P Q dom vM hx hy w q)
 ·rename_i k j
  exact .inr (.inl ⟨k,j,hx,hy,q _ H (.int _) .refl rfl w⟩)
 ·exact .inl (Ko (X:=X) U M H (.str _) (.str _) x y P Q dom vM hx hy w q)
 ·rename_i i j
  cases i with
  | nil =>
   obtain⟨a,vs,rfl,ha,hs⟩:=hx.tup
   obtain⟨b,us,rfl,hb,ht⟩:=hy.tup
   cases (show vs=[] from hs)
   exact .inr (.inr ⟨a,b,us,rfl,rfl,ha.sq,hb.sq,q _ H (.tup j) .refl ⟨b,us,rfl,hb,ht⟩ (by have:=w.2; rw [Z9] at this; exact this)⟩)
  | cons i0 i=>exact .inl (Ko (X:=X) U M H (.tup (i0::i)) (.tup j) x y P Q dom vM hx hy ⟨(by intro z; cases z),w⟩ q)
 ·exact .inl (Ko (X:=X) U M H (.lst _) (.lst _) x y P Q dom vM hx hy w q)
 ·exact w.elim
noncomputable def Ny(d e:D)(P:D->Prop):Prop:=match d,e with
 | .int i,.int j=>P (.int (i - j))
 | .bl k,.int j=>P (.int (bI k - j))
 | .int i,.bl k=>P (.int (i - bI k))
 | _,_=>False
noncomputable def US:R2:=λx y H Q=>(GV λi j=>.int (i - j)) x y H Q\/(YU λi j=>i - j) x y H Q\/(ZE λi j=>i - j) x y H Q
theorem Nh:OpR X (binaryOp .Sub) US:=op_sub.or (op_sub_bi.or Oy)
theorem SA:DR K .sh US Ny:=λU M H d e x y P Q dom vM hx hy w q=>by
 unfold Ny at w
 split at w
 ·exact .inl (SE (K:=K) (g:=λi j=>i - j) U M H (.int _) (.int _) x y P Q dom vM hx hy w q)
 ·rename_i k j
  exact .inr (.inl ⟨k,j,hx,hy,q _ H (.int _) .refl rfl w⟩)
 ·rename_i i k
  exact .inr (.inr ⟨i,k,hx,hy,q _ H (.int _) .refl rfl w⟩)
 ·exact w.elim
noncomputable def Lo(ds:List D)(P:D->Prop):Prop:=match ds with
 | [.int i]=>i.natAbs.log2<1920/\(aH (toString i)).length<=sizeLine/\P (.str (toString i))
 | [.bl b]=>P (.str (if b then "True" else "False"))
 | _=>False
theorem NI:Cy K .sh UT Lo:=by
 intro U M H ds vs P Q dom vM hp w q
 unfold Lo at w
 split at w
 ·rename_i i
  obtain⟨v,rfl,hx⟩:=Cu hp
  rw [hx.int]
  exact .inl ⟨i,rfl,w.1,q _ H (.str _) .refl ⟨rfl,w.2.1⟩ w.2.2⟩
 ·rename_i b
  obtain⟨v,rfl,hx⟩:=Cu hp
  rw [hx.bl]
  refine .inr ⟨b,rfl,q _ H (.str _) .refl ⟨rfl,?_⟩ w⟩
  cases b <;> (rw [Z2]; decide)
 ·exact w.elim
noncomputable def CA(d:D)(lo hi:Option Int)(P:D->Prop):Prop:=match d with
 | .str z=>P (.str (Txt.slice z lo hi))
 | .lst xs=>P (.lst (cutD xs lo hi))
 | .tup xs=>P (.tup (cutD xs lo hi))
 | _=>False
noncomputable def XI(K:Frag):V->Option Int->Option Int->Hp->VK->Prop:=λx lo hi H Q=>XD x lo hi H Q\/XH K x lo hi H Q\/XG K x lo hi H Q\/UU K x lo hi H Q
theorem CO:SlR X (XI X.K):=sl_U.or (sl_list.or (sl_tup.or Sh))
theorem N9{M:Addr->Prop}{H:Hp}{ds:List D}{vs:List V}(lo hi:Option Int)(h:Ats K M H ds vs):Ats K M H (cutD ds lo hi) (Ij vs lo hi):=by
 unfold cutD Ij
 rw [h.length]
 exact(h.drop _).take _
theorem BU:ZL K .sh (XI K) CA:=by
 intro U M H d x lo hi P Q dom vM hx w q
 unfold CA at w
 split at w
 ·rename_i z
  exact .inl ⟨z,hx.str.1,hx.str.2,q _ H (.str (Txt.slice z lo hi)) .refl ⟨rfl,Zv (Txt.slice_le z lo hi) hx.str.2⟩ w⟩
 ·rename_i xs
  obtain⟨a,vs,rfl,_,ha,hs⟩:=hx
  exact .inr (.inl ⟨a,vs,rfl,.inl ha,λp hp=>q _ _ (.lst _) (Al hp) ((B4 (U:=U) hp (N9 lo hi hs)).shOf dom (by intro z; cases z)) w⟩)
 ·rename_i xs
  obtain⟨a,vs,rfl,ha,hs⟩:=hx.tup
  by_cases hw:HT.sIx vs.length 0 lo=0/\HT.sIx vs.length vs.length hi=vs.length
  ·refine .inr (.inr (.inr ⟨a,vs,rfl,ha.sq,hw,?_⟩))
   have e:cutD xs lo hi=xs:=by
    unfold cutD
    rw [← hs.length,hw.1,hw.2,List.drop_zero,Nat.sub_zero,hs.length,List.take_length]
   rw [e] at w
   exact q _ H (.tup xs) .refl ⟨a,vs,rfl,ha,hs⟩ w
  ·exact .inr (.inr (.inl ⟨a,vs,rfl,ha.sq,hw,λp hp=>q _ _ (.tup _) (Al hp) (EG dom hp (N9 lo hi hs)) w⟩))
 ·exact w.elim
noncomputable def Ws(wa wst:DW):DW:=λn ρ P=>wa n ρ λd n1=>wst n1 ρ λi n2=>i=.int (-1)/\match d with
 | .lst xs=>P (.lst xs.reverse) n2
 | .tup xs=>P (.tup xs.reverse) n2
 | _=>False
theorem V_{a st:Expr}{κa κs:Kd}{wa wst:DW}{pos p2:Pos}(ha:DE X a κa wa)(hst:DE X st κs wst):DE X (.Subscript a (.Slice none none (some st) p2) pos) .sh (Ws wa wst):=by
 obtain⟨t,h1,h2⟩:=ha
 obtain⟨u,g1,g2⟩:=hst
 refine⟨_,Va h1 g1,λC M H n ρ σ P Q R w q=>?_⟩
 refine h2 C M H n ρ σ _ _ R w λv H1 d n1 e1 f1 r1 p=>?_
 have R1:=R.step e1 f1
 have tv:=r1.tpOf R.dom R.vM
 refine g2 C M H1 n1 ρ σ _ _ R1 p λi H2 z n2 e2 f2 r2 p2=>?_
 have R2':=R1.step e2 f2
 have tv2:=tv.pres (R1.pres e2) e2 R.uV
 obtain⟨rfl,p2⟩:=p2
 refine⟨Mz r2,?_⟩
 cases d with
 | lst xs =>
  obtain⟨a,vs,rfl,_,ha,hs⟩:=tv2
  refine .inl ⟨a,vs,rfl,.inl ha,λp hp=>?_⟩
  have g:Grow H2 (Ar H2 p (.lst vs.reverse)):=Al hp
  exact q _ _ (.lst xs.reverse) n2 ((e1.trans e2).trans g.ext) (f2.grow g) ((B4 (U:=C.V) hp hs.reverse).shOf R2'.dom (by intro z; cases z)) p2
 | tup xs =>
  obtain⟨a,vs,rfl,ha,hs⟩:=tv2.tup
  refine .inr ⟨a,vs,rfl,ha.sq,λp hp=>?_⟩
  have g:Grow H2 (Ar H2 p (.tup vs.reverse)):=Al hp
  exact q _ _ (.tup xs.reverse) n2 ((e1.trans e2).trans g.ext) (f2.grow g) (EG R2'.dom hp hs.reverse) p2
 | _=>exact p2.elim
noncomputable def JQ:D->D->(D->Prop)->Prop:=YW λi j P=>i.length+j.length<=sizeLine/\P (.lst (i++j))
end
end Dp
namespace Nt
open PySem PySem.Spec PyProof.Rows L2 Dp
noncomputable def Bj:W2:=λss n P=>∃m:Int,ss=[.fd,.sh (.int m)]/\1<=m/\m<1073741824/\1<=n/\∀r:Int,0<=r->r<m->P (.int r) (n - 1)
noncomputable def cs(x:Str):List Nat:=x.cps.toList
theorem FK(x:Str):(cs x).length=x.length:=Z8
theorem WC{x y:Str}(h:cs x=cs y):x=y:=by
 obtain⟨a⟩:=x
 obtain⟨b⟩:=y
 unfold cs at h
 exact congrArg Str.mk (Array.ext' h)
theorem FL(x y:Str):cs (x++y)=cs x++cs y:=PySem.W.KT.app_list x y
noncomputable def DJ(x:Str):Prop:=1<=x.length/\x.length<=8/\∀c∈cs x,97<=c/\c<=122
noncomputable def rising(xs:List Str):Prop:=xs.Pairwise λx y=>cs x<cs y
theorem Q0(a b:List Nat):ltCps a b=decide (a<b):=ltCps_eq a b
theorem GW:∀(l:List Str) (p:Str),risingS p l=true->(p::l).Pairwise λa b=>¬cs b<cs a
 | [],p,_=>cU _ _
 | x::r,p,h=>by
  have h':(!ltCps x.cps.toList p.cps.toList&&risingS x r)=true:=h
  rw [Zo,bu,Q0,decide_eq_false_iff_not] at h'
  have ih:=GW r x h'.2
  refine cP.mpr ⟨λy hy=>?_,ih⟩
  rcases UF.mp hy with rfl | hy
  ·exact h'.1
  ·have h2:=(cP.mp ih).1 y hy
   exact List.le_trans (l₁:=cs p) (l₂:=cs x) (l₃:=cs y) h'.1 h2
theorem IV{l:List Str}(h:sortedS l=true)(nd:l.Nodup):rising l:=by
 have hp:l.Pairwise λa b=>¬cs b<cs a:=by
  cases l with
  | nil=>exact bS
  | cons x r=>exact GW r x h
 refine(hp.and nd).imp λ{a b} ⟨h1,h2⟩=>?_
 exact Classical.byContradiction λh3=>h2 (WC (List.le_antisymm (as:=cs a) (bs:=cs b) h1 h3))
theorem DB(lo:Int)(n:Nat):(CF lo n).length=n:=by unfold CF; rw [Cn,bA]
theorem HN{lo:Int}{n:Nat}{d:D}(h:d∈CF lo n):∃k:Nat,k<n/\d=.int (lo+k):=by
 unfold CF at h
 obtain⟨k,hk,rfl⟩:=Zu.mp h
 exact⟨k,aW.mp hk,rfl⟩
end Nt
namespace L2
open PySem PySem.Spec PyProof.Rows
theorem Vq{K:Frag}:PySem.W.specialIn K (.builtin "object.__class__") "__get__"=some (some (.builtin "getset_descriptor.__get__")):=by kernel_rfl
theorem Qx{K:Frag}:PySem.W.takesIn K (.builtin "object.__class__")=some true:=by kernel_rfl
section
variable {K:Frag}{nm n1 n2:Str}{C U D U':Addr}
theorem XC.hd(c:XC K nm C U):PySem.W.hasDictIn K C=true:=by
 obtain⟨cd,h1,_,h2,_⟩:=c.cls
 unfold PySem.W.hasDictIn
 rw [h1]; exact h2
theorem XC.mro(c:XC K nm C U)(v:Value):PySem.W.mroIn K C v=some ((TM C::TM U::CK).contains v):=by
 obtain⟨cd,h1,h2,_⟩:=c.cls
 unfold PySem.W.mroIn
 rw [h1,ci,h2]; rfl
theorem XC.name(c:XC K n1 C U)(d:XC K n2 C U'):n1=n2:=by
 obtain⟨cd,h1,_,_,h2⟩:=c.cls
 obtain⟨cd',h1',_,_,h2'⟩:=d.cls
 rw [h1] at h1'; cases h1'; exact h2.symm.trans h2'
theorem XC.nameU(c:XC K n1 C U)(d:XC K n2 U U'):n2 = "ThinError":=by
 obtain⟨q,N,bs,sn,sub,ab,col,dd,k0,k1,k2,k3,k5,hd,e⟩:=c.up
 obtain⟨cd',h1',_,_,h2'⟩:=d.cls
 unfold PySem.W.clsIn at h1'
 rw [e] at h1'
 cases h1'
 exact h2'.symm
theorem XC.ty(c:XC K nm C U):(PySem.W.clsIn K C).isSome=true/\PySem.W.typeIn K (.ref C)=some (.type "type"):=by
 obtain⟨q,N,bs,sn,sub,ab,col,dd,k0,k1,k2,k3,k5,e⟩:=c.obj
 refine⟨by unfold PySem.W.clsIn; rw [e]; rfl,?_⟩
 unfold PySem.W.typeIn
 simp only [e]
 rfl
theorem XC.kit(c:XC K n1 C U)(d:XC K n2 D U')(h:n2 ≠ "ThinError"):PySem.W.kitOne K (.ref C) (.ref D)=some (decide (n1=n2)):=by
 unfold PySem.W.kitOne
 by_cases e:C=D
 ·subst e
  rw [if_pos (by simp),c.name d]
  simp
 ·have ne:n1≠n2:=λz=>by
   subst z
   have q:=c.at_.symm.trans d.at_
   cases q
   exact e rfl
  have nu:U≠D:=λz=>by subst z; exact h (c.nameU d)
  rw [if_neg (by simp [e])]
  show (if ((PySem.W.clsIn K D).isSome&&PySem.W.typeIn K (TM D)==some (bj "type"))=true then PySem.W.subIn K (TM C) (TM D) else none)=_
  rw [if_pos (by rw [d.ty.1,d.ty.2]; rfl)]
  show PySem.W.mroIn K C (.ref D)=_
  rw [c.mro,Ge]
  simp [e,ne,nu]
theorem XC.kitV(c:XC K n1 C U):PySem.W.kitOne K (.ref C) (.type "ValueError")=some true:=by
 unfold PySem.W.kitOne
 rw [if_neg (by simp)]
 show (if PySem.W.kitMeta "ValueError"=true then PySem.W.subIn K (TM C) (.type "ValueError") else none)=_
 rw [if_pos (by decide +kernel)]
 show PySem.W.mroIn K C _=_
 rw [c.mro]
 simp [CK]
end
section
variable {prog:Program}{w:World}{A:Around}{E:Value->Shared->Prop}{s:Shared}{K:Frag}{nm name:Str}{x C U:Addr}{ox:Obj}{od:Option Obj}{tk:Tok}{fill expr:Bool}
theorem UH{Q:Value->Shared->Prop}(X:K.In s.heap)(c:XC K nm C U)(I:PySem.W.InstAt s.heap x ox C od)
  (h:wpAny (model prog w) A.in1 (Builtin.«object.__getattribute__» ⟨[.ref x,.str name tk],[]⟩) (λfin s'=>match fin with | .done (.ret v)=>wpAny (model prog w) A (handedOut v) Q E s' | _=>False) (λ_ _=>False) s) :
  wpAny (model prog w) A (getAttrBy (.ref x) (.str name tk) fill expr) Q E s:=by
 have FX:=PySem.F.excAttr_ValueError
 have n2:(bh "BaseException.__getattribute__"==bh "object.__getattribute__")=false:=by decide +kernel
 have n1:(onTheHeap (TM C)&&bh "BaseException.__getattribute__"==bh "object.__getattribute__")=false:=by rw [n2]; rfl
 have n0:(expr&&onTheHeap (bh "BaseException.__getattribute__"))=false:=by cases expr <;> rfl
 have sub:PySem.W.Looks (model prog w) s.heap (isInstance (.ref x) (.type "BaseException")) true:=by
  refine I.type.andThen (PySem.W.looks_mroIn X ?_)
  rw [c.mro]; simp [CK]
 unfold getAttrBy
 refine aD (Ch (I.type.here (Ch ((PySem.W.looks_findIn X c.ga).here ?_))))
 show wpAny _ _ (if (onTheHeap (TM C)&&bh "BaseException.__getattribute__"==bh "object.__getattribute__")=true then _ else getAttrByItsOwn _ _ _ _ _ _) _ _ _
 rw [n1,if_neg Tk]
 unfold getAttrByItsOwn
 refine Ch ((show PySem.W.Looks (model prog w) s.heap (hookBefore (.ref C)) none from PySem.W.looks_findIn X c.gt).here (Ch (dW (aD ?_))))
 unfold callGetattribute boundAndCalled
 rw [n0,if_neg Tk,FX.ga.bind (.ref x)]
 refine Ch (Db (b7 (c0 FX.ga.plain PySem.F.entry_bexc_ga (@PySem.W.check_slot (model prog w) _ _ s "BaseException.__getattribute__" "BaseException" "__getattribute__" (.ref x) [.str name tk] [] _ (by decide +kernel) (by decide +kernel) sub (PySem.F.args_bexc_ga _ _) (Z6 h (λfin s' z=>?_) λ_ _ z=>z.elim)))))
 rcases fin with (_ | _ | _ | _) | _ <;> first | exact z | exact z.elim
theorem UQ{a b:Value}:slotArgs "__getattribute__" 1 ⟨[a,b],[]⟩=pure (a,[b]):=rfl
theorem U7{v:Value}{Q:Value->Shared->Prop}(X:K.In s.heap)(c:XC K nm C U)(I:PySem.W.InstAt s.heap x ox C od)(hf:PySem.W.findObj K C od name=some (.value v))(hh:PySem.W.handedIn v=true)(h:Q v { s with toks:=s.toks+1 }) :
  wpAny (model prog w) A (getAttr (.ref x) name expr) Q E s:=by
 unfold getAttr
 refine Ch (wpAny_mkText (UH (s:={ s with toks:=s.toks+1 }) X c I ?_))
 unfold Builtin.«object.__getattribute__»
 rw [UQ]
 refine Ch (Db (Ch (Db (Ch (PySem.W.Looks.here (s:={ s with toks:=s.toks+1 }) I.type (Ch (PySem.W.Looks.here (s:={ s with toks:=s.toks+1 }) (PySem.W.looks_find X I hf) (Db ?_))))))))
 show wpAny _ _ (handedOut v) _ _ _
 rw [PySem.W.handedOut_of hh]; exact Db h
theorem Pt{g a v:Value}{Q:Option Value->Shared->Prop}(X:K.In s.heap)(c:XC K nm C U)(I:PySem.W.InstAt s.heap x ox C od)(hf:PySem.W.findObj K C od name=some (.bind g a))(hh:PySem.W.handedIn v=true)
  (h:∀{A:Around} {R:Value->Shared->Prop},R v { s with toks:=s.toks+1 }->wpAny (model prog w) A (call g [a,.ref x,.ref C]) R (λ_ _=>False) { s with toks:=s.toks+1 }) (q:Q (some v) { s with toks:=s.toks+1 }) :
  wpAny (model prog w) A (getAttr? (.ref x) name) Q E s:=by
 unfold getAttr? getAttrBy?
 refine Ch (wpAny_mkText (Ch (dW (UH (s:={ s with toks:=s.toks+1 }) X c I ?_))))
 unfold Builtin.«object.__getattribute__»
 rw [UQ]
 refine Ch (Db (Ch (Db (Ch (PySem.W.Looks.here (s:={ s with toks:=s.toks+1 }) I.type (Ch (PySem.W.Looks.here (s:={ s with toks:=s.toks+1 }) (PySem.W.looks_find X I hf) ?_)))))))
 show wpAny _ _ (holding [a] (call g [a,.ref x,.ref C]) >>= ret) _ _ _
 refine Ch (aD (h (Db ?_)))
 show wpAny _ _ (handedOut v) _ _ _
 rw [PySem.W.handedOut_of hh]; exact Db (Db q)
end
section
variable {K:Frag}{nm n1 n2:Str}{C U D U':Addr}
theorem XC.kitX{a:Addr}(c:XC K nm C U):PySem.W.KitX K (.ref a) (.ref C) (λh=>∃ox odo,PySem.W.InstAt h a ox C odo) where
 ty:=λ_ _ _ ⟨_,_,I⟩=>I.type
 it:=λ_ _ X _=>by
  obtain⟨q,N,bs,sn,sub,ab,col,dd,k0,k1,k2,k3,k5,e⟩:=c.obj
  intro A' Q' E' s' k q
  unfold isType PySem.loadHead
  exact Ch (wpAny_loadPart (k _ _ (X _ _ e)) (Db q))
 ne:=λh tp dd' its n sl X htp=>by
  obtain⟨q,N,bs,sn,sub,ab,col,dd,k0,k1,k2,k3,k5,e⟩:=c.obj
  refine cZ.mpr λz=>?_
  have z':C=tp:=Value.ref.inj (beq_iff_eq.mp z)
  subst z'
  have z2:=congrArg Obj.data (T0 ((X _ _ e).symm.trans htp))
  exact Data.noConfusion z2
 ca:=λ{prog w A E Q s} X J k=>by
  obtain⟨ox,odo,I⟩:=J
  have hf:PySem.W.findObj K C odo "__class__"=some (.bind (.builtin "getset_descriptor.__get__") (.builtin "object.__class__")):=by
   obtain⟨cd,h1,_⟩:=c.cls
   unfold PySem.W.findObj
   rw [h1,ci,c.ca,ci]
   simp [Vq,Qx]
  exact Pt X c I hf (v:=.ref C) rfl (λr=>b7 (PySem.W.class_get (s:={ s with toks:=s.toks+1 }) (ox:=ox) (od:=odo) X I (c.mro _) r)) k
end
section
variable {X:Cx}{pins:List (Addr×Obj)}{σ:St}{H:Hp}{s:Shared}{a C U d:Addr}{dx:Option Addr}{u:HO}{nm f:Str}{fs:List (Str×V)}{v:V}{A:Around}{E:Value->Shared->Prop}
theorem XT.inst(xt:XT C dx a u)(I:Inv X pins σ H s)(ea:H a=some u)(hd:∀d,dx=some d->∃o,s.heap.get? d=some o):∃ox odo,PySem.W.InstAt s.heap a ox C odo:=by
 obtain⟨vs,sl,rfl,h2⟩:=xt
 obtain⟨hx,_⟩:=(show ObjOk X.prog X.w H s.heap a _ from I.hok a _ ea)
 cases dx with
 | none=>exact⟨_,none,hx,rfl,rfl,trivial⟩
 | some d =>
  obtain⟨o,ho⟩:=hd d rfl
  exact⟨_,some o,hx,rfl,rfl,ho⟩
theorem Te{b:Bool}{Q:Value->Shared->Prop}(I:Inv X pins σ H s)(ea:H a=some u)(xt:XT C (some d) a u)(ed:H d=some (.ext (XF d fs)))(c:XC X.K nm C U)(n:FQ X.K C f)(l:fs.lookup f=some v)
  (h:∀u s',Inv X pins σ H s'->RelV v u->Q u s'):wpAny (model X.prog X.w) A (getAttr (.ref a) f b) Q E s:=by
 obtain⟨vs,sl,rfl,h2⟩:=xt
 obtain⟨hx,_⟩:=(show ObjOk X.prog X.w H s.heap a _ from I.hok a _ ea)
 obtain⟨⟨mA,nd,r,wi,_⟩,_⟩:=(show ObjOk X.prog X.w H s.heap d _ from I.hok d _ ed)
 obtain⟨od,ho,hl⟩:=JH nd
 obtain⟨u',hu,ru⟩:=RelO.some_of (v:=v) (o:=mA f) (by rw [← l]; exact r f)
 have J:PySem.W.InstAt s.heap a ⟨.ref C,some d,.fields vs,sl⟩ C (some od):=⟨hx,rfl,rfl,ho⟩
 exact U7 I.kIn c J (PySem.W.findObj_own c.hd n rfl (by rw [hl,hu])) (PN ru) (h u' _ (I.tok _) ru)
end
noncomputable def ZS(K:Frag)(ta:TE)(f:Str):TE:=λσ H Q=>ta σ H λx H1=>∃a C U d u nm fs v,x=.ref a/\H1 a=some u/\XT C (some d) a u/\H1 d=some (.ext (XF d fs))/\XC K nm C U/\FQ K C f/\fs.lookup f=some v/\Q v H1
section
variable {X:Cx}{e:Expr}{f:Str}{pos:Pos}{ta:TE}
theorem Xf(he:PE X e ta)(hb:attributeBase e f X.env (eval e X.env)=eval e X.env):PE X (.Attribute e f pos) (ZS X.K ta f):=by
 intro pins s σ H Q I h
 refine T9 hb (BB (he pins s σ H _ I h) λu s1 ⟨x,H1,I1,rx,a,C,U,d,u0,nm,fs,v,ex,ea,xt,ed,c,n,l,q⟩=>?_)
 subst ex
 obtain rfl:u=TM a:=rx
 exact Te I1 ea xt ed c n l λu' s2 I2 ru=>⟨v,H1,I2,ru,q⟩
theorem L5:B9 X (.builtin "isinstance") (λxs H Q=>∃a C U dx u nm y c b,xs=[.ref a,y]/\H a=some u/\XT C dx a u/\(∀d,dx=some d->∃fs,H d=some (.ext (XF d fs)))/\XC X.K nm C U/\(y=.ty c/\PySem.W.kitOne X.K (.ref C) (.type c)=some b\/∃D,y=.ref D/\PySem.W.kitOne X.K (.ref C) (.ref D)=some b)/\Q (.bl b) H):=by
 intro pins s σ H xs us Q I r h
 obtain⟨a,C,U,dx,u,nm,y,c,b,rfl,ea,xt,hd,xc,hy,q⟩:=h
 obtain⟨u1,u2,rfl,r1,r2⟩:=vals2 r
 cases (show u1=TM a from r1)
 have J:=xt.inst I ea λd e=>by
  obtain⟨fs,ho⟩:=hd d e
  obtain⟨⟨mA,⟨o,_,_,e2,_⟩,_⟩,_⟩:=(show ObjOk X.prog X.w H s.heap d _ from I.hok d _ ho)
  exact⟨o,e2⟩
 rcases hy with ⟨rfl,e⟩ | ⟨D,rfl,e⟩
 ·cases (show u2=bj c from r2)
  exact PySem.W.kia_one xc.kitX I.kIn J e (by intro z; cases z) λtk=>⟨.bl b,H,I.tok _,rfl,q⟩
 ·cases (show u2=TM D from r2)
  exact PySem.W.kia_one xc.kitX I.kIn J e (by intro z; cases z) λtk=>⟨.bl b,H,I.tok _,rfl,q⟩
end
end L2
namespace Dp
open PySem PySem.Spec PyProof.Rows L2
noncomputable def ZJ(M:Addr->Prop)(H:Hp)(dx:Option Addr)(ks:List Str)(vs:List V):Prop:=dx=none/\ks=[]/\vs=[]\/∃d,dx=some d/\¬M d/\H d=some (.ext (XF d (ks.zip vs)))
noncomputable abbrev PX:=Str->List Str->List D->Nat->Prop
noncomputable abbrev WX:=List Slot->Nat->(D->Nat->Prop)->PX->Prop
noncomputable def LiftX(K:Frag)(F:Option (Addr×Addr))(U M:Addr->Prop)(H:Hp)(Pr:PX)(E:XK):Prop:=∀nm C Uc ks ds vs dx H' n',Ext U H H'->FeedC K F M H' n'->XC K nm C Uc->ZJ M H' dx ks vs->ks.length=ds.length->Ats K M H' ds vs->Pr nm ks ds n'->E (.ref C) dx H'
noncomputable def YT(K:Frag)(κ:Kd)(W:WX)(np:Nat):Sp:=λvs H Q E=>vs.length=np/\∃(F:Option (Addr×Addr)) (U V' M:Addr->Prop) (n:Nat) (ss:List Slot) (P:D->Nat->Prop) (Pr:PX),WS K F U V' M H n ss vs/\W ss n P Pr /\
 (∀v H' d n',Ext U H H'->FeedC K F M H' n'->VR K V' M H H' κ v d->P d n'->Q v H')/\LiftX K F U M H Pr E
section
variable {K:Frag}{C:Fm}{M:Addr->Prop}{H:Hp}{n:Nat}{ρ:List Slot}{σ:L2.St}
theorem Rel.setS(R:Rel K C M H n ρ σ){i:Nat}{s:Slot}{o:Option V}(ho:s.owns=false)(hb:∀d,s≠.br d)(h:SlotOk K C.F C.V M H s o):Rel K C M H n (ρ.set i s) (σ.set i o):=by
 have two:∀(j:Nat) (t:Slot),(ρ.set i s)[j]?=some t->t.owns=true->ρ[j]?=some t/\((σ.set i o)[j]?).getD none=(σ[j]?).getD none:=λj t q w=>by
  rcases C1 q with ⟨_,_,rfl⟩ | ⟨hj,q⟩
  ·rw [ho] at w; cases w
  ·exact⟨q,E6 hj⟩
 refine⟨by rw [aZ,aZ]; exact R.len,R.sub,R.dom,R.ext,R.fU,R.uV,R.vM,R.feed,λj s q=>?_,R.pin,λj e a q q2=>?_,λj s a q o q2=>?_,λj k s t a q1 o1 q2 o2 z1 z2=>?_,λp hp=>?_⟩
 ·rcases C1 q with ⟨rfl,hl,rfl⟩ | ⟨hj,q⟩
  ·rw [MR (by rw [← R.len]; exact hl)]
   exact h
  ·rw [E6 hj]
   exact R.sl j s q
 ·rcases C1 q with ⟨_,_,e⟩ | ⟨hj,q⟩
  ·exact absurd e.symm (hb _)
  ·rw [E6 hj] at q2
   exact R.br0 j e a q q2
 ·obtain⟨q1,e⟩:=two j s q o
  rw [e] at q2
  exact R.new j s a q1 o q2
 ·obtain⟨p1,e1⟩:=two j s q1 o1
  obtain⟨p2,e2⟩:=two k t q2 o2
  rw [e1] at z1
  rw [e2] at z2
  exact R.two j k s t a p1 o1 p2 o2 z1 z2
 ·obtain⟨h1,h2,h3,h4⟩:=R.kept p hp
  refine⟨h1,h2,h3,λj e q=>?_⟩
  obtain⟨q1,e2⟩:=two j _ q rfl
  rw [e2]
  exact h4 j e q1
end
noncomputable def Wn(Φ:Fm->Prop)(X:Cx)(κ:Kd)(st:Stmt)(w:AS):Prop:=∃t,PS X st t/\∀(C:Fm) (M:Addr->Prop) (H:Hp) (n:Nat) (ρ:List Slot) (σ:L2.St) (D2:E2) (E:Ends),Φ C->Rel X.K C M H n ρ σ->F3 X.K C κ D2 E->w D2 n ρ->t E σ H
noncomputable def MG(Φ:Fm->Prop)(X:Cx)(κ:Kd)(st:List Stmt)(w:AS):Prop:=∃t,PSs X st t/\∀(C:Fm) (M:Addr->Prop) (H:Hp) (n:Nat) (ρ:List Slot) (σ:L2.St) (D2:E2) (E:Ends),Φ C->Rel X.K C M H n ρ σ->F3 X.K C κ D2 E->w D2 n ρ->t E σ H
section
variable {Φ:Fm->Prop}{X:Cx}{κ:Kd}{st:Stmt}{rest:List Stmt}{u v:AS}{wA:F4}{c e:Expr}{es:List Expr}{pos cpos p:Pos}
theorem GN(h:DS X κ st u):Wn Φ X κ st u:=let ⟨t,a,b⟩:=h; ⟨t,a,λC M H n ρ σ D2 E _=>b C M H n ρ σ D2 E⟩
theorem Tr(h:Pq X κ rest u):MG Φ X κ rest u:=let ⟨t,a,b⟩:=h; ⟨t,a,λC M H n ρ σ D2 E _=>b C M H n ρ σ D2 E⟩
theorem CZ(h1:Wn Φ X κ st u)(h2:MG Φ X κ rest v):MG Φ X κ (st::rest) (Ai u v):=by
 obtain⟨t,a1,a2⟩:=h1
 obtain⟨t',b1,b2⟩:=h2
 refine⟨_,BK a1 b1,λC M H n ρ σ D2 E hc R L w=>?_⟩
 exact a2 C M H n ρ σ { D2 with nx:=v D2 } { E with nx:=t' E } hc R ⟨λM H n ρ σ R w=>b2 C M H n ρ σ D2 E hc R L w,L.rt,L.bk,L.ct⟩ w
theorem IB(h1:Wn Φ X κ st u):MG Φ X κ [st] u:=by
 obtain⟨t,a1,a2⟩:=h1
 exact⟨t,Ct a1,a2⟩
theorem V6{a b:List Stmt}(hc:DT X c wA)(ha:MG Φ X κ a u)(hb:MG Φ X κ b v):Wn Φ X κ (.If c a b pos) (BP wA u v):=by
 obtain⟨t,a1,a2⟩:=hc
 obtain⟨t',b1,b2⟩:=ha
 obtain⟨t'',c1,c2⟩:=hb
 refine⟨_,NY a1 b1 c1,λC M H n ρ σ D2 E hC R L w=>?_⟩
 refine a2 C M H n ρ σ _ _ R w λb H1 n1 e1 f1 p=>?_
 cases b with
 | true=>exact b2 C M H1 n1 ρ σ D2 E hC (R.step e1 f1) L p
 | false=>exact c2 C M H1 n1 ρ σ D2 E hC (R.step e1 f1) L p
end
noncomputable def G1(P:Program)(w:World)(K:Frag)(mg:Str->Option Value)(base:Heap)(nm:Str)(ks:List Str)(k:Nat):Prop:=∃C U,XC K nm C U/\mg nm=some (.ref C) /\
 ((ks=[]/\PySem.W.findIn K (.ref C) "__init__"=some (some (.builtin "ValueError.__init__")))\/∃k1 k2 f fd p0 p1 p2,ks=[k1,k2]/\PySem.W.findIn K (.ref C) "__init__"=some (some (.ref f))/\PySem.W.typeIn K (.ref f)=some (.type "function")/\A5 P w K mg base Cb k f fd [p0,p1,p2] (F7 C k1 k2)/\Binds K fd [p0,p1,p2] [])
noncomputable def Py(nm:Str)(ks:List Str)(was:Eg):E2->PX->Nat->List Slot->Prop:=λ_ Pr n ρ=>was n ρ λds n1=>(ks=[]/\ds.length<=100/\Pr nm [] [] n1)\/(ks.length=2/\ds.length=2/\Pr nm ks ds n1)
noncomputable abbrev Wc:=E2->PX->Nat->List Slot->Prop
noncomputable def Yb(X:Cx)(κ:Kd)(st:Stmt)(w:Wc):Prop:=∃t,Wi X st t/\∀(C:Fm) (M:Addr->Prop) (H:Hp) (n:Nat) (ρ:List Slot) (σ:L2.St) (D2:E2) (E:Ends) (R:XK) (Pr:PX),Rel X.K C M H n ρ σ->F3 X.K C κ D2 E->LiftX X.K C.F C.U M H Pr R->w D2 Pr n ρ->t E R σ H
noncomputable def YM(X:Cx)(κ:Kd)(st:List Stmt)(w:Wc):Prop:=∃t,WT X st t/\∀(C:Fm) (M:Addr->Prop) (H:Hp) (n:Nat) (ρ:List Slot) (σ:L2.St) (D2:E2) (E:Ends) (R:XK) (Pr:PX),Rel X.K C M H n ρ σ->F3 X.K C κ D2 E->LiftX X.K C.F C.U M H Pr R->w D2 Pr n ρ->t E R σ H
theorem LiftX.step{K:Frag}{F:Option (Addr×Addr)}{U M:Addr->Prop}{H H1:Hp}{Pr:PX}{E:XK}(h:LiftX K F U M H Pr E)(e:Ext U H H1):LiftX K F U M H1 Pr E:=λnm C Uc ks ds vs dx H' n' e1=>h nm C Uc ks ds vs dx H' n' (e.trans e1)
section
variable {X:Cx}{κ:Kd}{st:Stmt}{rest:List Stmt}{u v:Wc}{wA:F4}{c e:Expr}{es:List Expr}{pos cpos p:Pos}{nm:Str}{ks:List Str}{k:Nat}{was:Eg}
theorem Rg(h1:Yb X κ st u):YM X κ [st] u:=by
 obtain⟨t,a1,a2⟩:=h1
 exact⟨t,Qf a1,a2⟩
theorem PZ(G:G1 X.prog X.w X.K X.mg X.base nm ks k)(hr:Room (k+1) X.A)(hg:Gl X nm)(ha:We X (e::es) was)(hdb:autoParam ((nm==("__debug__" : Str))=false) zau1._auto_1)(he:autoParam (starEach (e::es) X.env=(false,eval e X.env)::starEach es X.env) zau3._auto_1)(hpl:autoParam ((backTo cpos (starEach es X.env)).any (·.1)=false) zau3._auto_1)
  (hz:autoParam ((e::es).length<=sizeLine) zau1._auto_1):Yb X κ (.Raise (some (.Call (.Name nm p) (e::es) [] cpos)) none pos) (Py nm ks was):=by
 obtain⟨C,U,xc,hm,G⟩:=G
 obtain⟨t,a1,a2⟩:=ha
 rcases G with ⟨rfl,hi⟩ | ⟨k1,k2,f,fd,p0,p1,p2,rfl,hi,hf,F,hb⟩
 ·refine⟨_,Md xc hi hr.hd hg hm a1 hdb he hpl,λC0 M H n ρ σ D2 E R Pr r L l w=>?_⟩
  refine a2 C0 M H n ρ σ _ _ r w λvs H1 ds n1 e1 f1 r1 p=>?_
  rcases p with ⟨_,hz,p⟩ | ⟨z,_⟩
  ·exact⟨by rw [r1.length,PySem.sizeLine_eq]; omega,l nm C U [] [] [] none H1 n1 e1 f1 xc (.inl ⟨rfl,rfl,rfl⟩) rfl rfl p⟩
  ·cases z
 ·refine⟨_,Mc xc hi hf F hb hr hg hm a1 hdb he hpl,λC0 M H n ρ σ D2 E R Pr r L l w=>?_⟩
  refine a2 C0 M H n ρ σ _ _ r w λvs H1 ds n1 e1 f1 r1 p=>?_
  rcases p with ⟨z,_⟩ | ⟨_,hz,p⟩
  ·cases z
  ·have hv:=r1.length
   rw [hz] at hv
   match vs,hv with
   | [v1,v2],_ =>
    refine⟨v1,v2,rfl,λd hd=>?_⟩
    have g:=Al (o:=.ext (XF d [(k1,v1),(k2,v2)])) hd
    have nd:¬M d:=λz=>by
     obtain⟨o,q⟩:=(r.step e1 f1).dom d z
     rw [hd] at q; cases q
    exact l nm C U [k1,k2] ds [v1,v2] (some d) _ n1 (e1.trans g.ext) (f1.grow g) xc (.inr ⟨d,rfl,nd,AN⟩) hz.symm (r1.pres g.pres) p
theorem M8{R:XK}{Φ:Fm->Prop}{Pr:PX}{F0:Option (Addr×Addr)}{U0 M0:Addr->Prop}{H0:Hp}{w:Wc}(hx:FP (OS X.prog X.w) X R)(hL:LiftX X.K F0 U0 M0 H0 Pr R)(hΦ:∀C,Φ C->C.F=F0/\C.U=U0/\C.M0=M0/\C.H0=H0)(h:Yb X κ st w):Wn Φ X κ st (λD2=>w D2 Pr):=by
 obtain⟨t,a1,a2⟩:=h
 refine⟨_,Ou hx a1,λC M H n ρ σ D2 E hC r L w=>?_⟩
 obtain⟨rfl,rfl,rfl,rfl⟩:=hΦ C hC
 refine a2 C M H n ρ σ D2 E R Pr r L (λnm Cc Uc ks ds vs dx H' n' e f xc xd hl hs p=>?_) w
 have less:Pres M H' C.M0 H':=Pres.less r.sub
 refine hL nm Cc Uc ks ds vs dx H' n' (r.ext.trans e) (f.pres less λ_ _ _ z=>z) xc ?_ hl (hs.pres less) p
 rcases xd with z | ⟨d,e1,n1,h1⟩
 ·exact .inl z
 ·exact .inr ⟨d,e1,λz=>n1 (r.sub d z),h1⟩
noncomputable def Yd(X:Cx)(e:Expr)(κ:Kd)(w:Nat->List Slot->(D->Nat->Prop)->PX->Prop):Prop:=∃t,YG X e t/\∀(C:Fm) (M:Addr->Prop) (H:Hp) (n:Nat) (ρ:List Slot) (σ:L2.St) (P:D->Nat->Prop) (Q:VK) (R:XK) (Pr:PX),Rel X.K C M H n ρ σ->LiftX X.K C.F C.U M H Pr R->w n ρ P Pr ->
 (∀v H' d n',Ext C.U H H'->FeedC X.K C.F M H' n'->VR X.K C.V M H H' κ v d->P d n'->Q v H')->t R σ H Q
noncomputable def WZ(P:Program)(w:World)(K:Frag)(mg:Str->Option Value)(base:Heap)(x:Str)(k:Nat)(ps:List Str)(κ:Kd)(W:WX):Prop :=
 ∃f fd,A5 P w K mg base (OS P w) k f fd ps (YT K κ W ps.length)/\mg x=some (.ref f)/\keepIn K (.ref f)=true/\Binds K fd ps []/\∀ss n P Pr,W ss n P Pr->ss.length=ps.length
noncomputable def P5(W:WX)(was:UG):Nat->List Slot->(D->Nat->Prop)->PX->Prop:=λn ρ P Pr=>was n ρ λss n1=>W ss n1 P Pr
theorem Rt{ps:List Str}{κe:Kd}{W:WX}{x:Str}{was:UG}(G:WZ X.prog X.w X.K X.mg X.base x k ps κe W)(hr:Room k X.A)(hg:Gl X x)(ha:Wq X (e::es) was)
  (hdb:autoParam ((x==("__debug__" : Str))=false) zau1._auto_1) (he:autoParam (starEach (e::es) X.env=(false,eval e X.env)::starEach es X.env) zau3._auto_1) (hpl:autoParam ((backTo pos (starEach es X.env)).any (·.1)=false) zau3._auto_1) :
  Yd X (.Call (.Name x p) (e::es) [] pos) κe (P5 W was):=by
 obtain⟨f,fd,G,hm,hk,hb,hW⟩:=G
 obtain⟨t,h1,h2⟩:=ha
 refine⟨_,Qm G hr hg hm hk hb h1 hdb he hpl,λC M H n ρ σ P Q R Pr r l w q=>?_⟩
 refine h2 C M H n ρ σ _ _ r w λvs H1 ss n1 e1 f1 r1 p=>?_
 have R1:=r.step e1 f1
 exact⟨(Paired.length r1).trans (hW _ _ _ _ p),C.F,C.U,C.V,M,n1,ss,P,Pr,⟨R1.dom,R1.fU,R1.uV,R1.vM,f1,r1⟩,p,λv H2 d n2 e2 f2 r2 p2=>q v H2 d n2 (e1.trans e2) f2 (VR.back e1 r2) p2,l.step e1⟩
noncomputable abbrev Wd:=E2->Str->List Str->List D->Nat->List Slot->Prop
noncomputable def DH(X:Cx)(κ:Kd)(hs:List ExceptHandler)(w:Wd):Prop:=∃t,PH X hs t/\∀(C:Fm) (M:Addr->Prop) (H:Hp) (n:Nat) (ρ:List Slot) (σ:L2.St) (D2:E2) (E:Ends) (nm:Str) (Cc Uc:Addr) (ks:List Str) (ds:List D) (vs:List V) (dx:Option Addr),
 Rel X.K C M H n ρ σ->F3 X.K C κ D2 E->XC X.K nm Cc Uc->ZJ M H dx ks vs->ks.length=ds.length->Ats X.K M H ds vs->w D2 nm ks ds n ρ->t E Cc dx σ H
noncomputable def Wr(wb:Wc)(wh:Wd):AS:=λD2 n ρ=>wb D2 (λnm ks ds n'=>wh D2 nm ks ds n' ρ) n ρ
theorem V7{body:List Stmt}{h₀:ExceptHandler}{hs:List ExceptHandler}{wb:Wc}{wh:Wd}(hst:X.stack=X.env::X.outer)(hfr:X.env.frame=some X.env.locals)(hx:∀e s,X.xe e s->False)(hb:YM X κ body wb)(hh:DH X κ (h₀::hs) wh) :
  DS X κ (.Try body (h₀::hs) [] [] pos) (Wr wb wh):=by
 obtain⟨t,a1,a2⟩:=hb
 obtain⟨th,b1,b2⟩:=hh
 refine⟨_,VX hst hfr hx a1 b1,λC M H n ρ σ D2 E r L w=>?_⟩
 refine a2 C M H n ρ σ D2 E _ _ r L (λnm Cc Uc ks ds vs dx H' n' e f xc xd hl hs p=>?_) w
 exact⟨Cc,rfl,b2 C M H' n' ρ σ D2 E nm Cc Uc ks ds vs dx (r.step e f) L xc xd hl hs p⟩
noncomputable def Pz:Wd:=λ_ _ _ _ _ _=>False
theorem V9:DH X κ [] Pz:=⟨_,VY,λ_ _ _ _ _ _ _ _ _ _ _ _ _ _ _ _ _ _ _ _ _ w=>w.elim⟩
noncomputable def P0(dn:Str)(i:Nat)(ws:Addr->AS)(wh:Wd):Wd:=λD2 nm ks ds n ρ=>if nm=dn\/dn = "ThinError" then ∀a,ws a { nx:=λn' ρ'=>D2.nx n' (ρ'.set i .no),rt:=D2.rt,bk:=λn' ρ'=>D2.bk n' (ρ'.set i .no),ct:=λn' ρ'=>D2.ct n' (ρ'.set i .no) } n (ρ.set i (.ex a nm ks ds)) else wh D2 nm ks ds n ρ
theorem Tw{i:Nat}{dn y:Str}{b₀:Stmt}{suite:List Stmt}{hs:List ExceptHandler}{Dc:Addr}{ws:Addr->AS}{wh:Wd}{np:Pos}(hN:X.N.Nodup)(hi:X.N[i]?=some y)(hl:X.env.scope.names.lookup y=some .local)(hg:Gl X dn)(hm:X.mg dn=some (.ref Dc))(hK:nsIn X.K mainGlobals dn=some (some (.ref Dc)))
  (hD:dn = "ThinError"/\Wm X.K Dc\/dn ≠ "ThinError"/\∃U,XC X.K dn Dc U) (hst:X.stack=X.env::X.outer) (hfr:X.env.frame=some X.env.locals)
  (hsu:∀a,Pq (X.hush (X.A.mark (some (.ref a)))) κ (b₀::suite) (ws a)) (hr:DH X κ hs wh) (hd:autoParam ((dn==("__debug__" : Str))=false) zau1._auto_1) :
  DH X κ (.ExceptHandler (some (.Name dn np)) (some y) (b₀::suite) pos::hs) (P0 dn i ws wh):=by
 obtain⟨th,b1,b2⟩:=hr
 have ch:∀a,∃t,PSs (X.hush (X.A.mark (some (.ref a)))) (b₀::suite) t/\∀(C:Fm) (M:Addr->Prop) (H:Hp) (n:Nat) (ρ:List Slot) (σ:L2.St) (D2:E2) (E:Ends),Rel X.K C M H n ρ σ->F3 X.K C κ D2 E->ws a D2 n ρ->t E σ H:=hsu
 refine⟨_,Sw (ts:=λa=>(ch a).choose) hN hi hl hg hm (hD.elim (λz=>z.2) fun⟨_,U,c⟩=>c.isX) hst hfr (λa=>(ch a).choose_spec.1) b1 hd,λC M H n ρ σ D2 E nm Cc Uc ks ds vs dx r L xc xd hl' hs w=>⟨nm,Uc,xc,?_⟩⟩
 unfold P0 at w
 by_cases e:nm=dn\/dn = "ThinError"
 ·rw [if_pos e] at w
  refine .inl ⟨?_,λa u fa xt=>?_⟩
  ·rcases hD with ⟨z,_⟩ | ⟨z,U,c⟩
   ·subst z
    have q:=xc.atU.symm.trans hK
    cases q
    exact .inr rfl
   ·rcases e with e | e
    ·subst e
     have q:=xc.at_.symm.trans hK
     cases q
     exact .inl rfl
    ·exact absurd e z
  ·have g:Grow H (Ar H a u):=Al fa
   have r1:=r.step (g.ext) (r.feed.grow g)
   have na:¬M a:=λz=>by obtain⟨o,q⟩:=r.dom a z; rw [fa] at q; cases q
   have nd:∀{d:Addr} {o:HO},H d=some o->Ar H a u d=some o:=λ{d o} q=>g.all d o q
   refine(ch a).choose_spec.2 C M (Ar H a u) n (ρ.set i (.ex a nm ks ds)) _ { nx:=λn' ρ'=>D2.nx n' (ρ'.set i .no),rt:=D2.rt,bk:=λn' ρ'=>D2.bk n' (ρ'.set i .no),ct:=λn' ρ'=>D2.ct n' (ρ'.set i .no) } _ (r1.setS rfl (λ_ z=>by cases z) ⟨rfl,Cc,Uc,dx,u,vs,xc,⟨na,AN⟩,xt,?_,hl',hs.pres g.pres⟩) ⟨λM' H' n' ρ' σ' R' q=>?_,L.rt,λM' H' n' ρ' σ' R' q=>?_,λM' H' n' ρ' σ' R' q=>?_⟩ (w a)
   ·rcases xd with z | ⟨d,e1,n1,h1⟩
    ·exact .inl z
    ·exact .inr ⟨d,e1,n1,nd h1⟩
   ·exact L.nx M' H' n' _ _ (R'.setS (s:=.no) rfl (λ_ z=>by cases z) trivial) q
   ·exact L.bk M' H' n' _ _ (R'.setS (s:=.no) rfl (λ_ z=>by cases z) trivial) q
   ·exact L.ct M' H' n' _ _ (R'.setS (s:=.no) rfl (λ_ z=>by cases z) trivial) q
 ·rw [if_neg e] at w
  have e1:nm≠dn:=λz=>e (.inl z)
  have e2:dn ≠ "ThinError":=λz=>e (.inr z)
  rcases hD with ⟨z,_⟩ | ⟨_,U,c⟩
  ·exact absurd z e2
  ·refine .inr ⟨λz=>?_,λz=>?_,b2 C M H n ρ σ D2 E nm Cc Uc ks ds vs dx r L xc xd hl' hs w⟩
   ·subst z
    exact e1 (xc.name c)
   ·subst z
    exact e2 (xc.nameU c)
end
end Dp
namespace L2
open PySem PySem.Spec PyProof.Rows
noncomputable def HX(A:Around)(H:Hp):Prop:=∃a C dx u,A.handled=some (.ref a)/\H a=some u/\XT C dx a u
structure ZK (P:Program) (w:World) (K:Frag) (tg:Expr) (J:It) (fp:List Addr) (it:Addr) (tn:Nat->Heap->Prop):Prop where
 mem:it∈fp
 obj:∀i h,tn i h->∀b∈fp,∃o,h.get? b=some o/\∀v,o.data≠.cell v
 keep:∀i h h',tn i h->(∀b∈fp,∀o,h.get? b=some o->h'.get? b=some o)->tn i h'
 item:∀(X:Cx),X.prog=P->X.w=w->X.K=K->HX X.A X.H₀->∀(i:Nat) (pins:List (Addr×Obj)) (s:Shared) (σ:St) (H:Hp) (E:Value->Shared->Prop),Inv X pins σ H s->(∀b∈fp,FR X pins H b)->tn i s.heap->J.go i H ->
  wpAny (model P w) X.A (pyNext (.ref it)) (λr s1=>∃u,r=some u /\
   wpAny (model P w) X.A (letOwnedTupleGo tg (.ref it) u) (λ_ s2=>∃x H',Inv X pins σ H' s2/\RelV x u/\J.yld i H x H'/\tn (i+1) s2.heap/\∀b∈fp,H' b=none) E s1) E s
 done:∀(X:Cx),X.prog=P->X.w=w->X.K=K->HX X.A X.H₀->∀(i:Nat) (pins:List (Addr×Obj)) (s:Shared) (σ:St) (H:Hp) (E:Value->Shared->Prop),Inv X pins σ H s->(∀b∈fp,FR X pins H b)->tn i s.heap->J.stop i H ->
  wpAny (model P w) X.A (pyNext (.ref it)) (λr s1=>r=none/\Inv X pins σ H s1) E s
 self:∀(A:Around) (i:Nat) (s:Shared) (Q:Value->Shared->Prop) (E:Value->Shared->Prop),tn i s.heap->Q (.ref it) s->wpAny (model P w) A (pyIter (.ref it)) Q E s
section
variable {X:Cx}{tg:Expr}
end
section
variable {X:Cx}{pins:List (Addr×Obj)}{σ:St}{H:Hp}{s:Shared}
end
section
variable {X:Cx}{tg elt iter:Expr}{ifs:List Expr}{sc:Scope}{pos:Pos}{N':List Str}{js:List (Option Nat)}{wi:TI}{g:TG}{tt:TT}{te:TE}
end
end L2
namespace Dp
open PySem PySem.Spec PyProof.Rows L2
section
variable {X:Cx}{tg e e2:Expr}{es:List Expr}{κ:Kd}{wa:DW}{ws:Eg}{p pos:Pos}
end
section
variable {X:Cx}{κe:Kd}{tg elt iter:Expr}{ifs:List Expr}{sc:Scope}{pos:Pos}{src:Eg}{b:BW}{tt:F4}{te:DW}
end
end Dp
namespace L2
open PySem PySem.Spec PyProof.Rows
structure YC (k:Nat) (A:Around):Prop where
 dp:A.depth+3*k+5<recursionLimit
 un:A.units+16*k+200<cLine
 gd:A.guards=some []
structure ZQ (P:Program) (w:World) (K:Frag) (mg:Str->Option Value) (base:Heap) (k:Nat) (f:Addr) (fd:FuncData) (ps:List Str) (sp:Sp):Prop where
 len:∀vs H Q E,sp vs H Q E->vs.length=ps.length
 run:∀(A:Around) (outer:List Env) (s:Shared) (H:Hp) (args:Args) (us:List Value) (vs:List V) (Q:VK) (E:XK),YC k A->HX A H->Env0 P w K mg base A outer s H->BindsTo s fd args (ps.zip us)->Vals vs us->sp vs H Q E ->
  codeAny (model P w) A (.call (.ref f) args) (CR Cb outer P w H s Q E) s
section
variable {X:Cx}{k:Nat}{f:Addr}{fd:FuncData}{ps:List Str}{sp:Sp}{x:Str}{p pos:Pos}{e:Expr}{es:List Expr}{t:TA}
end
end L2
namespace Dp
open PySem PySem.Spec PyProof.Rows L2
section
variable {X:Cx}{e:Expr}{es:List Expr}{p p1 p2 pos:Pos}{i:Nat}{x f nm:Str}{κ:Kd}
noncomputable def YN(i:Nat)(f:Str):DW:=λn ρ P=>match ρ[i]? with
 | some (.ex _ _ ks ds)=>∃d,(ks.zip ds).lookup f=some d/\P d n
 | _=>False
theorem HD{K:Frag}{M:Addr->Prop}{H:Hp}{f:Str}{d:D}:∀{ks:List Str} {ds:List D} {vs:List V},Ats K M H ds vs->(ks.zip ds).lookup f=some d->∃v,(ks.zip vs).lookup f=some v/\At K M H d v
 | [],ds,vs,h,e=>by simp at e
 | k::ks,[],vs,h,e=>by simp at e
 | k::ks,d0::ds,vs,h,e=>by
  obtain⟨v,r,rfl,h1,h2⟩:=h
  rw [aj,aw] at e ⊢
  split at e
  ·rename_i q
   cases e
   exact⟨v,rfl,h1⟩
  ·rename_i q
   exact HD h2 e
theorem Uv(hf:f∈(["word","number","row"]:List Str))(hN:autoParam (X.N[i]?=some x) zau3._auto_1)(hv:autoParam (SJ X.env.scope x) zau5._auto_1)(hd:autoParam ((x==("__debug__" : Str))=false) zau1._auto_1)
  (hcd:autoParam ((x==("__classdict__" : Str))=false) zau1._auto_1) (hb:autoParam (attributeBase (.Name x p) f X.env (eval (.Name x p) X.env)=eval (.Name x p) X.env) zau3._auto_1):DE X (.Attribute (.Name x p) f pos) .sh (YN i f):=by
 refine⟨_,Xf (D_ hN hv hd hcd) hb,λC M H n ρ σ P Q R w q=>?_⟩
 unfold YN at w
 split at w
 ·rename_i a nm ks ds hd
  obtain⟨d,l,w⟩:=w
  obtain⟨e1,Cc,U,dx,u,vs,xc,⟨na,ha⟩,xt,hx,hl,hs⟩:=R.sl i _ hd
  rcases hx with ⟨_,rfl,_⟩ | ⟨dd,rfl,nd,hdd⟩
  ·simp at l
  ·obtain⟨v,lv,hv⟩:=HD hs l
   have na:FQ X.K Cc f:=by
    simp only [UF,aB,or_false] at hf
    rcases hf with rfl | rfl | rfl
    ·exact xc.nw
    ·exact xc.nn
    ·exact xc.nr
   exact⟨.ref a,getD_some e1,a,Cc,U,dd,u,nm,_,v,rfl,ha,xt,hdd,xc,na,lv,q v H d n (Ext.refl _ _) R.feed hv w⟩
 ·exact w.elim
noncomputable def Pw(i:Nat)(cn:Str):DW:=λn ρ P=>match ρ[i]? with
 | some (.ex _ nm _ _)=>P (.bl (decide (nm=cn))) n
 | _=>False
noncomputable def Pu(i:Nat):DW:=λn ρ P=>match ρ[i]? with
 | some (.ex _ _ _ _)=>P (.bl true) n
 | _=>False
theorem WA{cn:Str}{D U:Addr}(hc:cn ≠ "ThinError")(xd:XC X.K cn D U)(hgc:Gl X cn)(hmc:X.mg cn=some (.ref D))(hg:Gl X "isinstance")(hm:X.mg "isinstance"=none)(hN:autoParam (X.N[i]?=some x) zau3._auto_1)(hv:autoParam (SJ X.env.scope x) zau5._auto_1)(hd:autoParam ((x==("__debug__" : Str))=false) zau1._auto_1)
  (hcd:autoParam ((x==("__classdict__" : Str))=false) zau1._auto_1) (hdc:autoParam ((cn==("__debug__" : Str))=false) zau1._auto_1) (he:autoParam (starEach [.Name x p1,.Name cn p2] X.env=(false,eval (.Name x p1) X.env)::starEach [.Name cn p2] X.env) zau3._auto_1) (he2:autoParam (starEach [.Name cn p2] X.env=[(false,eval (.Name cn p2) X.env)]) zau3._auto_1) (hpl:autoParam ((backTo pos (starEach [.Name cn p2] X.env)).any (·.1)=false) zau3._auto_1) :
  DE X (.Call (.Name "isinstance" p) [.Name x p1,.Name cn p2] [] pos) .sh (Pw i cn):=by
 refine⟨_,Cf L5 hg hm (by decide +kernel) (A9 (D_ hN hv hd hcd) (A9 (Jw (v:=.ref D) hgc hmc rfl hdc) B1 he2) he) (by decide) (by decide) he hpl,λC M H n ρ σ P Q R w q=>?_⟩
 unfold Pw at w
 split at w
 ·rename_i a nm ks ds hd
  obtain⟨e1,Cc,U',dx,u,vs,xc,⟨na,ha⟩,xt,hx,hl,hs⟩:=R.sl i _ hd
  refine⟨.ref a,getD_some e1,a,Cc,U',dx,u,nm,.ref D,"",_,rfl,ha,xt,λd ed=>?_,xc,.inr ⟨D,rfl,xc.kit xd hc⟩,q _ H (.bl _) n (Ext.refl _ _) R.feed rfl w⟩
  rcases hx with ⟨z,_⟩ | ⟨dd,z,_,hdd⟩
  ·rw [z] at ed; cases ed
  ·rw [z] at ed; cases ed; exact⟨_,hdd⟩
 ·exact w.elim
theorem T5(hgc:Gl X "ValueError")(hmc:X.mg "ValueError"=none)(hg:Gl X "isinstance")(hm:X.mg "isinstance"=none)(hN:autoParam (X.N[i]?=some x) zau3._auto_1)(hv:autoParam (SJ X.env.scope x) zau5._auto_1)(hd:autoParam ((x==("__debug__" : Str))=false) zau1._auto_1)
  (hcd:autoParam ((x==("__classdict__" : Str))=false) zau1._auto_1) (he:autoParam (starEach [.Name x p1,.Name "ValueError" p2] X.env=(false,eval (.Name x p1) X.env)::starEach [.Name "ValueError" p2] X.env) zau3._auto_1) (he2:autoParam (starEach [.Name "ValueError" p2] X.env=[(false,eval (.Name "ValueError" p2) X.env)]) zau3._auto_1) (hpl:autoParam ((backTo pos (starEach [.Name "ValueError" p2] X.env)).any (·.1)=false) zau3._auto_1) :
  DE X (.Call (.Name "isinstance" p) [.Name x p1,.Name "ValueError" p2] [] pos) .sh (Pu i):=by
 refine⟨_,Cf L5 hg hm (by decide +kernel) (A9 (D_ hN hv hd hcd) (A9 (Nf (v:=.ty "ValueError") hgc hmc PyProof.Rows.Boot.«ValueError» rfl) B1 he2) he) (by decide) (by decide) he hpl,λC M H n ρ σ P Q R w q=>?_⟩
 unfold Pu at w
 split at w
 ·rename_i a nm ks ds hd
  obtain⟨e1,Cc,U',dx,u,vs,xc,⟨na,ha⟩,xt,hx,hl,hs⟩:=R.sl i _ hd
  refine⟨.ref a,getD_some e1,a,Cc,U',dx,u,nm,.ty "ValueError","ValueError",true,rfl,ha,xt,λd ed=>?_,xc,.inl ⟨rfl,xc.kitV⟩,q _ H (.bl _) n (Ext.refl _ _) R.feed rfl w⟩
  rcases hx with ⟨z,_⟩ | ⟨dd,z,_,hdd⟩
  ·rw [z] at ed; cases ed
  ·rw [z] at ed; cases ed; exact⟨_,hdd⟩
 ·exact w.elim
end
theorem fnX{P:Program}{w:World}{K:Frag}{mg:Str->Option Value}{base:Heap}{x qual:Str}{st:Stmt}{f:Addr}{fd:FuncData}{N ps:List Str}{k:Nat}{κ:Kd}{W:WX}{wb:PX->AS}(F:Fun K x qual st f fd)(S:Ah N ps (AK st))(hNp:ps.length<=N.length)
  (hb:∀(cdv:Value) (A:Around) (outer:List Env) (s:Shared) (H:Hp) (E:XK) (Pr:PX) (F0:Option (Addr×Addr)) (U M:Addr->Prop),LiftX K F0 U M H Pr E->Room k (A.deeper (envOfC qual (AK st) s.heap.objs.size f cdv)) ->
   MG (λC=>C.F=F0/\C.U=U/\C.M0=M/\C.H0=H) (Fq (OS P w) P w K mg base N qual (AK st) f cdv A outer s H E) κ (BV st) (wb Pr))
  (hW:∀ss n Pd Pr,ss.length=ps.length->W ss n Pd Pr->wb Pr { nx:=λn _=>κ=.sh/\Pd .non n,rt:=Pd } n (ss++Re (N.length - ps.length) .no)) :
  A5 P w K mg base (OS P w) (k+1) f fd ps (YT K κ W ps.length):=by
 obtain⟨oc,od,kV,doc,pm,an,cdv,ct,osl,rfl,lk,hcd⟩:=F.ex
 refine Up lk hcd S (λvs H Q E h=>h.1) λA outer s H vs Q E hr h=>?_
 obtain⟨hl,F0,U,V',M,n,ss,Pd,Pr,ra,hw,q,l⟩:=h
 obtain⟨t,t1,t2⟩:=hb cdv A outer s H E Pr F0 U M l hr
 refine⟨t,t1,?_⟩
 have el:vs.length=ss.length:=Paired.length ra.2.2.2.2.2
 have R:=Iz (N:=N) ra (by omega)
 refine t2 ⟨M,F0,U,V',H,[],[]⟩ M H n _ _ { nx:=λn _=>κ=.sh/\Pd .non n,rt:=Pd } _ ⟨rfl,rfl,rfl,rfl⟩ R ⟨λM1 H1 n1 ρ1 σ1 R1 p=>?_,λv H1 d n1 e1 f1 r1 p=>q v H1 d n1 e1 f1 r1 p,λ_ _ _ _ _ _ z=>z.elim,λ_ _ _ _ _ _ z=>z.elim⟩ ?_
 ·obtain⟨hk,p⟩:=p
  subst hk
  exact q .non H1 .non n1 R1.ext (R1.feed.pres (Pres.less R1.sub) λ_ _ _ z=>z) rfl p
 ·have e:ss.length=ps.length:=by omega
  have h1:=hW ss n Pd Pr e hw
  rw [← e] at h1
  exact h1
end Dp
namespace So
open PySem PySem.W PyProof.Rows
section
variable {O:KeyOrd}{key:Nat->O.α}{N:Nat}{cmp:Nat->Nat->(Bool->Shared->Prop)->Shared->Prop}{s:Shared}{p p0:Array Nat}
noncomputable def KN(O:KeyOrd)(key:Nat->O.α)(p:Array Nat)(i:Nat):O.α:=key (p.getD i 0)
noncomputable def Srt(O:KeyOrd)(key:Nat->O.α)(p:Array Nat)(k:Nat):Prop:=∀i j,i<=j->j<k->O.kle (KN O key p i) (KN O key p j)
noncomputable def YH(O:KeyOrd)(key:Nat->O.α)(p:Array Nat)(k:Nat):Prop:=∀i j,i<=j->j<k->O.kle (KN O key p j) (KN O key p i)
noncomputable def U6(O:KeyOrd)(key:Nat->O.α)(N:Nat)(cmp:Nat->Nat->(Bool->Shared->Prop)->Shared->Prop)(s:Shared):Prop:=∀(i j:Nat) (C:Bool->Shared->Prop),i<N->j<N->C (O.blt (key i) (key j)) s->cmp i j C s
noncomputable def Bd(N:Nat)(p:Array Nat):Prop:=0<N/\∀x∈p,x<N
theorem KL(p:Array Nat)(i:Nat):p.getD i 0=(p[i]?).getD 0:=by
 simp
theorem Bd.get(h:Bd N p)(i:Nat):p.getD i 0<N:=by
 rw [KL]
 cases e:p[i]? with
 | none=>exact h.1
 | some x=>exact h.2 x (Array.mem_of_getElem? e)
theorem Bd.perm{p':Array Nat}(h:Bd N p)(hp:p'.Perm p):Bd N p':=⟨h.1,λx hx=>h.2 x (hp.mem_iff.mp hx)⟩
theorem EY{p q:Array Nat}{i j:Nat}(h:p[i]?=q[j]?):KN O key p i=KN O key q j:=by
 unfold KN
 rw [KL,KL,h]
theorem Jf{src d:Nat}(hs:src<p.size)(hd:d<=src)(k:Nat) :
  KN O key (bubble p src d) k=if k=src - d then KN O key p src else if src - d<k/\k<=src then KN O key p (k - 1) else KN O key p k:=by
 have e:=getElem?_bubble hs d hd k
 by_cases h1:k=src - d
 ·rw [if_pos h1] at e ⊢; exact EY e
 ·rw [if_neg h1] at e ⊢
  by_cases h2:src - d<k/\k<=src
  ·rw [if_pos h2] at e ⊢; exact EY e
  ·rw [if_neg h2] at e ⊢; exact EY e
theorem GQ{i j:Nat}(hj:j<=p.size)(k:Nat):KN O key (kas_rev p i j) k=if i<=k/\k<j then KN O key p (i+j - 1 - k) else KN O key p k:=by
 have e:=getElem?_mirror_all (i:=i) hj k
 unfold kas_rev
 by_cases h1:i<=k/\k<j
 ·rw [if_pos h1] at e ⊢; exact EY e
 ·rw [if_neg h1] at e ⊢; exact EY e
theorem BX{i j:Nat}(hj:j<=p.size)(heq:∀k,i<=k->k<j->KN O key p k=KN O key p (j - 1))(k:Nat):KN O key (kas_rev p i j) k=KN O key p k:=by
 rw [GQ hj]
 split
 ·rw [heq _ (by omega) (by omega),heq k (by omega) (by omega)]
 ·rfl
theorem Bx(p:Array Nat)(i j:Nat):(kas_rev p i j).Perm p:=mirror_perm _ _ _ _
theorem yes{α:Type}{T₁ T₂:KasT α}{Q:α->Shared->Prop}(h:T₁.kasWp cmp Q s):(if true=true then T₁ else T₂).kasWp cmp Q s:=by rw [if_pos rfl]; exact h
theorem no{α:Type}{T₁ T₂:KasT α}{Q:α->Shared->Prop}(h:T₂.kasWp cmp Q s):(if false=true then T₁ else T₂).kasWp cmp Q s:=by rw [if_neg (by simp)]; exact h
theorem NG(hC:U6 O key N cmp s)(hb:Bd N p){nrem:Nat}{G:Nat->Shared->Prop}:∀(f n:Nat),1<=n->n+f=nrem->Srt O key p n ->
  (∀m,n<=m->m<=nrem->Srt O key p m->(m=nrem\/O.klt (KN O key p m) (KN O key p (m - 1)))->G m s)->(kas_asc p f n).kasWp cmp G s
 | 0,n,_,e,hs,h=>h n (Go _) (by omega) hs (.inl (by omega))
 | f+1,n,h1,e,hs,h=>by
  show cmp (p.getD n 0) (p.getD (n - 1) 0) (λc s'=>(if c=true then KasT.ret n else kas_asc p f (n+1)).kasWp cmp G s') s
  refine hC _ _ _ (hb.get n) (hb.get _) ?_
  cases hless:O.blt (key (p.getD n 0)) (key (p.getD (n - 1) 0)) with
  | true=>exact yes (h n (Go _) (by omega) hs (.inr hless))
  | false =>
   refine no (NG hC hb f (n+1) (by omega) (by omega) (λi j hij hj=>?_) λm m1 m2 m3 m4=>h m (by omega) m2 m3 m4)
   by_cases hjx:j<n
   ·exact hs i j hij hjx
   ·have hj':j=n:=by omega
    subst hj'
    by_cases hi':i=j
    ·subst hi'; exact aq _
    ·exact ck (hs i (j - 1) (by omega) (by omega)) hless
theorem G4(hC:U6 O key N cmp s){nrem:Nat}{G:Array Nat×Nat×Nat->Shared->Prop}:∀(f:Nat) (p:Array Nat) (n q:Nat),p.Perm p0->Bd N p->nrem<=p.size->1<=n->n+f=nrem->YH O key p n->q+1<=n ->
  (∀i,n - (q+1)<=i->i<n->KN O key p i=KN O key p (n - 1)) ->
  (∀p' m q',p'.Perm p0->Bd N p'->p'.size=p.size->n<=m->m<=nrem->YH O key p' m->q'+1<=m->(∀i,m - (q'+1)<=i->i<m->KN O key p' i=KN O key p' (m - 1))->G (p',m,q') s)->(kas_desc f p n q).kasWp cmp G s
 | 0,p,n,q,hp,hb,hz,h1,e,hs,hq,he,h=>h p n q hp hb rfl (Go _) (by omega) hs hq he
 | f+1,p,n,q,hp,hb,hz,h1,e,hs,hq,he,h=>by
  show cmp (p.getD n 0) (p.getD (n - 1) 0) (λc s'=>(if c=true then (if q > 0 then kas_desc f (kas_rev p (n - (q+1)) n) (n+1) 0 else kas_desc f p (n+1) 0)
   else .ask (p.getD (n - 1) 0) (p.getD n 0) λd=>if d=true then .ret (p,n,q) else kas_desc f p (n+1) (q+1)).kasWp cmp G s') s
  refine hC _ _ _ (hb.get n) (hb.get _) ?_
  cases hless:O.blt (key (p.getD n 0)) (key (p.getD (n - 1) 0)) with
  | true =>
   have hl:O.klt (KN O key p n) (KN O key p (n - 1)):=hless
   have step1:∀xs:Array Nat,(∀k,KN O key xs k=KN O key p k)->YH O key xs (n+1):=by
    intro xs hk i j hij hj
    rw [hk,hk]
    by_cases hjx:j<n
    ·exact hs i j hij hjx
    ·have hj':j=n:=by omega
     subst hj'
     by_cases hi':i=j
     ·subst hi'; exact aq _
     ·exact ck (cb hl) (hs i (j - 1) (by omega) (by omega))
   refine yes ?_
   have hsz:n<=p.size:=by omega
   by_cases hq0:q > 0
   ·rw [if_pos hq0]
    refine G4 hC f _ (n+1) 0 ((Bx _ _ _).trans hp) (hb.perm (Bx _ _ _)) (by rw [kas_rev_size]; exact hz) (by omega) (by omega) (step1 _ (BX hsz he)) (by omega) (λi a b=>by congr 1; omega) λp' m q' a1 a2 a3 a4 a5 a6 a7 a8=>h p' m q' a1 a2 (a3.trans (kas_rev_size _ _)) (by omega) a5 a6 a7 a8
   ·rw [if_neg hq0]
    exact G4 hC f _ (n+1) 0 hp hb hz (by omega) (by omega) (step1 _ λ_=>rfl) (by omega) (λi a b=>by congr 1; omega) λp' m q' a1 a2 a3 a4 a5 a6 a7 a8=>h p' m q' a1 a2 a3 (by omega) a5 a6 a7 a8
  | false =>
   refine no ?_
   show cmp (p.getD (n - 1) 0) (p.getD n 0) (λd s'=>(if d=true then KasT.ret (p,n,q) else kas_desc f p (n+1) (q+1)).kasWp cmp G s') s
   refine hC _ _ _ (hb.get _) (hb.get n) ?_
   cases hlarger:O.blt (key (p.getD (n - 1) 0)) (key (p.getD n 0)) with
   | true=>exact yes (h p n q hp hb rfl (Go _) (by omega) hs hq he)
   | false =>
    have heqx:KN O key p n=KN O key p (n - 1):=eY (O:=O) hlarger hless
    refine no (G4 hC f p (n+1) (q+1) hp hb hz (by omega) (by omega) (λi j hij hj=>?_) (by omega) (λi a b=>?_) λp' m q' a1 a2 a3 a4 a5 a6 a7 a8=>h p' m q' a1 a2 a3 (by omega) a5 a6 a7 a8)
    ·by_cases hjx:j<n
     ·exact hs i j hij hjx
     ·have hj':j=n:=by omega
      subst hj'
      by_cases hi':i=j
      ·subst hi'; exact aq _
      ·rw [heqx]; exact hs i (j - 1) (by omega) (by omega)
    ·rw [show n+1 - 1=n by omega]
     by_cases hix:i=n
     ·subst hix; rfl
     ·rw [heqx]; exact he i (by omega) (by omega)
theorem K7(hC:U6 O key N cmp s){n nrem:Nat}{G:Nat×Array Nat->Shared->Prop}(hp:p.Perm p0)(hb:Bd N p)(hz:nrem<=p.size)(h1:1<=n)(hn:n<=nrem)(hs:YH O key p n)
  (h:∀m p',p'.Perm p0->Bd N p'->p'.size=p.size->1<=m->m<=nrem->Srt O key p' m->G (m,p') s):(kas_tail3 n nrem p).kasWp cmp G s:=by
 unfold kas_tail3
 rw [KasT.kasWp_bind]
 have hsz:n<=p.size:=by omega
 refine NG hC (hb.perm (Bx _ _ _)) (nrem - n) n h1 (by omega) (λi j hij hj=>?_) λm m1 m2 m3 _=>h m _ ((Bx _ _ _).trans hp) (hb.perm (Bx _ _ _)) (kas_rev_size _ _) (by omega) m2 m3
 rw [GQ hsz,GQ hsz,if_pos (by omega),if_pos (by omega)]
 exact hs _ _ (by omega) (by omega)
theorem Gc(hC:U6 O key N cmp s){n nrem:Nat}{G:Nat×Array Nat->Shared->Prop}(hp:p.Perm p0)(hb:Bd N p)(hz:nrem<=p.size)(hn:n+1<=nrem)(hs:YH O key p (n+1))
  (h:∀m p',p'.Perm p0->Bd N p'->p'.size=p.size->1<=m->m<=nrem->Srt O key p' m->G (m,p') s):(kas_descPart n nrem p).kasWp cmp G s:=by
 unfold kas_descPart
 rw [KasT.kasWp_bind]
 refine G4 (p0:=p0) hC (nrem - (n+1)) p (n+1) 0 hp hb hz (by omega) (by omega) hs (by omega) (λi a b=>by congr 1; omega) λp' m q' a1 a2 a3 a4 a5 a6 a7 a8=>?_
 have hsz:m<=p'.size:=by omega
 show (if q' > 0 then kas_tail3 m nrem (kas_rev p' (m - (q'+1)) m) else kas_tail3 m nrem p').kasWp cmp G s
 by_cases hq0:q' > 0
 ·rw [if_pos hq0]
  refine K7 hC ((Bx _ _ _).trans a1) (a2.perm (Bx _ _ _)) (by rw [kas_rev_size]; omega) (by omega) a5 (λi j hij hj=>?_) λm' p'' b1 b2 b3 b4 b5 b6=>h m' p'' b1 b2 (b3.trans ((kas_rev_size _ _).trans a3)) b4 b5 b6
  rw [BX hsz a8,BX hsz a8]
  exact a6 i j hij hj
 ·rw [if_neg hq0]
  exact K7 hC a1 a2 (by omega) (by omega) a5 a6 λm' p'' b1 b2 b3 b4 b5 b6=>h m' p'' b1 b2 (b3.trans a3) b4 b5 b6
theorem Rz(hC:U6 O key N cmp s){nrem:Nat}{G:Nat×Array Nat->Shared->Prop}(hp:p.Perm p0)(hb:Bd N p)(hz:nrem<=p.size)(h1:1<=nrem)
  (h:∀m p',p'.Perm p0->Bd N p'->p'.size=p.size->1<=m->m<=nrem->Srt O key p' m->G (m,p') s):(kas_count nrem p).kasWp cmp G s:=by
 unfold kas_count
 rw [KasT.kasWp_bind]
 refine NG (nrem:=nrem) hC hb (nrem - 1) 1 (Go _) (by omega) (λi j hij hj=>by have:i=j:=(by omega); subst this; exact aq _) λn hn1 hn2 hsn hor=>?_
 by_cases hnn:n=nrem
 ·rw [if_pos (by simpa using hnn)]
  exact h n p hp hb rfl hn1 hn2 hsn
 ·rw [if_neg (by simpa using hnn)]
  have hlt:O.klt (KN O key p n) (KN O key p (n - 1)):=hor.resolve_left hnn
  by_cases hgt:n > 1
  ·rw [if_pos hgt]
   show cmp (p.getD 0 0) (p.getD (n - 1) 0) (λc s'=>(if c=true then KasT.ret (n,p) else kas_descPart n nrem (kas_rev p 0 n)).kasWp cmp G s') s
   refine hC _ _ _ (hb.get _) (hb.get _) ?_
   cases hrose:O.blt (key (p.getD 0 0)) (key (p.getD (n - 1) 0)) with
   | true=>exact yes (h n p hp hb rfl hn1 hn2 hsn)
   | false =>
    have hrose':O.kle (KN O key p (n - 1)) (KN O key p 0):=hrose
    have hsz:n<=p.size:=by omega
    have hall:∀k,0<=k->k<n->KN O key p k=KN O key p (n - 1):=by
     intro k _ hk
     have a1:=hsn 0 k (by omega) hk
     have a2:=hsn k (n - 1) (by omega) (by omega)
     exact eY a2 (ck hrose' a1)
    refine no (Gc hC ((Bx _ _ _).trans hp) (hb.perm (Bx _ _ _)) (by rw [kas_rev_size]; exact hz) (by omega) (λi j hij hj=>?_) λm' p'' b1 b2 b3 b4 b5 b6=>h m' p'' b1 b2 (b3.trans (kas_rev_size _ _)) b4 b5 b6)
    rw [BX hsz hall,BX hsz hall]
    by_cases hjn:j<n
    ·rw [hall i (by omega) (by omega),hall j (by omega) hjn]; exact aq _
    ·have hj':j=n:=by omega
     subst hj'
     by_cases hi':i=j
     ·subst hi'; exact aq _
     ·rw [hall i (by omega) (by omega)]; exact cb hlt
  ·rw [if_neg hgt]
   have hn1':n=1:=by omega
   subst hn1'
   refine Gc hC hp hb hz (by omega) (λi j hij hj=>?_) h
   by_cases hi':i=j
   ·subst hi'; exact aq _
   ·have hi0:i=0:=by omega
    have hj1:j=1:=by omega
    subst hi0; subst hj1
    exact cb hlt
theorem Hc(hC:U6 O key N cmp s)(hb:Bd N p){k:Nat}(hs:Srt O key p k){G:Nat->Shared->Prop}
  (h:∀l,l<=k->(∀i,i<l->O.kle (KN O key p i) (KN O key p k))->(∀i,l<=i->i<k->O.klt (KN O key p k) (KN O key p i))->G l s):∀(f l r:Nat),l<=r->r<=k->r - l<=f ->
  (∀i,i<l->O.kle (KN O key p i) (KN O key p k))->(∀i,r<=i->i<k->O.klt (KN O key p k) (KN O key p i))->(kas_place p k f l r).kasWp cmp G s
 | 0,l,r,hlr,hrk,hm,hlo,hhi=>by
  have:l=r:=by omega
  subst this
  exact h l hrk hlo hhi
 | f+1,l,r,hlr,hrk,hm,hlo,hhi=>by
  unfold kas_place
  by_cases hge:l≥r
  ·rw [if_pos hge]
   have:l=r:=by omega
   subst this
   exact h l hrk hlo hhi
  ·rw [if_neg hge]
   show cmp (p.getD k 0) (p.getD ((l+r) / 2) 0) (λc s'=>(if c=true then kas_place p k f l ((l+r) / 2) else kas_place p k f ((l+r) / 2+1) r).kasWp cmp G s') s
   refine hC _ _ _ (hb.get _) (hb.get _) ?_
   cases hless:O.blt (key (p.getD k 0)) (key (p.getD ((l+r) / 2) 0)) with
   | true =>
    have hl:O.klt (KN O key p k) (KN O key p ((l+r) / 2)):=hless
    exact yes (Hc hC hb hs h f l ((l+r) / 2) (by omega) (by omega) (by omega) hlo λi h1 h2=>KeyOrd.klt_of_klt_of_kle hl (hs _ _ h1 h2))
   | false =>
    have hl:O.kle (KN O key p ((l+r) / 2)) (KN O key p k):=hless
    exact no (Hc hC hb hs h f ((l+r) / 2+1) r (by omega) (by omega) (by omega) (λi h1=>ck (hs i ((l+r) / 2) (by omega) (by omega)) hl) hhi)
theorem Dk(hC:U6 O key N cmp s){n:Nat}{G:Array Nat->Shared->Prop}(h:∀p',p'.Perm p0->Srt O key p' n->G p' s):∀(f:Nat) (p:Array Nat) (k:Nat),p.Perm p0->Bd N p->n<=p.size->k+f=n->Srt O key p k->(kas_bin f p k).kasWp cmp G s
 | 0,p,k,hp,hb,hz,e,hs=>h p hp (by rw [← e]; exact hs)
 | f+1,p,k,hp,hb,hz,e,hs=>by
  rw [show kas_bin (f+1) p k=(kas_place p k k 0 k).bind λl=>kas_bin f (bubble p k (k - l)) (k+1) from rfl,KasT.kasWp_bind]
  refine Hc hC hb hs (λl hlk hlo hhi=>?_) k 0 k (Zt _) (Go _) (by omega) (λi hi=>by omega) λi a b=>by omega
  have hks:k<p.size:=by omega
  refine Dk hC h f _ (k+1) ((bubble_perm _ _ _).trans hp) (hb.perm (bubble_perm _ _ _)) (by rw [bubble_size]; exact hz) (by omega) λi j hij hj=>?_
  rw [Jf hks (by omega),Jf hks (by omega),show k - (k - l)=l by omega]
  by_cases hi1:i=l
  ·rw [if_pos hi1]
   by_cases hj1:j=l
   ·rw [if_pos hj1]; exact aq _
   ·rw [if_neg hj1,if_pos (by omega)]
    exact cb (hhi (j - 1) (by omega) (by omega))
  ·rw [if_neg hi1]
   by_cases hi2:l<i/\i<=k
   ·rw [if_pos hi2,if_neg (by omega),if_pos (by omega)]
    exact hs (i - 1) (j - 1) (by omega) (by omega)
   ·rw [if_neg hi2]
    by_cases hj1:j=l
    ·rw [if_pos hj1]; exact hlo i (by omega)
    ·rw [if_neg hj1]
     by_cases hj2:l<j/\j<=k
     ·rw [if_pos hj2]
      exact hs i (j - 1) (by omega) (by omega)
     ·rw [if_neg hj2]
      exact hs i j hij (by omega)
theorem sort_ok{n:Nat}(h1:1<=n)(hC:U6 O key n cmp s){G:Array Nat->Shared->Prop}(h:∀p,p.Perm (aE (Z0 n))->Srt O key p n->G p s):(kas_sort n).kasWp cmp G s:=by
 unfold kas_sort
 rw [KasT.kasWp_bind]
 have hb:Bd n (aE (Z0 n)):=⟨h1,λx hx=>by simpa using hx⟩
 have hsz:(aE (Z0 n)).size=n:=by simp
 refine Rz hC (er _) hb (by omega) h1 λm p' a1 a2 a3 a4 a5 a6=>?_
 show (if m<n then kas_bin (n - max m 1) p' (max m 1) else KasT.ret p').kasWp cmp G s
 by_cases hlt:m<n
 ·rw [if_pos hlt,show max m 1=m by omega]
  exact Dk (p0:=aE (Z0 n)) hC h (n - m) p' m a1 a2 (by omega) (by omega) a6
 ·rw [if_neg hlt]
  exact h p' a1 (by rw [show n=m by omega]; exact a6)
end
end So
namespace L2
open PySem PySem.Spec PyProof.Rows PySem.W
noncomputable def Vr:Key->Key->Bool
 | .inl i,.inl j=>decide (i<j)
 | .inr x,.inr y=>decide (x.cps.toList<y.cps.toList)
 | .inl _,.inr _=>true
 | .inr _,.inl _=>false
noncomputable def C7:List Key->List Key->Bool
 | [],[]=>false
 | [],_::_=>true
 | _::_,[]=>false
 | x::xs,y::ys=>if x=y then C7 xs ys else Vr x y
theorem Mu:∀x:Key,Vr x x=false
 | .inl i=>decide_eq_false (Int.lt_irrefl i)
 | .inr x=>decide_eq_false (dH _)
theorem O6:∀x y z:Key,Vr x y=true->Vr y z=true->Vr x z=true
 | .inl i,.inl j,.inl k,h1,h2=>decide_eq_true (Int.lt_trans (of_decide_eq_true h1) (of_decide_eq_true h2))
 | .inr i,.inr j,.inr k,h1,h2=>decide_eq_true (List.lt_trans (of_decide_eq_true h1) (of_decide_eq_true h2))
 | .inl i,.inl j,.inr k,_,_=>rfl
 | .inl i,.inr j,.inr k,_,_=>rfl
 | .inl i,.inr j,.inl k,_,h=>by cases h
 | .inr i,.inl j,_,h,_=>by cases h
 | .inr i,.inr j,.inl k,_,h=>by cases h
theorem JG:∀x y:Key,Vr x y=false->Vr y x=false->x=y
 | .inl i,.inl j,h1,h2=>congrArg dE (by have a:=of_decide_eq_false h1; have b:=of_decide_eq_false h2; omega)
 | .inr x,.inr y,h1,h2=>by
  have a:=of_decide_eq_false h1
  have b:=of_decide_eq_false h2
  have e:x.cps.toList=y.cps.toList:=List.le_antisymm (as:=x.cps.toList) (bs:=y.cps.toList) b a
  obtain⟨u⟩:=x
  obtain⟨v⟩:=y
  exact congrArg aQ (congrArg Str.mk (Array.ext' e))
 | .inl i,.inr j,h,_=>by cases h
 | .inr i,.inl j,_,h=>by cases h
theorem GZ:∀x:List Key,C7 x x=false
 | []=>rfl
 | x::xs=>by unfold C7; rw [if_pos rfl]; exact GZ xs
theorem De:∀x y z:List Key,C7 x y=true->C7 y z=true->C7 x z=true
 | [],[],_,h,_=>by cases h
 | [],_::_,[],_,h=>by cases h
 | [],_::_,_::_,_,_=>rfl
 | _::_,[],_,h,_=>by cases h
 | _::_,_::_,[],_,h=>by cases h
 | x::xs,y::ys,z::zs,h1,h2=>by
  unfold C7 at h1 h2 ⊢
  by_cases e1:x=y
  ·subst e1
   rw [if_pos rfl] at h1
   by_cases e2:x=z
   ·subst e2
    rw [if_pos rfl] at h2 ⊢
    exact De xs ys zs h1 h2
   ·rw [if_neg e2] at h2 ⊢
    exact h2
  ·rw [if_neg e1] at h1
   by_cases e2:y=z
   ·subst e2
    rw [if_neg e1]
    exact h1
   ·rw [if_neg e2] at h2
    have h3:=O6 x y z h1 h2
    by_cases e3:x=z
    ·subst e3
     rw [Mu] at h3
     cases h3
    ·rw [if_neg e3]
     exact h3
theorem FG:∀x y:List Key,C7 x y=false->C7 y x=false->x=y
 | [],[],_,_=>rfl
 | [],_::_,h,_=>by cases h
 | _::_,[],_,h=>by cases h
 | x::xs,y::ys,h1,h2=>by
  unfold C7 at h1 h2
  by_cases e:x=y
  ·subst e
   rw [if_pos rfl] at h1 h2
   rw [FG xs ys h1 h2]
  ·rw [if_neg e] at h1
   rw [if_neg (λz=>e z.symm)] at h2
   exact absurd (JG x y h1 h2) e
noncomputable def S6:KeyOrd:=⟨List Key,C7,GZ,De,λa b c h=>by
 cases h1:C7 a b with
 | true=>exact .inl rfl
 | false =>
  cases h2:C7 b a with
  | true=>exact .inr (De b a c h2 h)
  | false=>rw [← FG a b h1 h2]; exact .inr h,FG⟩
theorem Nk:∀x y:List Key,A8 x y=true->BD x y=C7 x y
 | [],[],_=>rfl
 | [],_::_,_=>rfl
 | _::_,[],_=>rfl
 | x::xs,y::ys,h=>by
  have h':(Ej x y&&A8 xs ys)=true:=h
  rw [Zo] at h'
  unfold BD C7
  by_cases e:x=y
  ·rw [if_pos e,if_pos e]; exact Nk xs ys h'.2
  ·rw [if_neg e,if_neg e]
   cases x with
   | inl i=>cases y with
    | inl j=>rfl
    | inr z=>cases h'.1
   | inr i=>cases y with
    | inl j=>cases h'.1
    | inr z=>rfl
section
variable {prog:Program}{w:World}{A:Around}{E:Value->Shared->Prop}{s:Shared}
theorem Q1{b:Bool}{Q:Bool->Shared->Prop}{nx ny:Nat}:∀(ns ms:List Key) (us ws:List Value) (i:Nat),Vals (ns.map kOf) us->Vals (ms.map kOf) ws->A8 ns ms=true->ns.length+ny=ms.length+nx->Q (BD ns ms) s ->
  KatLex prog w A b (decide (nx<ny)) Q (us.zip ws) i s
 | [],[],us,ws,i,h1,h2,_,hl,q=>by
  cases h1
  cases h2
  refine kat_nil ?_
  rw [show decide (nx<ny)=false from decide_eq_false (by simp only [Zq] at hl; omega)]
  exact q
 | [],m::ms,us,ws,i,h1,h2,_,hl,q=>by
  cases h1
  rw [cY]
  refine kat_nil ?_
  rw [show decide (nx<ny)=true from decide_eq_true (by simp only [Zq,No] at hl; omega)]
  exact q
 | n::ns,[],us,ws,i,h1,h2,_,hl,q=>by
  cases h2
  rw [cO]
  refine kat_nil ?_
  rw [show decide (nx<ny)=false from decide_eq_false (by simp only [Zq,No] at hl; omega)]
  exact q
 | n::ns,m::ms,us,ws,i,h1,h2,hs,hl,q=>by
  have hs':(Ej n m&&A8 ns ms)=true:=hs
  rw [Zo] at hs'
  have q':Q (if n=m then BD ns ms else Um n m) s:=q
  cases h1 with
  | @cons _ u _ ur r1 t1 =>
   cases h2 with
   | @cons _ v _ vr r2 t2 =>
    rw [aj]
    have ih:n=m->KatLex prog w A b (decide (nx<ny)) Q (ur.zip vr) (i+1) s:=λe=>Q1 ns ms ur vr (i+1) t1 t2 hs'.2 (by simp only [No] at hl; omega) (by rw [if_pos e] at q'; exact q')
    cases n with
    | inl x =>
     cases m with
     | inr y=>cases hs'.1
     | inl y =>
      obtain⟨tu,rfl⟩:=r1
      obtain⟨tv,rfl⟩:=r2
      refine kat_cons (wpAny_eqBool_int ?_)
      by_cases e:x=y
      ·rw [show (x==y)=true by simpa using e]
       exact kat_yes (ih (by rw [e]))
      ·rw [show (x==y)=false by simpa using e]
       refine kat_no ?_
       rw [if_neg (λz=>e (Sum.inl.inj z))] at q'
       cases hf:(b&&i==0) with
       | true=>exact oneLt_int q'
       | false=>exact kat_one _ _ (eM (show PySem.W.BoolBack Q (.bool (decide (x<y))) s from q'))
    | inr x =>
     cases m with
     | inl y=>cases hs'.1
     | inr y =>
      obtain⟨tu,rfl⟩:=r1
      obtain⟨tv,rfl⟩:=r2
      refine kat_cons (wpAny_eqBool_str ?_)
      by_cases e:x=y
      ·rw [show decide (x=y)=true by simpa using e]
       exact kat_yes (ih (by rw [e]))
      ·rw [show decide (x=y)=false by simpa using e]
       refine kat_no ?_
       rw [if_neg (λz=>e (az z))] at q'
       cases hf:(b&&i==0) with
       | true=>exact oneLt_str q'
       | false=>exact kat_one _ _ (PySem.P.lt_str (show PySem.W.BoolBack Q (.bool (decide (x.cps.toList<y.cps.toList))) s from q'))
structure OO (h:Heap) (ks:List Value) (keys:List (List Key)):Prop where
 at_:∀(i:Nat) (ns:List Key),keys[i]?=some ns->∃a o its n,ks[i]?=some (.ref a)/\h.get? a=some o/\o.cls=.type "tuple"/\o.data=.seq its n/\Vals (ns.map kOf) its.toList
 len:ks.length=keys.length
 same:∀x∈keys,∀y∈keys,A8 x y=true
 ne:∀x∈keys,x≠[]
noncomputable def YO:Key->String
 | .inl _ => "int"
 | .inr _ => "str"
theorem firsts{h:Heap}:∀(ks:List Value) (keys:List (List Key)) (T:String),ks.length=keys.length->(∀(i:Nat) (ns:List Key),keys[i]?=some ns->∃a o its n,ks[i]?=some (.ref a)/\h.get? a=some o/\o.cls=.type "tuple"/\o.data=.seq its n/\Vals (ns.map kOf) its.toList) ->
  (∀x∈keys,∃k r,x=k::r/\YO k=T)->∃fs:List Value,KatTups h ks fs/\fs.length=keys.length/\∀v∈fs,typeOf v=pure (.type T)
 | [],[],T,_,_,_=>⟨[],trivial,rfl,λv hv=>by cases hv⟩
 | [],_::_,T,hl,_,_=>by cases hl
 | _::_,[],T,hl,_,_=>by cases hl
 | k::ks,x::keys,T,hl,h1,h2=>by
  obtain⟨fs,g1,g2,g3⟩:=firsts ks keys T (by simpa using hl) (λi ns e=>by
   obtain⟨a,o,its,n,e1,r⟩:=h1 (i+1) ns (by simpa using e)
   exact⟨a,o,its,n,by simpa using e1,r⟩) λy hy=>h2 y (Is _ hy)
  obtain⟨a,o,its,n,e1,e2,e3,e4,e5⟩:=h1 0 x rfl
  have e1:k=.ref a:=by simpa using e1
  subst e1
  obtain⟨k,r,rfl,hk⟩:=h2 x On
  rw [TW] at e5
  cases hits:its.toList with
  | nil=>rw [hits] at e5; cases e5
  | cons f tl =>
   rw [hits] at e5
   cases e5 with
   | cons r1 r2 =>
    refine⟨f::fs,KatTups.cons e2 e3 e4 (by rw [← cr,hits]; rfl) g1,by rw [No,No,g2],λv hv=>?_⟩
    rcases UF.mp hv with rfl | hv
    ·cases k with
     | inl i=>obtain⟨t,rfl⟩:=r1; subst hk; rfl
     | inr i=>obtain⟨t,rfl⟩:=r1; subst hk; rfl
    ·exact g3 v hv
theorem OY{ks:List Value}{keys:List (List Key)}(K:OO s.heap ks keys)(h2:2<=ks.length){G:Array Nat->Shared->Prop}(h:∀p,p.Perm (aE (Z0 ks.length))->So.Srt S6 (λi=>keys.getD i []) p ks.length->G p s) :
  wpAny (model prog w) A (keyKind' ks.toArray) (λκ s'=>(kas_sort ks.length).kasWp (kas_ask prog w A κ ks) G s') (λ_ _=>False) s:=by
 obtain⟨x0,xr,hx⟩:∃x0 xr,keys=x0::xr:=by
  cases e:keys with
  | nil=>have:=K.len; rw [e] at this; simp only [Zq] at this; omega
  | cons x r=>exact⟨x,r,rfl⟩
 have m0:x0∈keys:=by rw [hx]; exact On
 obtain⟨k0,r0,e0⟩:∃k r,x0=k::r:=by
  cases e:x0 with
  | nil=>exact absurd e (K.ne x0 m0)
  | cons k r=>exact⟨k,r,rfl⟩
 have hty:∀x∈keys,∃k r,x=k::r/\YO k=YO k0:=λx hm=>by
  cases e:x with
  | nil=>exact absurd e (K.ne x hm)
  | cons k r =>
   refine⟨k,r,rfl,?_⟩
   have hsm:=K.same x hm x0 m0
   rw [e,e0] at hsm
   have hsm:(Ej k k0&&A8 r r0)=true:=hsm
   rw [Zo] at hsm
   cases k with
   | inl i=>cases k0 with
    | inl j=>rfl
    | inr j=>cases hsm.1
   | inr i=>cases k0 with
    | inl j=>cases hsm.1
    | inr j=>rfl
 obtain⟨fs,g1,g2,g3⟩:=firsts ks keys (YO k0) K.len K.at_ hty
 refine kat_kind g1 (by rw [g2,← K.len]; omega) (λv hv=>by rw [g3 v hv]; exact Looks.now) (by simp) ?_
 refine So.sort_ok (O:=S6) (key:=λi=>keys.getD i []) (by omega) (λi j C hi hj hC=>?_) h
 have hi':i<keys.length:=by rw [← K.len]; exact hi
 have hj':j<keys.length:=by rw [← K.len]; exact hj
 obtain⟨a,o,its,n,e1,e2,e3,e4,e5⟩:=K.at_ i keys[i] (Op hi')
 obtain⟨a',o',its',n',e1',e2',e3',e4',e5'⟩:=K.at_ j keys[j] (Op hj')
 unfold kas_ask
 rw [show ks.getD i Zx=.ref a by rw [Zw,e1]; rfl,show ks.getD j Zx=.ref a' by rw [Zw,e1']; rfl]
 have hsm:=K.same _ (ak hi') _ (ak hj')
 refine kat_lt e2 e4 e2' e4' (Q1 keys[i] keys[j] _ _ 0 e5 e5' hsm ?_ ?_)
 ·have l1:=e5.length
  have l2:=e5'.length
  have l3:(keys[i].map kOf).length=keys[i].length:=Cn ..
  have l4:(keys[j].map kOf).length=keys[j].length:=Cn ..
  have l5:its.toList.length=its.size:=Z8
  have l6:its'.toList.length=its'.size:=Z8
  omega
 ·rw [Nk _ _ hsm]
  have g1:keys.getD i []=keys[i]:=by rw [Zw,Op hi']; rfl
  have g2:keys.getD j []=keys[j]:=by rw [Zw,Op hj']; rfl
  have hC':C (C7 (keys.getD i []) (keys.getD j [])) s:=hC
  rw [g1,g2] at hC'
  exact hC'
theorem Jj{v:Value}{kw:List (Str×Value)}{Q:Value->Shared->Prop}(ha1:argsOk "sorted" ⟨[v],kw⟩)(ha2:∀x,argsOk "list.sort" ⟨[.ref x],kw⟩)
  (hc:wpAny (model prog w) A.in1 (collect v) (λvs s1=>vs.length<=sizeLine/\wpAny (model prog w) A.in1.in1 (Builtin.«list.sort» ⟨[.ref s1.heap.objs.size],kw⟩) (λfin s'=>fin=.done (.ret .none)/\Q (.ref s1.heap.objs.size) s') E { s1 with heap:=s1.heap.push (seqObj "list" vs.toArray 0) }) E s) :
  wpAny (model prog w) A (call (.builtin "sorted") [v] kw) Q E s:=by
 refine call_function_entry_kw kind_sorted plain_sorted entry_sorted ha1 ?_
 unfold Builtin.«sorted»
 refine Ch (m:=checkCount "sorted" 1 1 _) (Db ?_)
 refine Ch (Z6 hc (λvs s1 h=>?_) λ_ _ x=>x)
 refine Ch (wpAny_newList ?_ h.1)
 have hoL:(s1.heap.push (seqObj "list" vs.toArray 0)).get? s1.heap.objs.size=some (seqObj "list" vs.toArray 0):=XV _ rfl
 refine Ch (aD (wpAny_call_entry_kw PyProof.Rows.slot_list_sort ⟨_,hoL,rfl⟩ PyProof.Rows.entry_list_sort (Z6 h.2 (λfin s' hf=>?_) λ_ _ x=>x) (ha2 _)))
 exact⟨_,hf.1,Db ⟨_,rfl,hf.2⟩⟩
noncomputable def GU(h:Heap)(D:Addr)(vs:List Value):Heap:=((h.update D (bT λ_=>(#[]:Array Value))).push (seqObj "tuple" vs.toArray 0)).push (seqObj "list" #[] 0)
theorem Iv{h:Heap}{D:Addr}{vs:List Value}{b:Addr}{o:Obj}(hb:b≠D)(e:h.get? b=some o):(GU h D vs).get? b=some o :=
 Ev _ (Ev _ ((aN _ _ (bL hb)).trans e))
theorem QB{h:Heap}{D:Addr}{vs:List Value}{n:Nat}(ho:h.get? D=some (seqObj "list" vs.toArray n)):∃e1,(GU h D vs).get? D=some (seqObj "list" #[] e1)/\(h.update D (bT λ_=>(#[]:Array Value))).get? D=some (seqObj "list" #[] e1):=by
 obtain⟨e1,ho1⟩:∃e1,(h.update D (bT λ_=>(#[]:Array Value))).get? D=some (seqObj "list" #[] e1):=⟨_,get?_update_seq ho λ_=>#[]⟩
 exact⟨e1,Ev _ (Ev _ ho1),ho1⟩
theorem LV{D:Addr}{vs:List Value}{n:Nat}{P:PySem.Fin->Shared->Prop}{G:Array Nat->Prop}(ho:s.heap.get? D=some (seqObj "list" vs.toArray n))(h64:vs.length<64)
  (hk:2<=vs.length->wpAny (model prog w) A (keyKind' vs.toArray) (λκ s'=>(kas_sort vs.length).kasWp (kas_ask prog w A κ vs) (λp s''=>s''={ s with heap:=GU s.heap D vs }/\G p) s') (λ_ _=>False) { s with heap:=GU s.heap D vs })
  (h1:vs.length<2->G (aE (Z0 vs.length))) (hfin:∀(p:Array Nat) (h':Heap) (c:Nat),p.size=vs.length->G p->(∀b o,b≠D->s.heap.get? b=some o->h'.get? b=some o)->h'.get? D=some (seqObj "list" (aE (p.toList.map λi=>vs.getD i Zx)) c)->P (.done (.ret .none)) { s with heap:=h' }) :
  wpAny (model prog w) A (Builtin.«list.sort» ⟨[.ref D],[]⟩) P E s:=by
 obtain⟨e1,ho6,ho1⟩:=QB ho
 have fin:∀(p:Array Nat),p.size=vs.length->G p->P (.done (.ret .none)) { s with heap:=(GU s.heap D vs).update D (bT λ_=>aE (p.toList.map λi=>vs.getD i Zx)) }:=λp hp hg=>by
  obtain⟨c2,hc2⟩:∃c2,((GU s.heap D vs).update D (bT λ_=>aE (p.toList.map λi=>vs.getD i Zx))).get? D=some (seqObj "list" (aE (p.toList.map λi=>vs.getD i Zx)) c2):=⟨_,get?_update_seq ho6 λ_=>aE (p.toList.map λi=>vs.getD i Zx)⟩
  exact hfin p _ c2 hp hg (λb o hb e=>(aN _ _ (bL hb)).trans (Iv hb e)) hc2
 rw [list_sort_plain]
 refine Ch (listItems_at ho rfl ?_)
 refine Ch (listUpdate_at ho rfl ?_ (by rw [Rs,Z2]; omega) (Zt _))
 refine Ch (seqEpoch_at ho1 rfl ?_)
 refine Ch (wpAny_newTuple ?_ (by show vs.length<=_; rw [Z2]; omega))
 refine Ch (wpAny_newList ?_ (Zt _))
 refine aD ?_
 show wpAny (model prog w) A _ P E { s with heap:=GU s.heap D vs }
 dsimp only
 by_cases h2:vs.length<2
 ·have h2':vs.toArray.size<2:=by rw [Rs]; exact h2
  rw [if_pos h2',if_pos h2']
  refine Ch (Db ?_)
  rw [StateT.run_pure]
  refine Ch (Db ?_)
  dsimp only
  refine Ch (seqEpoch_at ho6 rfl ?_)
  have hsz:(aE (Z0 vs.length)).size=vs.length:=by simp
  have hout:(arrOf (SortSt.mk' general' (vs.toArray.zip vs.toArray) #[] 7 none)).map (·.2)=aE ((aE (Z0 vs.length)).toList.map λi=>vs.getD i Zx):=by
   refine kat_snds rfl ?_
   have e:=kas_range (vs.toArray.zip vs.toArray)
   rw [show (vs.toArray.zip vs.toArray).size=vs.length by simp] at e
   exact e.symm
  rw [hout]
  refine Ch (listUpdate_at ho6 rfl ?_ (Zt _) (by rw [Rs,Cn,Z8,hsz,Z2]; omega))
  simp only [bne_self_eq_false,Z5,if_false]
  exact Db (fin _ hsz (h1 h2))
 ·have h2':¬vs.toArray.size<2:=by rw [Rs]; exact h2
  rw [if_neg h2',if_neg h2']
  refine Ch (Z6 (hk (by omega)) (λκ s0 hk=>?_) λ_ _ x=>x.elim)
  refine Ch (Z6 (kat_run (Q:=λst' s'=>∃p:Array Nat,p.size=vs.length/\arrOf st'=p.map (kas_item (vs.toArray.zip vs.toArray))/\failedOf st'=none/\s'={ s with heap:=GU s.heap D vs }/\G p)
   rfl (by omega) h64 (λp' st' s' a1 a2 a3 a4=>⟨p',a1,a2,a3,a4⟩) hk) ?_ λ_ _ e=>e)
  rintro ⟨⟨⟩,st'⟩ s' ⟨p,hp,har,hf,rfl,hg⟩
  dsimp only
  have hout:=kat_snds rfl har
  have hsz:(aE (p.toList.map λi=>vs.getD i Zx)).size=vs.length:=by rw [Rs,Cn,Z8,hp]
  rw [hout]
  refine Ch (seqEpoch_at ho6 rfl ?_)
  refine Ch (listUpdate_at ho6 rfl ?_ (Zt _) (Zv (Nat.le_of_eq hsz) (by rw [Z2]; omega)))
  rw [hf]
  simp only [bne_self_eq_false,Z5,if_false]
  exact Db (fin p hp hg)
end
section
variable {X:Cx}{pins:List (Addr×Obj)}{σ:L2.St}{H:Hp}{s:Shared}{h':Heap}
structure Zf (X:Cx) (pins:List (Addr×Obj)) (D:Addr):Prop where
 new:X.s₀.heap.objs.size<=D
 loc:D≠X.env.locals
 cell:∀x c,X.env.cells.lookup x=some c->c≠D
 pin:∀p∈X.pn++pins,p.1≠D
 fs:D∉X.fs
structure KeysAt (K:Frag) (H:Hp) (vs:List V) (keys:List (List Key)):Prop where
 len:vs.length=keys.length
 at_:∀(i:Nat) (ns:List Key),keys[i]?=some ns->∃a,vs[i]?=some (.ref a)/\SqT K H a (ns.map kOf)
 same:∀x∈keys,∀y∈keys,A8 x y=true
 ne:∀x∈keys,x≠[]
noncomputable def OR(keys:List (List Key))(ix:List Nat):Prop:=ix.Perm (Z0 keys.length)/\∀i j,i<=j->j<keys.length->C7 (keys.getD (ix.getD j 0) []) (keys.getD (ix.getD i 0) [])=false
theorem KeysAt.tups{vs:List V}{us:List Value}{keys:List (List Key)}(I:Inv X pins σ H s)(r:Vals vs us)(k:KeysAt X.K H vs keys){h':Heap}(hk:∀b o,s.heap.get? b=some o->h'.get? b=some o):OO h' us keys:=by
 refine⟨λi ns e=>?_,r.length.symm.trans k.len,k.same,k.ne⟩
 obtain⟨a,e1,h1⟩:=k.at_ i ns e
 obtain⟨u,e2,r2⟩:=r.get e1
 cases r2
 obtain⟨its,r3,⟨o,ho,hc,n,hd⟩,_⟩:=I.tuple h1
 exact⟨a,o,its.toArray,n,e2,hk a o ho,hc,hd,by rw [List.toList_toArray]; exact r3⟩
theorem Iq:∀{vs:List V} {us:List Value},Vals vs us->∀i:Nat,RelV (vs.getD i .non) (us.getD i Zx)
 | _,_,.nil,i=>by simp [RelV]
 | _,_,.cons r t,0=>by simpa using r
 | _,_,.cons r t,i+1=>by simpa using Iq t i
theorem Ky{f:Nat->V}{g:Nat->Value}(h:∀i,RelV (f i) (g i)):∀ix:List Nat,Vals (ix.map f) (ix.map g)
 | []=>.nil
 | i::ix=>.cons (h i) (Ky h ix)
theorem getD_list(p:Array Nat)(i:Nat):p.getD i 0=p.toList.getD i 0:=by simp
theorem Vf{keys:List (List Key)}{n:Nat}{p:Array Nat}(hn:keys.length=n)(h1:p.Perm (aE (Z0 n)))(h2:So.Srt S6 (λi=>keys.getD i []) p n):OR keys p.toList:=by
 subst hn
 refine⟨Array.perm_iff_toList_perm.mp h1,λi j hij hj=>?_⟩
 have h:=h2 i j hij hj
 unfold So.KN at h
 rw [getD_list,getD_list] at h
 exact h
theorem Od{A':Around}{E':Value->Shared->Prop}{vs:List V}{us:List Value}{keys:List (List Key)}{Q:VK}(I:Inv X pins σ H s)(r:Vals vs us)(h64:vs.length<64)(k:KeysAt X.K H vs keys)
  (q:∀(ix:List Nat) (l:Addr),OR keys ix->H l=none->Q (.ref l) (Ar H l (.lst (ix.map λi=>vs.getD i .non)))) :
  wpAny (model X.prog X.w) A' (Builtin.«list.sort» ⟨[.ref s.heap.objs.size],[]⟩) (λfin s'=>fin=.done (.ret .none)/\EP X pins σ Q (.ref s.heap.objs.size) s') E' { s with heap:=s.heap.push (seqObj "list" us.toArray 0) }:=by
 have hl:=r.length
 have hkl:keys.length=us.length:=k.len.symm.trans hl
 refine LV (G:=λp=>p.Perm (aE (Z0 us.length))/\So.Srt S6 (λi=>keys.getD i []) p us.length) (n:=0) (XV _ rfl) (by omega) (λh2=>?_) (λh1=>⟨er _,λi j hij hj=>?_⟩) (λp h' c hp hg hold hD=>⟨rfl,?_⟩)
 ·refine OY (keys:=keys) (k.tups I r λb o e=>?_) h2 (λp a b=>⟨rfl,a,b⟩)
  exact Iv (Zs (Sc e)) (Ev _ e)
 ·have:i=j:=by omega
  subst this
  exact aq _
 ·have hf:H s.heap.objs.size=none:=I.fresh
  have hix:(p.toList.map λi=>vs.getD i .non).length=us.length:=by rw [Cn,Z8,hp]
  refine⟨.ref s.heap.objs.size,Ar H s.heap.objs.size (.lst (p.toList.map λi=>vs.getD i .non)),I.laid (t':=s.toks) (λb o e=>hold b o (Zs (Sc e)) (Ev _ e)) (Go _) ⟨by rw [hix,← hl,Z2]; omega,_,c,Ky (Iq r) p.toList,hD⟩,rfl,q _ _ (Vf hkl hg.1 hg.2) hf⟩
end
end L2
namespace L2
open PySem PySem.Spec PyProof.Rows
section
variable {X:Cx}{tg elt iter:Expr}{ifs:List Expr}{sc:Scope}{pos spos pos':Pos}{N':List Str}{js:List (Option Nat)}{wi:TI}{i:Nat}{x:Str}
theorem NX(hc:X.calm=true)(N':List Str)(js:List (Option Nat))(hi:PI X tg iter wi)
  (hB:Gg sc X.env.scope X.N N' js=true) (hN:X.N.Nodup) (hix:X.N[i]?=some x) (hx:Loc X.env.scope x)
  (hsw:swapsWith (.ListComp elt [⟨tg,iter,ifs,0⟩] sc pos) (some (.Name x pos')) spos.line X.env=pure true)
  (hs:autoParam (∀x,foldedSetIterable iter X.env x=pure x) zau2._auto_1)
  (hf:autoParam (X.fn x=true\/X.env.scope.names.lookup x=some .local) zau0._auto_1) :
  PS X (.Assign [.Name x pos'] (.ListComp elt [⟨tg,iter,ifs,0⟩] sc pos) spos) (K8 (P_ X sc N' js tg elt ifs wi) (Gb i)):=by
 intro pins s σ H D I h
 have O:CompOk X sc N' js:=CompOk.of hB
 obtain⟨cl,hclos,hcl,hcl2⟩:=IH (scope:=sc) (env:=X.env) λx hx=>I.ok.has x (O.free x hx)
 rw [exec_Assign_Name_used _ _ _ _ hsw]
 refine Ch (be (Ch ?_))
 show wpAny _ _ (do let _ ← comprehension (.ListComp elt [⟨tg,iter,ifs,0⟩] sc pos) sc X.env _ (newList []) false (eval iter X.env) (some (assign (.Name x pos') X.env))) _ _ s
 refine Ch (Z6 (wpAny_comprehension_free (Q:=λ_ s'=>SP X pins D .next s') (use:=some (assign (.Name x pos') X.env)) rfl hs hclos O.kind O.names (BB (hi pins s σ H _ I h) λv s1 h1=>BB h1 λitv s2 h2=>?_))
  (λ_ s' hq=>Db (Db hq)) λ_ _ e=>e)
 obtain⟨it,fp,tn,J,H2,e,I2,T,st2,f2,hq⟩:=h2
 subst e
 have kfree:X.K.lookup s2.heap.objs.size=none:=by
  cases q:X.K.lookup s2.heap.objs.size with
  | none=>rfl
  | some o=>exact absurd (Sc (I2.kIn _ _ q)) (aU _)
 obtain⟨g,tt,te,W,hg,ht,he,⟨m0,w0⟩,hW⟩:=hq s2.heap.objs.size (I2.hok.fresh (Go _)) kfree cl (s2.heap.objs.size+1) s2 H2 fp
 refine Z3 (wpAny_newFunctionEnv O.cell (by intro y hy; simp at hy) (λh₁ hns₁ hsb₁=>?_) O.kind)
 dsimp only at hns₁ hsb₁ ⊢
 generalize hH2:s2.heap.push { cls:=.type "list",dict:=none,data:=.seq ([]:List Value).toArray }=Hh at hns₁ hsb₁ ⊢
 have hCe:Hh.objs.size=s2.heap.objs.size+1:=by rw [← hH2,cS]
 have hlt:∀b∈fp,b<s2.heap.objs.size:=λb hb=>by
  obtain⟨o,e,_⟩:=T.obj _ _ st2 b hb
  exact Sc e
 have old:∀b o,s2.heap.get? b=some o->h₁.get? b=some o:=λb o e=>hsb₁.extBut b o (by rw [hCe]; exact Zs (bt (Sc e))) (Ev _ (hH2▸Ev _ e))
 have hD:∃n,h₁.get? s2.heap.objs.size=some { cls:=.type "list",data:=.seq #[] n }:=⟨_,hsb₁.extBut _ _ (by rw [hCe]; exact Zs (Nat.lt_succ_self _)) (Ev _ (hH2▸XV _ rfl))⟩
 have I3:∀tk,Inv (Av X sc N' cl (s2.heap.objs.size+1) s2 H2 fp) [] (CI js σ) (Ar H2 s2.heap.objs.size (.lst [])) { s2 with heap:=h₁,toks:=tk }:=λtk =>
  Li I2 hc O hcl hcl2 f2 (λb hb=>let ⟨o,e,_⟩:=T.obj _ _ st2 b hb; ⟨o,e⟩) (by rw [← hCe]; exact hns₁) old hD
 have st3:tn 0 h₁:=T.keep _ _ _ st2 λb hb o e=>old b o e
 have fr3:∀b∈fp,Ar H2 s2.heap.objs.size (.lst []) b=none:=λb hb=>by
  rw [AM (Zs (hlt b hb))]
  exact(f2 b hb).1
 have loop:∀tk,codeAny (model X.prog X.w) X.A (.compLoop (.ListComp elt [⟨tg,iter,ifs,0⟩] sc pos) 0 (.ref it) (.ref s2.heap.objs.size) (compEnvC sc cl (s2.heap.objs.size+1) X.env))
   (compPost (model X.prog X.w) X.A X.xe (some (assign (.Name x pos') X.env)) (λ_ s'=>SP X pins D .next s') (.ref s2.heap.objs.size) (s2.heap.objs.size+1)) { s2 with heap:=h₁,toks:=tk }:=λtk=>by
  refine JU (W:=W) (m0:=m0) (Q:=λv H1=>Gb i v σ H1 λσ2 H2=>D.nx σ2 H2) I2 f2 hlt (aG _) T hg ht he hW (λσ' H' s' J' q'=>?_) (I3 tk) st3 fr3 w0
  obtain⟨m,hn,_⟩:=J'.loc
  have hCn:H' (s2.heap.objs.size+1)=none:=J'.free
  have I4:Inv X pins σ H' s':=Hv (h':=s'.heap) I2 f2 (aG _) J' λb _=>rfl
  obtain⟨g1,g2,g3,g4,g5,g6⟩:=I2.fpOk (b:=s2.heap.objs.size+1) (aG _) hCn
  show wpAny (model X.prog X.w) X.A (assign (.Name x pos') X.env (.ref s2.heap.objs.size)) (λ_ s''=>∃m,s''.heap.Ns (s2.heap.objs.size+1) m/\∀h',bH (s2.heap.objs.size+1) s''.heap h'->SP X pins D .next { s'' with heap:=h' }) X.xe s'
  refine wpAny_assign_Name (Iu (v:=.ref s2.heap.objs.size) I4 hN hix hx rfl (λs5 I5 ⟨a,hsame,ha⟩=>?_) hf)
  have na:s2.heap.objs.size+1≠a:=by
   rcases ha with rfl | ha
   ·exact g2
   ·exact λz=>g5 _ _ ha z.symm
  refine⟨m,hn.sameBut hsame na,λh' hs'=>?_⟩
  exact⟨_,H',I5.turned (t':=s5.toks) (it:=s2.heap.objs.size+1) (λb o hb e=>hs'.extBut b o hb e) hCn g2 g4 g5 g6,q'⟩
 rw [show (newEnv sc Hh.objs.size X.env.globals cl X.env.qual none .none (some X.env) builtinsNs).locals=s2.heap.objs.size+1 from hCe]
 show codeAny (model X.prog X.w) X.A (.compStart (.ListComp elt [⟨tg,iter,ifs,0⟩] sc pos) 0 (.ref it) (.ref s2.heap.objs.size) (compEnvC sc cl (s2.heap.objs.size+1) X.env)) _ _
 exact codeAny_compStart_list (loop _) (T.self _ 0 _ _ _ st3 (loop _))
end
end L2
namespace Dp
open PySem PySem.Spec PyProof.Rows L2
section
variable {X:Cx}{κe:Kd}{tg elt iter:Expr}{ifs:List Expr}{sc:Scope}{pos:Pos}{src:Eg}{b:BW}{tt:F4}{te:DW}
theorem L0(hc:X.calm=true)(N':List Str)(js:List (Option Nat))(hi:Wp X tg iter src)(hg:∀cl C s H fp,DG (Av X sc N' cl C s H fp) tg b)(ht:∀cl C s H fp,Wo (Av X sc N' cl C s H fp) ifs tt)(he:∀cl C s H fp,DE (Av X sc N' cl C s H fp) elt κe te)
  (hB:Gg sc X.env.scope X.N N' js=true) (hk:autoParam (κe≠.tp) zau7._auto_1)
  (hs:autoParam (∀x,foldedSetIterable iter X.env x=pure x) zau2._auto_1):∃wi,PI X tg iter wi/\∀(C:Fm) (M:Addr->Prop) (H:Hp) (n:Nat) (ρ:List Slot) (σ:L2.St) (P:D->Nat->Prop) (Q:VK),Rel X.K C M H n ρ σ->CB js src b tt te n ρ P ->
   (∀v H' d n',Ext C.U H H'->FeedC X.K C.F M H' n'->VR X.K C.V M H H' .fr v d->P d n'->Q v H')->P_ X sc N' js tg elt ifs wi σ H Q:=by
 obtain⟨wi,a1,a2⟩:=hi
 refine⟨wi,a1,λC M H n ρ σ P Q R w q=>?_⟩
 refine a2 C M H n ρ σ _ _ R w λJ H1 ds n1 e1 f1 y w1=>?_
 obtain⟨hlen,w1⟩:=w1
 have R1:=R.step e1 f1
 intro l hl hkl cl Ca s0 H0 fp
 obtain⟨g,g1,g2⟩:=hg cl Ca s0 H0 fp
 obtain⟨tc,c1,c2⟩:=ht cl Ca s0 H0 fp
 obtain⟨tx,x1,x2⟩:=he cl Ca s0 H0 fp
 have noU:¬C.U l:=λz=>by
  obtain⟨o,z⟩:=R1.udom l z
  rw [hl] at z; cases z
 generalize hM':(λb=>M b\/b=l)=M'
 have M'l:M' l:=by rw [← hM']; exact .inr rfl
 have M'of:∀b,M b->M' b:=λb z=>by rw [← hM']; exact .inl z
 have ofM':∀b,M' b->M b\/b=l:=λb z=>by rw [← hM'] at z; exact z
 have inV:∀b,C.V b\/b=l->M' b:=λb z=>z.elim (λz=>M'of b (R1.vM b z)) λz=>by rw [z]; exact M'l
 have lenj:js.length=N'.length:=EN (CompOk.of hB).cap
 refine⟨g,tc,tx,λi m σ' H'=>m=ds.length - i/\i<=ds.length/\∃n' ρ' acc vs,Rel X.K ⟨M',C.F,C.U,λb=>C.V b\/b=l,H1,[],[]⟩ M' H' n' ρ' σ'/\H' l=some (.lst vs)/\Ats X.K M' H' acc vs/\acc.length<=i/\Pres M H1 M' H' /\
   EA b tt te (λacc n2=>P (.lst acc) n2) (ds.drop i) acc n' ρ',g1,c1,x1,⟨ds.length,by simp,Zt _,n1,Fh js ρ,[],[],?_⟩,?_⟩
 ·have gr:Grow H1 (Ar H1 l (.lst [])):=Al hl
  have pr:Pres M H1 M' (Ar H1 l (.lst [])):=⟨λb o e _=>gr.all b o e,λb z=>(ofM' b z).elim .inl λz=>.inr (by rw [z]; exact hl),λb vs e=>gr.all b _ e⟩
  refine⟨⟨?_,λa z=>z,λa z=>?_,gr.ext,R1.fU,λa z=>.inl (R1.uV a z),inV,f1.pres pr λf o _ e=>gr.all f.1 o e,?_,λp hp=>absurd hp (by simp),λi d a q z=>Nj R1.sl q z,λi s a q o _=>absurd o (by rw [Dd q]; decide),λi j s t a q o _ _ _ _=>absurd o (by rw [Dd q]; decide),λp hp=>absurd hp (by simp)⟩,AN,rfl,Zt _,pr,w1⟩
  ·unfold Fh CI
   rw [Cn,Cn]
  ·rcases ofM' a z with z | z
   ·obtain⟨o,z⟩:=R1.dom a z
    exact⟨o,gr.all a o z⟩
   ·subst z
    exact⟨_,AN⟩
  ·refine LZ R1.sl pr λd v h=>h.same pr (λa o _ e=>gr.all a o e) λa e n1 z=>z.elim n1 λz=>?_
   subst e
   obtain⟨o,w⟩:=h.lies
   rw [z,hl] at w
   cases w
 ·rintro i m σ' H' ⟨rfl,hi,n',ρ',acc,vs,R',hlv,hac,hal,pr,w'⟩
  by_cases hlt:i<ds.length
  ·have ed:ds.drop i=ds[i]::ds.drop (i+1):=ay hlt
   rw [ed] at w'
   obtain⟨go,yl⟩:=(y i M' H' pr R'.ext R'.dom).1 ds[i] (Op hlt)
   refine .inr ⟨go,λx H2 hy=>?_⟩
   obtain⟨gr,hx⟩:=yl x H2 hy
   have R2':=R'.step gr.ext (R'.feed.grow gr)
   refine g2 _ M' H2 n' ρ' σ' ds[i] x _ _ R2' hx w' λρ3 σ3 R3 w3=>?_
   refine c2 _ M' H2 n' ρ3 σ3 _ _ R3 w3 λc H4 n4 e4 f4 w4=>?_
   have R4:=R3.step e4 f4
   have p4:Pres M' H' M' H4:=gr.pres.trans (R3.pres e4)
   have l4:H4 l=some (.lst vs):=e4.keep (gr.all _ _ hlv) noU
   cases c with
   | false=>exact⟨ds.length - (i+1),by omega,rfl,hlt,n4,ρ3,acc,vs,R4,l4,hac.pres p4,by omega,pr.trans p4,w4⟩
   | true =>
    refine x2 _ M' H4 n4 ρ3 σ3 _ _ R4 w4 λyv H5 d5 n5 e5 f5 r5 w5=>?_
    have R5:=R4.step e5 f5
    have p5:Pres M' H4 M' H5:=R4.pres e5
    have l5:H5 l=some (.lst vs):=e5.keep l4 noU
    have hy5:=r5.shOf R4.dom hk
    have a5:=(hac.pres p4).pres p5
    have pu:Pres M' H5 M' (Ar H5 l (.lst (vs++[yv]))):=Fd M'l l5
    have hvl:vs.length=acc.length:=hac.length
    refine⟨vs,l5,by rw [Z2]; omega,ds.length - (i+1),by omega,rfl,hlt,n5,ρ3,acc++[d5],vs++[yv],?_,AN,(a5.append (Ats.one hy5)).pres pu,by rw [FM,Z7]; omega,(pr.trans p4).trans (p5.trans pu),w5⟩
    refine⟨R5.len,R5.sub,λa z=>?_,λb o e=>?_,R5.fU,R5.uV,R5.vM,?_,λj s hs=>?_,λp hp=>absurd hp (by simp),R5.br0,R5.new,R5.two,λp hp=>absurd hp (by simp)⟩
    ·by_cases ha:a=l
     ·subst ha; exact⟨_,AN⟩
     ·rw [AM ha]; exact R5.dom a z
    ·obtain⟨o',q1,q2⟩:=R5.ext b o e
     by_cases hb:b=l
     ·subst hb
      have e':H1 b=some o:=e
      rw [hl] at e'; cases e'
     ·exact⟨o',by rw [AM hb]; exact q1,q2⟩
    ·refine f5.pres pu λf o hf e=>?_
     rw [AM (λz=>noU (by rw [← z]; exact R1.fU f hf))]
     exact e
    ·have hs5:=R5.sl j s hs
     cases s with
     | no=>trivial
     | sh d=>obtain⟨v,e1,h2⟩:=hs5; exact⟨v,e1,h2.pres pu⟩
     | ex a nm ks ds=>obtain⟨e1,h2⟩:=hs5; exact⟨e1,h2.pres pu⟩
     | br d =>
      obtain⟨v,e1,h2⟩:=hs5
      refine⟨v,e1,h2.same pu (λa o z e=>?_) λ_ _ z=>z⟩
      subst z
      obtain⟨o3,w⟩:=R5.br0 j d a hs e1
      have hal:a≠l:=λz=>by
       have w':H1 a=some o3:=w
       rw [z,hl] at w'; cases w'
      rw [AM hal]; exact e
     | ow d =>
      obtain⟨a,e1,h2,_⟩:=hs5
      exact absurd h2 (R5.new j _ a hs rfl e1).1
     | lt a d =>
      obtain⟨e1,h2,_⟩:=hs5
      exact absurd h2 (R5.new j _ a hs rfl e1).1
     | fd=>exact hs5
  ·have e:i=ds.length:=by omega
   subst e
   rw [cj] at w'
   refine .inl ⟨(y _ M' H' pr R'.ext R'.dom).2 (Go _),?_⟩
   have eb:Ext C.U H1 H':=R'.ext
   have less:Pres M' H' M H':=Pres.less M'of
   refine q _ H' (.lst acc) n' (e1.trans eb) (R'.feed.pres less λ_ _ _ z=>z) (VR.back e1 ?_) w'
   exact⟨l,rfl,hl,vs,hlv,by rw [hM']; exact hac⟩
theorem Tt{κ:Kd}{i:Nat}{x:Str}{pos' spos:Pos}(hN:X.N.Nodup)(hix:X.N[i]?=some x)(hx:Loc X.env.scope x)(hc:X.calm=true)(N':List Str)(js:List (Option Nat))(hi:Wp X tg iter src)(hg:∀cl C s H fp,DG (Av X sc N' cl C s H fp) tg b)(ht:∀cl C s H fp,Wo (Av X sc N' cl C s H fp) ifs tt)(he:∀cl C s H fp,DE (Av X sc N' cl C s H fp) elt κe te)
  (hB:Gg sc X.env.scope X.N N' js=true) (hsw:autoParam (swapsWith (.ListComp elt [⟨tg,iter,ifs,0⟩] sc pos) (some (.Name x pos')) spos.line X.env=pure true) zau3._auto_1) (hk:autoParam (κe≠.tp) zau7._auto_1)
  (hs:autoParam (∀x,foldedSetIterable iter X.env x=pure x) zau2._auto_1)
  (hf:autoParam (X.fn x=true\/X.env.scope.names.lookup x=some .local) zau0._auto_1):DS X κ (.Assign [.Name x pos'] (.ListComp elt [⟨tg,iter,ifs,0⟩] sc pos) spos) (Bc i (CB js src b tt te)):=by
 obtain⟨wi,a1,a2⟩:=L0 hc N' js hi hg ht he hB hk hs
 refine⟨_,NX hc N' js a1 hB hN hix hx hsw hs hf,λC M H n ρ σ D2 E R L w=>?_⟩
 refine a2 C M H n ρ σ _ _ R w λv H' d n' e1 f1 r1 p=>?_
 exact L.nx M H' n' _ _ ((R.step e1 f1).set (r1.shOf R.dom (by intro z; cases z))) p
end
end Dp
namespace L2
open PySem PySem.Spec PyProof.Rows
noncomputable def NU:R2:=λx y H Q=>∃a v,x=.ref a/\Po H a y (some v)/\Q v H
end L2
namespace Dp
open PySem PySem.Spec PyProof.Rows L2
noncomputable def HG:List Key->List D->Key->Option D
 | k0::ks,d::ds,k=>if k0=k then some d else HG ks ds k
 | _,_,_=>none
section
variable {K:Frag}{X:Cx}
theorem NK{M:Addr->Prop}{H:Hp}{k:Key}:∀{ks:List Key} {ds:List D} {vs:List V},Ats K M H ds vs ->
  match HG ks ds k with
  | some z=>∃v,Cq (ks.zip vs) k=some v/\At K M H z v
  | none=>Cq (ks.zip vs) k=none
 | [],ds,vs,h=>by unfold HG; exact rfl
 | k0::ks,[],vs,h=>by cases h; exact rfl
 | k0::ks,d::ds,vs,h=>by
  obtain⟨v,r,rfl,h1,h2⟩:=h
  have ih:=NK (k:=k) (ks:=ks) h2
  unfold HG
  by_cases e:k0=k
  ·rw [if_pos e]
   refine⟨v,?_,h1⟩
   show Cq ((k0,v)::ks.zip r) k=some v
   rw [Dw e]
  ·rw [if_neg e]
   have:Cq ((k0,v)::ks.zip r) k=Cq (ks.zip r) k:=Dx e
   rw [show (k0::ks).zip (v::r)=(k0,v)::ks.zip r from rfl,this]
   exact ih
noncomputable def keyOf:D->Option Key
 | .int i=>some (.inl i)
 | .str x=>some (.inr x)
 | _=>none
theorem Q9{U M:Addr->Prop}{H:Hp}{d:D}{v:V}{k:Key}(e:keyOf d=some k)(h:AtT K U M H d v):v=kV k:=by
 cases d with
 | int i=>cases e; exact h
 | str x=>cases e; exact h.str.1
 | _=>cases e
noncomputable def Uu:D->Option (List Key×List D)
 | .dic ks ds=>some (ks,ds)
 | .fdi ks ds=>some (ks,ds)
 | _=>none
theorem V8{U M:Addr->Prop}{H:Hp}{d:D}{x:V}{ks:List Key}{ds:List D}(e:Uu d=some (ks,ds))(h:AtT K U M H d x):∃a vs,x=.ref a/\Rd H a (.dK (ks.zip vs))/\Ats K M H ds vs:=by
 cases d with
 | dic k2 d2=>cases e; obtain⟨a,vs,rfl,_,ha,_,hs⟩:=h; exact⟨a,vs,rfl,.inl ha,hs⟩
 | fdi k2 d2=>cases e; obtain⟨a,vs,rfl,⟨o,_,ha⟩,_,hs⟩:=h; exact⟨a,vs,rfl,.inr ⟨o,ha⟩,hs⟩
 | _=>cases e
theorem Tz{H:Hp}{a:Addr}{kvs:List (Key×V)}{k:Key}(e:Rd H a (.dK kvs)):Po H a (kV k) (Cq kvs k):=.inl ⟨kvs,k,e,rfl,rfl⟩
noncomputable def RT(d e:D)(P:D->Prop):Prop:=∃ks ds k z,Uu d=some (ks,ds)/\keyOf e=some k/\HG ks ds k=some z/\P z
theorem WO:DR K .sh NU RT:=λU M H d e x y P Q dom vM hx hy w q=>by
 obtain⟨ks,ds,k,z,hd,he,hz,w⟩:=w
 obtain⟨a,vs,rfl,ha,hs⟩:=V8 hd hx
 have h:=NK (k:=k) (ks:=ks) hs
 rw [hz] at h
 obtain⟨v,h1,h2⟩:=h
 exact⟨a,v,rfl,by rw [Q9 he hy,← h1]; exact Tz ha,q v H z .refl h2 w⟩
variable {a b:Expr}{κa κb:Kd}{wa wb:DW}{pos:Pos}
theorem T6{k:Nat}(hr:Room k X.A)(ha:DE X a κa wa)(hb:DE X b κb wb)(hs:autoParam (UD b) zau6._auto_1):DE X (.Subscript a b pos) .sh (Ac RT wa wb):=by
 obtain⟨ta,ha1,ha2⟩:=ha
 obtain⟨tb,hb1,hb2⟩:=hb
 exact⟨Cz NU ta tb,Nc (RI hr) ha1 hb1 hs,λC M H n ρ σ P Q R w q=>Dk WO ha2 hb2 C M H n ρ σ P Q R w q⟩
end
end Dp
namespace L2
open PySem PySem.Spec PyProof.Rows PySem.W
section
variable {X:Cx}{pins:List (Addr×Obj)}{σ:L2.St}{H:Hp}{s:Shared}{h':Heap}
theorem LN{α β:Type}{F:α->β->Prop}:∀{l₁:List α} {l₂:List β} {j:Nat} {a:α} {b:β},Paired F l₁ l₂->l₁[j]?=some a->l₂[j]?=some b->F a b
 | _,_,_,_,_,.nil,h,_=>by simp at h
 | _,_,0,_,_,.cons r t,h1,h2=>by
  have h1:=T0 (by simpa using h1)
  have h2:=T0 (by simpa using h2)
  subst h1 h2
  exact r
 | _,_,j+1,_,_,.cons r t,h1,h2=>LN (j:=j) t (by simpa using h1) (by simpa using h2)
theorem Io:∀as:List Addr,Vals (as.map V.ref) (as.map TM)
 | []=>.nil
 | a::as=>.cons rfl (Io as)
end
end L2
namespace Dp
open PySem PySem.Spec PyProof.Rows L2
section
variable {X:Cx}{K:Frag}
noncomputable def RS(ds:List D)(P:D->Prop):Prop:=match ds with
 | [.int i,.int j]=>P (.int (if j > i then j else i))
 | _=>False
noncomputable def RR(ds:List D)(P:D->Prop):Prop:=match ds with
 | [.int i,.int j]=>P (.int (if j<i then j else i))
 | _=>False
theorem WN:Cy K .sh (λxs H Q=>∃i j,xs=[.int i,.int j]/\Q (.int (if j > i then j else i)) H) RS:=by
 intro U M H ds vs P Q dom vM hp w q
 unfold RS at w
 split at w
 ·rename_i i j
  cases hp with
  | cons r1 r2=>cases r2 with
   | cons r3 r4 =>
    cases r4
    cases r1.int
    cases r3.int
    exact⟨i,j,rfl,q _ H (.int _) .refl rfl w⟩
 ·exact w.elim
theorem WM:Cy K .sh (λxs H Q=>∃i j,xs=[.int i,.int j]/\Q (.int (if j<i then j else i)) H) RR:=by
 intro U M H ds vs P Q dom vM hp w q
 unfold RR at w
 split at w
 ·rename_i i j
  cases hp with
  | cons r1 r2=>cases r2 with
   | cons r3 r4 =>
    cases r4
    cases r1.int
    cases r3.int
    exact⟨i,j,rfl,q _ H (.int _) .refl rfl w⟩
 ·exact w.elim
end
end Dp
namespace L2
open PySem PySem.Spec PyProof.Rows
noncomputable def Tf(H:Hp)(L:List Addr)(f:Addr->Obj):Hp:=λb=>if b∈L then (H b).map (HO.frz (f b)) else H b
theorem Lk{H:Hp}{L:List Addr}{f:Addr->Obj}{b:Addr}(h:b∉L):Tf H L f b=H b:=by unfold Tf; rw [if_neg h]
section
variable {X:Cx}{pins:List (Addr×Obj)}{σ:L2.St}{H:Hp}{s:Shared}
end
end L2
namespace Dp
open PySem PySem.Spec PyProof.Rows L2
section
variable {K:Frag}{M:Addr->Prop}{H:Hp}
theorem Ats.getD:∀{ds:List D} {vs:List V},Ats K M H ds vs->∀i:Nat,At K M H (ds.getD i .non) (vs.getD i .non)
 | [],vs,h,i=>by cases (show vs=[] from h); simp [At]
 | d::ds,vs,h,0=>by
  obtain⟨v,r,e,h1,h2⟩:=h
  subst e
  simpa using h1
 | d::ds,vs,h,i+1=>by
  obtain⟨v,r,e,h1,h2⟩:=h
  subst e
  simpa using Ats.getD h2 i
theorem Ats.pick{ds:List D}{vs:List V}(h:Ats K M H ds vs):∀ix:List Nat,Ats K M H (ix.map λi=>ds.getD i .non) (ix.map λi=>vs.getD i .non)
 | []=>rfl
 | i::ix=>⟨_,_,rfl,h.getD i,Ats.pick h ix⟩
end
section
variable {X:Cx}{a e:Expr}{κa:Kd}{wa:DW}{pos p fp kp apos cpos:Pos}
noncomputable def Y3:Key->D
 | .inl i=>.int i
 | .inr x=>.str x
noncomputable def Fj:Key->Prop
 | .inl _=>True
 | .inr x=>x.length<=sizeLine
theorem WB{K:Frag}{M:Addr->Prop}{H:Hp}{k:Key}(h:Fj k):At K M H (Y3 k) (kOf k):=by
 cases k with
 | inl i=>exact rfl
 | inr x=>exact⟨rfl,h⟩
end
end Dp
namespace L2
open PySem PySem.Spec PyProof.Rows
section
open PySem.MeetsSeq
open PySem.AutoSeq1 (wpAny_loadPart')
end
section
variable {X:Cx}
end
end L2
namespace Dp
open PySem PySem.Spec PyProof.Rows L2
section
variable {X:Cx}{κ:Kd}{c:Expr}{body:List Stmt}{wc:F4}{wb:AS}{pos:Pos}
end
noncomputable def UN(i:Nat)(b:BW)(body:AS):AS:=λD2 n ρ=>∃ds,ρ[i]?=some (.ow (.lst ds))/\∀a,Bk b body { D2 with nx:=λn ρ=>ρ[i]?=some (.lt a (.lst ds))/\D2.nx n (ρ.set i (.ow (.lst ds))) } ds n (ρ.set i (.lt a (.lst ds)))
section
variable {X:Cx}{κ:Kd}{tg:Expr}{body:List Stmt}{b:BW}{wb:AS}{pos p:Pos}{x:Str}{i:Nat}
theorem Tu(hp:PassesOwn (model X.prog X.w) X.A X.env X.xe)(hc:X.calm=true)(h:PE X (.Name x p) (Bl i))(hg:DG X tg b)(hb:Pq X κ body wb)
  (hs:autoParam (∀y,foldedSetIterable (.Name x p) X.env y=pure y) zau2._auto_1):DS X κ (.For tg (.Name x p) body [] pos) (UN i b wb):=by
 obtain⟨g,g1,g2⟩:=hg
 obtain⟨tb,b1,b2⟩:=hb
 refine⟨_,Me hp hc (Qj h) g1 b1 hs,λC M H n ρ σ D2 E R L w=>?_⟩
 obtain⟨ds,hi,w⟩:=w
 obtain⟨a,e1,hm,nv,vs,hH,hat⟩:=R.sl i _ hi
 have hk:∀q∈C.kp,q.1≠a:=λq hq z=>(R.kept q hq).2.2.2 i _ hi (by rw [e1,z])
 have R1:=(R.lend hi e1 hH).pinned
 refine⟨.ref a,getD_some e1,.inl ⟨a,rfl,⟨vs,.inl (.inl hH)⟩,?_⟩⟩
 have w1:=w a
 generalize hD3:({ D2 with nx:=λn ρ=>ρ[i]?=some (.lt a (.lst ds))/\D2.nx n (ρ.set i (.ow (.lst ds))) }:E2)=D3 at w1
 have L3:∀M H n ρ σ,Rel X.K { C with kp:=(a,.lst vs)::C.kp } M H n ρ σ->D3.nx n ρ->E.nx σ H:=λM H n ρ σ R w=>by
  rw [← hD3] at w
  exact L.nx M H n _ σ (R.unlend w.1 hk) w.2
 have Lrt:D3.rt=D2.rt:=by rw [← hD3]
 refine⟨λk m σ' H'=>m=ds.length - k/\k<=ds.length/\∃M' n' ρ',Rel X.K { C with kp:=(a,.lst vs)::C.kp,pins:=(M,H)::C.pins } M' H' n' ρ' σ'/\Bk b wb D3 (ds.drop k) n' ρ',⟨ds.length,by simp,Zt _,M,n,_,R1,w1⟩,?_⟩
 rintro k m σ' H' ⟨rfl,hkl,M',n',ρ',R',w'⟩
 have pr:Pres M H M' H':=R'.pin (M,H) On
 have ha':H' a=some (.lst vs):=(R'.kept (a,.lst vs) On).1
 have hq:SqL X.K H' a vs:=.inl (.inl ha')
 by_cases hlt:k<ds.length
 ·have ed:ds.drop k=ds[k]::ds.drop (k+1):=ay hlt
  rw [ed] at w'
  obtain⟨v,ev,hv⟩:=(hat.pres pr).get (Op hlt)
  refine .inr ⟨⟨vs,v,hq,ev⟩,λσ2 H2=>∃M2 n2 ρ2,Rel X.K { C with kp:=(a,.lst vs)::C.kp,pins:=(M,H)::C.pins } M2 H2 n2 ρ2 σ2/\Bk b wb D3 (ds.drop (k+1)) n2 ρ2,λσ2 H2 ⟨M2,n2,ρ2,R2',w2⟩=>⟨ds.length - (k+1),by omega,rfl,hlt,M2,n2,ρ2,R2',w2⟩,λy H2 hy=>?_⟩
  obtain⟨e2,hy⟩:=hy
  subst e2
  have:some v=some y:=ev.symm.trans (hy vs hq)
  cases this
  refine g2 _ M' H2 n' ρ' σ' ds[k] v _ _ R' hv w' λρ3 σ3 R3 w3=>?_
  refine b2 _ M' H2 n' ρ3 σ3 { D3 with nx:=Bk b wb D3 (ds.drop (k+1)),ct:=Bk b wb D3 (ds.drop (k+1)),bk:=D3.nx } _ R3 ⟨λM4 H4 n4 ρ4 σ4 R4 w4=>⟨M4,n4,ρ4,R4,w4⟩,λv H d n e f r p=>L.rt v H d n e f r (by rw [← Lrt]; exact p),λM4 H4 n4 ρ4 σ4 R4 w4=>L3 M4 H4 n4 ρ4 σ4 R4.unpin w4,λM4 H4 n4 ρ4 σ4 R4 w4=>⟨M4,n4,ρ4,R4,w4⟩⟩ w3
 ·have e:k=ds.length:=by omega
  subst e
  rw [cj] at w'
  exact .inl ⟨⟨vs,hq,by rw [hat.length]; exact Go _⟩,L3 M' H' n' ρ' σ' R'.unpin w'⟩
end
end Dp
namespace L2
open PySem PySem.Spec PyProof.Rows PySem.W
section
variable {prog:Program}{w:World}{A:Around}{E:Value->Shared->Prop}{R:Result->Shared->Prop}{I:Addr}{fp wr:List Addr}{n:Nat}{P:Nat->Value->Prop}{St:Nat->Heap->Prop}
end
section
variable {X:Cx}
end
end L2
namespace Dp
open PySem PySem.Spec PyProof.Rows L2
end Dp
namespace Nt
open PySem PySem.Spec PyProof.Rows L2 Dp
noncomputable def letters:Str := "abcdefghijklmnopqrstuvwxyz"
theorem JD{α β:Type}{f:α->β}:∀{l:List α},l.Nodup->(∀a∈l,∀b∈l,f a=f b->a=b)->(l.map f).Nodup
 | [],_,_=>eQ
 | a::l,h,hf=>by
  rw [bM] at h
  rw [TW,bM]
  refine⟨λhm=>?_,JD h.2 λx hx y hy=>hf x (Is _ hx) y (Is _ hy)⟩
  obtain⟨b,hb,e⟩:=Zu.mp hm
  exact h.1 (hf a On b (Is _ hb) e.symm▸hb)
theorem EU(ss:List Str):CV (ss.map .str)=some ss:=by
 induction ss with
 | nil=>rfl
 | cons y r ih =>
  rw [TW]
  unfold CV
  rw [ih]
  rfl
theorem DD{b:BW}{body:AS}{D2:E2}{all:List D}(I:List D->Nat->List Slot->Prop)(hend:∀n ρ,I all n ρ->D2.nx n ρ)
  (hstep:∀(pre:List D) (d:D) (post:List D) (n:Nat) (ρ:List Slot) (nx:Nat->List Slot->Prop),all=pre++d::post->I pre n ρ->(∀n' ρ',I (pre++[d]) n' ρ'->nx n' ρ')->b d ρ λρ1=>body { D2 with nx:=nx,ct:=nx,bk:=D2.nx } n ρ1) :
  ∀(ds pre:List D) (n:Nat) (ρ:List Slot),all=pre++ds->I pre n ρ->Bk b body D2 ds n ρ
 | [],pre,n,ρ,e,h=>by
  rw [aR] at e
  subst e
  exact hend n ρ h
 | d::ds,pre,n,ρ,e,h=>hstep pre d ds n ρ (Bk b body D2 ds) e h λn' ρ' h'=>DD I hend hstep ds (pre++[d]) n' ρ' (by rw [e,ap]; rfl) h'
theorem Jp{lo:Int}{n:Nat}{pre post:List D}{d:D}(h:CF lo n=pre++d::post):d=.int (lo+(pre.length:Int))/\pre.length<n:=by
 have hl:=congrArg eN h
 rw [DB,FM,No] at hl
 have e:(CF lo n)[pre.length]?=some d:=by rw [h,bN (Go _),Nat.sub_self]; rfl
 unfold CF at e
 rw [Zn,List.getElem?_range (by omega)] at e
 exact⟨(T0 e).symm,by omega⟩
structure Bv where
 a:Str
 b:Str
 len:Int
structure Net where
 ps:List Str
 ts:List Bv
noncomputable def Bb(t:Bv):D:=.tup [.str t.a,.str t.b,.int t.len]
noncomputable def YY(N:Net):D:=.tup [.tup (N.ps.map .str),.tup (N.ts.map Bb)]
noncomputable def Dh(s t:Bv):Prop:=cs s.a<cs t.a\/(s.a=t.a/\cs s.b<cs t.b)
structure Net.Ok (N:Net):Prop where
 names:∀x∈N.ps,DJ x
 rise:rising N.ps
 tin:∀t∈N.ts,t.a∈N.ps/\t.b∈N.ps/\cs t.a<cs t.b/\1<=t.len/\t.len<=1000000
 trise:N.ts.Pairwise Dh
structure Ix where
 i:Nat
 j:Nat
 len:Int
noncomputable def Za(ts:List Bv)(p:Str):List (Str×Int):=ts.flatMap λt=>(if t.a=p then [(t.b,t.len)] else [])++(if t.b=p then [(t.a,t.len)] else [])
structure Zj (H:Hp) (d:Addr) (as:List (Str×Addr)) (tb:Str->List (Key×V)) (H':Hp):Prop where
 old:∀b o,H b=some o->H' b=some o
 new:H d=none
 top:H' d=some (.dK (as.map λx=>(.inr x.1,.ref x.2)))
 inn:∀x∈as,H x.2=none/\x.2≠d/\H' x.2=some (.dK (tb x.1))
 ads:(as.map (·.2)).Nodup
 nms:(as.map (·.1)).Nodup
end Nt
namespace L2
open PySem PySem.Spec PyProof.Rows
end L2
namespace Dp
open PySem PySem.Spec PyProof.Rows L2
section
variable {X:Cx}{a:Expr}{κa:Kd}{wa:DW}{els:List Expr}{j:Nat}{tpos apos cpos:Pos}
end
section
variable {K:Frag}{C:Fm}{M:Addr->Prop}{H H':Hp}{n n':Nat}{ρ:List Slot}{σ:L2.St}
end
section
variable {X:Cx}{a b e:Expr}{κ κa κb:Kd}{wa wb:DW}{pos pos':Pos}
noncomputable def VD:D->Option Bool
 | .lst xs=>some (!xs.isEmpty)
 | .tup xs=>some (!xs.isEmpty)
 | .bl b=>some b
 | .non=>some false
 | _=>none
noncomputable def U9(wa:DW):F4:=λn ρ P=>wa n ρ λd n1=>∃c,VD d=some c/\P c n1
theorem Jb{K:Frag}{M:Addr->Prop}{H:Hp}{ds:List D}{vs:List V}(h:Ats K M H ds vs):vs.isEmpty=ds.isEmpty:=by
 have:=h.length
 cases vs <;> cases ds <;> first | rfl | cases this
theorem P7{U M:Addr->Prop}{H:Hp}{K:Frag}{d:D}{x:V}{c:Bool}(h:AtT K U M H d x)(e:VD d=some c):UC K x H c:=by
 cases d with
 | lst ds=>cases e; obtain⟨a,vs,rfl,_,hq,hs⟩:=h; exact .inl ⟨vs,.inl hq,by rw [Jb hs]⟩
 | tup ds=>cases e; obtain⟨a,vs,rfl,hq,hs⟩:=h; exact .inr (.inl ⟨vs,.inl (.inl hq),by rw [Jb hs]⟩)
 | bl b=>cases e; rw [h.bl]; exact rfl
 | non=>cases e; rw [show x=.non from h]; exact rfl
 | _=>cases e
theorem Rb(h:DE X e κ wa)(he:autoParam (∀whole,isTrue e X.env whole=(do let v ← whole; standAt e.pos; holding [v] (truthy v))) zau2._auto_1):DT X e (U9 wa):=by
 obtain⟨t,h1,h2⟩:=h
 refine⟨_,Qd h1 he,λC M H n ρ σ P Q R w q=>?_⟩
 refine h2 C M H n ρ σ _ _ R w λv H' d n' e1 f1 r1 p=>?_
 obtain⟨c,hc,p⟩:=p
 exact⟨c,P7 (r1.tpOf R.dom R.vM) hc,q c H' n' e1 f1 p⟩
noncomputable def X3(neg:Bool)(d e:D)(P:D->Prop):Prop:=e=.non/\P (.bl (if neg then !Nu d else Nu d))
theorem WJ{K:Frag}:DR K .sh (λx y H Q=>y=.non/\Q (.bl (!decide (x=.non))) H) (X3 true):=λU M H d e x y P Q dom vM hx hy w q=>by
 obtain⟨rfl,w⟩:=w
 exact⟨hy,q _ H (.bl (!Nu d)) .refl (by rw [RD hx]; rfl) w⟩
variable {apos cpos:Pos}{f:Expr}{κf:Kd}{wf:DW}
end
end Dp
namespace L2
open PySem PySem.Spec PyProof.Rows
open AutoSeq1 (wpAny_loadPart')
section
variable {prog:Program}{w:World}{A:Around}{E:Value->Shared->Prop}{s:Shared}{I:Addr}{fp wr:List Addr}{G:Array GenState->Array GenState->Prop}{n:Nat}{P:Nat->Value->Prop}{St:Nat->Shared->Prop}
end
section
variable {X:Cx}{e:Expr}{te:TE}{p1 p2 q1 q2:Pos}
end
end L2
namespace Dp
open PySem PySem.Spec PyProof.Rows L2
section
variable {X:Cx}{a:Expr}{κa:Kd}{wa:DW}{p1 p2 q1 q2:Pos}
end
section
variable {X:Cx}{κ κe:Kd}{tg e:Expr}{b:BW}{we:DW}{pos p apos cpos:Pos}{x:Str}{i:Nat}
end
section
variable {X:Cx}{κ κe:Kd}{e:Expr}{st:Stmt}{we:DW}{pos p apos cpos:Pos}{x:Str}{i:Nat}
end
end Dp
namespace L2
open PySem PySem.Spec PyProof.Rows
end L2
namespace Dp
open PySem PySem.Spec PyProof.Rows L2
end Dp
namespace L2
open PySem PySem.Spec PyProof.Rows
open AutoSeq1 (wpAny_loadPart')
theorem boot_enumerate:bootBuiltins "enumerate"=some (.type "enumerate"):=by decide +kernel
section
variable {prog:Program}{w:World}{A:Around}{E:Value->Shared->Prop}{s:Shared}
theorem Pb{κ:Bool}(hh:A.handled=none)(it l:Addr)(hne:l≠it)(items:Array Value):Draws prog w A it [it,l] items.size (λi v=>items[i]?=some v) (λi h=>ItAt κ h it l i/\SqAt κ h l items) where
 live:=λ_ _ st=>let ⟨o,ho,_⟩:=st.1.lies; ⟨o,ho⟩
 frame:=λ_ _ _ st k=>⟨st.1.mv λo e=>k it (by simp) o e,st.2.mv λo e=>k l (by simp) o e⟩
 item:=λi s Q E hi st hQ=>Pc st.1 st.2 (x:=items[i]) (by simp [hi]) λh' a b=>hQ _ h' s.toks (by simp [hi]) ⟨a,st.2.eb b.extBut hne⟩ b
 done:=λs Q E st hE=>Lx hh st.1 st.2 (by simp) hE
theorem M9{κ:Bool}(hh:A.handled=none)(it l:Addr)(items:Array Value)(k:Nat)(hk:items[k]?=none):Draws prog w A it [it,l] k (λ_ _=>True) (λi h=>ItAt κ h it l i/\SqAt κ h l items/\i=k) where
 live:=λ_ _ st=>let ⟨o,ho,_⟩:=st.1.lies; ⟨o,ho⟩
 frame:=λ_ _ _ st k=>⟨st.1.mv λo e=>k it (by simp) o e,st.2.1.mv λo e=>k l (by simp) o e,st.2.2⟩
 item:=λi s Q E hi st hQ=>absurd st.2.2 (Zs hi)
 done:=λs Q E st hE=>Lx hh st.1 st.2.1 hk hE
theorem Qz(κ:Bool)(l:Addr)(items:Array Value):Meets (Builtin.«enumerate.__new__» ⟨[.type "enumerate",.ref l],[]⟩) (λ_ R s=>SqAt κ s.heap l items /\
   R (.ok (.ret (.ref (s.heap.push (JN κ l)).objs.size))) { s with heap:=(s.heap.push (JN κ l)).push { cls:=.type "enumerate",data:=.fields #[.none,.bool false,.ref s.heap.objs.size,rawInt 0,.none,.none] } }) :=
 .of_wp λprog w A R s h=>by
  obtain⟨hp,g,d,tk,os⟩:=s; obtain⟨hl,h⟩:=h
  have hsub:=sub_enumerate
  cases κ with
  | true =>
   have hL:Heap.IsList (Shared.heap ⟨hp,g,d,tk,os⟩) l items:=hl
   obtain⟨⟨c,dct,dt,sl⟩,ho,hc,n,hd⟩:=id hL
   replace hc:c=.type "list":=hc
   replace hd:dt=.seq items n:=hd
   subst hc hd
   wp_walk using aM ho
   refine wpAny_stack_any λst=>Db ?_
   split
   ·rename_i c _ _ _ _ _
    cases (c==bj "enumerate") <;> (wp_walk using aM ho,cX hL; exact⟨_,rfl,h⟩)
   ·(wp_walk using aM ho,cX hL; exact⟨_,rfl,h⟩)
  | false =>
   have hL:Heap.IsTuple (Shared.heap ⟨hp,g,d,tk,os⟩) l items:=hl
   obtain⟨⟨c,dct,dt,sl⟩,ho,hc,n,hd⟩:=id hL
   replace hc:c=.type "tuple":=hc
   replace hd:dt=.seq items n:=hd
   subst hc hd
   wp_walk using aM ho
   refine wpAny_stack_any λst=>Db ?_
   split
   ·rename_i c _ _ _ _ _
    cases (c==bj "enumerate") <;> (wp_walk using aM ho,dP hL; exact⟨_,rfl,h⟩)
   ·(wp_walk using aM ho,dP hL; exact⟨_,rfl,h⟩)
theorem Ik{κ:Bool}{l:Addr}{items:Array Value}{Q:Value->Shared->Prop}(hl:SqAt κ s.heap l items)
  (h:∀h',IsEnum h' (s.heap.objs.size+1) s.heap.objs.size 0 .none->ItAt κ h' s.heap.objs.size l 0->(∀b o,s.heap.get? b=some o->h'.get? b=some o)->Q (.ref (s.heap.objs.size+1)) { s with heap:=h' }) :
  wpAny (model prog w) A (call (.type "enumerate") [.ref l]) Q E s:=by
 refine callType_new F.called_enumerate (by decide) (F.typeCall_enumerate_1 _) (F.newCall_enumerate_1 _) (λobj=>F.args_object_init_2 obj _) F.entry_enumerate_new (Qz κ l items) ⟨hl,?_⟩
 have hz:(s.heap.push (JN κ l)).objs.size=s.heap.objs.size+1:=cS ..
 have g1:((s.heap.push (JN κ l)).push { cls:=.type "enumerate",data:=.fields #[.none,.bool false,.ref s.heap.objs.size,rawInt 0,.none,.none] }).get? (s.heap.push (JN κ l)).objs.size=some _:=XV _ rfl
 rw [hz] at g1
 refine⟨⟨_,by rw [hz]; exact g1,rfl⟩,?_⟩
 rw [hz]
 exact h _ g1 ((RB κ s.heap l).mv λo e=>Ev _ e) λb o e=>Ev _ (Ev _ e)
end
noncomputable def Wl(K:Frag)(κ:Bool)(a:Addr)(xs:List V):It :=
 ⟨λi H=>SqK κ K H a xs/\i<xs.length,λi H x H'=>∃T p,x=.ref T/\H T=none/\H'=Ar H T (.tup [.int i,p])/\xs[i]?=some p,λi H=>SqK κ K H a xs/\xs.length<=i⟩
structure Wa (κ:Bool) (e it a:Addr) (k:Nat) (h:Heap):Prop where
 e:∃old,IsEnum h e it (k:Int) old
 i:ItAt κ h it a k
theorem OX{P:Program}{w:World}{K:Frag}{es:List Expr}{j:Nat}{pos:Pos}(κ:Bool)(e it a:Addr)(xs:List V)(ei:e≠it)(ae:a≠e)(ai:a≠it) :
  Turn P w K (.Tuple es j pos) (Wl K κ a xs) [e,it] e (Wa κ e it a) where
 mem:=by simp
 obj:=λi h st c hc=>by
  simp only [UF,aB,or_false] at hc
  rcases hc with rfl | rfl
  ·obtain⟨o,q⟩:=st.e
   exact⟨_,q,λv q=>by cases q⟩
  ·exact st.i.lies
 keep:=λi h h' st k=>by
  obtain⟨o,q⟩:=st.e
  exact⟨⟨o,k e (by simp) _ q⟩,st.i.mv λo e=>k it (by simp) o e⟩
 item:=by
  intro X hP hw hK hc i pins s σ H E I hf st hg
  subst hP hw hK
  obtain⟨ha,hi⟩:=hg
  obtain⟨us,r1,q1⟩:=ha.at I
  obtain⟨u,hu,ru⟩:=r1.get (Op hi)
  obtain⟨old,ee⟩:=st.e
  have l1:=r1.length
  refine wpAny_pyNext_enum_itemD (Pb (κ:=κ) (A:=X.A.in1) (I.ok.hd hc) it a ai us.toArray) ee ⟨st.i,q1⟩ (by simp; omega) ei (by simp [ei,ae.symm]) λx h' tk hp a1 a2 a3 a4 a5=>⟨_,rfl,?_⟩
  have hxu:x=u:=by
   have e2:us[i]?=some x:=by simpa using hp
   rw [hu] at e2
   exact(T0 e2).symm
  subst hxu
  refine wpAny_letOwnedTupleGo_enum a1 λh2 b1 b2=>?_
  have hT:H s.heap.objs.size=none:=I.hok.fresh (Go _)
  have kk:∀c o,c∉[e,it]->s.heap.get? c=some o->h2.get? c=some o:=λc o hc z=>by
   simp only [UF,aB,or_false,not_or] at hc
   exact b2.extBut _ _ hc.1 (a5 c o hc.1 hc.2 z)
  have I2:Inv X pins σ (Ar H s.heap.objs.size (.tup [.int i,xs[i]])) { s with heap:=h2,toks:=tk+1 }:=by
   refine I.turnLaid (t':=tk+1) (ch:=[e,it]) hf kk (Go _) ?_
   have nT:s.heap.objs.size≠e:=cH (Sc ee)
   exact⟨by show 2<=sizeLine; decide,[.int i tk,x],.cons ⟨_,rfl⟩ (.cons ru .nil),⟨_,b2.extBut _ _ nT a3,rfl,_,rfl,rfl,rfl⟩⟩
  refine⟨.ref s.heap.objs.size,_,I2,rfl,⟨_,_,rfl,hT,rfl,Op hi⟩,⟨⟨_,b1⟩,a2.1.eb b2.extBut ei.symm⟩,λc hc=>?_⟩
  have hcn:H c=none:=(hf c hc).1
  have hlt:c≠s.heap.objs.size:=λz=>by
   obtain⟨o,ho⟩:∃o,s.heap.get? c=some o:=by
    simp only [UF,aB,or_false] at hc
    rcases hc with rfl | rfl
    ·exact⟨_,ee⟩
    ·obtain⟨o,q,_⟩:=st.i.lies; exact⟨o,q⟩
   rw [z] at ho
   exact aU _ (Sc ho)
  rw [AM hlt]; exact hcn
 done:=by
  intro X hP hw hK hc i pins s σ H E I hf st hg
  subst hP hw hK
  obtain⟨ha,hi⟩:=hg
  obtain⟨us,r1,q1⟩:=ha.at I
  obtain⟨old,ee⟩:=st.e
  have l1:=r1.length
  refine wpAny_pyNext_enum_endD (M9 (κ:=κ) (A:=X.A.in1) (I.ok.hd hc) it a us.toArray i (by simp; omega)) ee ⟨st.i,q1,rfl⟩ λh' kk=>⟨rfl,?_⟩
  refine I.turnedL (t':=s.toks) (ch:=[e,it]) hf λc o hc e=>?_
  simp only [UF,aB,or_false,not_or] at hc
  exact kk c o hc.2 e
 self:=λA i s Q E st h=>by
  obtain⟨old,ee⟩:=st.e
  exact wpAny_pyIter_enum ee h
section
variable {X:Cx}{e1:Expr}{es:List Expr}{j:Nat}{tpos p pos:Pos}{te:TE}
noncomputable def Xv(K:Frag)(te:TE):TI:=λσ H R=>te σ H λv H1=>∃κ a xs,v=.ref a/\SqK κ K H1 a xs/\R (Wl K κ a xs) H1
theorem Sv(hg:Gl X "enumerate")(hm:X.mg "enumerate"=none)(he:PE X e1 te)(hs:autoParam (starEach [e1] X.env=[(false,eval e1 X.env)]) zau3._auto_1) :
  PI X (.Tuple es j tpos) (.Call (.Name "enumerate" p) [e1] [] pos) (Xv X.K te):=by
 intro pins s σ H R I h
 refine ag (GH I hg hm boot_enumerate ?_)
 refine bJ ?_ hs rfl
 rw [hs]
 refine cJ (BB (he pins s σ H _ I h) λu s1 ⟨x,H1,I1,r1,κ,a,xs,ex,hq,q⟩=>dX ?_)
 subst ex
 cases r1
 obtain⟨us,r1',q1⟩:=hq.at I1
 have la:a<s1.heap.objs.size:=by obtain⟨o,e⟩:=q1.lies; exact Sc e
 refine Ik q1 λh' hz hi hk=>?_
 refine wpAny_pyIter_enum hz ?_
 refine⟨s1.heap.objs.size+1,[s1.heap.objs.size+1,s1.heap.objs.size],_,Wl X.K κ a xs,H1,rfl,I1.kept (t':=s1.toks) hk,OX κ _ _ a xs (by show (_:Nat)≠(_:Nat); omega) (Zs (bt la)) (Zs la),⟨⟨_,hz⟩,hi⟩,λc hc=>?_,q⟩
 have hge:s1.heap.objs.size<=c:=by
  simp only [UF,aB,or_false] at hc
  rcases hc with rfl | rfl
  ·exact aG _
  ·exact Go _
 exact I1.fpOk hge (I1.hok.fresh hge)
end
end L2
namespace Dp
open PySem PySem.Spec PyProof.Rows L2
noncomputable def CP:Nat->List D->List D
 | _,[]=>[]
 | k,x::r=>.tup [.int (k:Int),x]::CP (k+1) r
theorem GL:∀(k:Nat) (ds:List D),(CP k ds).length=ds.length
 | _,[]=>rfl
 | k,x::r=>by show (CP (k+1) r).length+1=r.length+1; rw [GL (k+1) r]
theorem JR:∀(k:Nat) (ds:List D) (i:Nat),(CP k ds)[i]?=(ds[i]?).map λx=>.tup [.int ((k+i:Nat):Int),x]
 | _,[],i=>by simp [CP]
 | k,x::r,0=>rfl
 | k,x::r,i+1=>by
  show (CP (k+1) r)[i]?=(r[i]?).map _
  rw [JR (k+1) r i,show k+1+i=k+(i+1) by omega]
section
variable {K:Frag}
theorem Ls{M:Addr->Prop}{H:Hp}{κ:Bool}{a:Addr}{vs:List V}{ds:List D}(hs:Ats K M H ds vs){i:Nat}{M':Addr->Prop}{H':Hp}(pr:Pres M H M' H')(h1:SqK κ K H' a vs)(dom:∀a,M' a->∃o,H' a=some o) :
  (∀d,(CP 0 ds)[i]?=some d->(Wl K κ a vs).go i H'/\∀x H2,(Wl K κ a vs).yld i H' x H2->Grow H' H2/\At K M' H2 d x)/\((CP 0 ds).length<=i->(Wl K κ a vs).stop i H'):=by
 have l1:=hs.length
 refine⟨λd hd=>?_,λhl=>⟨h1,by rw [GL] at hl; omega⟩⟩
 rw [JR,Nat.zero_add] at hd
 cases q1:ds[i]? with
 | none=>rw [q1] at hd; cases hd
 | some d1 =>
  rw [q1] at hd
  have hd':D.tup [.int (i:Int),d1]=d:=T0 hd
  have i1:i<ds.length:=(Z1.mp q1).1
  refine⟨⟨h1,by omega⟩,λx H2 y=>?_⟩
  obtain⟨T,p,rfl,hT,rfl,e1⟩:=y
  obtain⟨v1,f1,a1⟩:=(hs.pres pr).get q1
  rw [e1] at f1
  cases f1
  subst hd'
  exact⟨Al hT,EG dom hT ⟨.int (i:Int),[p],rfl,rfl,p,[],rfl,a1,rfl⟩⟩
end
section
variable {X:Cx}{e1:Expr}{es:List Expr}{j:Nat}{tpos p pos:Pos}{κ:Kd}{wa:DW}
end
section
variable {X:Cx}{κ:Kd}{tg:Expr}{body:List Stmt}{b:BW}{wb:AS}{pos p:Pos}{x:Str}{i:Nat}
theorem Rel.lessKp{K:Frag}{C:Fm}{q:Addr×HO}{M:Addr->Prop}{H:Hp}{n:Nat}{ρ:List Slot}{σ:L2.St}(R:Rel K { C with kp:=q::C.kp } M H n ρ σ):Rel K C M H n ρ σ :=
 ⟨R.len,R.sub,R.dom,R.ext,R.fU,R.uV,R.vM,R.feed,R.sl,R.pin,R.br0,R.new,R.two,λp hp=>R.kept p (Is _ hp)⟩
end
end Dp
namespace L2
open PySem PySem.Spec PyProof.Rows PySem.W
section
variable {prog:Program}{w:World}{A:Around}{E:Value->Shared->Prop}{s:Shared}
end
section
variable {prog:Program}{w:World}{A:Around}{R:Result->Shared->Prop}{I:Addr}{fp wr:List Addr}{n:Nat}{P:Nat->Value->Prop}{St:Nat->Heap->Prop}{K:Type}[DecidableEq K]{knd:KeyKind prog w K}
end
section
variable {X:Cx}
end
end L2
namespace Dp
open PySem PySem.Spec PyProof.Rows L2
section
variable {X:Cx}{pos:Pos}
end
end Dp
namespace L2
open PySem PySem.Spec PyProof.Rows
section
variable {X:Cx}
end
end L2
namespace Dp
open PySem PySem.Spec PyProof.Rows L2
section
variable {X:Cx}{a tg:Expr}{κa:Kd}{wa:DW}
mutual
theorem At.frz{K:Frag}{M:Addr->Prop}{H:Hp}{a:Addr}{f:Addr->Obj}{kvs:List (Key×V)}(ha:H a=some (.dK kvs)):∀{d:D} {v:V},El d=true->At K M H d v->At K M (Tf H [a] f) d v
 | .non,v,_,h=>h
 | .bl b,v,_,h=>h
 | .int i,v,_,h=>h
 | .str x,v,_,h=>h
 | .tup ds,v,hn,h=>by
  obtain⟨b,vs,e,n2,hs⟩:=h
  refine⟨b,vs,e,?_,Ats.frz ha hn hs⟩
  unfold NdT at n2 ⊢
  rw [Lk λz=>by rw [Zp.mp z,ha] at n2; cases n2]
  exact n2
 | .lst ds,v,hn,h=>by
  obtain⟨b,vs,e,⟨n1,n2⟩,hs⟩:=h
  refine⟨b,vs,e,⟨n1,?_⟩,Ats.frz ha hn hs⟩
  rw [Lk λz=>by rw [Zp.mp z,ha] at n2; cases n2]
  exact n2
 | .dic _ _,v,hn,h=>by cases hn
 | .fdi _ _,v,hn,h=>by cases hn
 | .dit _ _,v,hn,h=>by cases hn
theorem Ats.frz{K:Frag}{M:Addr->Prop}{H:Hp}{a:Addr}{f:Addr->Obj}{kvs:List (Key×V)}(ha:H a=some (.dK kvs)):∀{ds:List D} {vs:List V},CG ds=true->Ats K M H ds vs->Ats K M (Tf H [a] f) ds vs
 | [],vs,_,h=>h
 | d::ds,vs,hn,h=>by
  obtain⟨v,r,e,h1,h2⟩:=h
  have hn:(El d&&CG ds)=true:=hn
  rw [Zo] at hn
  exact⟨v,r,e,At.frz ha hn.1 h1,Ats.frz ha hn.2 h2⟩
end
end
noncomputable def Dy:List (List Key)->List D->List Key->Option D
 | k0::ks,d::ds,k=>if k0=k then some d else Dy ks ds k
 | _,_,_=>none
noncomputable def Lf:List D->Option (List Key)
 | []=>some []
 | d::ds=>match keyOf d,Lf ds with
  | some k,some ks=>some (k::ks)
  | _,_=>none
noncomputable def keysOf:D->Option (List Key)
 | .tup ds=>Lf ds
 | _=>none
section
variable {K:Frag}{X:Cx}
theorem K2{M:Addr->Prop}{H:Hp}{k:List Key}:∀{ks:List (List Key)} {ds:List D} {vs:List V},Ats K M H ds vs ->
  match Dy ks ds k with
  | some z=>∃v,Cq (ks.zip vs) k=some v/\At K M H z v
  | none=>Cq (ks.zip vs) k=none
 | [],ds,vs,h=>by unfold Dy; exact rfl
 | k0::ks,[],vs,h=>by cases h; exact rfl
 | k0::ks,d::ds,vs,h=>by
  obtain⟨v,r,rfl,h1,h2⟩:=h
  have ih:=K2 (k:=k) (ks:=ks) h2
  unfold Dy
  by_cases e:k0=k
  ·rw [if_pos e]
   refine⟨v,?_,h1⟩
   show Cq ((k0,v)::ks.zip r) k=some v
   rw [Dw e]
  ·rw [if_neg e]
   have:Cq ((k0,v)::ks.zip r) k=Cq (ks.zip r) k:=Dx e
   rw [show (k0::ks).zip (v::r)=(k0,v)::ks.zip r from rfl,this]
   exact ih
theorem Q_{M:Addr->Prop}{H:Hp}{d:D}{v:V}{k:Key}(e:keyOf d=some k)(h:At K M H d v):v=kV k:=by
 cases d with
 | int i=>cases e; exact h
 | str x=>cases e; exact h.1
 | _=>cases e
theorem Le{M:Addr->Prop}{H:Hp}:∀{ds:List D} {vs:List V} {ks:List Key},Lf ds=some ks->Ats K M H ds vs->vs=ks.map kV
 | [],vs,ks,e,h=>by cases e; exact h
 | d::ds,vs,ks,e,h=>by
  obtain⟨v,r,rfl,h1,h2⟩:=h
  unfold Lf at e
  cases c1:keyOf d with
  | none=>rw [c1] at e; cases e
  | some k =>
   cases c2:Lf ds with
   | none=>rw [c1,c2] at e; cases e
   | some k2 =>
    rw [c1,c2] at e
    cases e
    rw [Le c2 h2,Q_ c1 h1]
    rfl
theorem JK{U M:Addr->Prop}{H:Hp}{d:D}{v:V}{k:List Key}(e:keysOf d=some k)(h:AtT K U M H d v):∃b,v=.ref b/\H b=some (.tup (k.map kV)):=by
 cases d with
 | tup ds =>
  obtain⟨a,vs,rfl,ha,hs⟩:=h.tup
  refine⟨a,rfl,?_⟩
  rw [← Le e hs]
  exact ha
 | _=>cases e
theorem Rm{U M:Addr->Prop}{H:Hp}{x:V}{ks:List (List Key)}{ds:List D}(h:AtT K U M H (.dit ks ds) x):∃a vs,x=.ref a/\Rd H a (.dT (ks.zip vs))/\Ats K M H ds vs:=by
 obtain⟨a,vs,rfl,_,ha,_,hs⟩:=h
 exact⟨a,vs,rfl,.inl ha,hs⟩
theorem Tx{H:Hp}{a b:Addr}{kvs:List (List Key×V)}{k:List Key}(e:Rd H a (.dT kvs))(eb:H b=some (.tup (k.map kV))):Po H a (.ref b) (Cq kvs k):=.inr ⟨kvs,k,b,e,rfl,eb,rfl⟩
noncomputable def RL(d e:D)(P:D->Prop):Prop:=∃ks ds k z,d=.dit ks ds/\keysOf e=some k/\Dy ks ds k=some z/\P z
theorem WI:DR K .sh NU RL:=λU M H d e x y P Q dom vM hx hy w q=>by
 obtain⟨ks,ds,k,z,rfl,he,hz,w⟩:=w
 obtain⟨a,vs,rfl,ha,hs⟩:=Rm hx
 obtain⟨b,rfl,eb⟩:=JK he hy
 have h:=K2 (k:=k) (ks:=ks) hs
 rw [hz] at h
 obtain⟨v,h1,h2⟩:=h
 exact⟨a,v,rfl,by rw [← h1]; exact Tx ha eb,q v H z .refl h2 w⟩
variable {a b:Expr}{κa κb:Kd}{wa wb:DW}{pos:Pos}
theorem T1{k:Nat}(hr:Room k X.A)(ha:DE X a κa wa)(hb:DE X b κb wb)(hs:autoParam (UD b) zau6._auto_1):DE X (.Subscript a b pos) .sh (Ac RL wa wb):=by
 obtain⟨ta,ha1,ha2⟩:=ha
 obtain⟨tb,hb1,hb2⟩:=hb
 exact⟨Cz NU ta tb,Nc (RI hr) ha1 hb1 hs,λC M H n ρ σ P Q R w q=>Dk WI ha2 hb2 C M H n ρ σ P Q R w q⟩
end
noncomputable def JO(ks:List (List Key))(k:List Key):Bool:=ks.any λk0=>decide (k0=k)
theorem hasK_iffU{ks:List (List Key)}{k:List Key}:JO ks k=true↔k∈ks:=by
 unfold JO
 rw [List.any_eq_true]
 exact⟨fun⟨x,hx,e⟩=>by rw [← of_decide_eq_true e]; exact hx,λh=>⟨k,h,decide_eq_true rfl⟩⟩
noncomputable def B0(ks:List (List Key))(k:List Key):List (List Key):=if JO ks k=true then ks else ks++[k]
noncomputable def Bz{α:Type}(ks:List (List Key))(ds:List α)(k:List Key)(d:α):List α:=if JO ks k=true then c9 (λk0 d0=>if k0=k then d else d0) ks ds else ds++[d]
theorem R8{ks:List (List Key)}{vs:List V}(hl:ks.length=vs.length)(k:List Key):((ks.zip vs).any λkv=>decide (kv.1=k))=JO ks k:=by
 rw [bn,List.any_eq_true,hasK_iffU]
 constructor
 ·rintro ⟨⟨a,b⟩,hm,e⟩
  have e:a=k:=of_decide_eq_true e
  rw [← e]
  exact(cy hm).1
 ·intro h
  obtain⟨i,hi,e⟩:=List.mem_iff_getElem.mp h
  refine⟨(ks[i],vs[i]'(by omega)),?_,by rw [e]; exact decide_eq_true rfl⟩
  exact List.mem_iff_getElem.mpr ⟨i,by rw [eG]; omega,by rw [List.getElem_zip]⟩
theorem Ot{ks:List (List Key)}{vs:List V}(hl:ks.length=vs.length)(k:List Key)(v:V):putK (ks.zip vs) k v=(B0 ks k).zip (Bz ks vs k v):=by
 unfold putK B0 Bz
 rw [R8 hl]
 by_cases h:JO ks k=true
 ·rw [if_pos h,if_pos h,if_pos h]
  have go:∀(ks:List (List Key)) (vs:List V),((ks.zip vs).map λkv=>if kv.1=k then (kv.1,v) else kv)=ks.zip (c9 (λk0 d0=>if k0=k then v else d0) ks vs):=by
   intro ks
   induction ks with
   | nil=>intro vs; rfl
   | cons a ks ih =>
    intro vs
    cases vs with
    | nil=>rfl
    | cons b vs =>
     show (if a=k then (a,v) else (a,b))::_=(a,if a=k then v else b)::_
     exact List.cons_eq_cons.mpr ⟨by split <;> rfl,ih vs⟩
  exact go ks vs
 ·rw [if_neg h,if_neg h,if_neg h,List.zip_append hl]
  rfl
theorem Ats.putU{K:Frag}{M:Addr->Prop}{H:Hp}{k:List Key}{d:D}{v:V}(hd:At K M H d v):∀{ks:List (List Key)} {ds:List D} {vs:List V},Ats K M H ds vs->Ats K M H (c9 (λk0 d0=>if k0=k then d else d0) ks ds) (c9 (λk0 d0=>if k0=k then v else d0) ks vs)
 | [],ds,vs,h=>rfl
 | a::ks,[],vs,h=>by cases (show vs=[] from h); rfl
 | a::ks,e::ds,vs,h=>by
  obtain⟨u,r,rfl,h1,h2⟩:=h
  refine⟨_,_,rfl,?_,Ats.putU hd h2⟩
  show At K M H (if a=k then d else e) (if a=k then v else u)
  by_cases e1:a=k
  ·rw [if_pos e1,if_pos e1]; exact hd
  ·rw [if_neg e1,if_neg e1]; exact h1
theorem Ats.putXU{K:Frag}{M:Addr->Prop}{H:Hp}{k:List Key}{d:D}{v:V}{ks:List (List Key)}{ds:List D}{vs:List V}(hd:At K M H d v)(h:Ats K M H ds vs):Ats K M H (Bz ks ds k d) (Bz ks vs k v):=by
 unfold Bz
 split
 ·exact Ats.putU hd h
 ·exact h.append (Ats.one hd)
theorem LH{α:Type}{ks:List (List Key)}{ds:List α}{k:List Key}{d:α}(hl:ks.length=ds.length):(B0 ks k).length=(Bz ks ds k d).length:=by
 unfold B0 Bz
 split
 ·rw [List.length_zipWith]; omega
 ·rw [FM,FM]; show ks.length+1=ds.length+1; omega
theorem E4:∀{ks:List (List Key)} {ds:List D} {k:List Key},ks.length=ds.length->k∈ks->∃z,Dy ks ds k=some z
 | [],ds,k,_,h=>by cases h
 | a::ks,[],k,h,_=>by cases h
 | a::ks,d::ds,k,hl,h=>by
  unfold Dy
  by_cases e:a=k
  ·exact⟨d,if_pos e⟩
  ·rw [if_neg e]
   exact E4 (by simpa using hl) ((UF.mp h).resolve_left λz=>e z.symm)
section
variable {X:Cx}{a b e:Expr}{κ κa κb:Kd}{wa wb:DW}{pos pos':Pos}
noncomputable def P2:DW:=λn _ P=>P (.dit [] []) n
theorem Rx:DE X (.Dict [] [] pos) .fr P2:=by
 refine⟨_,Qo,λC M H n ρ σ P Q R w q=>λp hp=>?_⟩
 have g:Grow H (Ar H p (.dT [])):=Al hp
 exact q _ _ (.dit [] []) n g.ext (R.feed.grow g) ⟨p,rfl,hp,[],AN,rfl,rfl⟩ w
noncomputable def UI(i:Nat)(wk wv:DW):AS:=λD2 n ρ=>∃ks ds,ρ[i]?=some (.ow (.dit ks ds))/\wv n ρ λd n1=>wk n1 ρ λk n2=>∃key,keysOf k=some key/\ks.length<sizeLine/\D2.nx n2 (ρ.set i (.ow (.dit (B0 ks key) (Bz ks ds key d))))
theorem Ts{i k:Nat}{x:Expr}(hr:Room k X.A)(hx:PE X x (Bl i))(ha:DE X a κa wa)(hb:DE X b κb wb)(hk:autoParam (κb≠.tp) zau7._auto_1)
  (hs:autoParam (swapsWith b (some (.Subscript x a pos')) pos.line X.env=pure false) zau3._auto_1):DS X κ (.Assign [.Subscript x a pos'] b pos) (UI i wa wb):=by
 obtain⟨t,h1,h2⟩:=ha
 obtain⟨u,g1,g2⟩:=hb
 refine⟨_,Sq (RI hr) hx h1 g1 hs,λC M H n ρ σ D2 E R L w=>?_⟩
 obtain⟨ks,ds,hd,w⟩:=w
 refine g2 C M H n ρ σ _ _ R w λv H1 d n1 e1 f1 r1 p=>?_
 have R1:=R.step e1 f1
 obtain⟨ad,ea,m,nv,tt⟩:=R1.sl i _ hd
 refine⟨.ref ad,getD_some ea,?_⟩
 refine h2 C M H1 n1 ρ σ _ _ R1 p λy H2 kk n2 e2 f2 r2 p=>?_
 obtain⟨key,hkey,hlt,p⟩:=p
 have R2:=R1.step e2 f2
 obtain⟨ad',ea',m',nv',tt'⟩:=R2.sl i _ hd
 rw [ea] at ea'
 cases ea'
 obtain⟨vs,hH,hl,hs'⟩:=tt'
 have hat:At X.K M H2 d v:=(r1.shOf R.dom hk).pres (R1.pres e2)
 have hvl:ks.length=vs.length:=by rw [hl,hs'.length]
 obtain⟨b,rfl,eb⟩:=JK hkey (r2.tpOf R1.dom R1.vM)
 refine⟨ad,_,rfl,DPut.t hH eb (by rw [eG]; omega),L.nx M _ n2 _ σ (R2.mut (e:=.dit (B0 ks key) (Bz ks ds key d)) hd ea ⟨Bz ks vs key v,by rw [AN,Ot hvl],LH hl,(hs'.putXU hat).pres (Fd m' hH)⟩) p⟩
variable {apos cpos:Pos}{f:Expr}{κf:Kd}{wf:DW}
end
end Dp
namespace L2
open PySem PySem.Spec PyProof.Rows PySem.W
section
variable {prog:Program}{w:World}{A:Around}{E:Value->Shared->Prop}{s:Shared}
end
structure Zk (prog:Program) (w:World) (A:Around) (I d:Addr) (n:Nat) (base:Heap) (key:Nat->Addr) (val:Nat->Value) (ch:Addr->Prop) (St:Nat->Heap->Prop):Prop where
 new:∀b,ch b->base.get? b=none
 item:∀(i:Nat) (s:Shared) (Q:Option Value->Shared->Prop) (E:Value->Shared->Prop),i<n->St i s.heap->(∀b o,base.get? b=some o->s.heap.get? b=some o)->(∃o,s.heap.get? d=some o) ->
  (∀h' tk a o c,h'.get? a=some o->o.cls=.type "tuple"->o.data=.seq #[.ref (key i),val i] c->St (i+1) h'->(∀b o,¬ch b->s.heap.get? b=some o->h'.get? b=some o)->Q (some (.ref a)) { s with heap:=h',toks:=tk })->wpAny (model prog w) A (pyNext (.ref I)) Q E s
 done:∀(s:Shared) (Q:Option Value->Shared->Prop) (E:Value->Shared->Prop),St n s.heap->(∀b o,base.get? b=some o->s.heap.get? b=some o)->(∀h' tk,(∀b o,¬ch b->s.heap.get? b=some o->h'.get? b=some o)->Q none { s with heap:=h',toks:=tk })->wpAny (model prog w) A (pyNext (.ref I)) Q E s
 frame:∀i h h',St i h->bH d h h'->St i h'
 dch:¬ch d
section
variable {prog:Program}{w:World}{A:Around}{R:Result->Shared->Prop}{I d:Addr}{n:Nat}{base:Heap}{key:Nat->Addr}{val:Nat->Value}{ch:Addr->Prop}{St:Nat->Heap->Prop}
end
section
variable {prog:Program}{w:World}{A:Around}{E:Value->Shared->Prop}{s:Shared}
end
section
variable {X:Cx}
end
end L2
namespace Dp
open PySem PySem.Spec PyProof.Rows L2
section
variable {K:Frag}
end
section
variable {X:Cx}{e1 e2:Expr}{ws:Eg}{p1 q1 p2 q2:Pos}
end
end Dp
namespace L2
open PySem PySem.Spec PyProof.Rows
section
variable {X:Cx}
end
end L2
namespace Dp
open PySem PySem.Spec PyProof.Rows L2
section
variable {X:Cx}{κ:Kd}{pos:Pos}
end
end Dp
namespace L2
open PySem PySem.Spec PyProof.Rows
section
variable {X:Cx}
open Builtin.Str in
noncomputable def QV:V->List V->Hp->VK->Prop:=λx xs H Q=>∃(z y:Str),x=.str z/\xs=[.str y]/\(y.length==0)=false/\z.length<=sizeLine/\(partsBetween z (occurrences z y 0 z.length (z.length+1)) y.length).length<=sizeLine/\(Txt.split z y).length<=sizeLine/\∀p,H p=none->Q (.ref p) (Ar H p (.lst ((Txt.split z y).map V.str)))
theorem Im:∀(l:List (Str×Tok)),Vals ((l.map (·.1)).map V.str) (strValues l)
 | []=>.nil
 | p::l=>.cons ⟨p.2,rfl⟩ (Im l)
open Builtin.Str in
theorem Hr:YJ X "str.split" QV:=by
 intro pins s σ H x xs v us Q I rx rv h
 obtain⟨z,y,rfl,rfl,hy,hz,hn,hl,q⟩:=h
 obtain⟨t,rfl⟩:=rx
 obtain⟨u,rfl,ru⟩:=vals1 rv
 obtain⟨u,rfl⟩:=ru
 have fin:∀(l:List (Str×Tok)) (k:Nat),l.map (·.1)=Txt.split z y->EP X pins σ Q (.ref s.heap.objs.size) { s with heap:=s.heap.push { cls:=.type "list",data:=.seq (strValues l).toArray },toks:=k }:=λl k e=>by
  refine⟨.ref s.heap.objs.size,_,I.laid (t':=k) (λb o e=>Ev _ e) (Go _) (show ObjOk X.prog X.w _ _ _ (.lst ((Txt.split z y).map V.str)) from⟨by rw [Cn]; exact hl,strValues l,_,e▸Im l,XV _ rfl⟩),rfl,q _ (I.hok.fresh (Go _))⟩
 cases h1:(decide (z.length<y.length)||decide (strKind z<strKind y))
 ·cases hf:(occurrences z y 0 z.length (z.length+1)).isEmpty
  ·refine cR PySem.F.slot_str_split (cz _ _ _) PySem.F.entry_str_split (PySem.F.args_str_split_2 _ _) (meets_str_split_sep z y t u h1 hy hf hz hn) ?_
   show wants (EP X pins σ Q) X.xe _ { s with toks:=_,heap:=s.heap.push { cls:=.type "list",data:=.seq (strsFrom s.toks (partsBetween z (occurrences z y 0 z.length (z.length+1)) y.length)).toArray } }
   rw [strsFrom_eq]
   exact fin (numbered s.toks _) _ ((numbered_texts _ _).trans ((if_neg (ne_true_of_eq_false h1)).trans (if_neg (ne_true_of_eq_false hf))).symm)
  ·exact cR PySem.F.slot_str_split (cz _ _ _) PySem.F.entry_str_split (PySem.F.args_str_split_2 _ _) (meets_str_split_not_found z y t u h1 hy hf) (fin [(z,t)] s.toks ((if_neg (ne_true_of_eq_false h1)).trans (if_pos hf)).symm)
 ·exact cR PySem.F.slot_str_split (cz _ _ _) PySem.F.entry_str_split (PySem.F.args_str_split_2 _ _) (meets_str_split_cannot_occur z y t u h1) (fin [(z,t)] s.toks (if_pos h1).symm)
noncomputable def Ua:List V->Hp->VK->Prop:=λxs H Q=>∃i:Int,xs=[.str (aH (toString i))]/\0<=i/\i<10 ^ 10/\Q (.int i) H
theorem Ef:B9 X (.type "int") Ua:=by
 intro pins s σ H xs us Q I r h
 obtain⟨i,rfl,h0,h1,q⟩:=h
 obtain⟨u,rfl,t,rfl⟩:=vals1 r
 exact PySem.W.KIN.call_num h0 h1 ⟨.int _,H,I.tok _,⟨_,rfl⟩,q⟩
end
end L2
namespace Dp
open PySem PySem.Spec PyProof.Rows L2
section
variable {K:Frag}
theorem L_{M:Addr->Prop}{H:Hp}:∀{ys:List Str},(∀y∈ys,y.length<=sizeLine)->Ats K M H (ys.map D.str) (ys.map V.str)
 | [],_=>rfl
 | y::ys,h=>⟨_,_,rfl,⟨rfl,h y On⟩,L_ λz hz=>h z (Is _ hz)⟩
open Builtin.Str in
noncomputable def KS(d:D)(ds:List D)(P:D->Prop):Prop:=∃(z y:Str),d=.str z/\ds=[.str y]/\(y.length==0)=false/\(partsBetween z (occurrences z y 0 z.length (z.length+1)) y.length).length<=sizeLine/\(Txt.split z y).length<=sizeLine/\(∀x∈Txt.split z y,x.length<=sizeLine)/\P (.lst ((Txt.split z y).map .str))
theorem Kj:Y8 K .fr "str" QV KS:=by
 intro U M H d ds x vs P Q dom vM hx hp w q
 obtain⟨z,y,rfl,rfl,hy,hn,hl,hs,w⟩:=w
 obtain⟨v,rfl,hv⟩:=Cu hp
 exact⟨z,y,hx.str.1,by rw [hv.str.1],hy,hx.str.2,hn,hl,λp hp=>q _ _ _ (Al hp) (B4 (U:=U) hp (L_ hs)) w⟩
noncomputable def Lq(ds:List D)(P:D->Prop):Prop:=∃i:Int,ds=[.str (aH (toString i))]/\0<=i/\i<10 ^ 10/\P (.int i)
theorem Km:Cy K .sh Ua Lq:=by
 intro U M H ds vs P Q dom vM hp w q
 obtain⟨i,rfl,h0,h1,w⟩:=w
 obtain⟨v,rfl,hv⟩:=Cu hp
 exact⟨i,by rw [hv.str.1],h0,h1,q _ H (.int i) .refl rfl w⟩
end
section
variable {X:Cx}{e e1 e2:Expr}{es:List Expr}{κ:Kd}{wa:DW}{pos:Pos}
end
end Dp
namespace L2
open PySem PySem.Spec PyProof.Rows
theorem QR(A:Around)(s:Shared){x y:Key}{u v:Value}(rx:RelV (kOf x) u)(ry:RelV (kOf y) v)(hs:Ej x y=true)(prog:Program)(w:World)(E:Value->Shared->Prop)(Q:Value->Shared->Prop)(h:Q (.bool (Um y x)) s) :
  wpAny (model prog w) A (richCompare .Gt u v) Q E s:=by
 cases x with
 | inl i =>
  cases y with
  | inl j =>
   obtain⟨t,rfl⟩:=rx
   obtain⟨t',rfl⟩:=ry
   exact(PyProof.Rows.gt_int h:wpAny (model prog w) A (compareOp .Gt (.int i t) (.int j t')) Q E s)
  | inr z=>cases hs
 | inr z =>
  cases y with
  | inl j=>cases hs
  | inr z' =>
   obtain⟨t,rfl⟩:=rx
   obtain⟨t',rfl⟩:=ry
   exact(PySem.P.gt_str h:wpAny (model prog w) A (compareOp .Gt (.str z t) (.str z' t')) Q E s)
section
open PySem.SeqAt
open PySem.AutoSeq1 (wpAny_loadPart')
open PySem.MeetsSeq PySem.MeetsSeq2 PySem.MeetsSeq3
theorem IT(l b:Addr)(items items2:Array Value)(n n2:Nat)(dd dd2:Option Addr)(sl sl2:Array (Option Value))(ns ms:List Key)(hi:Vals (ns.map kOf) items.toList)(hj:Vals (ms.map kOf) items2.toList)(hsame:A8 ns ms=true) :
  Meets (Builtin.«tuple.__gt__» ⟨[.ref l,.ref b],[]⟩)
   (λ_ R s=>s.heap.get? l=some { cls:=.type "tuple",dict:=dd,data:=.seq items n,slots:=sl }/\s.heap.get? b=some { cls:=.type "tuple",dict:=dd2,data:=.seq items2 n2,slots:=sl2 } /\
    R (.ok (.ret (.bool (BD ms ns)))) s) :=
 .of_wp λprog w A R s h=>by
  obtain⟨hp,g,d,tk,os⟩:=s; obtain⟨hl,hb,h⟩:=h
  have f2:=cN
  have z1:items.size=ns.length:=by have:=hi.length; rw [Cn] at this; rw [this]; simp
  have z2:items2.size=ms.length:=by have:=hj.length; rw [Cn] at this; rw [this]; simp
  wp_walk using aM hl,aM hb,d7 _ (λrest b s'=>b.1=none/\s'=⟨hp,g,d,tk,os⟩/\∃(vs ws:List Value) (ns' ms':List Key),rest=vs.zip ws /\
   Vals (ns'.map kOf) vs/\Vals (ms'.map kOf) ws/\A8 ns' ms'=true/\ns'.length+items2.size=ms'.length+items.size/\R (.ok (.ret (.bool (BD ms' ns')))) ⟨hp,g,d,tk,os⟩) _
  case turn =>
   rintro ⟨y,x⟩ rest b s' ⟨hb',rfl,vs,ws,ns',ms',hz,hvi,hwi,hsm,hlen,hR⟩
   cases ns' with
   | nil=>cases hvi; rw [cY] at hz; cases hz
   | cons a ns' =>
    cases ms' with
    | nil=>cases hwi; rw [cO] at hz; cases hz
    | cons c ms' =>
     rw [TW] at hvi hwi
     cases hvi with
     | cons ra hvi' =>
      cases hwi with
      | cons rc hwi' =>
       rw [aj] at hz
       injection hz with hyx hrest
       injection hyx with hy hx
       subst hy hx
       have hR':R (.ok (.ret (.bool (if c=a then BD ms' ns' else Um c a)))) ⟨hp,g,d,tk,os⟩:=hR
       have hsm':(Ej a c&&A8 ns' ms')=true:=hsm
       rw [Zo] at hsm'
       simp only [No] at hlen
       obtain⟨e,he,hiff⟩:=IA (A:=A.in1) (s:=⟨hp,g,d,tk,os⟩) ra rc
       refine Ch (he prog w _ _ ?_)
       cases e with
       | true =>
        rw [if_pos (hiff.mp rfl).symm] at hR'
        wp_walk
        exact⟨rfl,rfl,_,_,_,_,hrest,hvi',hwi',hsm'.2,by omega,hR'⟩
       | false =>
        rw [if_neg (λq=>absurd (hiff.mpr q.symm) Tk)] at hR'
        have hri:=QR A.in1 ⟨hp,g,d,tk,os⟩ ra rc hsm'.1 prog w
        wp_walk using hri
        exact⟨_,rfl,by simpa using hR'⟩
  case fin =>
   rintro ⟨b1,b2⟩ s' ⟨hb',rfl,vs,ws,ns',ms',hz,hvi,hwi,hsm,hlen,hR⟩
   simp only at hb'
   subst hb'
   have hv:BD ms' ns'=decide (items2.size<items.size):=by
    cases ns' with
    | nil =>
     cases ms' with
     | nil =>
      simp only [Zq] at hlen
      exact(decide_eq_false (by omega)).symm
     | cons c u =>
      simp only [Zq,No] at hlen
      exact(decide_eq_false (by omega)).symm
    | cons a t =>
     cases ms' with
     | nil =>
      simp only [Zq,No] at hlen
      exact(decide_eq_true (by omega)).symm
     | cons c u =>
      rw [TW] at hvi hwi
      cases hvi
      cases hwi
      rw [aj] at hz
      cases hz
   rw [hv] at hR
   wp_walk
   exact⟨_,rfl,by simpa [bc] using hR⟩
  case h =>
   exact⟨rfl,rfl,items.toList,items2.toList,ns,ms,rfl,hi,hj,hsame,by omega,h⟩
end
section
variable {X:Cx}
noncomputable def VS(K:Frag):R2:=λx y H Q=>∃a b ns ms,x=.ref a/\y=.ref b/\SqT K H a (ns.map kOf)/\SqT K H b (ms.map kOf)/\A8 ns ms=true/\Q (.bl (BD ms ns)) H
theorem Vm(hu:X.A.units<cLine):OpR X (compareOp .Gt) (VS X.K):=by
 intro pins s σ H x y v u Q I rx ry h
 obtain⟨a,b,ns,ms,rfl,rfl,ha,hb,hsm,q⟩:=h
 cases rx
 cases ry
 obtain⟨its,r1,p1,_⟩:=I.tuple ha
 obtain⟨its2,r2,p2,_⟩:=I.tuple hb
 obtain⟨⟨cls,dd,data,sl⟩,ho,hc,n,hd⟩:=id p1
 obtain⟨⟨cls2,dd2,data2,sl2⟩,ho2,hc2,n2,hd2⟩:=id p2
 simp only at hc hd hc2 hd2
 subst hc hd hc2 hd2
 exact cg (op:=.Gt) ⟨_,ho,rfl⟩ ⟨_,ho2,rfl⟩ PySem.F.slot_tuple_gt PySem.F.entry_tuple_gt (PySem.F.args_tuple_gt_2 _ _) (IT a b its.toArray its2.toArray n n2 dd dd2 sl sl2 ns ms r1 r2 hsm)
  ⟨ho,ho2,show bi (BD ms ns)≠c8/\EP X pins σ Q (.bool (BD ms ns)) s from⟨(λx=>nomatch x),⟨.bl _,H,I,rfl,q⟩⟩⟩ hu
theorem S1{a:Expr}{ta:TE}{pos:Pos}(ha:PE X a ta):PE X (.UnaryOp .Not a pos) (λσ H Q=>ta σ H λx H1=>∃c,UC X.K x H1 c/\Q (.bl (!c)) H1):=by
 intro pins s σ H Q I h
 refine UnaryOp_ (BB (ha pins s σ H _ I h) λv s1 ⟨x,H1,I1,r1,c,hc,q1⟩=>?_)
 exact not_of (BB (P6 pins s1 σ H1 x v (λk H'=>k=c/\Q (.bl (!k)) H') I1 r1 ⟨c,hc,rfl,q1⟩) λb s2 ⟨H2,I2,e,q⟩=>⟨.bl (!b),H2,I2,rfl,q⟩)
end
end L2
namespace Dp
open PySem PySem.Spec PyProof.Rows L2
noncomputable def V2(d e:D)(P:D->Prop):Prop:=match d,e with
 | .tup xs,.tup ys=>∃ks ls,Fi xs=some ks/\Fi ys=some ls/\A8 ks ls=true/\P (.bl (BD ls ks))
 | _,_=>False
section
variable {X:Cx}{e e1:Expr}{es:List Expr}{κ:Kd}{wa:DW}{pos:Pos}
theorem Vk{k:Nat}(hr:Room k X.A):OpR X (compareOp .Gt) (VS X.K):=Vm hr.units0
theorem YB:DR X.K .sh (VS X.K) V2:=λU M H d e x y P Q dom vM hx hy w q=>by
 unfold V2 at w
 split at w
 ·obtain⟨ks,ls,h1,h2,h3,w⟩:=w
  obtain⟨a,vs,rfl,ha,hs⟩:=hx.tup
  obtain⟨b,us,rfl,hb,ht⟩:=hy.tup
  have e1:=Ck h1 hs
  have e2:=Ck h2 ht
  subst e1 e2
  exact⟨a,b,ks,ls,rfl,rfl,ha.sq,hb.sq,h3,q _ H (.bl _) .refl rfl w⟩
 ·exact w.elim
noncomputable def UM(wa:DW):DW:=λn ρ P=>wa n ρ λd n1=>∃c,VD d=some c/\P (.bl (!c)) n1
theorem T2(h:DE X e κ wa):DE X (.UnaryOp .Not e pos) .sh (UM wa):=by
 obtain⟨t,h1,h2⟩:=h
 refine⟨_,S1 h1,λC M H n ρ σ P Q R w q=>?_⟩
 refine h2 C M H n ρ σ _ _ R w λv H' d n' e1 f1 r1 p=>?_
 obtain⟨c,hc,p⟩:=p
 exact⟨c,P7 (r1.tpOf R.dom R.vM) hc,q _ H' (.bl (!c)) n' e1 f1 rfl p⟩
noncomputable def P1(i:Nat)(b:BW)(body:AS):AS:=λD2 n ρ=>∃ds,ρ[i]?=some (.br (.lst ds))/\Bk b body D2 (CP 0 ds) n ρ
variable {fpos:Pos}{body:List Stmt}{b:BW}{wb:AS}{p cp:Pos}{x:Str}{i j:Nat}{tpos:Pos}
end
end Dp
namespace L2
open PySem PySem.Spec PyProof.Rows
theorem QS(A:Around)(s:Shared){x y:Key}{u v:Value}(rx:RelV (kOf x) u)(ry:RelV (kOf y) v)(hs:Ej x y=true)(prog:Program)(w:World)(E:Value->Shared->Prop)(Q:Value->Shared->Prop)(h:Q (.bool (!Um x y)) s) :
  wpAny (model prog w) A (richCompare .GtE u v) Q E s:=by
 cases x with
 | inl i =>
  cases y with
  | inl j =>
   obtain⟨t,rfl⟩:=rx
   obtain⟨t',rfl⟩:=ry
   exact(PyProof.Rows.ge_int (by rw [show decide (j<=i)=!(decide (i<j)) from by rw [← decide_not]; exact decide_eq_decide.mpr (by omega)]; exact h):wpAny (model prog w) A (compareOp .GtE (.int i t) (.int j t')) Q E s)
  | inr z=>cases hs
 | inr z =>
  cases y with
  | inl j=>cases hs
  | inr z' =>
   obtain⟨t,rfl⟩:=rx
   obtain⟨t',rfl⟩:=ry
   exact(PySem.P.ge_str h:wpAny (model prog w) A (compareOp .GtE (.str z t) (.str z' t')) Q E s)
section
open PySem.SeqAt
open PySem.AutoSeq1 (wpAny_loadPart')
open PySem.MeetsSeq PySem.MeetsSeq2 PySem.MeetsSeq3
theorem IU(l b:Addr)(items items2:Array Value)(n n2:Nat)(dd dd2:Option Addr)(sl sl2:Array (Option Value))(ns ms:List Key)(hi:Vals (ns.map kOf) items.toList)(hj:Vals (ms.map kOf) items2.toList)(hsame:A8 ns ms=true) :
  Meets (Builtin.«tuple.__ge__» ⟨[.ref l,.ref b],[]⟩)
   (λ_ R s=>s.heap.get? l=some { cls:=.type "tuple",dict:=dd,data:=.seq items n,slots:=sl }/\s.heap.get? b=some { cls:=.type "tuple",dict:=dd2,data:=.seq items2 n2,slots:=sl2 } /\
    R (.ok (.ret (.bool (!BD ns ms)))) s) :=
 .of_wp λprog w A R s h=>by
  obtain⟨hp,g,d,tk,os⟩:=s; obtain⟨hl,hb,h⟩:=h
  have f2:=cN
  have z1:items.size=ns.length:=by have:=hi.length; rw [Cn] at this; rw [this]; simp
  have z2:items2.size=ms.length:=by have:=hj.length; rw [Cn] at this; rw [this]; simp
  wp_walk using aM hl,aM hb,d7 _ (λrest b s'=>b.1=none/\s'=⟨hp,g,d,tk,os⟩/\∃(vs ws:List Value) (ns' ms':List Key),rest=vs.zip ws /\
   Vals (ns'.map kOf) vs/\Vals (ms'.map kOf) ws/\A8 ns' ms'=true/\ns'.length+items2.size=ms'.length+items.size/\R (.ok (.ret (.bool (!BD ns' ms')))) ⟨hp,g,d,tk,os⟩) _
  case turn =>
   rintro ⟨y,x⟩ rest b s' ⟨hb',rfl,vs,ws,ns',ms',hz,hvi,hwi,hsm,hlen,hR⟩
   cases ns' with
   | nil=>cases hvi; rw [cY] at hz; cases hz
   | cons a ns' =>
    cases ms' with
    | nil=>cases hwi; rw [cO] at hz; cases hz
    | cons c ms' =>
     rw [TW] at hvi hwi
     cases hvi with
     | cons ra hvi' =>
      cases hwi with
      | cons rc hwi' =>
       rw [aj] at hz
       injection hz with hyx hrest
       injection hyx with hy hx
       subst hy hx
       have hR':R (.ok (.ret (.bool (!(if a=c then BD ns' ms' else Um a c))))) ⟨hp,g,d,tk,os⟩:=hR
       have hsm':(Ej a c&&A8 ns' ms')=true:=hsm
       rw [Zo] at hsm'
       simp only [No] at hlen
       obtain⟨e,he,hiff⟩:=IA (A:=A.in1) (s:=⟨hp,g,d,tk,os⟩) ra rc
       refine Ch (he prog w _ _ ?_)
       cases e with
       | true =>
        rw [if_pos (hiff.mp rfl)] at hR'
        wp_walk
        exact⟨rfl,rfl,_,_,_,_,hrest,hvi',hwi',hsm'.2,by omega,hR'⟩
       | false =>
        rw [if_neg (λq=>absurd (hiff.mpr q) Tk)] at hR'
        have hri:=QS A.in1 ⟨hp,g,d,tk,os⟩ ra rc hsm'.1 prog w
        wp_walk using hri
        exact⟨_,rfl,by simpa using hR'⟩
  case fin =>
   rintro ⟨b1,b2⟩ s' ⟨hb',rfl,vs,ws,ns',ms',hz,hvi,hwi,hsm,hlen,hR⟩
   simp only at hb'
   subst hb'
   have hv:(!BD ns' ms')=decide (items2.size<=items.size):=by
    cases ns' with
    | nil =>
     cases ms' with
     | nil =>
      simp only [Zq] at hlen
      exact(decide_eq_true (by omega)).symm
     | cons c u =>
      simp only [Zq,No] at hlen
      exact(decide_eq_false (by omega)).symm
    | cons a t =>
     cases ms' with
     | nil =>
      simp only [Zq,No] at hlen
      exact(decide_eq_true (by omega)).symm
     | cons c u =>
      rw [TW] at hvi hwi
      cases hvi
      cases hwi
      rw [aj] at hz
      cases hz
   rw [hv] at hR
   wp_walk
   exact⟨_,rfl,by simpa [bc] using hR⟩
  case h =>
   exact⟨rfl,rfl,items.toList,items2.toList,ns,ms,rfl,hi,hj,hsame,by omega,h⟩
end
section
variable {X:Cx}
noncomputable def Xa(K:Frag):R2:=λx y H Q=>∃a b ns ms,x=.ref a/\y=.ref b/\SqT K H a (ns.map kOf)/\SqT K H b (ms.map kOf)/\A8 ns ms=true/\Q (.bl (!BD ns ms)) H
theorem Vo(hu:X.A.units<cLine):OpR X (compareOp .GtE) (Xa X.K):=by
 intro pins s σ H x y v u Q I rx ry h
 obtain⟨a,b,ns,ms,rfl,rfl,ha,hb,hsm,q⟩:=h
 cases rx
 cases ry
 obtain⟨its,r1,p1,_⟩:=I.tuple ha
 obtain⟨its2,r2,p2,_⟩:=I.tuple hb
 obtain⟨⟨cls,dd,data,sl⟩,ho,hc,n,hd⟩:=id p1
 obtain⟨⟨cls2,dd2,data2,sl2⟩,ho2,hc2,n2,hd2⟩:=id p2
 simp only at hc hd hc2 hd2
 subst hc hd hc2 hd2
 exact cg (op:=.GtE) ⟨_,ho,rfl⟩ ⟨_,ho2,rfl⟩ PySem.F.slot_tuple_ge PySem.F.entry_tuple_ge (PySem.F.args_tuple_ge_2 _ _) (IU a b its.toArray its2.toArray n n2 dd dd2 sl sl2 ns ms r1 r2 hsm)
  ⟨ho,ho2,show bi (!BD ns ms)≠c8/\EP X pins σ Q (.bool (!BD ns ms)) s from⟨(λx=>nomatch x),⟨.bl _,H,I,rfl,q⟩⟩⟩ hu
theorem Vl:OpR X (compareOp .Gt) (λx y H Q=>∃i j,x=.str i/\y=.str j/\Q (.bl (decide (j.cps.toList<i.cps.toList))) H):=by
 intro pins s σ H x y v u Q I rx ry ⟨i,j,ex,ey,q⟩
 subst ex ey
 obtain⟨t,rfl⟩:=rx
 obtain⟨t',rfl⟩:=ry
 exact PySem.P.gt_str ⟨.bl _,H,I,rfl,q⟩
theorem Vn:OpR X (compareOp .GtE) (λx y H Q=>∃i j,x=.str i/\y=.str j/\Q (.bl (!(decide (i.cps.toList<j.cps.toList)))) H):=by
 intro pins s σ H x y v u Q I rx ry ⟨i,j,ex,ey,q⟩
 subst ex ey
 obtain⟨t,rfl⟩:=rx
 obtain⟨t',rfl⟩:=ry
 exact PySem.P.ge_str ⟨.bl _,H,I,rfl,q⟩
noncomputable def UZ:R2:=λx y H Q=>∃l n xs,x=.ref l/\y=.int n/\Rd H l (.lst xs)/\0<=n/\n<1000/\xs.length*n.toNat<=sizeLine/\∀p,H p=none->Q (.ref p) (Ar H p (.lst (Re n.toNat xs).flatten))
theorem S_:OpR X (binaryOp .Mult) UZ:=by
 intro pins s σ H x y v u Q I rx ry ⟨l,k,xs,ex,ey,hH,h1,h2,hz,q⟩
 subst ex ey
 cases rx
 obtain⟨t,rfl⟩:=ry
 obtain⟨z,its,n,r,hl,e⟩:=I.rdl hH
 have c1:its.toArray.size*k.toNat<=sizeLine:=by rw [Rs,← hl]; exact hz
 have c2:(sizeLine:Nat)<=(2 ^ 63 - 1) / 8:=by decide
 have c3:¬(!Builtin.List.listFitsIndex k)=true:=by rw [fitsIndex_both (by omega) (by omega)]; exact Tk
 have c4:¬bY (its.toArray.size*k.toNat)=true:=by rw [LR c1]; exact Tk
 have c5:List.foldl (λx1 x2=>x1++x2) #[] (Re (if its.toArray.isEmpty=true then 0 else k.toNat) its.toArray)=(Re k.toNat its).flatten.toArray:=by
  have f0:∀m:Nat,List.foldl (λx1 x2=>x1++x2) #[] (Re m its.toArray)=(Re m its).flatten.toArray:=λm=>(foldl_rep its m []).trans (by rw [Z9])
  rw [f0]
  cases its with
  | nil=>simp
  | cons a r'=>rw [if_neg (by simp)]
 have m1:=AutoListH.list___mul___list_int_3 l its.toArray n k t c3 (by omega) c4
 refine wpAny_binaryOp_repeat_ref (T := "list") (U := "int") (by decide) ⟨_,e,rfl⟩ (λs'=>typeIs_int s' k t) noFill_list_mul PySem.F.fills_int_mul PySem.F.slot_int_rmul repeat_list PySem.F.slot_int_index.lookup ?_
 refine cR PySem.F.slot_int_rmul (typeIs_int s k t) PySem.F.entry_int_rmul (PySem.F.args_int_rmul_2 _ _) (int___rmul___int_list k t l its.toArray n) ⟨e,rfl,⟨_,e,rfl⟩,?_⟩
 refine cR PySem.F.slot_list_mul ⟨_,e,rfl⟩ PySem.F.entry_list_mul (PySem.F.args_list_mul_2 _ _) m1 ⟨e,?_⟩
 rw [c5]
 exact⟨.ref _,_,I.lnew (t':=s.toks) (r.rep k.toNat) (by rw [len_rep,Nat.mul_comm]; exact hz),rfl,q _ I.fresh⟩
end
end L2
namespace Dp
open PySem PySem.Spec PyProof.Rows L2
section
variable {X:Cx}{K:Frag}
noncomputable def V1(d e:D)(P:D->Prop):Prop:=match d,e with
 | .int i,.int j=>P (.bl (decide (j<i)))
 | .str i,.str j=>P (.bl (decide (j.cps.toList<i.cps.toList)))
 | _,_=>False
noncomputable def XX:R2:=λx y H Q=>(GV λi j=>.bl (decide (j<i))) x y H Q\/LG (λi j=>decide (j.cps.toList<i.cps.toList)) x y H Q
theorem Vj:OpR X (compareOp .Gt) XX:=op_gt.or Vl
theorem YA:DR X.K .sh XX V1:=λU M H d e x y P Q dom vM hx hy w q=>by
 unfold V1 at w
 split at w
 ·exact .inl (Kl (K:=X.K) (g:=λi j=>decide (j<i)) U M H (.int _) (.int _) x y P Q dom vM hx hy w q)
 ·exact .inr (IL (K:=X.K) (g:=λi j=>decide (j.cps.toList<i.cps.toList)) U M H (.str _) (.str _) x y P Q dom vM hx hy w q)
 ·exact w.elim
noncomputable def Tj(d e:D)(P:D->Prop):Prop:=match d,e with
 | .str i,.str j=>P (.bl (!(decide (i.cps.toList<j.cps.toList))))
 | .tup xs,.tup ys=>∃ks ls,Fi xs=some ks/\Fi ys=some ls/\A8 ks ls=true/\P (.bl (!BD ks ls))
 | _,_=>False
noncomputable def XZ(K:Frag):R2:=λx y H Q=>LG (λi j=>!(decide (i.cps.toList<j.cps.toList))) x y H Q\/Xa K x y H Q
theorem Qu{k:Nat}(hr:Room k X.A):OpR X (compareOp .GtE) (XZ X.K):=OpR.or Vn (Vo hr.units0)
theorem U1:DR X.K .sh (XZ X.K) Tj:=λU M H d e x y P Q dom vM hx hy w q=>by
 unfold Tj at w
 split at w
 ·exact .inl (IL (K:=X.K) (g:=λi j=>!(decide (i.cps.toList<j.cps.toList))) U M H (.str _) (.str _) x y P Q dom vM hx hy w q)
 ·obtain⟨ks,ls,h1,h2,h3,w⟩:=w
  obtain⟨a,vs,rfl,ha,hs⟩:=hx.tup
  obtain⟨b,us,rfl,hb,ht⟩:=hy.tup
  have e1:=Ck h1 hs
  have e2:=Ck h2 ht
  subst e1 e2
  exact .inr ⟨a,b,ks,ls,rfl,rfl,ha.sq,hb.sq,h3,q _ H (.bl _) .refl rfl w⟩
 ·exact w.elim
noncomputable def RQ(d e:D)(P:D->Prop):Prop:=match d,e with
 | .lst xs,.int n=>0<=n/\n<1000/\xs.length*n.toNat<=sizeLine/\P (.lst (Re n.toNat xs).flatten)
 | _,_=>False
theorem MA{M:Addr->Prop}{H:Hp}{ds:List D}{vs:List V}(h:Ats K M H ds vs):∀k,Ats K M H (Re k ds).flatten (Re k vs).flatten
 | 0=>rfl
 | k+1=>by
  rw [ar,ar,bR,bR]
  exact h.append (MA h k)
theorem WL:DR K .fr UZ RQ:=λU M H d e x y P Q dom vM hx hy w q=>by
 unfold RQ at w
 split at w
 ·rename_i xs n
  obtain⟨a,vs,rfl,_,ha,hs⟩:=hx
  cases hy.int
  exact⟨a,n,vs,rfl,rfl,ha,w.1,w.2.1,by rw [hs.length]; exact w.2.2.1,λp hp=>q _ _ (.lst _) (Al hp) (B4 hp (MA hs _)) w.2.2.2⟩
 ·exact w.elim
end
end Dp
namespace L2
open PySem PySem.Spec PyProof.Rows
section
variable {X:Cx}{te:WR}{c e:Expr}{k:V}{pos:Pos}
noncomputable def Wz(k:V)(te:WR):WR:=λR σ H Q=>te R σ H λv H1=>∀p,H1 p=none->Q (.ref p) (Ar H1 p (.tup [k,v]))
theorem Ql{j pos}(hc:PE X c (tC k))(he:YG X e te)(hs:autoParam (starEach [c,e] X.env=[(false,eval c X.env),(false,eval e X.env)]) zau3._auto_1):YG X (.Tuple [c,e] j pos) (Wz k te):=by
 intro pins s σ H Q R I h
 refine wpAny_Tuple_spliced ?_
 rw [hs]
 show wpAny _ _ (spliced ((false,eval c X.env)::(backTo pos [(false,eval e X.env)]))) _ _ s
 refine cJ (BB (YR (hc pins s σ H (λv H1=>v=k/\H1=H) I ⟨rfl,rfl⟩)) λu s1 ⟨x,H1,I1,r1,ex,eH⟩=>?_)
 subst ex eH
 show wpAny _ _ (spliced ((false,eval e X.env)::(backTo pos []))) _ _ s1
 refine cJ (BB (he pins s1 σ _ _ R I1 h) λu2 s2 ⟨y,H2,I2,r2,q⟩=>?_)
 refine dX ⟨(show 2<=sizeLine by rw [Z2]; decide),?_⟩
 have hf:H2 s2.heap.objs.size=none:=I2.hok.fresh (Go _)
 exact⟨.ref s2.heap.objs.size,Ar H2 s2.heap.objs.size (.tup [x,y]),I2.laid (t':=s2.toks) (λb u e=>Ev _ e) (Go _) ⟨(show 2<=sizeLine by rw [Z2]; decide),[u,u2],.cons r1 (.cons r2 .nil),IsTupN.new _ _⟩,rfl,q _ hf⟩
theorem Nm{K:Frag}{C U:Addr}{nm:Str}(c:XC K nm C U):∀{Ds:List Addr} {ns:List Str},Paired (fun(D:Addr) (n:Str)=>n ≠ "ThinError"/\∃U',XC K n D U') Ds ns->PySem.W.kitAny K (.ref C) (Ds.map TM)=some (decide (nm∈ns))
 | [],_,.nil=>by simp [PySem.W.kitAny]
 | D::Ds,_,@Paired.cons _ _ _ _ n _ ns ⟨h1,U',h2⟩ r=>by
  rw [TW]
  unfold PySem.W.kitAny
  rw [c.kit h2 h1]
  by_cases e:nm=n
  ·simp [e]
  ·simp only [e,decide_false]
   rw [Nm c r]
   simp [e]
theorem Kz:∀{Ds:List Addr} {us:List Value},Vals (Ds.map V.ref) us->us=Ds.map TM
 | [],_,r=>by rw [bw] at r; cases r; rfl
 | D::Ds,_,r=>by
  rw [TW] at r
  cases r with
  | cons h t=>rw [TW,Kz t]; cases h; rfl
theorem Pk:B9 X (.builtin "isinstance") (λxs H Q=>∃a C U dx u nm t Ds ns,xs=[.ref a,.ref t]/\H a=some u/\XT C dx a u/\(∀d,dx=some d->∃fs,H d=some (.ext (XF d fs)))/\XC X.K nm C U/\H t=some (.tup (Ds.map V.ref))/\Paired (fun(D:Addr) (n:Str)=>n ≠ "ThinError"/\∃U',XC X.K n D U') Ds ns/\Q (.bl (decide (nm∈ns))) H):=by
 intro pins s σ H xs us Q I r h
 obtain⟨a,C,U,dx,u,nm,t,Ds,ns,rfl,ea,xt,hd,xc,ht,hn,q⟩:=h
 obtain⟨u1,u2,rfl,r1,r2⟩:=vals2 r
 cases (show u1=TM a from r1)
 cases (show u2=TM t from r2)
 have J:=xt.inst I ea λd e=>by
  obtain⟨fs,ho⟩:=hd d e
  obtain⟨⟨mA,⟨o,_,_,e2,_⟩,_⟩,_⟩:=(show ObjOk X.prog X.w H s.heap d _ from I.hok d _ ho)
  exact⟨o,e2⟩
 obtain⟨_,its,rv,o,ho,hc,n,hdt,hdd,hsl⟩:=(show ObjOk X.prog X.w H s.heap t _ from I.hok t _ ht)
 obtain⟨cls,dd,data,sl⟩:=o
 simp only at hc hdt hdd hsl
 subst hc hdt hdd hsl
 have e:=Kz rv
 subst e
 exact PySem.W.kia_tup xc.kitX I.kIn J ho (Nm xc hn) (by intro z; cases z) λtk=>⟨.bl _,H,I.tok _,rfl,q⟩
end
end L2
namespace Dp
open PySem PySem.Spec PyProof.Rows L2
section
variable {X:Cx}{κ:Kd}{e:Expr}{es:List Expr}{pos p p1 p2 tpos:Pos}{i:Nat}{x:Str}
noncomputable def UJ(d0:D)(w:Nat->List Slot->(D->Nat->Prop)->PX->Prop):Nat->List Slot->(D->Nat->Prop)->PX->Prop:=λn ρ P Pr=>w n ρ (λd n1=>P (.tup [d0,d]) n1) Pr
theorem Rq{jc cp j pos}{w:Nat->List Slot->(D->Nat->Prop)->PX->Prop}(h:Yd X e .sh w)(hx:autoParam (decide (x.length<=1000)=true) zau3._auto_1)(hs:autoParam (starEach [.Constant (.str x) jc cp,e] X.env=[(false,eval (.Constant (.str x) jc cp) X.env),(false,eval e X.env)]) zau3._auto_1) :
  Yd X (.Tuple [.Constant (.str x) jc cp,e] j pos) .sh (UJ (.str x) w):=by
 obtain⟨t,a1,a2⟩:=h
 refine⟨_,Ql Jv a1 hs,λC M H n ρ σ P Q R Pr r l w q=>?_⟩
 refine a2 C M H n ρ σ _ _ R Pr r l w λv H1 d n1 e1 f1 r1 p=>λa ha=>?_
 have g:Grow H1 (Ar H1 a (.tup [V.str x,v])):=Al ha
 have hl:x.length<=sizeLine:=Zv (of_decide_eq_true hx) (by rw [Z2]; decide)
 exact q _ _ (.tup [.str x,d]) n1 (e1.trans g.ext) (f1.grow g) ⟨a,_,rfl,AN,_,_,rfl,⟨rfl,hl⟩,_,_,rfl,At.pres g.pres r1,rfl⟩ p
noncomputable def UK(i:Nat)(w:Nat->List Slot->(D->Nat->Prop)->PX->Prop):Wc:=λD2 Pr n ρ=>w n ρ (λd n1=>D2.nx n1 (ρ.set i (.sh d))) Pr
theorem Tq{κe:Kd}{w:Nat->List Slot->(D->Nat->Prop)->PX->Prop}{pos':Pos}(hN:X.N.Nodup)(hi:X.N[i]?=some x)(hx:Loc X.env.scope x)(h:Yd X e κe w)(hk:autoParam (κe≠.tp) zau7._auto_1)(hs:autoParam (swapsWith e (some (.Name x pos')) pos.line X.env=pure false) zau3._auto_1)
  (hf:autoParam (X.fn x=true\/X.env.scope.names.lookup x=some .local) zau0._auto_1):Yb X κ (.Assign [.Name x pos'] e pos) (UK i w):=by
 obtain⟨t,a1,a2⟩:=h
 refine⟨_,Sm hN hi hx a1 hs hf,λC M H n ρ σ D2 E R Pr r L l w=>?_⟩
 exact a2 C M H n ρ σ _ _ R Pr r l w λv H' d n' e1 f1 r1 p=>L.nx M H' n' _ _ ((r.step e1 f1).set (r1.shOf r.dom hk)) p
noncomputable def CN(X:Cx)(es:List Expr)(ns:List Str):Prop:=∃Ds:List Addr,PA X es (λ_ H Q=>Q (Ds.map V.ref) H)/\Paired (fun(D:Addr) (n:Str)=>n ≠ "ThinError"/\∃U',XC X.K n D U') Ds ns
theorem WE:CN X [] []:=⟨[],B1,.nil⟩
theorem Ee{cn:Str}{ns:List Str}{D U:Addr}(hc:cn ≠ "ThinError")(xd:XC X.K cn D U)(hgc:Gl X cn)(hmc:X.mg cn=some (.ref D))(hr:CN X es ns)(hs:autoParam (starEach (.Name cn p::es) X.env=(false,eval (.Name cn p) X.env)::starEach es X.env) zau3._auto_1)(hdc:autoParam ((cn==("__debug__" : Str))=false) zau1._auto_1) :
  CN X (.Name cn p::es) (cn::ns):=by
 obtain⟨Ds,h1,h2⟩:=hr
 exact⟨D::Ds,A9 (Jw (v:=.ref D) hgc hmc rfl hdc) h1 hs,.cons ⟨hc,U,xd⟩ h2⟩
noncomputable def Ku(i:Nat)(ns:List Str):DW:=λn ρ P=>match ρ[i]? with
 | some (.ex _ nm _ _)=>P (.bl (decide (nm∈ns))) n
 | _=>False
theorem T4{ns:List Str}{j}(h:CN X es ns)(hl:es.length<=100)(hg:Gl X "isinstance")(hm:X.mg "isinstance"=none)(hN:autoParam (X.N[i]?=some x) zau3._auto_1)(hv:autoParam (SJ X.env.scope x) zau5._auto_1)(hd:autoParam ((x==("__debug__" : Str))=false) zau1._auto_1)
  (hcd:autoParam ((x==("__classdict__" : Str))=false) zau1._auto_1) (hn:autoParam (ns.length<=100) zau1._auto_1) (he:autoParam (starEach [.Name x p1,.Tuple es j tpos] X.env=(false,eval (.Name x p1) X.env)::starEach [.Tuple es j tpos] X.env) zau3._auto_1) (he2:autoParam (starEach [.Tuple es j tpos] X.env=[(false,eval (.Tuple es j tpos) X.env)]) zau3._auto_1) (hpl:autoParam ((backTo pos (starEach [.Tuple es j tpos] X.env)).any (·.1)=false) zau3._auto_1) :
  DE X (.Call (.Name "isinstance" p) [.Name x p1,.Tuple es j tpos] [] pos) .sh (Ku i ns):=by
 obtain⟨Ds,h1,h2⟩:=h
 refine⟨_,Cf Pk hg hm (by decide +kernel) (A9 (D_ hN hv hd hcd) (A9 (Qn h1) B1 he2) he) (by decide) (by decide) he hpl,λC M H n ρ σ P Q R w q=>?_⟩
 unfold Ku at w
 split at w
 ·rename_i a nm ks ds hd
  obtain⟨e1,Cc,U',dx,u,vs,xc,⟨na,ha⟩,xt,hx,hl',hs⟩:=R.sl i _ hd
  have hz:(Ds.map V.ref).length<=sizeLine:=by rw [Cn,Paired.length h2,Z2]; omega
  refine⟨.ref a,getD_some e1,hz,λt ht=>?_⟩
  have g:Grow H (Ar H t (.tup (Ds.map V.ref))):=Al ht
  have nt:∀b o,H b=some o->Ar H t (.tup (Ds.map V.ref)) b=some o:=λb o q=>by rw [AM (λz=>by subst z; rw [ht] at q; cases q)]; exact q
  refine⟨a,Cc,U',dx,u,nm,t,Ds,ns,rfl,nt _ _ ha,xt,λd ed=>?_,xc,AN,h2,q _ _ (.bl _) n g.ext (R.feed.grow g) rfl w⟩
  rcases hx with ⟨z,_⟩ | ⟨dd,z,_,hdd⟩
  ·rw [z] at ed; cases ed
  ·rw [z] at ed; cases ed; exact⟨_,nt _ _ hdd⟩
 ·exact w.elim
noncomputable def P4(k1 k2:Str)(v1 v2:Int):DW:=λn _ P=>P (.dic [.inr k1,.inr k2] [.int v1,.int v2]) n
theorem Ry{k1 k2:Str}{v1 v2:Int}{j1 j2 j3 j4 q1 q2 q3 q4}(hk:(aQ k1:Key)≠aQ k2):DE X (.Dict [some (.Constant (.str k1) j1 q1),some (.Constant (.str k2) j2 q2)] [.Constant (.int v1) j3 q3,.Constant (.int v2) j4 q4] pos) .fr (P4 k1 k2 v1 v2):=by
 refine⟨_,S2 (LJ Jv Au (LJ Jv Au Sr)) rfl rfl (by intro z; cases z) (show 2<=15 by decide),λC M H n ρ σ P Q R w q=>λp hp=>?_⟩
 refine⟨AN,[(.inr k1,.int v1),(.inr k2,.int v2)],rfl,(show 2<=15 by decide),?_⟩
 have em:FE [] [((aQ k1:Key),V.int v1),(aQ k2,V.int v2)]=[((aQ k1:Key),V.int v1),(aQ k2,V.int v2)]:=by
  simp only [FE,List.foldl_cons,List.foldl_nil,putK,List.any_nil,b_,eU]
  have hk':¬k1=k2:=λz=>hk (by rw [z])
  simp [hk']
 rw [em]
 have eu:Ar (Ar H p (.dK [])) p (.dK [((aQ k1:Key),V.int v1),(aQ k2,V.int v2)])=Ar H p (.dK [((aQ k1:Key),V.int v1),(aQ k2,V.int v2)]):=by
  funext b
  by_cases e:b=p
  ·subst e; rw [AN,AN]
  ·rw [AM e,AM e,AM e]
 rw [eu]
 have g:Grow H (Ar H p (.dK [((aQ k1:Key),V.int v1),(aQ k2,V.int v2)])):=Al hp
 exact q _ _ (.dic [.inr k1,.inr k2] [.int v1,.int v2]) n g.ext (R.feed.grow g) ⟨p,rfl,hp,[.int v1,.int v2],AN,rfl,_,_,rfl,rfl,_,_,rfl,rfl,rfl⟩ w
end
section
variable {X:Cx}{κ:Kd}{es:List Expr}{pos fpos:Pos}{body:List Stmt}{b:BW}{wb:AS}{p cp:Pos}{x:Str}{i j:Nat}{tpos:Pos}
theorem Pa{Φ:Fm->Prop}(hΦ:∀C k p,Φ C->Φ { C with kp:=k,pins:=p })(hp:PassesOwn (model X.prog X.w) X.A X.env X.xe)(hc:X.calm=true)(hgl:Gl X "enumerate")(hm:X.mg "enumerate"=none)(h:PE X (.Name x p) (Bl i))(hg:DG X (.Tuple es j tpos) b)(hb:MG Φ X κ body wb)
  (hs:autoParam (∀y,foldedSetIterable (.Call (.Name "enumerate" cp) [.Name x p] [] pos) X.env y=pure y) zau2._auto_1) (hst:autoParam (starEach [.Name x p] X.env=[(false,eval (.Name x p) X.env)]) zau3._auto_1) :
  Wn Φ X κ (.For (.Tuple es j tpos) (.Call (.Name "enumerate" cp) [.Name x p] [] pos) body [] fpos) (P1 i b wb):=by
 obtain⟨g,g1,g2⟩:=hg
 obtain⟨tb,b1,b2⟩:=hb
 refine⟨_,Me hp hc (Sv hgl hm h hst) g1 b1 hs,λC M H n ρ σ D2 E hC R L w=>?_⟩
 obtain⟨ds,hi,w⟩:=w
 obtain⟨v,e1,hAt⟩:=R.sl i _ hi
 obtain⟨a,vs,rfl,nV,hH,hat⟩:=hAt
 obtain⟨o,ho,hro⟩:∃o,H a=some o/\∀H':Hp,H' a=some o->SqL X.K H' a vs:=by
  rcases hH with z | ⟨u,z⟩
  ·exact⟨_,z,λH' e=>.inl (.inl e)⟩
  ·exact⟨_,z,λH' e=>.inl (.inr ⟨u,e⟩)⟩
 refine⟨.ref a,getD_some e1,true,a,vs,rfl,hro H ho,?_⟩
 obtain⟨kp',R1,less,st⟩:∃kp',Rel X.K { C with kp:=kp' } M H n ρ σ/\(∀{M H n ρ σ},Rel X.K { C with kp:=kp' } M H n ρ σ->Rel X.K C M H n ρ σ)/\(∀M' H' n' ρ' σ',Rel X.K { C with kp:=kp',pins:=(M,H)::C.pins } M' H' n' ρ' σ'->SqL X.K H' a vs):=by
  by_cases hM:M a
  ·refine⟨(a,o)::C.kp,⟨R.len,R.sub,R.dom,R.ext,R.fU,R.uV,R.vM,R.feed,R.sl,R.pin,R.br0,R.new,R.two,λq hq=>?_⟩,λR=>R.lessKp,λM' H' n' ρ' σ' R'=>hro H' (R'.kept (a,o) On).1⟩
   rcases UF.mp hq with rfl | hq
   ·refine⟨ho,hM,nV,λj e q z=>?_⟩
    obtain⟨u,hu⟩:=R.br0 i _ a hi e1
    have:=(R.new j _ a q rfl z).2
    rw [hu] at this
    cases this
   ·exact R.kept q hq
  ·exact⟨C.kp,R,λR=>R,λM' H' n' ρ' σ' R'=>hro H' ((R'.pin (M,H) On).1 a o ho hM)⟩
 have el:=GL 0 ds
 refine⟨λi m σ' H'=>m=ds.length - i/\i<=ds.length/\∃M' n' ρ',Rel X.K { C with kp:=kp',pins:=(M,H)::C.pins } M' H' n' ρ' σ'/\Bk b wb D2 ((CP 0 ds).drop i) n' ρ',⟨ds.length,by simp,Zt _,M,n,ρ,R1.pinned,w⟩,?_⟩
 rintro i m σ' H' ⟨rfl,hil,M',n',ρ',R',w'⟩
 have pr:Pres M H M' H':=R'.pin (M,H) On
 have hq:=st M' H' n' ρ' σ' R'
 have y:=Ls (κ:=true) hat (i:=i) pr (show SqK true X.K H' a vs from hq) R'.dom
 by_cases hlt:i<ds.length
 ·have ed:(CP 0 ds).drop i=(CP 0 ds)[i]::(CP 0 ds).drop (i+1):=ay (by omega)
  rw [ed] at w'
  obtain⟨go,yl⟩:=y.1 _ (Op (by omega))
  refine .inr ⟨go,λσ2 H2=>∃M2 n2 ρ2,Rel X.K { C with kp:=kp',pins:=(M,H)::C.pins } M2 H2 n2 ρ2 σ2/\Bk b wb D2 ((CP 0 ds).drop (i+1)) n2 ρ2,λσ2 H2 ⟨M2,n2,ρ2,R2',w2⟩=>⟨ds.length - (i+1),by omega,rfl,hlt,M2,n2,ρ2,R2',w2⟩,λx H2 hy=>?_⟩
  obtain⟨gr,hx⟩:=yl x H2 hy
  have R2':=R'.step gr.ext (R'.feed.grow gr)
  refine g2 _ M' H2 n' ρ' σ' _ x _ _ R2' hx w' λρ3 σ3 R3 w3=>?_
  refine b2 _ M' H2 n' ρ3 σ3 { D2 with nx:=Bk b wb D2 ((CP 0 ds).drop (i+1)),ct:=Bk b wb D2 ((CP 0 ds).drop (i+1)),bk:=D2.nx } _ (hΦ C _ _ hC) R3 ⟨λM4 H4 n4 ρ4 σ4 R4 w4=>⟨M4,n4,ρ4,R4,w4⟩,L.rt,λM4 H4 n4 ρ4 σ4 R4 w4=>L.nx M4 H4 n4 ρ4 σ4 (less R4.unpin) w4,λM4 H4 n4 ρ4 σ4 R4 w4=>⟨M4,n4,ρ4,R4,w4⟩⟩ w3
 ·have e:i=ds.length:=by omega
  rw [List.drop_eq_nil_of_le (by omega)] at w'
  exact .inl ⟨y.2 (by omega),L.nx M' H' n' ρ' σ' (less R'.unpin) w'⟩
end
section
variable {X:Cx}
theorem JT{k:Nat}{ps:List Str}{κ:Kd}{W:W2}{x:Str}{p pos:Pos}(G:Got X.prog X.w X.K X.mg X.base x k ps κ W)
  (hr:Room k X.A) (hg:Gl X x) (hdb:autoParam ((x==("__debug__" : Str))=false) zau1._auto_1):DE X (.Call (.Name x p) [] [] pos) κ (An W Am):=by
 obtain⟨f,fd,G,hm,hk,hb,hW⟩:=G
 refine⟨_,Qq G hr hg hm hk hb .nil Qs hdb,λC M H n ρ σ P Q R w q=>?_⟩
 show E5 X.K κ W ps.length ([]++[]) H Q E0
 rw [aR]
 refine⟨hW _ _ _ w,C.F,C.U,C.V,M,n,[],P,⟨R.dom,R.fU,R.uV,R.vM,R.feed,.nil⟩,w,λv H2 d n2 e2 f2 r2 p2=>?_⟩
 exact q v H2 d n2 e2 f2 r2 p2
end
end Dp
namespace K72
open PySem PySem.Spec PyProof.Rows L2 Dp Nt
noncomputable def top(i:Nat):Stmt:=PySem.Challenge.pw_thinnet_k72_lines_refused.main.body.getD i (.Pass ⟨0,0,0,0⟩)
noncomputable def Uo(s:Stmt):Stmt:=match s with
 | .ClassDef _ _ _ b _ _ _ _ _ _ _=>b.getD 0 (.Pass ⟨0,0,0,0⟩)
 | _=>.Pass ⟨0,0,0,0⟩
noncomputable abbrev E8:Stmt:=top 14
noncomputable abbrev D0:Stmt:=top 15
noncomputable abbrev F9:Stmt:=top 16
noncomputable abbrev D1:Stmt:=top 18
noncomputable abbrev C2:Stmt:=top 19
noncomputable abbrev CT:Stmt:=top 20
noncomputable abbrev Dz:Stmt:=top 21
noncomputable abbrev DU:Stmt:=top 22
noncomputable abbrev E7:Stmt:=top 23
noncomputable abbrev D9:Stmt:=top 25
noncomputable abbrev Cs:Stmt:=top 26
noncomputable abbrev DV:Stmt:=top 27
noncomputable abbrev C4:Stmt:=top 28
noncomputable abbrev C5:Stmt:=top 29
noncomputable abbrev D6:Stmt:=top 30
noncomputable abbrev E9:Stmt:=top 31
noncomputable abbrev DX:Stmt:=top 32
noncomputable abbrev Cd:Stmt:=top 33
noncomputable abbrev CD:Stmt:=top 34
noncomputable abbrev D8:Stmt:=top 35
noncomputable abbrev D7:Stmt:=top 36
noncomputable abbrev D5:Stmt:=top 37
noncomputable abbrev D4:Stmt:=top 38
noncomputable abbrev Br:Stmt:=top 39
noncomputable abbrev C3:Stmt:=top 40
noncomputable abbrev Ce:Stmt:=top 41
noncomputable abbrev HM:Stmt:=top 42
noncomputable abbrev Be:Stmt:=Uo (top 2)
noncomputable abbrev Bo:Stmt:=Uo (top 3)
structure Txt (K:Frag) (mg:Str->Option Value):Prop where
 n_ValueError:mg "ValueError"=none
 n_all:mg "all"=none
 n_bool:mg "bool"=none
 n_enumerate:mg "enumerate"=none
 n_int:mg "int"=none
 n_isinstance:mg "isinstance"=none
 n_len:mg "len"=none
 n_list:mg "list"=none
 n_max:mg "max"=none
 n_min:mg "min"=none
 n_range:mg "range"=none
 n_repr:mg "repr"=none
 n_sorted:mg "sorted"=none
 n_str:mg "str"=none
 n_tuple:mg "tuple"=none
 g_MOST_SIGNS:∃t,mg "MOST_SIGNS"=some (.int 8 t)
 g_MOST_NUMBER:∃t,mg "MOST_NUMBER"=some (.int 1000000 t)
 g_MOST_PLACES:∃t,mg "MOST_PLACES"=some (.int 24 t)
 g_MOST_TIES:∃t,mg "MOST_TIES"=some (.int 60 t)
 x_NoPaper:∃C U,XC K "NoPaper" C U/\mg "NoPaper"=some (.ref C)
 x_NoLine:∃C U,XC K "NoLine" C U/\mg "NoLine"=some (.ref C)
 x_TooMany:∃C U,XC K "TooMany" C U/\mg "TooMany"=some (.ref C)
 x_Twice:∃C U,XC K "Twice" C U/\mg "Twice"=some (.ref C)
 x_NoPlace:∃C U,XC K "NoPlace" C U/\mg "NoPlace"=some (.ref C)
 x_NoTie:∃C U,XC K "NoTie" C U/\mg "NoTie"=some (.ref C)
 x_NoRow:∃C U,XC K "NoRow" C U/\mg "NoRow"=some (.ref C)
 x_ThinError:∃U,Wm K U/\mg "ThinError"=some (.ref U)/\nsIn K mainGlobals "ThinError"=some (some (.ref U))
section
variable {P:Program}{w:World}{K:Frag}{mg:Str->Option Value}{base:Heap}
theorem sc__law_next:Ah ["_law_feed_here","_law_many","_law_digit","_law_at","_law_cell","_law_first"] ["_law_feed_here","_law_many"] (AK Cs):=⟨rfl,rfl,rfl,by decide +kernel,rfl,by decide +kernel,by decide +kernel⟩
theorem TC{f:Addr}{fd:FuncData}(F:Fun K "_law_next" "_law_next" Cs f fd)(ml:mg "len"=none):A5 P w K mg base Cb 1 f fd ["_law_feed_here","_law_many"] (E5 K .sh Bj 2):=by
 refine F.ok sc__law_next (λvs H Q E h=>h.1) (λcdv A outer s H vs Q E hr h=>?_)
 obtain⟨hl,F0,U,V',M,n,ss,Pd,ra,⟨m,rfl,hm1,hm2,hn,hP⟩,q⟩:=h
 obtain⟨dom,fU,uV,vM,fd0,pa⟩:=ra
 cases pa with
 | cons r1 pa =>
 cases pa with
 | cons r2 pa =>
 cases pa
 obtain⟨⟨f0,c⟩,e0,hF⟩:=r1.1
 cases e0
 obtain⟨v2,e2,h2⟩:=r2.1
 cases e2
 cases (show _=V.int m from h2)
 obtain⟨a,r,cells,hf,hcf,hc,hcl,ha0,han⟩:=fd0 (f0,c) hF
 have fin:∀(a' r' z:Int) (H':Hp),(∀b o,H b=some o->b≠f0->H' b=some o)->H' f0=some (.lst [.ref c,.int a',.int r'])->0<=a'->a'<=a+1->0<=z->z<m->Q (.int z) H':=by
  intro a' r' z H' hk hf' h0 h1 hz0 hz1
  refine q (.int z) H' (.int z) (n - 1) (λb o e=>?_) (λg hg=>?_) rfl (hP z hz0 hz1)
  ·by_cases hb:b=f0
   ·subst hb
    exact⟨_,hf',λnu=>absurd (fU (b,c) hF) nu,λvs z=>by rw [z,hf] at e; cases e⟩
   ·exact⟨o,hk b o e hb,λ_=>rfl,λ_ _=>rfl⟩
  ·have:g=(f0,c):=T0 (hg.symm.trans hF)
   subst this
   exact⟨a',r',cells,hf',hcf,⟨hc.1,hk c _ hc.2 hcf⟩,hcl,h0,by omega⟩
 have hu:(A.deeper (envOfC "_law_next" (AK Cs) s.heap.objs.size f cdv)).units<cLine:=hr.units0
 have hsq:∀{H':Hp} {xs:List V},H' f0=some (.lst xs)->SqL K H' f0 xs:=λh=>SqL.of h
 have ed:∀z:Int,0<=z % m/\z % m<m:=λz=>⟨eI _ (by omega),dR _ (by omega)⟩
 refine⟨_,BK (NY (Fc op_gt (Ek ix_list (pv 0) Au (λ_ _=>rfl)) Au (AU _))
   (BK (FA (i:=2) sc__law_next.nd rfl (ZB rfl) (Bh C6 (Ek ix_list (pv 0) Au (λ_ _=>rfl)) (pv 1)))
   (BK (Mf (Bh G2 (Ek ix_list (pv 0) Au (λ_ _=>rfl)) (pv 1)) (Mj (pv 0) Au set_list))
   (Ct (GC (pv 2))))) Ju)
  (BK (FA (i:=3) sc__law_next.nd rfl (ZB rfl) (Ek ix_list (pv 0) Au (λ_ _=>rfl)))
  (BK (Mf (Bh op_add (pv 3) Au) (Mj (pv 0) Au set_list))
  (BK (FA (i:=4) sc__law_next.nd rfl (ZB rfl) (LM (Fc (Oz hu) (Ek ix_list (pv 0) Au (λ_ _=>rfl)) (Ml B1) (AU _))
   (Ek ix_list (Ek ix_list (pv 0) Au (λ_ _=>rfl)) (Bh C6 (pv 3) (Cf Af rfl ml PySem.boot_len (A9 (Ek ix_list (pv 0) Au (λ_ _=>rfl)) B1))) (λ_ _=>rfl)) Au))
  (BK (NY (PW.pt (Qb (Fc Xl (pv 4) (Bh Mm Au Au) (AU _)) (NW (Fc op_lt (pv 3) (Cf Af rfl ml PySem.boot_len (A9 (Ek ix_list (pv 0) Au (λ_ _=>rfl)) B1)) (AU _)))))
   (BK (Mf (Bh G2 (pv 4) (pv 1)) (Mj (pv 0) Au set_list))
   (Ct (GC (Bh C6 (pv 4) (pv 1))))) Ju)
  (BK (FA (i:=5) sc__law_next.nd rfl (ZB rfl) (Bh C6 (Bh op_mul (Bh op_add (Bh op_add (Bh op_add (Bh C6 (pv 4) Au) (Bh op_mul (Bh op_mul Au (pv 3)) (pv 3))) (Bh op_mul Au (pv 3))) Au) Au) Au))
  (Ct (GC (Bh C6 (Bh G2 (Bh C6 (Bh op_mul (Bh op_add (pv 5) (Bh op_mul Au (pv 3))) Au) Au) Au) (pv 1))))))))),?_⟩
 refine⟨_,rfl,f0,_,2,_,rfl,rfl,hsq hf,rfl,_,_,rfl,rfl,_,rfl,?_⟩
 refine Dg (λc1=>?_) (λc1=>?_)
 ·refine⟨_,rfl,f0,_,2,_,rfl,rfl,hsq hf,rfl,_,rfl,_,_,rfl,rfl,(by show (0:Int)<m; omega),?_⟩
  refine⟨_,rfl,f0,_,2,_,rfl,rfl,hsq hf,rfl,_,rfl,_,_,rfl,rfl,⟨(by show (0:Int)<m; omega),hm2⟩,_,rfl,f0,_,2,2,rfl,rfl,hf,rfl,?_⟩
  refine⟨_,rfl,?_⟩
  exact fin a _ _ _ (λb o e hb=>by rw [AM hb]; exact e) AN ha0 (by omega) (ed _).1 (ed _).2
 ·-- at=feed[1]; feed[1]=at+1
  refine⟨_,rfl,f0,_,1,_,rfl,rfl,hsq hf,rfl,?_⟩
  refine⟨_,rfl,_,_,rfl,rfl,_,rfl,f0,_,1,1,rfl,rfl,hf,rfl,?_⟩
  generalize hH1:Ar H f0 (.lst ([V.ref c,V.int a,V.int r].set 1 (V.int (a+1))))=H1
  have f1:H1 f0=some (.lst [.ref c,.int (a+1),.int r]):=by rw [← hH1]; exact AN
  have k1:∀b o,H b=some o->b≠f0->H1 b=some o:=λb o e hb=>by rw [← hH1,AM hb]; exact e
  have c1':H1 c=some (.lst (cells.map V.int)):=k1 c _ hc.2 hcf
  have rest:∀(z:Int) (H2:Hp),(∀b o,H1 b=some o->H2 b=some o) ->
    (Ob (W4 (W_ (NO (Cz (GV λi j=>V.bl (decide (j<=i))) (Bl 4) (Cz (rI SK λi j=>V.int (i ^ j.toNat)) (tC (V.int 10)) (tC (V.int 18))))) (NO (Cz (GV λi j=>V.bl (decide (i<j))) (Bl 3) (YS (λxs H Q=>∃x n,xs=[x]/\WY K x H n/\Q (V.int n) H) (NP (Cz (VP K) (Bl 0) (tC (V.int 0))) P9))))) (Ob (K8 (Cz (rI SM λi j=>V.int (i / j)) (Bl 4) (Bl 1)) (Xx (Bl 0) (tC (V.int 2)) UV)) (SY (Cz (rI (λ_ j=>0<j) λi j=>V.int (i % j)) (Bl 4) (Bl 1)))) UP) (Ob (K8 (Cz (rI (λ_ j=>0<j) λi j=>V.int (i % j)) (Cz (rI CMul λi j=>V.int (i*j)) (Cz (GV λi j=>V.int (i+j)) (Cz (GV λi j=>V.int (i+j)) (Cz (GV λi j=>V.int (i+j)) (Cz (rI (λ_ j=>0<j) λi j=>V.int (i % j)) (Bl 4) (tC (V.int 1000003))) (Cz (rI CMul λi j=>V.int (i*j)) (Cz (rI CMul λi j=>V.int (i*j)) (tC (V.int 41)) (Bl 3)) (Bl 3))) (Cz (rI CMul λi j=>V.int (i*j)) (tC (V.int 17)) (Bl 3))) (tC (V.int 3))) (tC (V.int 51749))) (tC (V.int 999917))) (Gb 5)) (SY (Cz (rI (λ_ j=>0<j) λi j=>V.int (i % j)) (Cz (rI SM λi j=>V.int (i / j)) (Cz (rI (λ_ j=>0<j) λi j=>V.int (i % j)) (Cz (rI CMul λi j=>V.int (i*j)) (Cz (GV λi j=>V.int (i+j)) (Bl 5) (Cz (rI CMul λi j=>V.int (i*j)) (tC (V.int 8111)) (Bl 3))) (tC (V.int 39373))) (tC (V.int 2097143))) (tC (V.int 3))) (Bl 1)))))
     { nx:=λ_ H'=>Q .non H',rt:=Q } [some (.ref f0),some (.int m),none,some (.int a),some (.int z),none] H2:=by
   intro z H2 k2
   have f2:=k2 _ _ f1
   have c2:=k2 _ _ c1'
   have lastWay:∀H3:Hp,H3=H2->(Ob (K8 (Cz (rI (λ_ j=>0<j) λi j=>V.int (i % j)) (Cz (rI CMul λi j=>V.int (i*j)) (Cz (GV λi j=>V.int (i+j)) (Cz (GV λi j=>V.int (i+j)) (Cz (GV λi j=>V.int (i+j)) (Cz (rI (λ_ j=>0<j) λi j=>V.int (i % j)) (Bl 4) (tC (V.int 1000003))) (Cz (rI CMul λi j=>V.int (i*j)) (Cz (rI CMul λi j=>V.int (i*j)) (tC (V.int 41)) (Bl 3)) (Bl 3))) (Cz (rI CMul λi j=>V.int (i*j)) (tC (V.int 17)) (Bl 3))) (tC (V.int 3))) (tC (V.int 51749))) (tC (V.int 999917))) (Gb 5)) (SY (Cz (rI (λ_ j=>0<j) λi j=>V.int (i % j)) (Cz (rI SM λi j=>V.int (i / j)) (Cz (rI (λ_ j=>0<j) λi j=>V.int (i % j)) (Cz (rI CMul λi j=>V.int (i*j)) (Cz (GV λi j=>V.int (i+j)) (Bl 5) (Cz (rI CMul λi j=>V.int (i*j)) (tC (V.int 8111)) (Bl 3))) (tC (V.int 39373))) (tC (V.int 2097143))) (tC (V.int 3))) (Bl 1))))
     { nx:=λ_ H'=>Q .non H',rt:=Q } [some (.ref f0),some (.int m),none,some (.int a),some (.int z),none] H3:=by
    intro H3 e3
    subst e3
    have hb:CMul (41*a) a:=.inr ⟨by omega,by omega⟩
    refine⟨_,rfl,_,_,rfl,rfl,(by show (0:Int)<1000003; decide),_,rfl,_,_,rfl,rfl,.inl ⟨by decide,by decide⟩,_,rfl,_,_,rfl,rfl,hb,_,_,rfl,rfl,_,rfl,_,_,rfl,rfl,.inl ⟨by decide,by decide⟩,_,_,rfl,rfl,_,_,rfl,rfl,_,_,rfl,rfl,.inr ⟨by decide,by decide⟩,_,_,rfl,rfl,(by show (0:Int)<999917; decide),?_⟩
    refine⟨_,rfl,_,rfl,_,_,rfl,rfl,.inl ⟨by decide,by decide⟩,_,_,rfl,rfl,_,_,rfl,rfl,.inr ⟨by decide,by decide⟩,_,_,rfl,rfl,(by show (0:Int)<2097143; decide),_,_,rfl,rfl,⟨by decide,by decide⟩,_,rfl,_,_,rfl,rfl,(by show (0:Int)<m; omega),?_⟩
    exact fin (a+1) r _ _ (λb o e hb=>k2 b o (k1 b o e hb)) f2 (by omega) (by omega) (ed _).1 (ed _).2
   refine⟨_,rfl,_,_,rfl,rfl,⟨by decide,by decide,by decide⟩,_,_,rfl,rfl,_,rfl,?_⟩
   refine Dg (λc3=>?_) (λc3=>?_)
   ·refine⟨_,rfl,_,rfl,f0,_,0,_,rfl,rfl,hsq f2,rfl,_,_,rfl,.inl ⟨_,SqL.of c2,rfl⟩,_,_,rfl,rfl,_,rfl,?_⟩
    refine Dg (λc4=>?_) (λc4=>lastWay H2 rfl)
    refine⟨_,rfl,_,rfl,_,_,rfl,rfl,⟨(by show (0:Int)<m; omega),hm2⟩,_,rfl,f0,_,2,2,rfl,rfl,f2,rfl,?_⟩
    refine⟨_,rfl,_,rfl,_,_,rfl,rfl,(by show (0:Int)<m; omega),?_⟩
    exact fin (a+1) _ _ _ (λb o e hb=>by rw [AM hb]; exact k2 b o (k1 b o e hb)) AN (by omega) (by omega) (ed _).1 (ed _).2
   ·refine Dg (λc4=>absurd c4 (by simp)) (λ_=>lastWay H2 rfl)
  refine⟨_,rfl,f0,_,0,_,rfl,rfl,hsq f1,rfl,(by show 0<=sizeLine; decide),λp hp=>?_⟩
  have kp:∀b o,H1 b=some o->Ar H1 p (.lst []) b=some o:=λb o e=>by rw [AM (BM e hp)]; exact e
  refine⟨c,p,_,rfl,rfl,SqL.of (kp _ _ c1'),SqL.of AN,_,rfl,?_⟩
  cases cells with
  | nil=>exact BR (rest 0 _ kp)
  | cons z0 cs =>
   refine BC ?_
   have hlen:(((z0::cs).map V.int).length:Int)=(cs.length:Int)+1:=by simp
   have hpos:(0:Int)<(((z0::cs).map V.int).length:Int):=by omega
   obtain⟨z,hz⟩:∃z,atI ((z0::cs).map V.int) (a % (((z0::cs).map V.int).length:Int))=some (.int z):=by
    have h1:=eI a (show (((z0::cs).map V.int).length:Int)≠0 by omega)
    have h2:=dR a hpos
    generalize a % (((z0::cs).map V.int).length:Int)=j at h1 h2
    obtain⟨k,rfl⟩:∃k:Nat,j=(k:Int):=⟨j.toNat,by omega⟩
    have hk:k<(z0::cs).length:=by rw [Cn] at h2; omega
    refine⟨(z0::cs)[k],AR ?_⟩
    rw [Zn,Op hk]
    rfl
   refine⟨_,rfl,f0,_,0,_,rfl,rfl,hsq (kp _ _ f1),rfl,_,rfl,_,rfl,f0,_,0,_,rfl,rfl,hsq (kp _ _ f1),rfl,_,_,rfl,.inl ⟨_,SqL.of (kp _ _ c1'),rfl⟩,_,_,rfl,rfl,hpos,c,_,_,_,rfl,rfl,SqL.of (kp _ _ c1'),hz,?_⟩
   exact rest z _ kp
end
end K72
namespace L2
open PySem PySem.Spec PyProof.Rows
noncomputable def DRaw(h:Heap)(a:Addr)(es:Array DictEntry)(ep:Nat):Prop:=∃o,h.get? a=some o/\o.ExactDict/\o.data=.dict es ep
section
variable {P:Program}{w:World}{A:Around}{E:Value->Shared->Prop}{s:Shared}{d t:Addr}{es:Array DictEntry}{ep i:Nat}
theorem DRaw.ty(x:DRaw s.heap d es ep):s.TypeIs (.ref d) "dict":=let ⟨o,h1,h2,_⟩:=x; ⟨o,h1,h2.1⟩
theorem DRaw.lt{h:Heap}(x:DRaw h d es ep):d<h.objs.size:=let ⟨_,h1,_⟩:=x; Sc h1
theorem DRaw.to{h h':Heap}(x:DRaw h d es ep)(k:∀o,h.get? d=some o->h'.get? d=some o):DRaw h' d es ep:=let ⟨o,h1,h2⟩:=x; ⟨o,k o h1,h2⟩
theorem QT{Q:Value->Shared->Prop}(lo:(d==sysModules)=false)(x:DRaw s.heap d es ep)
  (q:Q (.ref s.heap.objs.size) { s with heap:=s.heap.push { cls:=.type "dict_keyiterator",data:=.fields #[.ref d,.int 0 0,.int es.size 0,.int ep 0] } }):wpAny (model P w) A (pyIter (.ref d)) Q E s:=by
 have T:=x.ty
 obtain⟨o,h1,h2,h3⟩:=x
 refine wpAny_pyIter_slot T F.slot_dict_iter (av F.slot_dict_iter T F.entry_dict_iter ?_ (F.args_dict_iter_1 _))
 unfold Builtin.«dict.__iter__»; refine Ch ?_
 unfold Builtin.Dict.dictSlotNone; refine Ch (wpAny_notOrdered_dict T ?_)
 show wpAny (model P w) _ (pure (TM d)) _ _ s; refine Db ?_
 show wpAny (model P w) _ (eR d >>= _) _ _ s; unfold eR
 rw [if_neg (by rw [lo]; decide)]; refine Ch (Db (Ch (de h1 h3 (Ch (eJ h1 h3 ?_)))))
 refine Ch (Z3 (Db ⟨_,rfl,"dict_keyiterator",_,⟨_,XV _ rfl,rfl⟩,ao.lookup,?_⟩)); simpa [rawInt] using q
theorem QU{Q:Option Value->Shared->Prop}(x:s.heap.IsKeyIter t d i es.size ep)(y:DRaw s.heap d es ep)(hi:i<es.size)
  (q:∀h',h'.IsKeyIter t d (i+1) es.size ep->bH t s.heap h'->Q (some es[i].key) { s with heap:=h' }):wpAny (model P w) A (pyNext (.ref t)) Q E s:=by
 have T:=x.typeIs
 obtain⟨o,g1,g2,g3⟩:=x
 obtain⟨od,h1,h2,h3⟩:=y
 unfold pyNext; refine Ch (dW (aS (name:=aH "__next__") T ao (av ao T dC ?_ (c_ _))))
 refine Ch (Db (Ch (Ch ?_)))
 first | refine Ch (bC T (Db ?_)) | refine Ch (bZ T (Db ?_))
 refine Ch (wpAny_fieldsOf g1 g3 ?_)
 have ow:dI "dict_keyiterator"=false:=by decide
 simp only [ow,Z5,if_false]
 show wpAny (model P w) _ (if (TM d==Zx)=true then _ else _) _ _ s
 rw [if_neg (show ¬(TM d==Zx)=true by intro z; cases z)]; refine Ch (Db (Ch (de h1 h3 ?_)))
 rw [if_neg (by simp)]; refine Ch (Db (Ch (eJ h1 h3 ?_)))
 rw [if_neg (by simp)]; refine Db ?_
 simp only [show ¬(i:Int)<0 by omega,if_false,bQ,cG hi]; refine Ch ?_
 first | refine Ch (bC T (Db ?_)) | refine Ch (bZ T (Db ?_))
 refine Ch (wpAny_isOneOf_keyiter T ?_); show wpAny (model P w) _ (setField (.ref t) 1 (rawInt ((i:Int)+1)) >>= _) _ _ s
 refine Ch (bX g1 g3 (by simp) ?_)
 have g':(s.heap.update t (au (·.setIfInBounds 1 (rawInt ((i:Int)+1))))).IsKeyIter t d (i+1) es.size ep:=⟨_,af _ g1 (cq (bK g3 _)),(Obj.cls_mapFields ..).trans g2,by rw [bK g3]; simp [rawInt]⟩
 refine Ch (aD (Ch (wpAny_isOneOf_keyiter (s:={ s with heap:=s.heap.update t (au (·.setIfInBounds 1 (rawInt ((i:Int)+1)))) }) g'.typeIs ?_)))
 show wpAny (model P w) _ (pure es[i].key) _ _ _; exact Db (Db ⟨_,rfl,Db (q _ g' (cB ..))⟩)
theorem Sj{Q:Option Value->Shared->Prop}(hh:A.handled=none)(x:s.heap.IsKeyIter t d i es.size ep)(y:DRaw s.heap d es ep)(hi:es.size<=i)
  (q:∀h',eO t s.heap h'->Q none { s with heap:=h' }):wpAny (model P w) A (pyNext (.ref t)) Q E s:=by
 have T:=x.typeIs
 obtain⟨o,g1,g2,g3⟩:=x
 obtain⟨od,h1,h2,h3⟩:=y
 unfold pyNext; refine Ch (dW (aS (name:=aH "__next__") T ao (av ao T dC ?_ (c_ _))))
 refine Ch (Db (Ch (Ch ?_)))
 first | refine Ch (bC T (Db ?_)) | refine Ch (bZ T (Db ?_))
 refine Ch (wpAny_fieldsOf g1 g3 ?_)
 have ow:dI "dict_keyiterator"=false:=by decide
 simp only [ow,Z5,if_false]
 show wpAny (model P w) _ (if (TM d==Zx)=true then _ else _) _ _ s
 rw [if_neg (show ¬(TM d==Zx)=true by intro z; cases z)]; refine Ch (Db (Ch (de h1 h3 ?_)))
 rw [if_neg (by simp)]; refine Ch (Db (Ch (eJ h1 h3 ?_)))
 rw [if_neg (by simp)]; refine Db ?_
 simp only [show ¬(i:Int)<0 by omega,if_false,bQ,Array.getElem?_eq_none hi]; refine Ch ?_
 first | refine Ch (bC T (Db ?_)) | refine Ch (bZ T (Db ?_))
 show wpAny (model P w) _ (setField (.ref t) 0 .none >>= _) _ _ s; refine Ch (bX g1 g3 (by simp) ?_)
 show wpAny (model P w) _ (newExc (.type "StopIteration") [] >>= _) _ _ _; refine Ch ?_
 simp only [newExc,newTuple]; refine Ch (Z3 ?_ (by size_fits))
 refine Ch (m:=firstArgMember _ _) (wpAny_of_eq (a:=Zx) (by first | rfl | (simp only [firstArgMember]; rfl)) (Z3 ?_ (by size_fits)))
 simp only [raiseNew]; refine Ch (wpAny_handled ?_)
 rw [show A.in1.handled=none from hh]; refine Ch (Db (wpAny_throw ?_)); refine Ch (wpAny_isInstance (T := "StopIteration") (b:=true) ⟨_,XV _ rfl,rfl⟩ isSubtype_stop ?_)
 exact Db (q _ (((cB ..).extBut.push _).push _))
theorem Oo(hh:A.handled=none)(I d:Addr)(hne:d≠I)(es:Array DictEntry)(ep:Nat):Walks P w A I [I,d] [I] es.size (λi v=>∃e,es[i]?=some e/\v=e.key) (λi h=>h.IsKeyIter I d i es.size ep/\DRaw h d es ep) where
 sub:=λb hb=>by rw [Zp.mp hb]; exact On
 frame:=λ_ _ _ st hk=>⟨st.1.at λo e=>hk I (by simp) o e,st.2.to λo e=>hk d (by simp) o e⟩
 item:=λi s Q E hi st hQ=>QU st.1 st.2 hi λh' it' sb=>hQ _ h' s.toks ⟨_,cG hi,rfl⟩ ⟨it',st.2.to λo e=>sb.extBut d o hne e⟩ λb o hb e=>sb.extBut b o (λh=>hb (by simp [h])) e
 done:=λs Q E st hQ=>Sj hh st.1 st.2 (Go _) λh' he=>hQ h' s.toks λb o hb e=>he b o (λh=>hb (by simp [h])) e
 self:=λ_ _ _ _ st hQ=>wpAny_pyIter_keyiter st.1 hQ
theorem Si(lo:(d==sysModules)=false):PySem.W.KdlSrc P w "dict" d d es.size (λi v=>∃e,es[i]?=some e/\v=e.key) (λh=>DRaw h d es ep) where
 type:=λ_ x=>x.ty
 there:=λ_ x=>⟨x.lt,x.lt⟩
 keep:=λ_ _ x k=>x.to λo e=>k d (.inl rfl) o e
 notList:=by decide
 notTuple:=by decide
 hint:=λ_ _ _ _ x q=>PySem.W.kdl_hint_dict x.ty q
 iter:=λ_ _ hh x=>⟨_,_,(λ_ _ q=>QT lo x q),Oo hh _ d (Zs x.lt) es ep,⟨⟨_,XV _ rfl,rfl,rfl⟩,x.to λo e=>Ev _ e⟩⟩
end
end L2
namespace L2
open PySem PySem.Spec PyProof.Rows PySem.W
theorem Np(k:Key):kOf k=kV k:=by cases k <;> rfl
theorem TY(ks:List Key):ks.map kOf=ks.map kV:=aO λk _=>Np k
section
variable {X:Cx}
theorem Tp{P:Program}{w:World}{H:Hp}{h:Heap}{d:Addr}{kvs:List (List Key×V)}(ok:HOk P w H h)(hd:Rd H d (.dT kvs)) :
  ∃(o:Obj) (es:Array DictEntry) (ep:Nat) (as:List Addr),h.get? d=some o/\o.ExactDict/\o.data=.dict es ep/\as.length=kvs.length/\es.size=kvs.length /\
   (∀(i:Nat) (e:DictEntry),es[i]?=some e->∃a,as[i]?=some a/\e.key=.ref a)/\∀(i:Nat) (a:Addr) (p:List Key×V),as[i]?=some a->kvs[i]?=some p->H a=some (.tup (p.1.map kV)):=by
 obtain⟨_,_,xs,r,o,es,ep,h1,h2,h3,h4,h5,h6⟩:=Lu ok hd
 have hl:kvs.length=xs.length:=by
  have:∀{l:List (List Key×V)} {m:List (List Key×Addr×Value)},KT H l m->l.length=m.length:=λq=>q.length
  exact this r
 have hes:es.size=xs.length:=by rw [← Z8,h4,Cn]
 refine⟨o,es,ep,xs.map λx=>x.2.1,h1,h2,h3,by rw [Cn,hl],by rw [hes,hl],λi e he=>?_,λi a p ha hp=>?_⟩
 ·rw [← cr,h4,Zn] at he
  obtain⟨x,hx,rfl⟩:=aY.mp he
  exact⟨x.2.1,by rw [Zn,hx]; rfl,rfl⟩
 ·rw [Zn] at ha
  obtain⟨x,hx,rfl⟩:=aY.mp ha
  have:=LN r hp hx
  exact this.2.1
noncomputable def QW:List V->Hp->VK->Prop:=λxs H Q=>∃(d:Addr) (kvs:List (List Key×V)),xs=[.ref d]/\Rd H d (.dT kvs)/\kvs.length<64/\(∀x∈kvs.map (·.1),∀y∈kvs.map (·.1),A8 x y=true)/\(∀x∈kvs.map (·.1),x≠[]) /\
 ∀(as:List Addr) (ix:List Nat) (l:Addr),as.length=kvs.length->(∀(i:Nat) (a:Addr) (p:List Key×V),as[i]?=some a->kvs[i]?=some p->H a=some (.tup (p.1.map kV)))->OR (kvs.map (·.1)) ix->H l=none ->
  Q (.ref l) (Ar H l (.lst (ix.map λi=>(as.map V.ref).getD i .non)))
theorem ND(hc:X.calm=true):B9 X (.builtin "sorted") QW:=by
 intro pins s σ H xs us Q I r h
 obtain⟨d,kvs,rfl,hd,h64,hsm,hne,q⟩:=h
 obtain⟨u,rfl,rx⟩:=vals1 r
 cases rx
 obtain⟨o,es,ep,as,g1,g2,g3,g4,g5,g6,g7⟩:=Tp I.hok hd
 have lo:=(Lu I.hok hd).2.1
 refine Jj (kw:=[]) (args_sorted1 _) (λx=>args_list_sort _) (PySem.W.kdu_collect (Si (P:=X.prog) (w:=X.w) (es:=es) (ep:=ep) lo) (show X.A.in1.handled=none from by simp [I.ok.hd hc]) ⟨o,g1,g2,g3⟩ (by rw [Z2]; omega) λh' tk acc hkp hacc=>⟨by rw [Z8,hacc.1,Z2]; omega,?_⟩)
 have I1:Inv X pins σ H { s with heap:=h',toks:=tk }:=I.kept (t':=tk) hkp
 have hv:acc.toList=as.map TM:=by
  refine List.ext_getElem? λi=>?_
  cases hx:acc.toList[i]? with
  | some v =>
   obtain⟨e,he,rfl⟩:=hacc.2 i v (by rw [← cr]; exact hx)
   obtain⟨a,ha,hk⟩:=g6 i e he
   rw [Zn,ha,hk]; rfl
  | none =>
   have:acc.toList.length<=i:=List.getElem?_eq_none_iff.mp hx
   rw [Z8,hacc.1] at this
   rw [List.getElem?_eq_none (by rw [Cn]; omega)]
 rw [hv]
 refine Od I1 (Io as) (by rw [Cn]; omega) (keys:=kvs.map (·.1)) ⟨by rw [Cn,Cn]; exact g4,λi ns e=>?_,hsm,hne⟩ λix l ho hl=>q as ix l g4 g7 ho hl
 rw [Zn] at e
 obtain⟨p,hp,rfl⟩:=aY.mp e
 have hil:i<as.length:=by rw [g4]; exact(Z1.mp hp).1
 refine⟨as[i],by rw [Zn,Op hil]; rfl,?_⟩
 rw [TY]
 exact SqT.of (g7 i _ p (Op hil) hp)
end
end L2
namespace Dp
open PySem PySem.Spec PyProof.Rows L2
noncomputable def tupK(k:List Key):D:=.tup (k.map Y3)
theorem Ld{K:Frag}{M:Addr->Prop}{H:Hp}:∀{k:List Key},(∀x∈k,Fj x)->Ats K M H (k.map Y3) (k.map kV)
 | [],_=>rfl
 | x::k,h=>⟨kV x,k.map kV,rfl,by rw [← Np]; exact WB (h x On),Ld λy hy=>h y (Is _ hy)⟩
theorem K4{K:Frag}{M:Addr->Prop}{H:Hp}:∀{ks:List (List Key)} {as:List Addr},as.length=ks.length->(∀k∈ks,∀x∈k,Fj x)->(∀(i:Nat) (a:Addr) (k:List Key),as[i]?=some a->ks[i]?=some k->H a=some (.tup (k.map kV)))->Ats K M H (ks.map tupK) (as.map V.ref)
 | [],[],_,_,_=>rfl
 | k::ks,a::as,hl,hf,h=>⟨.ref a,as.map V.ref,rfl,⟨a,k.map kV,rfl,h 0 a k rfl rfl,Ld (hf k On)⟩,K4 (by simpa using hl) (λk hk=>hf k (Is _ hk)) λi a' k' e1 e2=>h (i+1) a' k' (by simpa using e1) (by simpa using e2)⟩
section
variable {X:Cx}
noncomputable def RM(ds:List D)(P:D->Prop):Prop:=∃(ks:List (List Key)) (es:List D),ds=[.dit ks es]/\ks.length=es.length/\ks.length<64/\(∀x∈ks,∀y∈ks,A8 x y=true)/\(∀x∈ks,x≠[])/\(∀k∈ks,∀x∈k,Fj x) /\
 ∀ks':List (List Key),ks'.Perm ks->ks'.Pairwise (λa b=>C7 b a=false)->P (.lst (ks'.map tupK))
theorem Qt{ks:List (List Key)}{ix:List Nat}(h:OR ks ix):(ix.map λi=>ks.getD i []).Perm ks/\(ix.map λi=>ks.getD i []).Pairwise (λa b=>C7 b a=false):=by
 obtain⟨h1,h2⟩:=h
 have il:ix.length=ks.length:=by rw [h1.length_eq,bA]
 constructor
 ·have:=h1.map λi=>ks.getD i []
  have e:(Z0 ks.length).map (λi=>ks.getD i [])=ks:=by
   apply List.ext_getElem
   ·simp
   ·intro i h1 h2
    simp [h2]
  rw [e] at this
  exact this
 ·rw [di]
  intro i j hi hj hij
  rw [Cn] at hi hj
  have:=h2 i j (dj hij) (by omega)
  rw [List.getElem_map,List.getElem_map]
  rw [Zw (l:=ix),Op hj,Zw (l:=ix),Op hi] at this
  exact this
theorem T_:Cy X.K .fr QW RM:=by
 intro U M H ds vs P Q dom vM hp w q
 obtain⟨ks,es,rfl,hl,h64,hsm,hne,hf,w⟩:=w
 obtain⟨v,rfl,hx⟩:=Cu hp
 obtain⟨a,us,rfl,ha,hs⟩:=Rm hx
 have hul:=hs.length
 have ez:(ks.zip us).map (·.1)=ks:=List.map_fst_zip (by omega)
 have ezl:(ks.zip us).length=ks.length:=by rw [eG]; omega
 refine⟨a,_,rfl,ha,by omega,by rw [ez]; exact hsm,by rw [ez]; exact hne,λas ix l has hat ho hlf=>?_⟩
 rw [ez] at ho
 obtain⟨o1,o2⟩:=Qt ho
 have hA:Ats X.K M H (ks.map tupK) (as.map V.ref):=K4 (by omega) hf λi b k e1 e2=>by
  have hi:i<(ks.zip us).length:=by rw [ezl]; exact(Z1.mp e2).1
  have:=hat i b _ e1 (Op hi)
  rw [List.getElem_zip] at this
  obtain⟨_,e3⟩:=Z1.mp e2
  rw [e3] at this
  exact this
 have e4:(ix.map λi=>(ks.map tupK).getD i .non)=(ix.map λi=>ks.getD i []).map tupK:=by
  rw [aC]
  refine aO λi hi=>?_
  have hil:i<ks.length:=aW.mp (ho.1.mem_iff.mp hi)
  show (ks.map tupK).getD i .non=tupK (ks.getD i [])
  rw [Zw,Zw,Zn,Op hil]
  rfl
 have:=w _ o1 o2
 rw [← e4] at this
 exact q _ _ (.lst _) (Al hlf) (B4 hlf (hA.pick ix)) this
end
end Dp
namespace Nt
open PySem PySem.Spec PyProof.Rows L2 Dp
noncomputable abbrev EE(Pd:D->Nat->Prop):E2:={ nx:=λn _=>Kd.sh=.sh/\Pd .non n,rt:=Pd }
theorem BI{b:BW}{te:DW}{P:List D->Nat->Prop}(g:D->D)(I:List Slot->Prop):∀(ds acc:List D) (n:Nat) (ρ:List Slot),
  (∀d∈ds,∀(ρ:List Slot) (n:Nat) (nx:D->Nat->List Slot->Prop),I ρ->(∀ρ',I ρ'->nx (g d) n ρ')->b d ρ λρ1=>te n ρ1 λy n2=>nx y n2 ρ1)->I ρ->P (acc++ds.map g) n->EA b Eh te P ds acc n ρ
 | [],acc,n,ρ,_,_,h=>by rw [bw,aR] at h; exact h
 | d::ds,acc,n,ρ,ht,hρ,h=>ht d On ρ n (λy n2 ρ1=>EA b Eh te P ds (acc++[y]) n2 ρ1) hρ λρ' hρ' =>
  BI g I ds (acc++[g d]) n ρ' (λd hd=>ht d (Is _ hd)) hρ' (by rw [ap]; exact h)
theorem RU{α:Type}{l:List α}{p:α->Bool}{P:D->Prop}(h:P (.bl (l.all p))):RW [.lst (l.map λa=>.bl (p a))] P :=
 ⟨_,_,rfl,MD p l,by rw [en]; exact h⟩
theorem R9{b1 b2:Bool}{P:D->Nat->Prop}{n:Nat}{k:(D->Nat->Prop)->Prop}(hk:b1=true->P (.bl b2) n->k P)(h:P (.bl (b1&&b2)) n):(match (.bl b1:D) with | .bl true=>k P | .bl false=>P (.bl false) n | _=>False):=R6 hk h
noncomputable abbrev Wb(g:D->Bool):W2:=Ug 1 λds=>.bl (g (ds.getD 0 .non))
theorem Wb.out{g:D->Bool}{ss:List Slot}{n:Nat}{P:D->Nat->Prop}(h:Wb g ss n P):∃d,ss=[.sh d]/\P (.bl (g d)) n:=by
 obtain⟨ds,hl,rfl,h⟩:=h
 match ds,hl with
 | [d],_=>exact⟨d,rfl,h⟩
noncomputable def U8:D->Bool
 | .int _=>true
 | _=>false
noncomputable def TJ:D->Bool
 | .int i=>decide (1<=i)&&decide (i<=1000000)
 | _=>false
noncomputable def Ci:D->Bool
 | .str x=>(decide (1<=x.length)&&decide (x.length<=8))&&(cs x).all λc=>decide (97<=c)&&decide (c<=122)
 | _=>false
noncomputable abbrev Kp:W2:=Wb U8
noncomputable abbrev HA:W2:=Wb TJ
noncomputable abbrev OK:W2:=Wb Ci
noncomputable def NF:AS:=(A1 (HF (SS "int" (AE 0)) (U_ (SS "bool" (AE 0)))))
noncomputable def L8:AS:=(A1 (HF (An Kp (AI (Ap (AE 0)) Am)) (E3 GK GK (wC (D.int 1)) (AE 0) (wC (D.int 1000000)))))
noncomputable def Pl:AS:=(Ai (BP (FU (GS (Ae (SS "str" (AE 0)))) (GS (Ae (E3 GK GK (wC (D.int 1)) (CM Bt (AB (AE 0) AV)) (wC (D.int 8)))))) (A1 (wC (D.bl false))) A2)
 (A1 (CM RW (AB (CB [none] (CS (AE 0)) (BH 0) Eh (E3 GK GK (wC (D.str "a")) (AE 0) (wC (D.str "z")))) AV))))
section
variable {ss:List Slot}{n:Nat}{Pd:D->Nat->Prop}
theorem LD(h:Kp ss n Pd):NF (EE Pd) n (ss++Re 0 .no):=by
 obtain⟨d,rfl,q⟩:=h.out
 cases d <;> exact q
theorem Jr(h:HA ss n Pd):L8 (EE Pd) n (ss++Re 0 .no):=by
 obtain⟨d,rfl,q⟩:=h.out
 refine⟨[d],rfl,rfl,?_⟩
 cases d with
 | int i=>exact R9 (k:=λP=>P (.bl _) n) (λ_ h=>h) q
 | _=>exact q
theorem QD(c:Nat):((!(decide ([c]<("a" : Str).cps.toList)))&&(!(decide (("z" : Str).cps.toList<[c]))))=(decide (97<=c)&&decide (c<=122)):=by
 have ea:("a" : Str).cps.toList=[97]:=by decide +kernel
 have ez:("z" : Str).cps.toList=[122]:=by decide +kernel
 rw [ea,ez,bn]
 simp only [Zo,bu,decide_eq_false_iff_not,decide_eq_true_eq,List.cons_lt_cons_iff,List.not_lt_nil,and_false,or_false]
 omega
theorem EZ(x:Str):(Dp.signs x).length=x.length:=by unfold Dp.signs; rw [Cn]; exact FK x
theorem Ma(h0:OK ss n Pd):Pl (EE Pd) n (ss++Re 0 .no):=by
 obtain⟨d,rfl,h⟩:=h0.out
 clear h0
 cases d with
 | str x =>
  have h':Pd (.bl ((decide (1<=x.length)&&decide (x.length<=8))&&(cs x).all λc=>decide (97<=c)&&decide (c<=122))) n:=h
  refine⟨_,_,rfl,rfl,?_⟩
  by_cases h1:1<=x.length
  ·have i1:decide ((1:Int)<=(x.length:Int))=true:=decide_eq_true (by omega)
   by_cases h2:x.length<=8
   ·have i2:decide ((x.length:Int)<=8)=true:=decide_eq_true (by omega)
    rw [decide_eq_true h1,decide_eq_true h2,aV,aV] at h'
    show (match (.bl (decide ((1:Int)<=(x.length:Int))):D) with | .bl true=>_ | .bl false=>_ | _=>False)
    rw [i1]
    show (if (!decide ((x.length:Int)<=8))=true then _ else _)
    rw [i2]
    refine BR ⟨by rw [EZ]; omega,?_⟩
    refine BI (λd=>match d with | .str z=>.bl ((!(decide (z.cps.toList<("a" : Str).cps.toList)))&&(!(decide (("z" : Str).cps.toList<z.cps.toList)))) | _=>.non) (λρ=>∃s,ρ=[s]) _ _ _ _ ?_ ⟨_,rfl⟩ ?_
    ·rintro d hd ρ m nx ⟨s,rfl⟩ hnx
     obtain⟨c,hc,rfl⟩:=Zu.mp hd
     exact R9 (P:=λy n2=>nx y n2 [.sh (.str ⟨#[c]⟩)]) (k:=λP=>P (.bl _) m) (λ_ h=>h) (hnx _ ⟨_,rfl⟩)
    ·rw [Z9]
     unfold Dp.signs
     rw [aC]
     show RW [.lst (x.cps.toList.map λc=>.bl ((!(decide ([c]<("a" : Str).cps.toList)))&&(!(decide (("z" : Str).cps.toList<[c])))))] λz=>Pd z n
     refine RU (p:=λc=>(!(decide ([c]<("a" : Str).cps.toList)))&&(!(decide (("z" : Str).cps.toList<[c])))) ?_
     rw [show (λc=>(!(decide ([c]<("a" : Str).cps.toList)))&&(!(decide (("z" : Str).cps.toList<[c]))))=λc=>decide (97<=c)&&decide (c<=122) from funext QD]
     exact h'
   ·have i2:decide ((x.length:Int)<=8)=false:=decide_eq_false (by omega)
    rw [decide_eq_true h1,decide_eq_false h2,bv,bW] at h'
    show (match (.bl (decide ((1:Int)<=(x.length:Int))):D) with | .bl true=>_ | .bl false=>_ | _=>False)
    rw [i1]
    show (if (!decide ((x.length:Int)<=8))=true then _ else _)
    rw [i2]
    exact BC h'
  ·have i1:decide ((1:Int)<=(x.length:Int))=false:=decide_eq_false (by omega)
   rw [decide_eq_false h1,bW,bW] at h'
   show (match (.bl (decide ((1:Int)<=(x.length:Int))):D) with | .bl true=>_ | .bl false=>_ | _=>False)
   rw [i1]
   exact BC h'
 | _=>exact h
end
theorem nameB_iff{d:D}:Ci d=true↔∃x,d=.str x/\DJ x:=by
 cases d with
 | str x =>
  simp only [Ci,DJ,Zo,decide_eq_true_eq,ah]
  constructor
  ·intro h; exact⟨x,rfl,h.1.1,h.1.2,h.2⟩
  ·rintro ⟨y,e,h1,h2,h3⟩; cases e; exact⟨⟨h1,h2⟩,h3⟩
 | _=>exact⟨(λh=>by cases h),fun⟨x,e,_⟩=>(by cases e)⟩
theorem HI{x:Str}(h:∀c∈cs x,c<1114112):PyData.strOk x=true:=by
 unfold PyData.strOk
 rw [← Array.all_toList,ah]
 intro c hc
 exact decide_eq_true (h c hc)
theorem Q4{x:Str}(h:DJ x):EC (.str x):=⟨rfl,HI λc hc=>by have:=h.2.2 c hc; omega,Zt _⟩
theorem Lc{ps:List Str}(h:∀p∈ps,DJ p):CG (ps.map .str)=true/\a_ (A6 (ps.map .str))=true/\aL (A6 (ps.map .str))=0:=by
 induction ps with
 | nil=>exact⟨rfl,rfl,rfl⟩
 | cons p r ih =>
  obtain⟨h1,h2,h3⟩:=ih λq hq=>h q (Is _ hq)
  have hp:=Q4 (h p On)
  refine⟨by rw [TW,CG,h1]; rfl,?_,?_⟩
  ·rw [TW,A6,a_,h2,eV]
   exact hp.2.1
  ·rw [TW,A6,aL,h3]
   rfl
theorem Eb{ps:List Str}(h:∀p∈ps,DJ p):EC (.tup (ps.map .str)):=by
 obtain⟨h1,h2,h3⟩:=Lc h
 refine⟨h1,h2,?_⟩
 show aL (A6 (ps.map .str))+1<=100
 rw [h3]; decide
section
variable {ss:List Slot}{n:Nat}{Pd:D->Nat->Prop}
end
mutual
noncomputable def KR(B:Nat):D->Prop
 | .int i=>i.natAbs<=B
 | .str x=>∀c∈cs x,c<1114112
 | .tup ds=>Lm B ds
 | .lst ds=>Lm B ds
 | .dic _ _=>False
 | .fdi _ _=>False
 | .dit _ _=>False
 | _=>True
noncomputable def Lm(B:Nat):List D->Prop
 | []=>True
 | d::ds=>KR B d/\Lm B ds
end
mutual
noncomputable def SO:D->Nat
 | .int _=>200
 | .str x=>x.length
 | .tup ds=>Se ds
 | .lst ds=>Se ds
 | _=>0
noncomputable def Se:List D->Nat
 | []=>0
 | d::ds=>SO d+1+Se ds
end
mutual
noncomputable def Ri:D->Nat
 | .tup ds=>JS ds+1
 | .lst ds=>JS ds+1
 | _=>0
noncomputable def JS:List D->Nat
 | []=>0
 | d::ds=>max (Ri d) (JS ds)
end
theorem fines_iff{B:Nat}:∀{ds:List D},Lm B ds↔∀d∈ds,KR B d
 | []=>⟨(λ_ d h=>by cases h),λ_=>trivial⟩
 | d::ds=>by
  have ih:=@fines_iff B ds
  constructor
  ·rintro ⟨h1,h2⟩ e he
   rcases UF.mp he with rfl | he
   ·exact h1
   ·exact ih.mp h2 e he
  ·exact λh=>⟨h d On,ih.mpr λe he=>h e (Is _ he)⟩
theorem dps_le{k:Nat}:∀{ds:List D},JS ds<=k↔∀d∈ds,Ri d<=k
 | []=>⟨(λ_ d h=>by cases h),λ_=>Zt _⟩
 | d::ds=>by
  have ih:=@dps_le k ds
  show max (Ri d) (JS ds)<=k↔_
  rw [Nat.max_le,ih]
  constructor
  ·rintro ⟨h1,h2⟩ e he
   rcases UF.mp he with rfl | he
   ·exact h1
   ·exact h2 e he
  ·exact λh=>⟨h d On,λe he=>h e (Is _ he)⟩
mutual
theorem KQ{B:Nat}(hB:B<10 ^ 45):∀{d:D},KR B d->El d=true/\(toPy d).showable=true/\(toPy d).canLay0=true/\(toPy d).depth=Ri d/\(toPy d).leavesShort 60=true/\(toPy d).weight<=SO d
 | .non,_=>⟨rfl,rfl,rfl,rfl,rfl,Go _⟩
 | .bl b,_=>⟨rfl,rfl,rfl,rfl,rfl,Go _⟩
 | .int i,h=>by
  have h':i.natAbs<=B:=h
  have hlt:i.natAbs<10 ^ 45:=dO h' hB
  have h2:i.natAbs<2 ^ 150:=Nat.lt_trans hlt (by decide)
  have hl:i.natAbs.log2<150:=by
   by_cases h0:i.natAbs=0
   ·rw [h0]; decide
   ·exact(Nat.log2_lt h0).mpr h2
  refine⟨rfl,?_,rfl,rfl,?_,?_⟩
  ·show decide (i.natAbs.log2<1920)=true
   exact decide_eq_true (by omega)
  ·show decide ((PyData.shown (.int i)).length<=60)=true
   refine decide_eq_true ?_
   have:=int_text_length_le10 (a:=i) (k:=45) (by decide) hlt
   show (aH (toString i)).length<=60
   rw [PySem.ofString_length]
   omega
  ·show (if i==0 then 0 else i.natAbs.log2+1)<=200
   split <;> omega
 | .str x,h=>by
  have h':∀c∈cs x,c<1114112:=h
  refine⟨rfl,rfl,HI h',rfl,?_,Go _⟩
  show (x.cps.toList.all λc=>decide (c<16 ^ 8))=true
  rw [ah]
  intro c hc
  exact decide_eq_true (Nat.lt_trans (h' c hc) (by decide))
 | .tup ds,h=>by
  obtain⟨h1,h2,h3,h4,h5,h6⟩:=Hz hB (ds:=ds) h
  refine⟨h1,h2,h3,?_,h5,h6⟩
  show aL (A6 ds)+1=JS ds+1
  rw [h4]
 | .lst ds,h=>by
  obtain⟨h1,h2,h3,h4,h5,h6⟩:=Hz hB (ds:=ds) h
  refine⟨h1,h2,h3,?_,h5,h6⟩
  show aL (A6 ds)+1=JS ds+1
  rw [h4]
 | .dic ks ds,h=>(show False from h).elim
 | .fdi ks ds,h=>(show False from h).elim
 | .dit ks ds,h=>(show False from h).elim
theorem Hz{B:Nat}(hB:B<10 ^ 45):∀{ds:List D},Lm B ds->CG ds=true/\PyData.showableAll (A6 ds)=true/\a_ (A6 ds)=true/\aL (A6 ds)=JS ds/\eS 60 (A6 ds)=true/\PyData.weightAll (A6 ds)<=Se ds
 | [],_=>⟨rfl,rfl,rfl,rfl,rfl,Go _⟩
 | d::ds,h=>by
  obtain⟨h1,h2,h3,h4,h5,h6⟩:=KQ hB (d:=d) h.1
  obtain⟨g1,g2,g3,g4,g5,g6⟩:=Hz hB (ds:=ds) h.2
  refine⟨?_,?_,?_,?_,?_,?_⟩
  ·show (El d&&CG ds)=true
   rw [h1,g1]; rfl
  ·show ((toPy d).showable&&PyData.showableAll (A6 ds))=true
   rw [h2,g2]; rfl
  ·show ((toPy d).canLay0&&a_ (A6 ds))=true
   rw [h3,g3]; rfl
  ·show max (toPy d).depth (aL (A6 ds))=max (Ri d) (JS ds)
   rw [h4,g4]
  ·show ((toPy d).leavesShort 60&&eS 60 (A6 ds))=true
   rw [h5,g5]; rfl
  ·show (toPy d).weight+1+PyData.weightAll (A6 ds)<=SO d+1+Se ds
   omega
end
theorem NS{B:Nat}{d:D}(hB:B<10 ^ 45)(h:KR B d)(hd:Ri d<=100)(hs:SO d<=200000):QE d:=by
 obtain⟨h1,h2,h3,h4,h5,h6⟩:=KQ hB h
 refine⟨h1,h2,by rw [h4]; exact hd,?_⟩
 have:=PyData.shown_le 60 (by decide) (toPy d) h5
 rw [PySem.sizeLine_eq]
 have:62*(toPy d).weight<=62*200000:=Nat.mul_le_mul_left _ (by omega)
 omega
theorem Mv{B:Nat}{d:D}(hB:B<10 ^ 45)(h:KR B d)(hd:Ri d<=100):EC d:=by
 obtain⟨h1,h2,h3,h4,h5,h6⟩:=KQ hB h
 exact⟨h1,h3,by rw [h4]; exact hd⟩
section
variable {ss:List Slot}{n:Nat}{Pd:D->Nat->Prop}
end
section
variable {ss:List Slot}{n:Nat}{Pd:D->Nat->Prop}
end
theorem PB{α:Type}(p:α->Bool)(l:List α):CG (l.map λa=>D.bl (p a))=true/\a_ (A6 (l.map λa=>D.bl (p a)))=true/\aL (A6 (l.map λa=>D.bl (p a)))=0:=by
 induction l with
 | nil=>exact⟨rfl,rfl,rfl⟩
 | cons a r ih =>
  obtain⟨h1,h2,h3⟩:=ih
  refine⟨by rw [TW,CG,h1]; rfl,by rw [TW,A6,a_,h2,eV]; rfl,?_⟩
  rw [TW,A6,aL,h3]
  rfl
theorem V5(b:Bool):PY (.bl b) (.bl false)=!b:=by cases b <;> rfl
theorem WH{α:Type}(p:α->Bool)(l:List α):((l.map λa=>D.bl (p a)).any λy=>PY y (.bl false))=!(l.all p):=by
 induction l with
 | nil=>rfl
 | cons a r ih=>rw [TW,b_,bg,ih,V5,Bool.not_and]
theorem Lj{α:Type}{p:α->Bool}{l:List α}{neg:Bool}{P:D->Prop}(h:P (.bl (if neg then l.all p else !(l.all p)))):Lr neg (.bl false) (.lst (l.map λa=>.bl (p a))) P:=by
 obtain⟨h1,h2,h3⟩:=PB p l
 refine⟨⟨rfl,rfl,Zt _⟩,⟨h1,h2,?_⟩,_,rfl,?_⟩
 ·show aL (A6 (l.map λa=>D.bl (p a)))+1<=100
  rw [h3]; decide
 ·rw [WH,Bool.not_not]
  exact h
theorem Lb(c:Nat):(!(aA letters ⟨#[c]⟩ 0 letters.length 1).isEmpty)=(decide (97<=c)&&decide (c<=122)):=by
 rw [PySem.StrLaws.found_one letters c]
 by_cases h:97<=c/\c<=122
 ·obtain⟨h1,h2⟩:=h
  rw [decide_eq_true h1,decide_eq_true h2]
  have:∀c<123,97<=c->letters.cps.toList.contains c=true:=by decide +kernel
  have:=this c (by omega) h1
  first | exact this | simpa using this
 ·rw [show (decide (97<=c)&&decide (c<=122))=false by rw [Bool.and_eq_false_iff,decide_eq_false_iff_not,decide_eq_false_iff_not]; omega]
  have hall:∀x∈letters.cps.toList,97<=x/\x<=122:=by decide +kernel
  have:letters.cps.toList.contains c=false:=by
   rw [cZ]
   intro hc
   exact h (hall c (cu.mp hc))
  first | exact this | simpa using this
section
variable {ss:List Slot}{n:Nat}{Pd:D->Nat->Prop}
end
noncomputable def item(d:D):Prop:=KR 1000001 d/\SO d<=450/\Ri d<=1
theorem MO{k:Nat}:∀{ds:List D},(∀d∈ds,SO d+1<=k)->Se ds<=k*ds.length
 | [],_=>Zt _
 | d::ds,h=>by
  have h1:=h d On
  have h2:=MO (ds:=ds) λe he=>h e (Is _ he)
  show SO d+1+Se ds<=k*(ds.length+1)
  rw [Nat.mul_succ]; omega
theorem Fl{B:Nat}{xs:List D}(h:∀d∈xs,KR B d):KR B (.tup xs):=fines_iff.mpr h
theorem item_str{x:Str}(h1:x.length<=8)(h2:∀c∈cs x,c<1114112):item (.str x):=⟨h2,by show x.length<=450; omega,Zt _⟩
theorem GJ{x:Str}(h:DJ x):item (.str x):=item_str h.2.1 λc hc=>by have:=h.2.2 c hc; omega
theorem RA{a b:Str}{l:Int}(ha:item (.str a))(hb:item (.str b))(la:a.length<=8)(lb:b.length<=8)(hl:l.natAbs<=1000001):item (.tup [.str a,.str b,.int l]):=by
 refine⟨Fl λd hd=>?_,?_,?_⟩
 ·simp only [UF,aB,or_false] at hd
  rcases hd with rfl | rfl | rfl
  ·exact ha.1
  ·exact hb.1
  ·exact hl
 ·show a.length+1+(b.length+1+(200+1+0))<=450
  omega
 ·show max 0 (max 0 (max 0 0))+1<=1
  decide
theorem Lh{N:Net}(ok:N.Ok):∀d∈N.ts.map Bb,item d:=λd hd=>by
 obtain⟨t,ht,rfl⟩:=Zu.mp hd
 obtain⟨h1,h2,_,h3,h4⟩:=ok.tin t ht
 have n1:=ok.names _ h1
 have n2:=ok.names _ h2
 exact RA (GJ n1) (GJ n2) n1.2.1 n2.2.1 (by omega)
theorem Ta{N:Net}(ok:N.Ok):∀d∈N.ps.map D.str,item d:=λd hd=>by
 obtain⟨x,hx,rfl⟩:=Zu.mp hd
 exact GJ (ok.names x hx)
theorem VC{xs ys:List D}(hx:∀d∈xs,item d)(hy:∀d∈ys,item d)(lx:xs.length<=26)(ly:ys.length<=80):KR 1000001 (.tup [.tup xs,.tup ys])/\SO (.tup [.tup xs,.tup ys])<=48000/\Ri (.tup [.tup xs,.tup ys])<=3:=by
 have s1:=MO (k:=451) λd hd=>d8 (hx d hd).2.1
 have s2:=MO (k:=451) λd hd=>d8 (hy d hd).2.1
 have d1:JS xs<=1:=dps_le.mpr λd hd=>(hx d hd).2.2
 have d2:JS ys<=1:=dps_le.mpr λd hd=>(hy d hd).2.2
 refine⟨Fl λd hd=>?_,?_,?_⟩
 ·simp only [UF,aB,or_false] at hd
  rcases hd with rfl | rfl
  ·exact Fl λd hd=>(hx d hd).1
  ·exact Fl λd hd=>(hy d hd).1
 ·show Se xs+1+(Se ys+1+0)<=48000
  omega
 ·show max (JS xs+1) (max (JS ys+1) 0)+1<=3
  omega
theorem GO(x:Str):¬cs x<cs x:=dH _
theorem z1:1<=sizeLine:=by decide
theorem z2:2<=sizeLine:=by decide
theorem z3:3<=sizeLine:=by decide
theorem z0:0<=sizeLine:=Zt _
theorem Zb:SK 10 6:=⟨by decide,by decide,by decide⟩
section
variable {ss:List Slot}{n:Nat}{Pd:D->Nat->Prop}
end
noncomputable def Wy(s t:Bv):Decidable (s=t) :=
 if h:s.a=t.a/\s.b=t.b/\s.len=t.len then .isTrue (by obtain⟨a,b,l⟩:=s; obtain⟨a',b',l'⟩:=t; obtain⟨h1,h2,h3⟩:=h; simp only at h1 h2 h3; subst h1 h2 h3; rfl) else .isFalse λe=>h (by rw [e]; exact⟨rfl,rfl,rfl⟩)
noncomputable instance:DecidableEq Bv:=Wy
noncomputable abbrev EF(Pd:D->Nat->Prop):E2:={ nx:=λn _=>Kd.fr=.sh/\Pd .non n,rt:=Pd }
section
variable {ss:List Slot}{n:Nat}{Pd:D->Nat->Prop}
theorem O_{xs:List D}(h:∀d∈xs,item d):EC (.lst xs):=by
 have d1:JS xs<=1:=dps_le.mpr λd hd=>(h d hd).2.2
 exact Mv (B:=1000001) (by decide) (fines_iff.mpr λd hd=>(h d hd).1) (by show JS xs+1<=100; omega)
end
noncomputable def X5(t:Bv):List Key:=[.inr t.a,.inr t.b]
theorem ekey_iff{s t:Bv}:C7 (X5 s) (X5 t)=true↔Dh s t:=by
 show (if (aQ s.a:Key)=.inr t.a then (if (aQ s.b:Key)=.inr t.b then false else decide (cs s.b<cs t.b)) else decide (cs s.a<cs t.a))=true↔(cs s.a<cs t.a\/(s.a=t.a/\cs s.b<cs t.b))
 by_cases h1:s.a=t.a
 ·rw [if_pos (by rw [h1])]
  by_cases h2:s.b=t.b
  ·rw [if_pos (by rw [h2]),h1,h2]
   constructor
   ·intro h; cases h
   ·rintro (h | ⟨_,h⟩)
    ·exact absurd h (GO _)
    ·exact absurd h (GO _)
  ·rw [if_neg (λe=>h2 (az e)),decide_eq_true_eq,h1]
   constructor
   ·intro h; exact .inr ⟨rfl,h⟩
   ·rintro (h | ⟨_,h⟩)
    ·exact absurd h (GO _)
    ·exact h
 ·rw [if_neg (λe=>h1 (az e)),decide_eq_true_eq]
  constructor
  ·intro h; exact .inl h
  ·rintro (h | ⟨h,_⟩)
   ·exact h
   ·exact absurd h h1
theorem KZ{s t u:Bv}(h1:Dh s t)(h2:Dh t u):Dh s u:=ekey_iff.mp (De _ _ _ (ekey_iff.mpr h1) (ekey_iff.mpr h2))
end Nt
namespace L2
open PySem PySem.Spec PyProof.Rows PySem.W
section
variable {X:Cx}
end
end L2
namespace Dp
open PySem PySem.Spec PyProof.Rows L2
section
variable {X:Cx}{K:Frag}
end
end Dp
namespace Nt
open PySem PySem.Spec PyProof.Rows L2 Dp
section
variable {ss:List Slot}{n:Nat}{Pd:D->Nat->Prop}
theorem Fg{b:BW}{tt:F4}{te:DW}{P:List D->Nat->Prop}(c:D->Bool)(g:D->D)(I:List Slot->Prop):∀(ds acc:List D) (n:Nat) (ρ:List Slot),
  (∀d∈ds,∀(ρ:List Slot) (n:Nat) (nx:D->Nat->List Slot->Prop) (sk:Nat->List Slot->Prop),I ρ->(∀ρ',I ρ'->c d=true->nx (g d) n ρ')->(∀ρ',I ρ'->c d=false->sk n ρ')->b d ρ λρ1=>tt n ρ1 λc n1=>if c=true then te n1 ρ1 λy n2=>nx y n2 ρ1 else sk n1 ρ1)->I ρ->P (acc++(ds.filter c).map g) n->EA b tt te P ds acc n ρ
 | [],acc,n,ρ,_,_,h=>by rw [List.filter_nil,bw,aR] at h; exact h
 | d::ds,acc,n,ρ,ht,hρ,h=>ht d On ρ n (λy n2 ρ1=>EA b tt te P ds (acc++[y]) n2 ρ1) (λn2 ρ1=>EA b tt te P ds acc n2 ρ1) hρ
  (λρ' hρ' hc=>Fg c g I ds (acc++[g d]) n ρ' (λd hd=>ht d (Is _ hd)) hρ' (by rw [List.filter_cons_of_pos hc] at h; rw [ap]; exact h))
  (λρ' hρ' hc=>Fg c g I ds acc n ρ' (λd hd=>ht d (Is _ hd)) hρ' (by rw [List.filter_cons_of_neg (by rw [hc]; decide)] at h; exact h))
end
theorem Q3{N:Net}(ok:N.Ok){ts:List Bv}(h:∀t∈ts,t∈N.ts):EC (.tup (ts.map Bb))/\EC (.lst (ts.map Bb)):=by
 have it:∀d∈ts.map Bb,item d:=λd hd=>by
  obtain⟨t,ht,rfl⟩:=Zu.mp hd
  exact Lh ok _ (Zu.mpr ⟨t,h t ht,rfl⟩)
 have d1:JS (ts.map Bb)<=1:=dps_le.mpr λd hd=>(it d hd).2.2
 exact⟨Mv (B:=1000001) (by decide) (fines_iff.mpr λd hd=>(it d hd).1) (by show JS (ts.map Bb)+1<=100; omega),O_ it⟩
section
variable {ss:List Slot}{n:Nat}{Pd:D->Nat->Prop}
end
section
variable {ss:List Slot}{n:Nat}{Pd:D->Nat->Prop}
end
section
variable {ss:List Slot}{n:Nat}{Pd:D->Nat->Prop}
theorem Zc{i j:Int}(h0:0<=j)(h1:j<=1000000):CMul i j:=.inr ⟨by omega,by omega⟩
end
noncomputable def Ed(N:Net)(x y:Str)(l:Int):Prop:=(y,l)∈Za N.ts x
inductive Wk (N:Net) (s:Str):Str->Int->Prop
 | nil:Wk N s s 0
 | snoc {x y:Str} {d l:Int}:Wk N s x d->Ed N x y l->Wk N s y (d+l)
noncomputable def U4(N:Net)(s x:Str)(d:Int):Prop:=Wk N s x d/\∀d',Wk N s x d'->d<=d'
structure Zh (ks:List Key) (ds:List D) (YY:α->D) (F:Str->Option α):Prop where
 len:ks.length=ds.length
 at_:∀x:Str,HG ks ds (.inr x)=(F x).map YY
 dom:∀k∈ks,∃x:Str,k=.inr x
 nd:ks.Nodup
noncomputable abbrev Ya:=Str->Option (Int×Option Str)
structure Dj (N:Net) (s:Str) (F:Ya) (Wt:List Str):Prop where
 start:F s=some (0,none)
 ins:∀x,F x≠none->x∈N.ps
 wk:∀x d p,F x=some (d,p)->Wk N s x d
 prev:∀x d p,F x=some (d,p)->(p=none/\x=s)\/∃y dy q l,p=some y/\F y=some (dy,q)/\y∉Wt/\Ed N y x l/\d=dy+l
 wfound:∀x∈Wt,F x≠none
 nd:Wt.Nodup
 done:∀x d p y l,F x=some (d,p)->x∉Wt->Ed N x y l->∃dy q,F y=some (dy,q)/\dy<=d+l
 near:∀x d p y dy q,F x=some (d,p)->x∉Wt->F y=some (dy,q)->y∈Wt->d<=dy
structure Dm (N:Net) (s:Str) (F:Ya) (Wt:List Str) (v:Str) (dv:Int) (seen:List (Str×Int)):Prop where
 start:F s=some (0,none)
 ins:∀x,F x≠none->x∈N.ps
 wk:∀x d p,F x=some (d,p)->Wk N s x d
 prev:∀x d p,F x=some (d,p)->(p=none/\x=s)\/∃y dy q l,p=some y/\F y=some (dy,q)/\y∉Wt/\Ed N y x l/\d=dy+l
 wfound:∀x∈Wt,F x≠none
 nd:Wt.Nodup
 done:∀x d p y l,F x=some (d,p)->x∉Wt->x≠v->Ed N x y l->∃dy q,F y=some (dy,q)/\dy<=d+l
 near:∀x d p y dy q,F x=some (d,p)->x∉Wt->F y=some (dy,q)->y∈Wt->d<=dy
 here:∃p,F v=some (dv,p)
 out:v∉Wt
 least:∀x d p,F x=some (d,p)->x∉Wt->d<=dv
 gone:∀y l,(y,l)∈seen->∃dy q,F y=some (dy,q)/\dy<=dv+l
structure Told (N:Net) (s:Str) (F:Ya):Prop where
 start:F s=some (0,none)
 ins:∀x,F x≠none->x∈N.ps
 least:∀x d p,F x=some (d,p)->U4 N s x d
 all:∀x d,Wk N s x d->F x≠none
 prev:∀x d p,F x=some (d,p)->(p=none/\x=s)\/∃y dy q l,p=some y/\F y=some (dy,q)/\Ed N y x l/\d=dy+l
noncomputable abbrev Kn:=Str->Option Int
structure Bf (N:Net) (s:Str) (c:Nat) (K:Kn):Prop where
 start:∃d,K s=some d/\d<=0
 ins:∀x,K x≠none->x∈N.ps
 wk:∀x d,K x=some d->Wk N s x d
 top:∀x d,K x=some d->d<=1000000*(c:Int)
structure ZO (N:Net) (s:Str) (K:Kn):Prop where
 ins:∀x,K x≠none->x∈N.ps
 least:∀x d,K x=some d->U4 N s x d
 all:∀x d,Wk N s x d->K x≠none
 top:∀x d,K x=some d->d<=30000000
noncomputable def walk(N:Net):List Str->Int->Prop
 | [],_=>False
 | [_],d=>d=0
 | x::y::r,d=>∃l e,Ed N x y l/\walk N (y::r) e/\d=l+e
section
variable {ss:List Slot}{n:Nat}{Pd:D->Nat->Prop}
end
structure Ze (N:Net) (F:Ya) (b:Str) (db:Int) (acc:List Str) (pl:Option Str):Prop where
 st:(acc=[]/\pl=some b)\/∃z r dz,acc.reverse=z::r/\F z=some (dz,pl)/\walk N acc.reverse (db - dz)/\acc.reverse.getLast?=some b
 nd:acc.Nodup
 ins:∀x∈acc,x∈N.ps
 less:∀y dy q,pl=some y->F y=some (dy,q)->∀x∈acc,∃dx qx,F x=some (dx,qx)/\dy<dx
 fnd:∀y,pl=some y->F y≠none
section
variable {ss:List Slot}{n:Nat}{Pd:D->Nat->Prop}
end
section
variable {ss:List Slot}{n:Nat}{Pd:D->Nat->Prop}
end
theorem B8{α β:Type}(f:α->β)(xs:List α)(lo hi:Option Int):Dp.cutD (xs.map f) lo hi=(Dp.cutD xs lo hi).map f:=by
 unfold Dp.cutD
 rw [Cn,← List.map_drop,← List.map_take]
theorem CY{α:Type}(xs:List α)(lo hi:Option Int):(Dp.cutD xs lo hi).Sublist xs:=(List.take_sublist _ _).trans (List.drop_sublist _ _)
section
variable {ss:List Slot}{n:Nat}{Pd:D->Nat->Prop}
end
section
variable {ss:List Slot}{n:Nat}{Pd:D->Nat->Prop}
end
section
variable {ss:List Slot}{n:Nat}{Pd:D->Nat->Prop}
end
section
variable {ss:List Slot}{n:Nat}{Pd:D->Nat->Prop}
end
end Nt
namespace Dp
open PySem PySem.Spec PyProof.Rows L2
section
variable {X:Cx}{κ κe:Kd}{e:Expr}{we:DW}{pos p apos cpos p2 apos2 cpos2:Pos}{x y:Str}{i j:Nat}
end
end Dp
namespace Nt
open PySem PySem.Spec PyProof.Rows L2 Dp
section
variable {ss:List Slot}{n:Nat}{Pd:D->Nat->Prop}
end
section
variable {ss:List Slot}{n:Nat}{Pd:D->Nat->Prop}
end
end Nt
namespace L2
open PySem PySem.Spec PyProof.Rows
section
variable {prog:Program}{w:World}{A:Around}{E:Value->Shared->Prop}{s:Shared}{x y:Str}{t u:Tok}
end
section
variable {X:Cx}
end
end L2
namespace Dp
open PySem PySem.Spec PyProof.Rows L2
section
variable {K:Frag}
end
end Dp
namespace L2
open PySem PySem.Spec PyProof.Rows PySem.W
section
variable {X:Cx}
end
end L2
namespace Dp
open PySem PySem.Spec PyProof.Rows L2
end Dp
namespace L2
open PySem PySem.Spec PyProof.Rows PySem.W
section
variable {X:Cx}
end
end L2
namespace Dp
open PySem PySem.Spec PyProof.Rows L2
section
variable {K:Frag}
end
end Dp
namespace Nt
open PySem PySem.Spec PyProof.Rows L2 Dp
noncomputable def words26:List Str:=["a","aa","ab","abc","b","ba","bb","c","come","d","far","in","lay","m","n","near","out","place","q","r","tie","tree","x","xy","y","zzzzzzzz"]
noncomputable def Fy:W2:=λss n P=>ss=[]/\P (.lst (words26.map .str)) n
noncomputable def Fx:W2:=λss n P=>∃m:Nat,ss=[.fd,.sh (.int m)]/\m<=26/\2<=n/\∀xs:List Str,xs.length=m->(∀x∈xs,DJ x)->rising xs->P (.tup (xs.map .str)) (n - 2)
noncomputable def OM:W2:=λss n P=>∃s:Int,ss=[.fd,.sh (.int s)]/\0<=s/\s<=3/\1<=n/\∀r:Int,1<=r->r<=1000000->P (.int r) (n - 1)
noncomputable def Kq:W2:=λss n P=>∃(xs:List Str) (most:Nat),ss=[.fd,.sh (.tup (xs.map .str)),.sh (.int most)]/\(∀x∈xs,DJ x)/\rising xs/\xs.length<=26/\most<=60/\200<=n/\∀(ts:List Bv) (n':Nat),(⟨xs,ts⟩:Net).Ok->ts.length<=most->n - 200<=n'->P (.tup (ts.map Bb)) n'
noncomputable def OJ:W2:=λss n P=>∃most ties:Nat,ss=[.fd,.sh (.int most),.sh (.int ties)]/\most<=25/\ties<=60/\210<=n/\∀(N:Net) (n':Nat),N.Ok->N.ps.length<=most->N.ts.length<=ties->n - 210<=n'->P (YY N) n'
noncomputable def Et:AS:=(Ai (Bc 0 (Cp (AB (wC (D.str "a")) (AB (wC (D.str "aa")) (AB (wC (D.str "ab")) (AB (wC (D.str "abc")) (AB (wC (D.str "b")) (AB (wC (D.str "ba")) (AB (wC (D.str "bb")) (AB (wC (D.str "c")) (AB (wC (D.str "come")) (AB (wC (D.str "d")) (AB (wC (D.str "far")) (AB (wC (D.str "in")) (AB (wC (D.str "lay")) (AB (wC (D.str "m")) (AB (wC (D.str "n")) (AB (wC (D.str "near")) (AB (wC (D.str "out")) AV)))))))))))))))))))
 (A1 (Ac Ak (AE 0) (Cp (AB (wC (D.str "place")) (AB (wC (D.str "q")) (AB (wC (D.str "r")) (AB (wC (D.str "tie")) (AB (wC (D.str "tree")) (AB (wC (D.str "x")) (AB (wC (D.str "xy")) (AB (wC (D.str "y")) (AB (wC (D.str "zzzzzzzz")) AV)))))))))))))
noncomputable def ER:AS:=(Ai (Bc 2 (An Fy Am))
 (Ai (Bc 3 (An Bj (AI (A_ 0) (AI (Ap (wC (D.int 26))) Am))))
 (Ai (Bc 4 (Ac B_ (Cp (AB (wC (D.int 1)) (AB (wC (D.int 3)) (AB (wC (D.int 5)) (AB (wC (D.int 7)) AV))))) (An Bj (AI (A_ 0) (AI (Ap (wC (D.int 4))) Am)))))
 (A1 (CM Cv (AB (CM RN (AB (CB [some 2,some 3,some 4,none] (GR (AB (AE 1) AV)) (BH 3) Eh (Ac B_ (AE 0) (Ac (V3 (λ_ j=>0<j) λi j=>D.int (i % j)) (Ac Ak (AE 1) (Ac RP (AE 2) (AE 3))) (wC (D.int 26))))) AV)) AV))))))
noncomputable def ET:AS:=(Ai (BP (Ae (Ac (EH false) (AE 1) (wC (D.int 3)))) (A1 (Ac Ny (Ac (V3 SK λi j=>D.int (i ^ j.toNat)) (wC (D.int 10)) (wC (D.int 6))) (An Bj (AI (A_ 0) (AI (Ap (wC (D.int 3))) Am))))) A2)
 (A1 (Ac Ak (wC (D.int 1)) (An Bj (AI (A_ 0) (AI (Ap (Ac B_ (Cp (AB (wC (D.int 3)) (AB (wC (D.int 9)) (AB (wC (D.int 60)) AV)))) (AE 1))) Am))))))
noncomputable def Fu:AS:=(Ai (Dv 3 P2)
 (Ai (Bc 4 (An Bj (AI (A_ 0) (AI (Ap (wC (D.int 5))) Am))))
 (Ai (OU (GR (AB (An Bj (AI (A_ 0) (AI (Ap (Ac Ak (AE 2) (wC (D.int 1)))) Am))) AV)) (BH 5) (BP (Ae (Ac (f2 λi j=>D.bl (decide (j<i))) (CM Bt (AB (AE 1) AV)) (wC (D.int 1)))) (Ai (Bc 6 (An Bj (AI (A_ 0) (AI (Ap (CM Bt (AB (AE 1) AV))) Am))))
 (Ai (Bc 7 (Ac (V3 (λ_ j=>0<j) λi j=>D.int (i % j)) (Ac Ak (Ac Ak (AE 6) (wC (D.int 1))) (An Bj (AI (A_ 0) (AI (Ap (Ac Ny (CM Bt (AB (AE 1) AV)) (wC (D.int 1)))) Am)))) (CM Bt (AB (AE 1) AV))))
 (UI 3 (Du (AB (Ac B_ (AE 1) (CM RR (AB (AE 6) (AB (AE 7) AV)))) (AB (Ac B_ (AE 1) (CM RS (AB (AE 6) (AB (AE 7) AV)))) AV))) (An OM (AI (A_ 0) (AI (Ap (Ac B_ (Cp (AB (AE 4) (AB (Ac (V3 (λ_ j=>0<j) λi j=>D.int (i % j)) (AE 5) (wC (D.int 4))) AV))) (Ac (V3 SM λi j=>D.int (i / j)) (AE 4) (wC (D.int 4))))) Am)))))) A2))
 (A1 (CM Cv (AB (CB [some 3,none] (CS (CM RM (AB (A0 3) AV))) (BH 1) Eh (Ac Ak (AE 1) (Du (AB (Ac RL (A0 0) (AE 1)) AV)))) AV))))))
noncomputable def Gh:AS:=(Ai (Bc 3 (An Fx (AI (A_ 0) (AI (Ap (An Bj (AI (A_ 0) (AI (Ap (Ac Ak (AE 1) (wC (D.int 1)))) Am)))) Am))))
 (A1 (Du (AB (AE 3) (AB (An Kq (AI (A_ 0) (AI (Ap (AE 3)) (AI (Ap (AE 2)) Am)))) AV)))))
noncomputable def Bn(i:Nat):Str:=words26.getD i "a"
theorem E1:∀i,i<26->DJ (Bn i):=by
 have h:∀i∈Z0 26,1<=(Bn i).length/\(Bn i).length<=8/\∀c∈cs (Bn i),97<=c/\c<=122:=by decide +kernel
 exact λi hi=>h i (aW.mpr hi)
theorem OT:∀i j,i<26->j<26->Bn i=Bn j->i=j:=by
 have h:∀i∈Z0 26,∀j∈Z0 26,cs (Bn i)=cs (Bn j)->i=j:=by decide +kernel
 exact λi j hi hj e=>h i (aW.mpr hi) j (aW.mpr hj) (congrArg cs e)
theorem HE(i:Nat)(h:i<26):(words26.map D.str)[i]?=some (.str (Bn i)):=by
 have hl:i<words26.length:=h
 unfold Bn
 rw [Zn,Zw,Op hl]
 rfl
section
variable {ss:List Slot}{n:Nat}{Pd:D->Nat->Prop}
theorem IZ(h:Fy ss n Pd):Et (EE Pd) n (ss++Re 1 .no):=by
 obtain⟨rfl,p⟩:=h
 unfold Et
 exact⟨(by decide:17<=sizeLine),(by decide:9<=sizeLine),(by decide:26<=sizeLine),p⟩
noncomputable def Mi(f s:Nat):D->D
 | .int k=>.str (Bn ((f+s*k.toNat) % 26))
 | _=>.non
theorem LK(f s k:Nat):Mi f s (.int (0+(k:Int)))=.str (Bn ((f+s*k) % 26)):=by
 show D.str (Bn ((f+s*(0+(k:Int)).toNat) % 26))=_
 rw [show (0+(k:Int)).toNat=k by omega]
theorem HV(h:Fx ss n Pd):ER (EE Pd) n (ss++Re 3 .no):=by
 obtain⟨m,rfl,hm,hn,p⟩:=h
 unfold ER
 refine⟨rfl,26,rfl,by decide,by decide,by omega,λfirst f0 f1=>?_⟩
 obtain⟨f,rfl⟩:∃f:Nat,first=(f:Int):=⟨first.toNat,by omega⟩
 refine⟨(by decide:4<=sizeLine),4,rfl,by decide,by decide,by omega,λw w0 w1=>?_⟩
 obtain⟨s,hs,es⟩:∃s:Nat,(s=1\/s=3\/s=5\/s=7)/\atI [D.int 1,D.int 3,D.int 5,D.int 7] w=some (.int (s:Int)):=by
  rcases (show w=0\/w=1\/w=2\/w=3 by omega) with rfl | rfl | rfl | rfl
  ·exact⟨1,.inl rfl,rfl⟩
  ·exact⟨3,.inr (.inl rfl),rfl⟩
  ·exact⟨5,.inr (.inr (.inl rfl)),rfl⟩
  ·exact⟨7,.inr (.inr (.inr rfl)),rfl⟩
 refine⟨_,es,(m:Int),rfl,⟨by omega,by omega⟩,by rw [DB]; omega,?_⟩
 refine BI (Mi f s) (λρ=>∃s',ρ=[.sh (.lst (words26.map .str)),.sh (.int f),.sh (.int s),s']) _ _ _ _ ?_ ⟨_,rfl⟩ ?_
 ·rintro d hd ρ n' nx ⟨s',rfl⟩ hnx
  obtain⟨k,hk,rfl⟩:=HN hd
  have hlt:(f+s*k) % 26<26:=dA _ (by decide)
  have hsk:(s:Int)*(0+(k:Int))=((s*k:Nat):Int):=by rw [d9]; exact(Int.natCast_mul s k).symm
  refine⟨Zc (by omega) (by omega),by show (0:Int)<26; decide,.str (Bn ((f+s*k) % 26)),?_,?_⟩
  ·rw [hsk,show ((f:Int)+((s*k:Nat):Int)) % 26=(((f+s*k) % 26:Nat):Int) by omega]
   exact AR (HE _ hlt)
  ·have:=hnx [.sh (.lst (words26.map .str)),.sh (.int f),.sh (.int s),.sh (.int (0+(k:Int)))] ⟨_,rfl⟩
   rw [LK] at this
   exact this
 ·have e:[]++(CF 0 ((m:Int)).toNat).map (Mi f s)=((Z0 m).map λk:Nat=>Bn ((f+s*k) % 26)).map .str:=by
   unfold CF
   rw [Z9,aC,aC,bQ]
   refine aO λk _=>?_
   exact LK f s k
  rw [e]
  refine⟨_,_,rfl,EU _,by rw [Cn,bA]; omega,λss' hp hs'=>p ss' ?_ ?_ ?_⟩
  ·rw [hp.length_eq,Cn,bA]
  ·intro y hy
   obtain⟨k,_,rfl⟩:=Zu.mp (hp.mem_iff.mp hy)
   exact E1 _ (dA _ (by decide))
  ·refine IV hs' (hp.nodup_iff.mpr (JD List.nodup_range λj hj k hk e=>?_))
   have e:=OT _ _ (dA _ (by decide)) (dA _ (by decide)) e
   have hj:=aW.mp hj
   have hk:=aW.mp hk
   rcases hs with rfl | rfl | rfl | rfl <;> omega
theorem HY(h:OM ss n Pd):ET (EE Pd) n (ss++Re 0 .no):=by
 obtain⟨s,rfl,s0,s3,hn,p⟩:=h
 unfold ET
 show if (s==3)=true then _ else _
 refine Dg (λc=>?_) λc=>?_
 ·refine⟨Zb,_,rfl,by decide,by decide,hn,λr r0 r1=>?_⟩
  have e6:(10:Int) ^ (6:Int).toNat=1000000:=by decide
  show Pd (.int (10 ^ (6:Int).toNat - r)) (n - 1)
  rw [e6]
  exact p _ (by omega) (by omega)
 ·have c:s≠3:=by simpa using c
  obtain⟨k,hk,ek⟩:∃k:Int,(1<=k/\k<=60)/\atI [D.int 3,D.int 9,D.int 60] s=some (.int k):=by
   rcases (show s=0\/s=1\/s=2 by omega) with rfl | rfl | rfl
   ·exact⟨3,by decide,rfl⟩
   ·exact⟨9,by decide,rfl⟩
   ·exact⟨60,by decide,rfl⟩
  refine⟨(by decide:3<=sizeLine),_,ek,k,rfl,by omega,by omega,hn,λr r0 r1=>?_⟩
  exact p _ (by omega) (by omega)
theorem LC(h:OJ ss n Pd):Gh (EE Pd) n (ss++Re 1 .no):=by
 obtain⟨most,ties,rfl,hm,ht,hn,p⟩:=h
 unfold Gh
 refine⟨_,rfl,by omega,by omega,by omega,λr r0 r1=>?_⟩
 refine⟨r.toNat,by rw [show ((r.toNat:Nat):Int)=r by omega],by omega,by omega,λxs xl hx hr=>?_⟩
 refine⟨xs,ties,rfl,hx,hr,by omega,ht,by omega,λts n' ok hl hn'=>⟨z2,?_⟩⟩
 exact p ⟨xs,ts⟩ n' ok (by show xs.length<=most; omega) hl (by omega)
theorem N_(x y:Str):cs x<cs y\/x=y\/cs y<cs x:=by
 by_cases h1:cs x<cs y
 ·exact .inl h1
 ·by_cases h2:cs y<cs x
  ·exact .inr (.inr h2)
  ·refine .inr (.inl ?_)
   have:=JG (.inr x) (.inr y) (decide_eq_false h1) (decide_eq_false h2)
   exact az this
theorem Qc{ks:List (List Key)}{k x:List Key}(h:x∈B0 ks k):x∈ks\/x=k:=by
 unfold B0 at h
 split at h
 ·exact .inl h
 ·exact(Uf.mp h).imp id Zp.mp
theorem Sk{ks:List (List Key)}{k:List Key}(nd:ks.Nodup):(B0 ks k).Nodup:=by
 unfold B0
 split
 ·exact nd
 ·rename_i h
  rw [List.nodup_append]
  refine⟨nd,by simp,λx hx y hy e=>h (hasK_iffU.mpr ?_)⟩
  rw [Zp] at hy
  subst hy; subst e; exact hx
theorem Sl{ks:List (List Key)}{k:List Key}:(B0 ks k).length<=ks.length+1:=by
 unfold B0
 split
 ·omega
 ·rw [FM,Z7]; omega
theorem LI{k:List Key}{d x:D}:∀{ks:List (List Key)} {ds:List D},x∈c9 (λk0 d0=>if k0=k then d else d0) ks ds->x=d\/x∈ds
 | [],_,h=>by cases h
 | _::_,[],h=>by cases h
 | k0::ks,d0::ds,h=>by
  rw [List.zipWith_cons_cons] at h
  rcases UF.mp h with h | h
  ·by_cases e:k0=k
   ·rw [if_pos e] at h; exact .inl h
   ·rw [if_neg e] at h; exact .inr (by rw [h]; exact On)
  ·exact(LI h).imp id (Is _)
theorem Oq{ks:List (List Key)}{ds:List D}{k:List Key}{d x:D}(h:x∈Bz ks ds k d):x=d\/x∈ds:=by
 unfold Bz at h
 split at h
 ·exact LI h
 ·rcases Uf.mp h with h | h
  ·exact .inr h
  ·exact .inl (Zp.mp h)
theorem K1{k:List Key}{z:D}:∀{ks:List (List Key)} {ds:List D},Dy ks ds k=some z->z∈ds
 | [],_,h=>by cases h
 | _::_,[],h=>by cases h
 | k0::ks,d0::ds,h=>by
  unfold Dy at h
  split at h
  ·cases h; exact On
  ·exact Is _ (K1 h)
structure Tds (xs:List Str) (ks:List (List Key)) (ds:List D):Prop where
 len:ks.length=ds.length
 nd:ks.Nodup
 key:∀k∈ks,∃a b:Str,k=[.inr a,.inr b]/\a∈xs/\b∈xs/\cs a<cs b
 val:∀d∈ds,∃l:Int,d=.int l/\1<=l/\l<=1000000
theorem Tds.put{xs:List Str}{ks:List (List Key)}{ds:List D}(T:Tds xs ks ds){a b:Str}{l:Int}(ha:a∈xs)(hb:b∈xs)(lt:cs a<cs b)(l1:1<=l)(l2:l<=1000000):Tds xs (B0 ks [.inr a,.inr b]) (Bz ks ds [.inr a,.inr b] (.int l)):=by
 refine⟨LH T.len,Sk T.nd,λk hk=>?_,λd hd=>?_⟩
 ·rcases Qc hk with hk | rfl
  ·exact T.key k hk
  ·exact⟨a,b,rfl,ha,hb,lt⟩
 ·rcases Oq hd with rfl | hd
  ·exact⟨l,rfl,l1,l2⟩
  ·exact T.val d hd
noncomputable def Il(ks:List (List Key))(ds:List D):D->D
 | .tup [.str a,.str b]=>.tup [.str a,.str b,(Dy ks ds [.inr a,.inr b]).getD .non]
 | d=>d
theorem Kt(ks:List (List Key))(ds:List D)(a b:Str):Il ks ds (.tup [.str a,.str b])=.tup [.str a,.str b,(Dy ks ds [.inr a,.inr b]).getD .non]:=rfl
theorem Tds.ties{xs:List Str}{ks:List (List Key)}{ds:List D}(T:Tds xs ks ds):∀{ks':List (List Key)},(∀k∈ks',k∈ks)->ks'.Nodup->ks'.Pairwise (λa b=>C7 b a=false) ->
  ∃ts:List Bv,(ks'.map tupK).map (Il ks ds)=ts.map Bb/\ts.map (λt=>([.inr t.a,.inr t.b]:List Key))=ks'/\(∀t∈ts,t.a∈xs/\t.b∈xs/\cs t.a<cs t.b/\1<=t.len/\t.len<=1000000)/\ts.Pairwise Dh
 | [],_,_,_=>⟨[],rfl,rfl,(λt h=>by cases h),bS⟩
 | k::ks',hin,nd,pw=>by
  rw [bM] at nd
  rw [cP] at pw
  obtain⟨ts,e1,e2,h1,h2⟩:=T.ties (ks':=ks') (λk hk=>hin k (Is _ hk)) nd.2 pw.2
  obtain⟨a,b,rfl,ha,hb,lt⟩:=T.key k (hin k On)
  obtain⟨z,hz⟩:=E4 T.len (hin _ On)
  obtain⟨l,rfl,l1,l2⟩:=T.val z (K1 hz)
  refine⟨⟨a,b,l⟩::ts,?_,?_,λt ht=>?_,cP.mpr ⟨λt ht=>?_,h2⟩⟩
  ·rw [TW,TW,TW,e1]
   show Il ks ds (.tup [.str a,.str b])::_=_
   rw [Kt,hz]; rfl
  ·rw [TW,e2]
  ·rcases UF.mp ht with rfl | ht
   ·exact⟨ha,hb,lt,l1,l2⟩
   ·exact h1 t ht
  ·have hm:([.inr t.a,.inr t.b]:List Key)∈ks':=by rw [← e2]; exact Zu.mpr ⟨t,ht,rfl⟩
   have h3:=pw.1 _ hm
   have hne:([.inr a,.inr b]:List Key)≠[.inr t.a,.inr t.b]:=λz=>nd.1 (by rw [z]; exact hm)
   have h3:(if (aQ t.a:Key)=.inr a then (if (aQ t.b:Key)=.inr b then false else decide (t.b.cps.toList<b.cps.toList)) else decide (t.a.cps.toList<a.cps.toList))=false:=h3
   show cs a<cs t.a\/(a=t.a/\cs b<cs t.b)
   by_cases q1:t.a=a
   ·rw [if_pos (by rw [q1])] at h3
    by_cases q2:t.b=b
    ·exact absurd (by rw [q1,q2]) hne
    ·rw [if_neg (λz=>q2 (az z))] at h3
     refine .inr ⟨q1.symm,?_⟩
     rcases N_ b t.b with l | l | l
     ·exact l
     ·exact absurd l.symm q2
     ·exact absurd l (of_decide_eq_false h3)
   ·rw [if_neg (λz=>q1 (az z))] at h3
    left
    rcases N_ a t.a with l | l | l
    ·exact l
    ·exact absurd l.symm q1
    ·exact absurd l (of_decide_eq_false h3)
theorem Jq(h:Kq ss n Pd):Fu (EE Pd) n (ss++Re 5 .no):=by
 obtain⟨xs,most,rfl,hx,hr,h26,hm,hn,p⟩:=h
 have szl:=PySem.sizeLine_eq
 unfold Fu
 refine⟨5,rfl,by decide,by decide,by omega,λsort s0 s1=>?_⟩
 refine⟨_,rfl,by omega,by omega,by omega,λmany m0 m1=>⟨many,rfl,⟨by omega,by omega⟩,?_⟩⟩
 refine DD (all:=CF 0 many.toNat) (λpre m ρ=>n - 2 - 3*pre.length<=m/\∃(ks:List (List Key)) (ds:List D) (s5 s6 s7:Slot),ρ=[.fd,.sh (.tup (xs.map .str)),.sh (.int most),.ow (.dit ks ds),.sh (.int sort),s5,s6,s7]/\Tds xs ks ds/\ks.length<=pre.length) ?_ ?_ _ [] _ _ rfl ⟨by simp; omega,[],[],_,_,_,rfl,⟨rfl,eQ,(λk h=>by cases h),λd h=>by cases h⟩,Go _⟩
 ·rintro m ρ ⟨hm2,ks,ds,s5,s6,s7,rfl,T,hkl⟩
  rw [DB] at hm2 hkl
  refine⟨ks,ds,rfl,T.len,by omega,λx hx' y hy'=>?_,λx hx'=>?_,λk hk' x hx'=>?_,λks' hp pw=>⟨by show (ks'.map tupK).length<=10000000; rw [Cn,hp.length_eq]; omega,?_⟩⟩
  ·obtain⟨a,b,rfl,_⟩:=T.key x hx'
   obtain⟨a',b',rfl,_⟩:=T.key y hy'
   rfl
  ·obtain⟨a,b,rfl,_⟩:=T.key x hx'
   simp
  ·obtain⟨a,b,rfl,ha,hb,_⟩:=T.key k hk'
   have fit:∀y∈xs,Fj (.inr y):=λy hy=>by
    have:=(hx y hy).2.1
    show y.length<=sizeLine
    omega
   rcases UF.mp hx' with rfl | hx'
   ·exact fit a ha
   ·rw [Zp.mp hx']; exact fit b hb
  ·obtain⟨ts,e1,e2,h1,h2⟩:=T.ties (ks':=ks') (λk hk'=>hp.mem_iff.mp hk') (hp.nodup_iff.mpr T.nd) pw
   have htl:ts.length=ks.length:=by rw [← hp.length_eq,← e2,Cn]
   refine BI (Il ks ds) (λρ=>∃s,ρ=[.br (.dit ks ds),s]) _ _ _ _ ?_ ⟨_,rfl⟩ ?_
   ·rintro d hd ρ n' nx ⟨s,rfl⟩ hnx
    obtain⟨k,hk',rfl⟩:=Zu.mp hd
    have hkk:=hp.mem_iff.mp hk'
    obtain⟨a,b,rfl,_⟩:=T.key k hkk
    obtain⟨z,hz⟩:=E4 T.len hkk
    have:=hnx [.br (.dit ks ds),.sh (.tup [.str a,.str b])] ⟨_,rfl⟩
    rw [show Il ks ds (tupK [.inr a,.inr b])=.tup [.str a,.str b,z] by show Il ks ds (.tup [.str a,.str b])=_; rw [Kt,hz]; rfl] at this
    exact⟨ks,ds,_,z,rfl,rfl,hz,z1,z3,this⟩
   ·rw [Z9,e1]
    exact p ts m ⟨hx,hr,h1,h2⟩ (by omega) (by omega)
 ·rintro pre d post m ρ nx hall ⟨hm2,ks,ds,s5,s6,s7,rfl,T,hkl⟩ hnx
  obtain⟨rfl,hk⟩:=Jp hall
  rw [FM,Z7] at hnx
  generalize pre.length=i at hk hm2 hkl hnx ⊢
  have xl:(xs.map D.str).length=xs.length:=Cn ..
  refine⟨_,_,rfl,rfl,?_⟩
  show if decide ((1:Int)<((xs.map D.str).length:Int))=true then _ else _
  refine Dg (λc=>?_) λc=>hnx _ _ ⟨by omega,ks,ds,_,_,_,rfl,T,by omega⟩
  have c:=of_decide_eq_true c
  rw [xl] at c
  refine⟨_,_,rfl,rfl,_,rfl,by omega,by omega,by omega,λa a0 a1=>?_⟩
  refine⟨_,_,rfl,rfl,_,rfl,by omega,by omega,by omega,λq q0 q1=>⟨_,_,rfl,rfl,by show (0:Int)<_; omega,?_⟩⟩
  rw [xl] at a1 q1 ⊢
  obtain⟨s,es,se0,se3⟩:∃s:Int,atI [D.int sort,D.int ((0+(i:Int)) % 4)] (sort / 4)=some (.int s)/\0<=s/\s<=3:=by
   rcases (show sort<4\/sort=4 by omega) with z | z
   ·refine⟨sort,?_,s0,by omega⟩
    rw [show sort / 4=0 by omega]; rfl
   ·refine⟨(0+(i:Int)) % 4,?_,by omega,by omega⟩
    rw [show sort / 4=1 by omega]; rfl
  refine⟨ks,ds,rfl,by show (0:Int)<4; decide,z2,⟨by decide,by decide⟩,_,es,s,rfl,se0,se3,by omega,λr r1 r2=>?_⟩
  have hb0:0<=(a+1+q) % (xs.length:Int)/\(a+1+q) % (xs.length:Int)<xs.length:=⟨eI _ (by omega),dR _ (by omega)⟩
  have hab:(a+1+q) % (xs.length:Int)≠a:=by
   intro e
   rcases (show a+1+q<xs.length\/xs.length<=a+1+q by omega) with z | z
   ·rw [Int.emod_eq_of_lt (by omega) z] at e; omega
   ·have:(a+1+q) % (xs.length:Int)=a+1+q - xs.length:=by
     rw [← Int.sub_emod_right,Int.emod_eq_of_lt (by omega) (by omega)]
    omega
  obtain⟨b,eb⟩:∃b,(a+1+q) % (xs.length:Int)=b:=⟨_,rfl⟩
  rw [eb] at hb0 hab
  have key:∀lo hi:Int,0<=lo->lo<hi->hi<xs.length->∃x y:Str,atI (xs.map D.str) lo=some (.str x)/\atI (xs.map D.str) hi=some (.str y)/\x∈xs/\y∈xs/\cs x<cs y:=by
   intro lo hi l0 lh hl
   have h1:lo.toNat<xs.length:=by omega
   have h2:hi.toNat<xs.length:=by omega
   refine⟨xs[lo.toNat],xs[hi.toNat],?_,?_,ak _,ak _,?_⟩
   ·have:=AR (xs:=xs.map D.str) (j:=lo.toNat) (v:=.str xs[lo.toNat]) (by rw [Zn,Op h1]; rfl)
    rwa [show ((lo.toNat:Nat):Int)=lo by omega] at this
   ·have:=AR (xs:=xs.map D.str) (j:=hi.toNat) (v:=.str xs[hi.toNat]) (by rw [Zn,Op h2]; rfl)
    rwa [show ((hi.toNat:Nat):Int)=hi by omega] at this
   ·exact di.mp hr _ _ h1 h2 (by omega)
  obtain⟨x,y,ex,ey,hx1,hy1,lt⟩:=key (if b<a then b else a) (if b > a then b else a) (by split <;> omega) (by split <;> omega) (by split <;> omega)
  have done:=hnx (m - 1 - 1 - 1) [.fd,.sh (.tup (xs.map .str)),.sh (.int most),.ow (.dit (B0 ks [.inr x,.inr y]) (Bz ks ds [.inr x,.inr y] (.int r))),.sh (.int sort),.sh (.int (0+(i:Int))),.sh (.int a),.sh (.int b)] ⟨by omega,_,_,_,_,_,rfl,T.put hx1 hy1 lt r1 r2,Zv Sl (by omega)⟩
  subst eb
  refine⟨_,ex,_,ey,z2,_,rfl,by omega,done⟩
end
theorem F6{x y:Str}(h:cs x=cs y):x=y:=Str.ext' (Array.toList_inj.mp h)
theorem BJ(x y z:Str):x++y++z=x++(y++z):=F6 (by rw [FL,FL,FL,FL,ap])
theorem len_app(x y:Str):(x++y).length=x.length+y.length:=by rw [← FK,FL,FM,FK,FK]
noncomputable def sp:Str := " "
theorem X9:cs sp=[32]:=by decide +kernel
theorem Lz(x y:Str)(r:List Str):cs (bG sp (x::y::r))=cs x++32::cs (bG sp (y::r)):=by
 show cs (x++sp++bG sp (y::r))=_
 rw [FL,FL,X9,ap]
 rfl
open Builtin.Str in
noncomputable def OP(x:Str)(ws:List Str):Prop:=(sp.length==0)=false/\(partsBetween x (occurrences x sp 0 x.length (x.length+1)) sp.length).length<=sizeLine/\(Txt.split x sp).length<=sizeLine/\(∀z∈Txt.split x sp,z.length<=sizeLine)/\Txt.split x sp=ws
noncomputable def Gz(i:Int):Str:=aH (toString i)
theorem N5:∀(k m:Nat),m<10 ^ (k+1)->(cQ 10 m).length<=k+1
 | 0,m,h=>by rw [bD (by omega)]; exact Go _
 | k+1,m,h=>by
  by_cases hm:m<10
  ·rw [bD hm]; show 1<=_; omega
  ·have t:cQ 10 (m / 10)++cQ 10 (m % 10)=cQ 10 (10*(m / 10)+m % 10):=dJ (by decide) (by omega) (dA m (by decide))
   rw [Nat.div_add_mod] at t
   have:=N5 k (m / 10) (by rw [Nat.pow_succ] at h; omega)
   rw [← t,FM,bD (dA m (by decide))]
   show _+1<=_
   omega
theorem Hm{i:Int}(h:1<=i):∃m:Nat,i=(m:Int)/\1<=m/\cs (Gz i)=(cQ 10 m).map Char.toNat:=by
 obtain⟨m,rfl⟩:=bE (show 0<=i by omega)
 exact⟨m,rfl,by omega,PySem.W.KIN.signs_num m⟩
theorem TK{i:Int}(h:1<=i):∀c∈cs (Gz i),48<=c/\c<=57:=by
 obtain⟨m,rfl,_,e⟩:=Hm h
 rw [e]
 intro c hc
 obtain⟨ch,hch,rfl⟩:=Zu.mp hc
 have r:=PyProof.Rows.digit_range (Nat.isDigit_of_mem_toDigits (by decide) (by decide) hch)
 exact r
theorem KD{i:Int}(h:1<=i)(h2:i<=1000000):(Gz i).length<=7:=by
 obtain⟨m,rfl,_,e⟩:=Hm h
 rw [← FK,e,Cn]
 exact N5 6 m (by omega)
theorem KC{i:Int}(h:1<=i)(h2:i<=1000000):i.natAbs.log2<1920:=by
 have:i.natAbs<2 ^ 1920:=dO (show i.natAbs<=1000000 by omega) (by decide +kernel)
 exact(Nat.log2_lt (by omega)).mpr this
end Nt
namespace Dp
open PySem PySem.Spec PyProof.Rows L2
section
variable {X:Cx}{κe:Kd}{tg elt iter:Expr}{ifs:List Expr}{sc:Scope}{pos:Pos}{src:Eg}{b:BW}{tt:F4}{te:DW}
theorem Lv{κ:Kd}{i:Nat}{x:Str}{pos' spos:Pos}(hN:X.N.Nodup)(hix:X.N[i]?=some x)(hx:Loc X.env.scope x)(hc:X.calm=true)(N':List Str)(js:List (Option Nat))(hi:Wp X tg iter src)(hg:∀cl C s H fp,DG (Av X sc N' cl C s H fp) tg b)(ht:∀cl C s H fp,Wo (Av X sc N' cl C s H fp) ifs tt)(he:∀cl C s H fp,DE (Av X sc N' cl C s H fp) elt κe te)
  (hB:Gg sc X.env.scope X.N N' js=true) (hsw:autoParam (swapsWith (.ListComp elt [⟨tg,iter,ifs,0⟩] sc pos) (some (.Name x pos')) spos.line X.env=pure true) zau3._auto_1) (hk:autoParam (κe≠.tp) zau7._auto_1)
  (hs:autoParam (∀x,foldedSetIterable iter X.env x=pure x) zau2._auto_1)
  (hf:autoParam (X.fn x=true\/X.env.scope.names.lookup x=some .local) zau0._auto_1):DS X κ (.Assign [.Name x pos'] (.ListComp elt [⟨tg,iter,ifs,0⟩] sc pos) spos) (Dv i (CB js src b tt te)):=by
 obtain⟨wi,a1,a2⟩:=L0 hc N' js hi hg ht he hB hk hs
 refine⟨_,NX hc N' js a1 hB hN hix hx hsw hs hf,λC M H n ρ σ D2 E R L w=>?_⟩
 refine a2 C M H n ρ σ _ _ R w λv H' d n' e1 f1 r1 p=>?_
 obtain⟨a,rfl,h1,h2⟩:=r1
 exact L.nx _ H' n' _ _ (R.setOw e1 f1 h1 h2) p
end
end Dp
namespace Nt
open PySem PySem.Spec PyProof.Rows L2 Dp
noncomputable def Yh(t:Bv):Str:=bG sp [t.a,t.b,Gz t.len]
noncomputable def DF(t:Bv):Str:=bG sp ["tie",t.a,t.b,Gz t.len]
noncomputable def GY(x:Str):Str:=bG sp ["place",x]
noncomputable def linesOf(N:Net):List Str:=N.ps.map GY++N.ts.map DF
noncomputable def Wx(t:Bv):Prop:=DJ t.a/\DJ t.b/\cs t.a<cs t.b/\1<=t.len/\t.len<=1000000
noncomputable def Ks:W2:=λss n P=>∃N:Net,ss=[.sh (YY N)]/\N.Ok/\N.ps.length<=24/\N.ts.length<=60/\P (.lst ((linesOf N).map .str)) n
noncomputable def Eo:AS:=(Ai (BP (FU (Ae (Ac (EH false) (AE 0) (wC (D.str "")))) (FU (Ae (Ac (EH false) (Ac B_ (AE 0) (wC (D.int 0))) (wC (D.str "0")))) (Ae (Ac (f2 λi j=>D.bl (decide (j<i))) (CM Bt (AB (AE 0) AV)) (CM Bt (AB (CM Lo (AB (wC (D.int 1000000)) AV)) AV)))))) (A1 (wC (D.bl false))) A2)
 (A1 (HF (CM RW (AB (CB [none] (CS (AE 0)) (BH 0) Eh (Ac (Ur λi j P=>P (D.bl (!(aA j i 0 j.length 1).isEmpty))) (AE 0) (wC (D.str "0123456789")))) AV)) (An HA (AI (Ap (CM Lq (AB (AE 0) AV))) Am)))))
noncomputable def Dq:AS:=(Ai (BP (FU (U9 (A0 2)) (Ae (Ac (EH false) (CM Bt (AB (A0 1) AV)) (wC (D.int 24))))) (A1 (wC (D.int 0))) A2)
 (Ai (BP (FU (Ae (Ac KU (CM Bt (AB (AE 0) AV)) (wC (D.int 2)))) (GS (Ae (An OK (AI (Ap (Ac B_ (AE 0) (wC (D.int 1)))) Am))))) (A1 (wC (D.int 1))) A2)
 (Ai (BP (Kw (U9 (A0 1)) (Ae (Ac GK (Ac B_ (AE 0) (wC (D.int 1))) (Ac B_ (A0 1) (SR (wC (D.int 1))))))) (A1 (wC (D.int 1))) A2)
 (A1 (Wv (Ae (Ac (f2 λi j=>D.bl (decide (j<i))) (CM Bt (AB (AE 0) AV)) (wC (D.int 2)))) (wC (D.int 2)) (wC D.non))))))
noncomputable def Cw:AS:=(Ai (BP (FU (Ae (Ac (Lr true) (AE 1) (A0 2))) (Ae (Ac GK (AE 1) (AE 0)))) (A1 (wC (D.bl false))) A2)
 (A1 (Wu (UM (A0 3)) (Ac V2 (Du (AB (AE 0) (AB (AE 1) AV))) (F5 CA (Ac B_ (A0 3) (SR (wC (D.int 1)))) Ax (BE (wC (D.int 2))))))))
noncomputable def ES:AS:=(Ai (Dv 1 (CB [none] (CS (Ac B_ (AE 0) (wC (D.int 0)))) (BH 0) Eh (Ac Ak (wC (D.str "place ")) (AE 0))))
 (Ai (SN 1 "list" Tl (AB (CB [none,none,none] (CS (Ac B_ (AE 0) (wC (D.int 1)))) (T8 3 (EO (BH 0) (EO (BH 1) (EO (BH 2) OC)))) Eh (Ac Ak (Ac Ak (Ac Ak (Ac Ak (Ac Ak (wC (D.str "tie ")) (AE 0)) (wC (D.str " "))) (AE 1)) (wC (D.str " "))) (CM Lo (AB (AE 2) AV)))) AV))
 (Px 1)))
section
variable {ss:List Slot}{n:Nat}{Pd:D->Nat->Prop}
theorem FD{x:Str}(h:DJ x):x.length<=8:=h.2.1
theorem VE:("tie " : Str) = "tie"++sp:=F6 (by decide +kernel)
theorem Qg:("place " : Str) = "place"++sp:=F6 (by decide +kernel)
theorem LX(t:Bv):("tie " : Str)++Yh t=DF t:=by
 rw [VE]
 rfl
theorem LY(x:Str):("place " : Str)++x=GY x:=by
 rw [Qg]
 rfl
theorem JI{x:Str}(h:DJ x):("place " : Str).length+x.length<=sizeLine:=by
 have:=h.2.1
 rw [show ("place " : Str).length=6 by decide +kernel,PySem.sizeLine_eq]
 omega
theorem Qw{N:Net}(ok:N.Ok){t:Bv}(h:t∈N.ts):Wx t:=by
 obtain⟨h1,h2,h3,h4,h5⟩:=ok.tin t h
 exact⟨ok.names _ h1,ok.names _ h2,h3,h4,h5⟩
noncomputable def Xe:D->D
 | .str x=>.str (GY x)
 | _=>.non
noncomputable def Yg:D->D
 | .tup [.str a,.str b,.int l]=>.str (DF ⟨a,b,l⟩)
 | _=>.non
theorem HW(h:Ks ss n Pd):ES (EF Pd) n (ss++Re 1 .no):=by
 obtain⟨N,rfl,ok,lp,lt,p⟩:=h
 have szl:=PySem.sizeLine_eq
 unfold ES
 refine⟨_,AR (j:=0) rfl,by show (N.ps.map D.str).length<=10000000; rw [Cn]; omega,?_⟩
 refine BI Xe (λρ=>∃s1,ρ=[s1]) _ _ _ _ ?_ ⟨_,rfl⟩ ?_
 ·rintro d hd ρ n' nx ⟨s1,rfl⟩ hnx
  obtain⟨x,hx,rfl⟩:=Zu.mp hd
  have fin:=hnx [.sh (.str x)] ⟨_,rfl⟩
  rw [show Xe (.str x)=.str (GY x) from rfl,← LY] at fin
  exact⟨JI (ok.names x hx),fin⟩
 ·refine⟨_,rfl,rfl,_,AR (j:=1) rfl,by show (N.ts.map Bb).length<=10000000; rw [Cn]; omega,?_⟩
  refine BI Yg (λρ=>∃s1 s2 s3,ρ=[s1,s2,s3]) _ _ _ _ ?_ ⟨_,_,_,rfl⟩ ?_
  ·rintro d hd ρ n' nx ⟨s1,s2,s3,rfl⟩ hnx
   obtain⟨t,ht,rfl⟩:=Zu.mp hd
   obtain⟨ha,hb,_,h1,h2⟩:=Qw ok ht
   have la:=FD ha
   have lb:=FD hb
   have ln:=KD h1 h2
   have fin:=hnx [.sh (.str t.a),.sh (.str t.b),.sh (.int t.len)] ⟨_,_,_,rfl⟩
   have e:("tie " : Str)++t.a++sp++t.b++sp++Gz t.len=DF t:=by
    rw [← LX]
    show _=("tie " : Str)++(t.a++sp++(t.b++sp++Gz t.len))
    rw [BJ,BJ,BJ,BJ,BJ,BJ]
   rw [show Yg (Bb t)=.str (DF t) from rfl,← e] at fin
   have k1:("tie " : Str).length=4:=by decide +kernel
   have k2:sp.length=1:=by decide +kernel
   have l1:(("tie " : Str)++t.a).length=4+t.a.length:=by rw [len_app,k1]
   have l2:(("tie " : Str)++t.a++sp).length=4+t.a.length+1:=by rw [len_app,l1,k2]
   have l3:(("tie " : Str)++t.a++sp++t.b).length=4+t.a.length+1+t.b.length:=by rw [len_app,l2]
   have l4:(("tie " : Str)++t.a++sp++t.b++sp).length=4+t.a.length+1+t.b.length+1:=by rw [len_app,l3,k2]
   have k2':(" " : Str).length=1:=k2
   have ln':(aH (toString t.len)).length<=7:=ln
   exact⟨rfl,rfl,by rw [k1]; omega,by rw [l1,k2']; omega,by show (("tie " : Str)++t.a++sp).length+_<=_; rw [l2]; omega,by show (("tie " : Str)++t.a++sp++t.b).length+_<=_; rw [l3,k2']; omega,KC h1 h2,by rw [szl]; omega,by show (("tie " : Str)++t.a++sp++t.b++sp).length+_<=_; rw [l4]; omega,fin⟩
  ·have e:(linesOf N).map D.str=([]++(N.ps.map D.str).map Xe)++([]++(N.ts.map Bb).map Yg):=by
    unfold linesOf
    rw [Zm,aC,aC,aC,aC,Z9,Z9]
    rfl
   refine⟨_,_,rfl,rfl,?_,?_⟩
   ·rw [← FM,← e,Cn]
    unfold linesOf
    rw [FM,Cn,Cn]
    omega
   ·rw [e] at p
    exact⟨_,rfl,p⟩
theorem Ul:(aH (toString (1000000:Int))).length=7:=by decide +kernel
theorem WD:cs "0123456789"=[48,49,50,51,52,53,54,55,56,57]:=by decide +kernel
noncomputable def Tv:D->D
 | .str x=>.bl (!(aA "0123456789" x 0 ("0123456789" : Str).length 1).isEmpty)
 | _=>.non
theorem IK{α:Type}(p:α->Bool):∀l:List α,allB (l.map λa=>D.bl (p a))=some (l.map p)
 | []=>rfl
 | a::l=>by
  show (allB (l.map λa=>D.bl (p a))).map (p a::·)=_
  rw [IK p l]
  rfl
theorem Q7{w:List Str}{b:Str}(h:w.getLast?=some b):atI (w.map D.str) (-1)=some (.str b):=by
 obtain⟨ys,rfl⟩:=ac.mp h
 rw [Zm]
 exact MB _ _
theorem Q6{w:List Bv}{b:Bv}(h:w.getLast?=some b):atI (w.map Bb) (-1)=some (Bb b):=by
 obtain⟨ys,rfl⟩:=ac.mp h
 rw [Zm]
 exact MB _ _
theorem RZ{s t:Bv}(h:Dh s t):BD [.inr s.a,.inr s.b] [.inr t.a,.inr t.b]=true:=by
 unfold BD BD BD
 rcases h with h | ⟨e,h⟩
 ·rw [if_neg (λz=>by rw [az z] at h; exact dH _ h)]
  exact decide_eq_true h
 ·rw [e,if_pos rfl,if_neg (λz=>by rw [az z] at h; exact dH _ h)]
  exact decide_eq_true h
end
theorem PV(xs:List Str):PY (.lst (xs.map .str)) (.lst (xs.map .str))=true:=by
 show PyData.eqvAll (A6 (xs.map .str)) (A6 (xs.map .str))=true
 induction xs with
 | nil=>rfl
 | cons x xs ih =>
  show ((x==x)&&PyData.eqvAll (A6 (xs.map .str)) (A6 (xs.map .str)))=true
  rw [ih,beq_self_eq_true]
  rfl
end Nt
set_option maxHeartbeats 400000
namespace Nt
open PySem PySem.Spec PyProof.Rows L2 Dp
theorem X7:∀d:Nat,d<10->(Nat.digitChar d).toNat=48+d:=by decide
theorem Rn:∀(k:Nat) (l:List Nat),l.length=k+1->(∀c∈l,48<=c/\c<=57)->l.head?≠some 48->∃m:Nat,1<=m/\m<10 ^ (k+1)/\l=(cQ 10 m).map Char.toNat
 | 0,[c],_,h,h0=>by
  have hc:=h c On
  have h1:c≠48:=λz=>h0 (by rw [z]; rfl)
  refine⟨c - 48,by omega,by omega,?_⟩
  rw [bD (by omega)]
  show [c]=[_]
  rw [X7 _ (by omega)]
  congr 1
  omega
 | k+1,l,hl,h,h0=>by
  have hn:l≠[]:=λz=>by rw [z] at hl; cases hl
  obtain⟨r,c,rfl⟩:∃r c,l=r++[c]:=⟨l.dropLast,l.getLast hn,(List.dropLast_concat_getLast hn).symm⟩
  rw [FM] at hl
  have hr:r.length=k+1:=by simp only [No,Zq] at hl; omega
  have h0':r.head?≠some 48:=by
   cases r with
   | nil=>cases hr
   | cons a r'=>exact h0
  obtain⟨m,m1,m2,e⟩:=Rn k r hr (λx hx=>h x (bz _ hx)) h0'
  have hc:=h c (Zz _ On)
  refine⟨10*m+(c - 48),by omega,by rw [Nat.pow_succ]; omega,?_⟩
  rw [← dJ (by decide) (by omega) (show c - 48<10 by omega),Zm,← e,bD (by omega)]
  congr 1
  show [c]=[_]
  rw [X7 _ (by omega)]
  congr 1
  omega
theorem Oc{x:Str}(hx:x.length<=1000):OP x (Txt.split x sp)/\Txt.split x sp≠[]/\(Txt.split x sp).length<=1002/\∀w∈Txt.split x sp,w.length<=1000:=by
 have szl:=PySem.sizeLine_eq
 have ho:=StrLaws.occ_length_le x sp 0 x.length (x.length+1)
 have hl:(Txt.split x sp).length<=1002:=by
  unfold Txt.split
  split
  ·show 1<=1002; decide
  ·split
   ·show 1<=1002; decide
   ·rw [len_partsBetween]; omega
 have hw:∀w∈Txt.split x sp,w.length<=1000:=λw hw=>by have:=part_short hw; omega
 refine⟨⟨by decide +kernel,by rw [len_partsBetween]; omega,by omega,λw h=>?_,rfl⟩,λz=>?_,hl,hw⟩
 ·have:=hw w h; omega
 ·have:=split_pos x sp
  rw [z] at this
  exact absurd this (by decide)
noncomputable def B3(w:Str):Bool:=decide (cs w≠[])&&decide ((cs w).head?≠some 48)&&decide (w.length<=7)&&(cs w).all λc=>decide (48<=c)&&decide (c<=57)
noncomputable def C8(w:Str):Bool:=B3 w&&decide (PySem.NumText.digitsVal (cs w)<=1000000)
theorem DK{w:Str}(h:B3 w=true):∃i:Int,1<=i/\i<10000000/\w=Gz i/\C8 w=decide (i<=1000000):=by
 have h':=h
 unfold B3 at h'
 simp only [Zo,decide_eq_true_eq,ah] at h'
 obtain⟨⟨⟨h1,h2⟩,h3⟩,h4⟩:=h'
 have hl:1<=w.length:=by
  rw [← FK]
  cases e:cs w with
  | nil=>exact absurd e h1
  | cons a r=>exact d8 (Zt _)
 obtain⟨m,m1,m2,e⟩:=Rn (w.length - 1) (cs w) (by rw [FK]; omega) h4 h2
 have m3:m<10 ^ 7:=Zr m2 (Nat.pow_le_pow_right (by decide) (by omega))
 refine⟨(m:Int),by omega,by omega,F6 ?_,?_⟩
 ·rw [e]; exact(PySem.W.KIN.signs_num m).symm
 ·unfold C8
  rw [h,e,PySem.W.KIN.val_back,aV]
  exact decide_eq_decide.mpr (by omega)
theorem Nl{w:Str}(h:B3 w=false):C8 w=false:=by unfold C8; rw [h]; rfl
noncomputable def IR(w:Str):Prop:=w.length<=1000/\∀c∈cs w,c<128
noncomputable def Wj(ws:List Str):Prop:=ws≠[]/\ws.length<=1002/\∀w∈ws,IR w
noncomputable def Vg:Option Nat->D
 | none=>.non
 | some k=>.int k
noncomputable def CU(ps:List Str)(w:Str):Bool:=match ps.getLast? with
 | none=>true
 | some l=>decide (cs l<cs w)
noncomputable def S0(ps:List Str):List Str->Option Nat
 | _::w::r=>if (!Ci (.str w)||!CU ps w)=true then some 1 else if r.isEmpty=true then none else some 2
 | _=>some 1
noncomputable def Bg(ws ps:List Str)(ts:List Bv):Option Nat:=if (!ts.isEmpty||ps.length==24)=true then some 0 else S0 ps ws
noncomputable def B2(ts:List Bv)(a b:Str):Bool:=match ts.getLast? with
 | none=>true
 | some t=>BD [.inr t.a,.inr t.b] [.inr a,.inr b]
noncomputable def MS(a b:Str)(ps:List Str)(ts:List Bv):Bool:=ps.contains b&&decide (cs a<cs b)&&B2 ts a b
noncomputable def Wf:List Str->Option Nat
 | l::r=>if (!C8 l)=true then some 3 else if r.isEmpty=true then none else some 4
 | []=>some 3
noncomputable def Wg(ps:List Str)(ts:List Bv)(a:Str):List Str->Option Nat
 | b::r=>if (!MS a b ps ts)=true then some 2 else Wf r
 | []=>some 2
noncomputable def VF(ps:List Str)(ts:List Bv):List Str->Option Nat
 | _::a::r=>if (!ps.contains a)=true then some 1 else Wg ps ts a r
 | _=>some 1
noncomputable def Bq(ws ps:List Str)(ts:List Bv):Option Nat:=if (ts.length==60)=true then some 0 else VF ps ts ws
noncomputable def Cj(ws ps:List Str)(ts:List Bv):Option Nat:=match ws with
 | w::_=>if (w == "place")=true then Bg ws ps ts else if (w == "tie")=true then Bq ws ps ts else some 0
 | []=>some 0
noncomputable def ON:W2:=λss n P=>∃w:Str,ss=[.sh (.str w)]/\IR w/\P (.bl (C8 w)) n
noncomputable def IJ(ws ps:List Str)(ts:List Bv):List Slot:=[.sh (.lst (ws.map .str)),.br (.lst (ps.map .str)),.br (.lst (ts.map Bb))]
noncomputable def OI:W2:=λss n P=>∃(ws ps:List Str) (ts:List Bv),ss=IJ ws ps ts/\Wj ws/\ps.length<=24/\ts.length<=60/\P (Vg (Bg ws ps ts)) n
theorem Ro(c:Nat):(!(aA "0123456789" ⟨#[c]⟩ 0 ("0123456789" : Str).length 1).isEmpty)=(decide (48<=c)&&decide (c<=57)):=by
 rw [StrLaws.found_one]
 show decide (c∈cs "0123456789")=_
 rw [WD,← Bool.decide_and]
 refine decide_eq_decide.mpr ?_
 simp only [UF,aB,or_false]
 omega
theorem HZ{ss:List Slot}{n:Nat}{Pd:D->Nat->Prop}(h:ON ss n Pd):Eo (EE Pd) n (ss++Re 0 .no):=by
 obtain⟨w,rfl,⟨hl,_⟩,p⟩:=h
 have szl:=PySem.sizeLine_eq
 have fin:B3 w=false->Pd (.bl false) n:=λg=>by rw [Nl g] at p; exact p
 unfold Eo
 show if (w==("" : Str))=true then _ else _
 by_cases e1:w = ""
 ·rw [show (w==("" : Str))=true by rw [e1]; rfl]
  exact BC (BC (fin (by rw [e1]; rfl)))
 rw [show (w==("" : Str))=false from beq_eq_false_iff_ne.mpr e1]
 obtain⟨c,r,ec⟩:∃c r,cs w=c::r:=by
  cases e:cs w with
  | nil=>exact absurd (F6 (y := "") e) e1
  | cons c r=>exact⟨c,r,rfl⟩
 refine BR ⟨c,AR (j:=0) (by show (cs w)[0]?=_; rw [ec]; rfl),?_⟩
 show if ((⟨#[c]⟩:Str)==("0" : Str))=true then _ else _
 by_cases e2:c=48
 ·rw [show ((⟨#[c]⟩:Str)==("0" : Str))=true by rw [e2]; decide +kernel]
  refine BC (BC (fin ?_))
  unfold B3
  rw [ec,e2]
  simp
 rw [show ((⟨#[c]⟩:Str)==("0" : Str))=false by
  rw [beq_eq_false_iff_ne]
  intro z
  have:=congrArg cs z
  rw [show cs ("0" : Str)=[48] by decide +kernel] at this
  exact e2 (List.cons.inj this).1]
 refine BR ⟨_,_,rfl,rfl,KC (by decide) (by decide),by rw [Ul,szl]; decide,_,_,rfl,rfl,?_⟩
 show if decide (((aH (toString (1000000:Int))).length:Int)<(w.length:Int))=true then _ else _
 rw [Ul]
 by_cases e3:7<w.length
 ·rw [decide_eq_true (by omega)]
  refine BC (fin ?_)
  unfold B3
  rw [decide_eq_false (show ¬w.length<=7 by omega)]
  simp
 rw [decide_eq_false (by omega)]
 refine BR ⟨by rw [EZ]; omega,?_⟩
 refine BI Tv (λρ=>∃s1,ρ=[s1]) _ _ _ _ ?_ ⟨_,rfl⟩ ?_
 ·rintro d hd ρ n' nx ⟨s1,rfl⟩ hnx
  obtain⟨c,hc,rfl⟩:=Zu.mp hd
  exact hnx [.sh (.str ⟨#[c]⟩)] ⟨_,rfl⟩
 ·rw [Z9]
  unfold Dp.signs
  rw [aC]
  rw [show List.map (Tv∘λc=>D.str ⟨#[c]⟩) w.cps.toList=(cs w).map λc=>D.bl (decide (48<=c)&&decide (c<=57)) from aO λc _=>by show D.bl _=_; rw [Ro]]
  refine⟨_,_,rfl,IK (λc=>decide (48<=c)&&decide (c<=57)) (cs w),?_⟩
  have hg:B3 w=((cs w).map λc=>decide (48<=c)&&decide (c<=57)).all id:=by
   unfold B3
   rw [decide_eq_true (show cs w≠[] by rw [ec]; intro z; cases z),decide_eq_true (show (cs w).head?≠some 48 by rw [ec]; intro z; exact e2 (T0 z)),decide_eq_true (show w.length<=7 by omega),en]
   rfl
  rw [← hg]
  cases g:B3 w with
  | false=>exact fin g
  | true =>
   obtain⟨i,h1,h2,e,hb⟩:=DK g
   rw [hb] at p
   refine⟨i,by rw [e]; rfl,by omega,by omega,[.int i],rfl,rfl,?_⟩
   show Pd (.bl (decide (1<=i)&&decide (i<=1000000))) n
   rw [decide_eq_true h1]
   exact p
theorem PC{ps:List Str}{y:Str}(e:ps.getLast?=some y):(!(ps.map D.str).isEmpty)=true:=by
 obtain⟨ys,rfl⟩:=ac.mp e
 simp
theorem F_{ss:List Slot}{n:Nat}{Pd:D->Nat->Prop}(h:OI ss n Pd):Dq (EE Pd) n (ss++Re 0 .no):=by
 obtain⟨ws,ps,ts,rfl,hw,hp,ht,p⟩:=h
 obtain⟨l,hl⟩:∃l,ws.map D.str=l:=⟨_,rfl⟩
 have hll:l.length=ws.length:=by rw [← hl,Cn]
 unfold Dq IJ
 rw [hl]
 refine⟨!(ts.map Bb).isEmpty,rfl,?_⟩
 cases ts with
 | cons t ts =>
  refine BC (BC ?_)
  exact p
 | nil =>
 refine BR ⟨_,_,rfl,rfl,?_⟩
 show if (((ps.map D.str).length:Int)==24)=true then _ else _
 by_cases e1:ps.length=24
 ·rw [show (((ps.map D.str).length:Int)==24)=true by rw [beq_iff_eq,Cn]; omega]
  refine BC ?_
  rw [show Bg ws ps []=some 0 by unfold Bg; rw [e1]; rfl] at p
  exact p
 rw [show (((ps.map D.str).length:Int)==24)=false by rw [beq_eq_false_iff_ne,Cn]; omega]
 have pe:Bg ws ps []=S0 ps ws:=by unfold Bg; rw [if_neg (by simp [e1])]
 rw [pe] at p
 refine BR ⟨_,_,rfl,rfl,?_⟩
 show if decide ((l.length:Int)<2)=true then _ else _
 by_cases e2:l.length<2
 ·rw [decide_eq_true (by omega)]
  refine BC (BC ?_)
  rw [show S0 ps ws=some 1 by
   match ws,hll with
   | [],_=>rfl
   | [_],_=>rfl
   | _::_::_,hll=>simp only [No] at hll; omega] at p
  exact p
 rw [decide_eq_false (by omega)]
 obtain⟨w0,w,r,rfl⟩:∃w0 w r,ws=w0::w::r:=by
  match ws,hll with
  | [],hll=>simp only [Zq] at hll; omega
  | [_],hll=>simp only [No,Zq] at hll; omega
  | a::b::r,_=>exact⟨a,b,r,rfl⟩
 have hi:l[1]?=some (D.str w):=by rw [← hl]; rfl
 refine BR ⟨_,AR (j:=1) hi,[.str w],rfl,rfl,?_⟩
 show if (!(Ci (.str w)))=true then _ else _
 cases hn:Ci (.str w) with
 | false =>
  refine BC ?_
  simp only [S0,hn] at p
  exact p
 | true =>
 simp only [S0,hn,bB,Bool.false_or] at p
 refine BR ⟨!(ps.map D.str).isEmpty,rfl,?_⟩
 have fin:CU ps w=true->(A1 (Wv (Ae (Ac (f2 λi j=>D.bl (decide (j<i))) (CM Bt (AB (AE 0) AV)) (wC (D.int 2)))) (wC (D.int 2)) (wC D.non))) (EE Pd) n [.sh (.lst l),.br (.lst (ps.map .str)),.br (.lst [])]:=λh2=>by
  rw [h2] at p
  refine⟨_,_,rfl,rfl,?_⟩
  show if decide ((2:Int)<(l.length:Int))=true then _ else _
  simp only [No] at hll
  cases r with
  | nil =>
   rw [decide_eq_false (by simp only [Zq] at hll; omega)]
   exact BR p
  | cons x r =>
   rw [decide_eq_true (by simp only [No] at hll; omega)]
   exact BC p
 cases e:ps.getLast? with
 | none =>
  have:ps=[]:=bV.mp e
  subst this
  exact BR (BR (fin rfl))
 | some y =>
  rw [PC e]
  refine BC ⟨_,AR (j:=1) hi,1,rfl,_,Q7 e,?_⟩
  show if (!(decide (cs y<cs w)))=true then _ else _
  have hlt':CU ps w=decide (cs y<cs w):=by unfold CU; rw [e]
  by_cases hlt:cs y<cs w
  ·rw [decide_eq_true hlt]
   exact BR (fin (by rw [hlt']; exact decide_eq_true hlt))
  ·rw [decide_eq_false hlt]
   rw [hlt',decide_eq_false hlt] at p
   exact BC p
theorem Ea{w:Str}(h:IR w):EC (.str w):=⟨rfl,HI λc hc=>by have:=h.2 c hc; omega,Zt _⟩
theorem Lg:∀{ws:List Str} {w:Str} {c:Nat},w∈ws->c∈cs w->c∈cs (bG sp ws)
 | [x],w,c,h,hc=>by rw [Zp.mp h] at hc; exact hc
 | x::y::r,w,c,h,hc=>by
  rw [Lz]
  rcases UF.mp h with rfl | h
  ·exact bz _ hc
  ·exact Zz _ (Is _ (Lg h hc))
theorem FT{x:Str}(h:IR x):OP x (Txt.split x sp)/\Wj (Txt.split x sp):=by
 obtain⟨h1,h2,h3,h4⟩:=Oc h.1
 refine⟨h1,h2,h3,λw hw=>⟨h4 w hw,λc hc=>h.2 c ?_⟩⟩
 have:=Lg hw hc
 rw [eo] at this
 exact this
noncomputable def OH:W2:=λss n P=>∃(a b:Str) (ps:List Str) (ts:List Bv),ss=[.sh (.str a),.sh (.str b),.br (.lst (ps.map .str)),.br (.lst (ts.map Bb))]/\IR a/\IR b/\(∀p∈ps,DJ p)/\P (.bl (MS a b ps ts)) n
theorem Kh(ps:List Str)(x:Str):((ps.map D.str).any λy=>PY y (.str x))=ps.contains x:=by
 rw [List.any_map]
 induction ps with
 | nil=>rfl
 | cons y r ih =>
  rw [b_,cL,ih]
  congr 1
  show (y==x)=(x==y)
  exact Bool.beq_comm
theorem E_{ss:List Slot}{n:Nat}{Pd:D->Nat->Prop}(h:OH ss n Pd):Cw (EE Pd) n (ss++Re 0 .no):=by
 obtain⟨a,b,ps,ts,rfl,ha,hb,hps,p⟩:=h
 unfold Cw
 refine⟨Ea hb,Eb hps,_,rfl,?_⟩
 rw [Kh]
 cases h1:ps.contains b with
 | false =>
  rw [show MS a b ps ts=false by unfold MS; rw [h1]; rfl] at p
  exact p
 | true =>
 show if (!(decide (cs a<cs b)))=true then _ else _
 by_cases hlt:cs a<cs b
 ·rw [decide_eq_true hlt]
  have es:MS a b ps ts=B2 ts a b:=by unfold MS; rw [h1,decide_eq_true hlt]; rfl
  rw [es] at p
  refine BR ⟨!(ts.map Bb).isEmpty,rfl,?_⟩
  cases e:ts.getLast? with
  | none =>
   have:ts=[]:=bV.mp e
   subst this
   exact p
  | some s =>
   have hne:(!(ts.map Bb).isEmpty)=true:=by
    obtain⟨ys,rfl⟩:=ac.mp e
    simp
   rw [hne]
   refine⟨z2,1,rfl,_,Q6 e,[.inr a,.inr b],[.inr s.a,.inr s.b],rfl,rfl,rfl,?_⟩
   rw [show B2 ts a b=BD [.inr s.a,.inr s.b] [.inr a,.inr b] by unfold B2; rw [e]] at p
   exact p
 ·rw [decide_eq_false hlt]
  rw [show MS a b ps ts=false by unfold MS; rw [decide_eq_false hlt]; simp] at p
  exact BC p
noncomputable def OG:W2:=λss n P=>∃(ws ps:List Str) (ts:List Bv),ss=IJ ws ps ts/\Wj ws/\(∀p∈ps,DJ p)/\ps.length<=24/\ts.length<=60/\P (Vg (Bq ws ps ts)) n
noncomputable def En:AS:=(Ai (BP (Ae (Ac (EH false) (CM Bt (AB (A0 2) AV)) (wC (D.int 60)))) (A1 (wC (D.int 0))) A2)
 (Ai (BP (FU (Ae (Ac KU (CM Bt (AB (AE 0) AV)) (wC (D.int 2)))) (Ae (Ac (Lr true) (Ac B_ (AE 0) (wC (D.int 1))) (A0 1)))) (A1 (wC (D.int 1))) A2)
 (Ai (BP (FU (Ae (Ac KU (CM Bt (AB (AE 0) AV)) (wC (D.int 3)))) (GS (Ae (An OH (AI (Ap (Ac B_ (AE 0) (wC (D.int 1)))) (AI (Ap (Ac B_ (AE 0) (wC (D.int 2)))) (AI (CC (A0 1)) (AI (CC (A0 2)) Am)))))))) (A1 (wC (D.int 2))) A2)
 (Ai (BP (FU (Ae (Ac KU (CM Bt (AB (AE 0) AV)) (wC (D.int 4)))) (GS (Ae (An ON (AI (Ap (Ac B_ (AE 0) (wC (D.int 3)))) Am))))) (A1 (wC (D.int 3))) A2)
 (A1 (Wv (Ae (Ac (f2 λi j=>D.bl (decide (j<i))) (CM Bt (AB (AE 0) AV)) (wC (D.int 4)))) (wC (D.int 4)) (wC D.non)))))))
theorem HR{ss:List Slot}{n:Nat}{Pd:D->Nat->Prop}(h:OG ss n Pd):En (EE Pd) n (ss++Re 0 .no):=by
 obtain⟨ws,ps,ts,rfl,hw,hps,hp,ht,p⟩:=h
 obtain⟨l,hl⟩:∃l,ws.map D.str=l:=⟨_,rfl⟩
 have hll:l.length=ws.length:=by rw [← hl,Cn]
 have hat:∀{i:Nat} {w:Str},ws[i]?=some w->l[i]?=some (D.str w):=λ{i w} e=>by rw [← hl,Zn,e]; rfl
 unfold En IJ
 rw [hl]
 refine⟨_,_,rfl,rfl,?_⟩
 show if (((ts.map Bb).length:Int)==60)=true then _ else _
 by_cases e0:ts.length=60
 ·rw [show (((ts.map Bb).length:Int)==60)=true by rw [beq_iff_eq,Cn]; omega]
  rw [show Bq ws ps ts=some 0 by unfold Bq; rw [e0]; rfl] at p
  exact BC p
 rw [show (((ts.map Bb).length:Int)==60)=false by rw [beq_eq_false_iff_ne,Cn]; omega]
 have pe:Bq ws ps ts=VF ps ts ws:=by unfold Bq; rw [if_neg (by simp [e0])]
 rw [pe] at p
 refine BR ⟨_,_,rfl,rfl,?_⟩
 show if decide ((l.length:Int)<2)=true then _ else _
 by_cases e2:l.length<2
 ·rw [decide_eq_true (by omega)]
  refine BC (BC ?_)
  rw [show VF ps ts ws=some 1 by
   match ws,hll with
   | [],_=>rfl
   | [_],_=>rfl
   | _::_::_,hll=>simp only [No] at hll; omega] at p
  exact p
 rw [decide_eq_false (by omega)]
 obtain⟨w0,a,r,rfl⟩:∃w0 w r,ws=w0::w::r:=by
  match ws,hll with
  | [],hll=>simp only [Zq] at hll; omega
  | [_],hll=>simp only [No,Zq] at hll; omega
  | a::b::r,_=>exact⟨a,b,r,rfl⟩
 have la:=hw.2.2 a (Is _ On)
 refine BR ⟨_,AR (j:=1) (hat rfl),Ea la,Eb hps,_,rfl,?_⟩
 rw [Kh]
 show if (!ps.contains a)=true then _ else _
 cases ha:ps.contains a with
 | false =>
  simp only [VF,ha] at p
  exact BC p
 | true =>
 simp only [VF,ha,bB,Z5,if_false] at p
 refine BR ⟨_,_,rfl,rfl,?_⟩
 show if decide ((l.length:Int)<3)=true then _ else _
 simp only [No] at hll
 cases r with
 | nil =>
  rw [decide_eq_true (by simp only [Zq] at hll; omega)]
  exact BC (BC p)
 | cons b r =>
 simp only [No] at hll
 rw [decide_eq_false (by omega)]
 have lb:=hw.2.2 b (Is _ (Is _ On))
 refine BR ⟨_,AR (j:=1) (hat rfl),_,AR (j:=2) (hat rfl),a,b,ps,ts,rfl,la,lb,hps,?_⟩
 show if (!MS a b ps ts)=true then _ else _
 cases hs:MS a b ps ts with
 | false =>
  simp only [Wg,hs] at p
  exact BC p
 | true =>
 simp only [Wg,hs,bB,Z5,if_false] at p
 refine BR ⟨_,_,rfl,rfl,?_⟩
 show if decide ((l.length:Int)<4)=true then _ else _
 cases r with
 | nil =>
  rw [decide_eq_true (by simp only [Zq] at hll; omega)]
  exact BC (BC p)
 | cons c r =>
 simp only [No] at hll
 rw [decide_eq_false (by omega)]
 have lc:=hw.2.2 c (Is _ (Is _ (Is _ On)))
 refine BR ⟨_,AR (j:=3) (hat rfl),c,rfl,lc,?_⟩
 show if (!C8 c)=true then _ else _
 cases hc:C8 c with
 | false =>
  simp only [Wf,hc] at p
  exact BC p
 | true =>
 simp only [Wf,hc,bB,Z5,if_false] at p
 refine BR ⟨_,_,rfl,rfl,?_⟩
 show if decide ((4:Int)<(l.length:Int))=true then _ else _
 cases r with
 | nil =>
  rw [decide_eq_false (by simp only [Zq] at hll; omega)]
  exact BR p
 | cons x r =>
  rw [decide_eq_true (by simp only [No] at hll; omega)]
  exact BC p
noncomputable def OL:W2:=λss n P=>∃(ws ps:List Str) (ts:List Bv),ss=IJ ws ps ts/\Wj ws/\(∀p∈ps,DJ p)/\ps.length<=24/\ts.length<=60/\P (Vg (Cj ws ps ts)) n
noncomputable def EQ:AS:=(Ai (BP (Ae (Ac (EH false) (Ac B_ (AE 0) (wC (D.int 0))) (wC (D.str "place")))) (A1 (An OI (AI (Ap (AE 0)) (AI (CC (A0 1)) (AI (CC (A0 2)) Am))))) A2)
 (A1 (Wv (Ae (Ac (EH false) (Ac B_ (AE 0) (wC (D.int 0))) (wC (D.str "tie")))) (An OG (AI (Ap (AE 0)) (AI (CC (A0 1)) (AI (CC (A0 2)) Am)))) (wC (D.int 0)))))
theorem Gv{ss:List Slot}{n:Nat}{Pd:D->Nat->Prop}(h:OL ss n Pd):EQ (EE Pd) n (ss++Re 0 .no):=by
 obtain⟨ws,ps,ts,rfl,hw,hps,hp,ht,p⟩:=h
 obtain⟨w,r,ew⟩:∃w r,ws=w::r:=by
  cases ws with
  | nil=>exact absurd rfl hw.1
  | cons w r=>exact⟨w,r,rfl⟩
 have hi:(ws.map D.str)[0]?=some (D.str w):=by rw [ew]; rfl
 have pe:Cj ws ps ts=if (w == "place")=true then Bg ws ps ts else if (w == "tie")=true then Bq ws ps ts else some 0:=by rw [ew]; rfl
 rw [pe] at p
 unfold EQ
 refine⟨_,AR (j:=0) hi,?_⟩
 show if (w==("place" : Str))=true then _ else _
 cases e1:w==("place" : Str) with
 | true =>
  rw [e1] at p
  exact BC ⟨ws,ps,ts,rfl,hw,hp,ht,p⟩
 | false =>
 rw [e1] at p
 refine BR ⟨_,AR (j:=0) hi,?_⟩
 show if (w==("tie" : Str))=true then _ else _
 cases e2:w==("tie" : Str) with
 | true =>
  rw [e2] at p
  exact BC ⟨ws,ps,ts,rfl,hw,hps,hp,ht,p⟩
 | false =>
  rw [e2] at p
  exact BR p
noncomputable def BY(ws:List Str)(i:Nat):Str:=ws.getD i ""
noncomputable def Oa(ws:List Str):Bv:=⟨BY ws 1,BY ws 2,(PySem.NumText.digitsVal (cs (BY ws 3)):Int)⟩
noncomputable def By:Nat->List Str->List Bv->List Str->Sum (Nat×Nat) (List Str×List Bv)
 | _,ps,ts,[]=>.inr (ps,ts)
 | row,ps,ts,x::r=>match Cj (Txt.split x sp) ps ts with
  | some k=>.inl (row,k)
  | none=>if (BY (Txt.split x sp) 0 == "place")=true then By (row+1) (ps++[BY (Txt.split x sp) 1]) ts r else By (row+1) ps (ts++[Oa (Txt.split x sp)]) r
noncomputable def G_:WX:=λss n P Pr=>∃ls:List Str,ss=[.br (.lst (ls.map .str))]/\(∀x∈ls,IR x)/\ls.length<=1000/\match By 0 [] [] ls with
 | .inr (ps,ts)=>P (.tup [.tup (ps.map .str),.tup (ts.map Bb)]) n
 | .inl (r,k)=>Pr "NoLine" ["row","word"] [.int (r:Int),.int (k:Int)] n
noncomputable def L9(Pr:PX):AS:=(Ai (Bc 5 (UO "str" KS (AE 4) (AB (wC (D.str " ")) AV)))
 (Ai (Bc 6 (An OL (AI (Ap (AE 5)) (AI (CC (A0 1)) (AI (CC (A0 2)) Am)))))
 (Ai (BP (Ae (Ac (X3 true) (AE 6) (wC D.non))) (λD2=>(Py "NoLine" ["row","word"] (AB (AE 3) (AB (AE 6) AV))) D2 Pr) A2)
 (BP (Ae (Ac (EH false) (Ac B_ (AE 5) (wC (D.int 0))) (wC (D.str "place")))) (SN 1 "list" M7 (AB (Ac B_ (AE 5) (wC (D.int 1))) AV)) (SN 2 "list" M7 (AB (Du (AB (Ac B_ (AE 5) (wC (D.int 1))) (AB (Ac B_ (AE 5) (wC (D.int 2))) (AB (CM Lq (AB (Ac B_ (AE 5) (wC (D.int 3))) AV)) AV)))) AV))))))
noncomputable def Dl(Pr:PX):AS:=(Ai (Dv 1 (Cp AV))
 (Ai (Dv 2 (Cp AV))
 (Ai (P1 0 (T8 2 (EO (BH 3) (EO (BH 4) OC))) (L9 Pr))
 (A1 (Du (AB (CM Cv (AB (A0 1) AV)) (AB (CM Cv (AB (A0 2) AV)) AV)))))))
theorem Nb{ws ps:List Str}{ts:List Bv}(h:Bg ws ps ts=none):∃w0 w,ws=[w0,w]/\ts=[]/\ps.length≠24/\DJ w:=by
 unfold Bg at h
 split at h
 ·cases h
 ·rename_i h0
  simp only [eK,bu,beq_iff_eq,not_or,df] at h0
  match ws,h with
  | [],h=>cases h
  | [_],h=>cases h
  | w0::w::r,h =>
   rw [S0] at h
   split at h
   ·cases h
   ·rename_i h1
    split at h
    ·rename_i h2
     simp only [eK,bu,not_or,df] at h1
     obtain⟨x,ex,hx⟩:=nameB_iff.mp h1.1
     cases ex
     exact⟨w0,w,by rw [d_.mp h2],d_.mp h0.1,h0.2,hx⟩
    ·cases h
theorem NN{ws ps:List Str}{ts:List Bv}(h:Bq ws ps ts=none):∃w0 a b c,ws=[w0,a,b,c]/\ts.length≠60/\ps.contains a=true/\MS a b ps ts=true/\C8 c=true:=by
 unfold Bq at h
 split at h
 ·cases h
 ·rename_i h0
  match ws,h with
  | [],h=>cases h
  | [_],h=>cases h
  | w0::a::r,h =>
   rw [VF] at h
   split at h
   ·cases h
   ·rename_i h1
    match r,h with
    | [],h=>cases h
    | b::r,h =>
     rw [Wg] at h
     split at h
     ·cases h
     ·rename_i h2
      match r,h with
      | [],h=>cases h
      | c::r,h =>
       rw [Wf] at h
       split at h
       ·cases h
       ·rename_i h3
        split at h
        ·rename_i h4
         exact⟨w0,a,b,c,by rw [d_.mp h4],by simpa using h0,by simpa using h1,by simpa using h2,by simpa using h3⟩
        ·cases h
theorem JA{Pr:PX}{n:Nat}{all:D}{D2:E2}:∀(ls:List Str) (row:Nat) (ps:List Str) (ts:List Bv) (s3 s4 s5 s6:Slot),(∀x∈ls,IR x)->(∀p∈ps,DJ p)->ps.length<=24->ts.length<=60->(match By row ps ts ls with
   | .inr (ps',ts')=>ps'.length<=24->ts'.length<=60->∀s3 s4 s5 s6,D2.nx n [.br all,.ow (.lst (ps'.map .str)),.ow (.lst (ts'.map Bb)),s3,s4,s5,s6]
   | .inl (r,k)=>Pr "NoLine" ["row","word"] [.int (r:Int),.int (k:Int)] n) ->
  Bk (T8 2 (EO (BH 3) (EO (BH 4) OC))) (L9 Pr) D2 (CP row (ls.map .str)) n [.br all,.ow (.lst (ps.map .str)),.ow (.lst (ts.map Bb)),s3,s4,s5,s6]
 | [],_,ps,ts,s3,s4,s5,s6,_,_,hp,ht,h=>h hp ht s3 s4 s5 s6
 | x::r,row,ps,ts,s3,s4,s5,s6,hl,hps,hp,ht,h=>by
  have szl:=PySem.sizeLine_eq
  obtain⟨⟨c1,c2,c3,c4,_⟩,ok⟩:=FT (hl x On)
  have ih:=JA (Pr:=Pr) (n:=n) (all:=all) (D2:=D2) r (row+1)
  rw [By] at h
  refine⟨rfl,rfl,rfl,x,sp,rfl,rfl,c1,c2,c3,c4,?_⟩
  refine⟨Txt.split x sp,ps,ts,rfl,ok,hps,hp,ht,?_⟩
  clear c1 c2 c3 c4
  generalize Txt.split x sp=ws at h ok ⊢
  obtain⟨w,q,ew⟩:∃w q,ws=w::q:=by
   cases ws with
   | nil=>exact absurd rfl ok.1
   | cons w q=>exact⟨w,q,rfl⟩
  have hi:(ws.map D.str)[0]?=some (D.str w):=by rw [ew]; rfl
  have hw0:BY ws 0=w:=by rw [ew]; rfl
  cases e:Cj ws ps ts with
  | some k =>
   rw [e] at h
   exact⟨rfl,.inr ⟨rfl,rfl,h⟩⟩
  | none =>
   rw [e,hw0] at h
   refine⟨rfl,_,AR (j:=0) hi,?_⟩
   show if (w==("place" : Str))=true then _ else _
   have le:Cj ws ps ts=if (w == "place")=true then Bg ws ps ts else if (w == "tie")=true then Bq ws ps ts else some 0:=by rw [ew]; rfl
   rw [e] at le
   cases e1:w==("place" : Str) with
   | true =>
    rw [e1] at h le
    obtain⟨w0,y,ey,rfl,hn,hy⟩:=Nb le.symm
    subst ey
    refine BC ⟨_,rfl,rfl,_,AR (j:=1) rfl,_,_,rfl,rfl,by rw [Cn]; omega,?_⟩
    have z:=ih (ps++[y]) [] (.sh (.int (row:Int))) (.sh (.str x)) (.sh (.lst [.str w0,.str y])) (.sh .non) (λx hx=>hl x (Is _ hx)) (λp hp'=>by
     rcases Uf.mp hp' with h1 | h1
     ·exact hps p h1
     ·rw [Zp.mp h1]; exact hy) (by rw [FM,Z7]; omega) (Zt _) h
    rw [Zm] at z
    exact z
   | false =>
    rw [e1] at h le
    cases e2:w==("tie" : Str) with
    | false=>rw [e2] at le; cases le
    | true =>
    rw [e2] at le
    obtain⟨w0,a,b,c,ec,hn,ha,hs,hc⟩:=NN le.symm
    subst ec
    have hg:B3 c=true:=by
     unfold C8 at hc
     exact(Zo _ _▸hc).1
    obtain⟨i,i1,i2,ei,_⟩:=DK hg
    have hv:(PySem.NumText.digitsVal (cs c):Int)=i:=by
     obtain⟨m,rfl,_,em⟩:=Hm i1
     rw [ei,em,PySem.W.KIN.val_back]
    refine BR ⟨_,rfl,rfl,_,AR (j:=1) rfl,_,AR (j:=2) rfl,_,AR (j:=3) rfl,i,by rw [ei]; rfl,by omega,by omega,z3,_,_,rfl,rfl,by rw [Cn]; omega,?_⟩
    have z:=ih ps (ts++[⟨a,b,i⟩]) (.sh (.int (row:Int))) (.sh (.str x)) (.sh (.lst [.str w0,.str a,.str b,.str c])) (.sh .non) (λx hx=>hl x (Is _ hx)) hps hp (by rw [FM,Z7]; omega) (by
     rw [show Oa [w0,a,b,c]=⟨a,b,i⟩ by show (⟨a,b,(PySem.NumText.digitsVal (cs c):Int)⟩:Bv)=_; rw [hv]] at h
     exact h)
    rw [Zm] at z
    exact z
theorem IY{ss:List Slot}{n:Nat}{Pd:D->Nat->Prop}{Pr:PX}(h:G_ ss n Pd Pr):Dl Pr (EE Pd) n (ss++Re 6 .no):=by
 obtain⟨ls,rfl,hl,hn,h⟩:=h
 have szl:=PySem.sizeLine_eq
 unfold Dl
 refine⟨z0,z0,_,rfl,?_⟩
 refine JA ls 0 [] [] .no .no .no .no hl (λ_ z=>absurd z aB) (Zt _) (Zt _) ?_
 cases e:By 0 [] [] ls with
 | inl q=>rw [e] at h; exact h
 | inr q =>
  rw [e] at h
  exact λh1 h2 s3 s4 s5 s6=>⟨z2,h⟩
noncomputable def NM:Sum (Nat×Nat) (List Str×List Bv)->D
 | .inr (ps,ts)=>.tup [.str "net",.tup [.tup (ps.map .str),.tup (ts.map Bb)]]
 | .inl (r,k)=>.tup [.str "line",.int (r:Int),.int (k:Int)]
noncomputable def G9:W2:=λss n P=>∃ls:List Str,ss=[.br (.lst (ls.map .str))]/\(∀x∈ls,IR x)/\ls.length<=1000/\P (NM (By 0 [] [] ls)) n
noncomputable def NR:AS:=Bc 2 (Wu (Ku 3 ["NoPaper","NoPlace","NoRow","NoTie","TooMany","Twice"]) (U_ (Pu 3)))
noncomputable def KH:AS:=BP (Kw (Ae (Pw 3 "NoLine")) (GS (Ae (AE 2)))) (Bc 1 (Du (AB (wC (D.str "line")) (AB (YN 3 "row") (AB (YN 3 "word") AV))))) A2
noncomputable def Jh:AS:=Ai (Bc 1 (Du (AB (wC (D.str "other")) (AB (wC D.non) AV)))) (Ai NR KH)
noncomputable def Er:AS:=(Ai (Bc 1 (Du (AB (wC (D.str "none")) (AB (wC D.non) AV))))
 (Ai (Wr (UK 1 (UJ (.str "net") (P5 G_ (AI (CC (A0 0)) Am))))
 (P0 "ThinError" 3 (λ_=>Jh) Pz))
 (A1 (AE 1))))
theorem TL:decide (("NoLine" : Str)∈(["NoPaper","NoPlace","NoRow","NoTie","TooMany","Twice"]:List Str))=false:=by decide +kernel
theorem Xp(d e:D):aX ("row" : Str) ((["row","word"]:List Str).zip [d,e])=some d:=rfl
theorem Xo(d e:D):aX ("word" : Str) ((["row","word"]:List Str).zip [d,e])=some e:=by simp [aX]; rw [show (("word" : Str) == "row")=false by decide]
theorem Xj{w:DW}{i n:Nat}{ns:List Str}{ρ:List Slot}{P:D->Nat->Prop}{a:Addr}{nm:Str}{ks:List Str}{ds:List D}(h0:ρ[i]?=some (.ex a nm ks ds))(h:decide (nm∈ns)=false)(hw:w n ρ P):Wu (Ku i ns) w n ρ P:=by
 unfold Wu Ku
 rw [h0]
 dsimp only
 rw [h]
 exact hw
theorem QL{D2:E2}{n:Nat}{b0 s1 s2:Slot}{a:Addr}{ks:List Str}{ds:List D}(h:D2.nx n [b0,s1,.sh (.bl false),.ex a "NoLine" ks ds]):NR D2 n [b0,s1,s2,.ex a "NoLine" ks ds]:=by
 unfold NR Bc
 exact Xj rfl TL h
theorem Td{t:F4}{u v:AS}{D2:E2}{i n:Nat}{ρ:List Slot}{a:Addr}{cn:Str}{ks:List Str}{ds:List D}(h0:ρ[i]?=some (.ex a cn ks ds))(h:t n ρ λc n1=>if c=true then u D2 n1 ρ else v D2 n1 ρ):BP (Kw (Ae (Pw i cn)) t) u v D2 n ρ:=by
 unfold BP Kw Ae Pw
 rw [h0]
 dsimp only
 rw [decide_eq_true rfl,if_pos rfl]
 exact h
theorem Oj{D2:E2}{n:Nat}{b0 s1:Slot}{a:Addr}{d e:D}(h:D2.nx n [b0,.sh (.tup [.str "line",d,e]),.sh (.bl false),.ex a "NoLine" ["row","word"] [d,e]]):KH D2 n [b0,s1,.sh (.bl false),.ex a "NoLine" ["row","word"] [d,e]]:=by
 unfold KH
 refine Td rfl ?_
 exact⟨d,Xp d e,e,Xo d e,z3,h⟩
theorem VL{u v:AS}{D2:E2}{n:Nat}{ρ:List Slot}(h:u { D2 with nx:=v D2 } n ρ):Ai u v D2 n ρ:=h
theorem MW{D2:E2}{n:Nat}{b0 s1 s2:Slot}{a:Addr}{d e:D}(h:D2.nx n [b0,.sh (.tup [.str "line",d,e]),.sh (.bl false),.ex a "NoLine" ["row","word"] [d,e]]):Jh D2 n [b0,s1,s2,.ex a "NoLine" ["row","word"] [d,e]]:=by
 unfold Jh
 refine VL ⟨z2,?_⟩
 show Ai NR KH D2 n [b0,.sh (.tup [.str "other",.non]),s2,.ex a "NoLine" ["row","word"] [d,e]]
 refine VL ?_
 refine QL ?_
 exact Oj h
theorem Xr{c A B:Prop}[Decidable c](h:c)(x:A):if c then A else B:=by rw [if_pos h]; exact x
theorem Og{ss:List Slot}{n:Nat}{Pd:D->Nat->Prop}(h:G9 ss n Pd):Er (EE Pd) n (ss++Re 3 .no):=by
 obtain⟨ls,rfl,hl,hn,p⟩:=h
 unfold Er
 refine⟨z2,?_⟩
 refine⟨ls,rfl,hl,hn,?_⟩
 cases e:By 0 [] [] ls with
 | inr q =>
  rw [e] at p
  exact p
 | inl q =>
  rw [e] at p
  refine Xr (aJ rfl) λa=>?_
  exact MW p
noncomputable def HB:W2:=λss n P=>∃w:Str,ss=[.sh (.str w)]/\IR w/\P (.bl (Ci (.str w))) n
noncomputable def F1:W2:=λss n P=>∃w:Str,ss=[.sh (.str w)]/\IR w/\P (.bl (C8 w)) n
noncomputable def DM:AS:=(Ai (BP (Ae (Ac (Lr false) (wC (D.bl false)) (CB [none] (CS (AE 0)) (BH 0) Eh (Ac (Ur λi j P=>P (D.bl (!(aA j i 0 j.length 1).isEmpty))) (AE 0) (wC (D.str "abcdefghijklmnopqrstuvwxyz")))))) (A1 (wC (D.bl false))) A2)
 (A1 (E3 GK GK (wC (D.int 1)) (CM Bt (AB (AE 0) AV)) (wC (D.int 8)))))
noncomputable def Cm:AS:=(Ai (BP (FU (Ae (Ac (EH false) (AE 0) (wC (D.str "")))) (FU (Ae (Ac (Lr false) (wC (D.bl false)) (CB [none] (CS (AE 0)) (BH 0) Eh (Ac (Ur λi j P=>P (D.bl (!(aA j i 0 j.length 1).isEmpty))) (AE 0) (wC (D.str "0123456789")))))) (FU (Ae (Ac (EH false) (Ac B_ (AE 0) (wC (D.int 0))) (wC (D.str "0")))) (Ae (Ac (f2 λi j=>D.bl (decide (j<i))) (CM Bt (AB (AE 0) AV)) (wC (D.int 7))))))) (A1 (wC (D.bl false))) A2)
 (A1 (Ac GK (CM Lq (AB (AE 0) AV)) (Ac (V3 SK λi j=>D.int (i ^ j.toNat)) (wC (D.int 10)) (wC (D.int 6))))))
noncomputable def Q2:D->D
 | .str x=>.bl (!(aA letters x 0 letters.length 1).isEmpty)
 | _=>.non
section
variable {ss:List Slot}{n:Nat}{Pd:D->Nat->Prop}
theorem Js(h:HB ss n Pd):DM (EE Pd) n (ss++Re 0 .no):=by
 obtain⟨w,rfl,⟨hl,_⟩,p⟩:=h
 have szl:=PySem.sizeLine_eq
 unfold DM
 refine⟨by rw [EZ]; omega,?_⟩
 refine BI Q2 (λρ=>∃s1,ρ=[s1]) _ _ _ _ ?_ ⟨_,rfl⟩ ?_
 ·rintro d hd ρ n' nx ⟨s1,rfl⟩ hnx
  obtain⟨c,hc,rfl⟩:=Zu.mp hd
  exact hnx [.sh (.str ⟨#[c]⟩)] ⟨_,rfl⟩
 ·rw [Z9]
  unfold Dp.signs
  rw [aC]
  rw [show List.map (Q2∘λc=>D.str ⟨#[c]⟩) w.cps.toList=(cs w).map λc=>D.bl (decide (97<=c)&&decide (c<=122)) from aO λc _=>by show D.bl _=_; rw [Lb]]
  refine Lj ?_
  show if (!((cs w).all λc=>decide (97<=c)&&decide (c<=122)))=true then _ else _
  cases e:(cs w).all λc=>decide (97<=c)&&decide (c<=122) with
  | false =>
   rw [show Ci (.str w)=false by show ((decide (1<=w.length)&&decide (w.length<=8))&&(cs w).all λc=>decide (97<=c)&&decide (c<=122))=false; rw [e,bv]] at p
   exact BC p
  | true =>
   rw [show Ci (.str w)=(decide (1<=w.length)&&decide (w.length<=8)) by show ((decide (1<=w.length)&&decide (w.length<=8))&&(cs w).all λc=>decide (97<=c)&&decide (c<=122))=_; rw [e,eV]] at p
   refine BR ⟨_,_,rfl,rfl,?_⟩
   by_cases h1:1<=w.length
   ·rw [decide_eq_true h1,aV] at p
    show match D.bl (decide ((1:Int)<=(w.length:Int))) with
     | .bl true=>_
     | .bl false=>_
     | _=>_
    rw [decide_eq_true (by omega)]
    show Pd (.bl (decide ((w.length:Int)<=8))) n
    rw [show decide ((w.length:Int)<=8)=decide (w.length<=8) from decide_eq_decide.mpr (by omega)]
    exact p
   ·rw [decide_eq_false h1,bW] at p
    show match D.bl (decide ((1:Int)<=(w.length:Int))) with
     | .bl true=>_
     | .bl false=>_
     | _=>_
    rw [decide_eq_false (by omega)]
    exact p
theorem MZ(h:F1 ss n Pd):Cm (EE Pd) n (ss++Re 0 .no):=by
 obtain⟨w,rfl,⟨hl,_⟩,p⟩:=h
 have szl:=PySem.sizeLine_eq
 have fin:B3 w=false->Pd (.bl false) n:=λg=>by rw [Nl g] at p; exact p
 unfold Cm
 show if (w==("" : Str))=true then _ else _
 by_cases e1:w = ""
 ·rw [show (w==("" : Str))=true by rw [e1]; rfl]
  exact BC (BC (fin (by rw [e1]; rfl)))
 rw [show (w==("" : Str))=false from beq_eq_false_iff_ne.mpr e1]
 obtain⟨c,r,ec⟩:∃c r,cs w=c::r:=by
  cases e:cs w with
  | nil=>exact absurd (F6 (y := "") e) e1
  | cons c r=>exact⟨c,r,rfl⟩
 refine BR ⟨by rw [EZ]; omega,?_⟩
 refine BI Tv (λρ=>∃s1,ρ=[s1]) _ _ _ _ ?_ ⟨_,rfl⟩ ?_
 ·rintro d hd ρ n' nx ⟨s1,rfl⟩ hnx
  obtain⟨c,hc,rfl⟩:=Zu.mp hd
  exact hnx [.sh (.str ⟨#[c]⟩)] ⟨_,rfl⟩
 rw [Z9]
 unfold Dp.signs
 rw [aC]
 rw [show List.map (Tv∘λc=>D.str ⟨#[c]⟩) w.cps.toList=(cs w).map λc=>D.bl (decide (48<=c)&&decide (c<=57)) from aO λc _=>by show D.bl _=_; rw [Ro]]
 refine Lj ?_
 show if (!((cs w).all λc=>decide (48<=c)&&decide (c<=57)))=true then _ else _
 cases ea:(cs w).all λc=>decide (48<=c)&&decide (c<=57) with
 | false =>
  exact BC (BC (fin (by unfold B3; rw [ea,bv])))
 | true =>
 refine BR ⟨c,AR (j:=0) (by show (cs w)[0]?=_; rw [ec]; rfl),?_⟩
 show if ((⟨#[c]⟩:Str)==("0" : Str))=true then _ else _
 by_cases e2:c=48
 ·rw [show ((⟨#[c]⟩:Str)==("0" : Str))=true by rw [e2]; decide +kernel]
  refine BC (BC (fin ?_))
  unfold B3
  rw [ec,e2]
  simp
 rw [show ((⟨#[c]⟩:Str)==("0" : Str))=false by
  rw [beq_eq_false_iff_ne]
  intro z
  have:=congrArg cs z
  rw [show cs ("0" : Str)=[48] by decide +kernel] at this
  exact e2 (List.cons.inj this).1]
 refine BR ⟨_,_,rfl,rfl,?_⟩
 show if decide ((7:Int)<(w.length:Int))=true then _ else _
 by_cases e3:7<w.length
 ·rw [decide_eq_true (by omega)]
  refine BC (fin ?_)
  unfold B3
  rw [decide_eq_false (show ¬w.length<=7 by omega)]
  simp
 rw [decide_eq_false (by omega)]
 have hg:B3 w=true:=by
  unfold B3
  rw [decide_eq_true (show cs w≠[] by rw [ec]; intro z; cases z),decide_eq_true (show (cs w).head?≠some 48 by rw [ec]; intro z; exact e2 (T0 z)),decide_eq_true (show w.length<=7 by omega),ea]
  rfl
 obtain⟨i,h1,h2,e,hb⟩:=DK hg
 rw [hb] at p
 refine BR ⟨i,by rw [e]; rfl,by omega,by omega,⟨by decide,by decide,by decide⟩,?_⟩
 exact p
noncomputable def O4(ps:List Str)(w:Str):Bool:=ps.all λp=>decide (cs p<cs w)
noncomputable def JF(ts:List Bv)(a b:Str):Bool:=ts.all λt=>BD [.inr t.a,.inr t.b] [.inr a,.inr b]
noncomputable def Bs(ws:List Str)(i:Nat)(ps:List Str)(ts:List Bv):Bool :=
 if i=0 then (if (BY ws 0 == "place")=true then ts.isEmpty&&decide (ps.length<24) else (BY ws 0 == "tie")&&decide (ts.length<60))
 else if (BY ws 0 == "place")=true then (i==1)&&(Ci (.str (BY ws 1))&&O4 ps (BY ws 1))
 else if i=1 then ps.contains (BY ws 1)
 else if i=2 then ps.contains (BY ws 2)&&(decide (cs (BY ws 1)<cs (BY ws 2))&&JF ts (BY ws 1) (BY ws 2))
 else (i==3)&&C8 (BY ws 3)
noncomputable def Inv72(ps:List Str)(ts:List Bv):Prop:=(⟨ps,ts⟩:Net).Ok/\ps.length<=24/\ts.length<=60
noncomputable def HC:W2:=λss n P=>∃(ws ps:List Str) (ts:List Bv) (i:Nat),ss=[.sh (.lst (ws.map .str)),.sh (.int (i:Int)),.br (.lst (ps.map .str)),.br (.lst (ts.map Bb))]/\Wj ws/\i<ws.length/\Inv72 ps ts/\P (.bl (Bs ws i ps ts)) n
noncomputable def Eu:AS:=(Ai (BP (Ae (Ac (EH false) (AE 1) (wC (D.int 0)))) (Ai (BP (Ae (Ac (EH false) (Ac B_ (AE 0) (wC (D.int 0))) (wC (D.str "place")))) (A1 (HF (Ac To (A0 3) (Cp AV)) (Ac KU (CM Bt (AB (A0 2) AV)) (wC (D.int 24))))) A2)
 (A1 (HF (Ac (EH false) (Ac B_ (AE 0) (wC (D.int 0))) (wC (D.str "tie"))) (Ac KU (CM Bt (AB (A0 3) AV)) (wC (D.int 60)))))) A2)
 (Ai (BP (Ae (Ac (EH false) (Ac B_ (AE 0) (wC (D.int 0))) (wC (D.str "place")))) (A1 (HF (Ac (EH false) (AE 1) (wC (D.int 1))) (HF (An HB (AI (Ap (Ac B_ (AE 0) (wC (D.int 1)))) Am)) (Ac To (CB [some 0,none] (CS (A0 2)) (BH 1) (Ae (Ac Tj (AE 1) (Ac B_ (AE 0) (wC (D.int 1))))) (AE 1)) (Cp AV))))) A2)
 (Ai (BP (Ae (Ac (EH false) (AE 1) (wC (D.int 1)))) (A1 (Ac (Lr false) (Ac B_ (AE 0) (wC (D.int 1))) (A0 2))) A2)
 (Ai (BP (Ae (Ac (EH false) (AE 1) (wC (D.int 2)))) (Ai (Bc 4 (CB [some 0,none] (CS (A0 3)) (BH 1) (Ae (Ac Tj (Du (AB (Ac B_ (AE 1) (wC (D.int 0))) (AB (Ac B_ (AE 1) (wC (D.int 1))) AV))) (Du (AB (Ac B_ (AE 0) (wC (D.int 1))) (AB (Ac B_ (AE 0) (wC (D.int 2))) AV))))) (AE 1)))
 (A1 (HF (Ac (Lr false) (Ac B_ (AE 0) (wC (D.int 2))) (A0 2)) (HF (Ac V1 (Ac B_ (AE 0) (wC (D.int 2))) (Ac B_ (AE 0) (wC (D.int 1)))) (Ac To (AE 4) (Cp AV)))))) A2)
 (A1 (HF (Ac (EH false) (AE 1) (wC (D.int 3))) (An F1 (AI (Ap (Ac B_ (AE 0) (wC (D.int 3)))) Am))))))))
theorem Inv72.layT{ps:List Str}{ts:List Bv}(h:Inv72 ps ts){us:List Bv}(hu:∀t∈us,t∈ts):EC (.lst (us.map Bb)):=(Q3 h.1 hu).2
theorem H_(l:List D):PY (.lst l) (.lst [])=l.isEmpty:=by
 cases l <;> rfl
noncomputable def ZG(w:Str):D->Bool
 | .str x=>!(decide (cs x<cs w))
 | _=>false
noncomputable def Xw(a b:Str):D->Bool
 | .tup [.str x,.str y,_]=>!BD [.inr x,.inr y] [.inr a,.inr b]
 | _=>false
theorem TN(ps:List Str)(w:Str):(((ps.map D.str).filter (ZG w)).isEmpty)=O4 ps w:=by
 unfold O4
 induction ps with
 | nil=>rfl
 | cons p r ih =>
  rw [TW,List.filter_cons,bg]
  show (if (!(decide (cs p<cs w)))=true then _ else _:List D).isEmpty=_
  cases decide (cs p<cs w) with
  | false=>rfl
  | true=>rw [aV,← ih]; rfl
theorem Qy(ts:List Bv)(a b:Str):(((ts.map Bb).filter (Xw a b)).isEmpty)=JF ts a b:=by
 unfold JF
 induction ts with
 | nil=>rfl
 | cons t r ih =>
  rw [TW,List.filter_cons,bg]
  show (if (!BD [.inr t.a,.inr t.b] [.inr a,.inr b])=true then _ else _:List D).isEmpty=_
  cases BD [.inr t.a,.inr t.b] [.inr a,.inr b] with
  | false=>rfl
  | true=>rw [aV,← ih]; rfl
theorem Ln{α:Type}(f:α->D)(c:D->Bool)(l:List α):(l.map f).filter c=(l.filter (c∘f)).map f:=List.filter_map
theorem Kv{ws:List Str}{i:Nat}(h:i<ws.length):(ws.map D.str)[i]?=some (.str (BY ws i)):=by
 rw [Zn]
 unfold BY
 rw [Zw,Op h]
 rfl
theorem SU{ws:List Str}{i:Nat}(h:i<ws.length):BY ws i∈ws:=by
 unfold BY
 rw [Zw,Op h]
 exact ak h
theorem Xs{i k:Nat}:((i:Int)==(k:Int))=decide (i=k):=by
 by_cases h:i=k
 ·rw [h,decide_eq_true rfl,beq_self_eq_true]
 ·rw [decide_eq_false h,beq_eq_false_iff_ne]; omega
theorem Ol(h:HC ss n Pd):Eu (EE Pd) n (ss++Re 1 .no):=by
 obtain⟨ws,ps,ts,i,rfl,hw,hi,inv,p⟩:=h
 obtain⟨l,hl⟩:∃l,ws.map D.str=l:=⟨_,rfl⟩
 have hat:∀{j:Nat},j<=i->l[j]?=some (D.str (BY ws j)):=λ{j} hj=>by rw [← hl]; exact Kv (by omega)
 have hlow:∀{j:Nat},j<=i->IR (BY ws j):=λ{j} hj=>hw.2.2 _ (SU (by omega))
 have layP:EC (.lst (ps.map .str)):=Eb inv.1.names
 have layN:EC (.lst []):=⟨rfl,rfl,by decide⟩
 unfold Eu
 rw [hl]
 show if ((i:Int)==((0:Nat):Int))=true then _ else _
 rw [Xs]
 by_cases e0:i=0
 ·subst e0
  refine BC ⟨_,AR (j:=0) (hat (Go _)),?_⟩
  show if (BY ws 0==("place" : Str))=true then _ else _
  rw [show Bs ws 0 ps ts=if (BY ws 0 == "place")=true then ts.isEmpty&&decide (ps.length<24) else (BY ws 0 == "tie")&&decide (ts.length<60) from if_pos rfl] at p
  cases e1:BY ws 0==("place" : Str) with
  | true =>
   rw [e1] at p
   refine BC ⟨z0,inv.layT λ_ z=>z,layN,?_⟩
   rw [H_]
   rw [if_pos rfl] at p
   cases ts with
   | nil =>
    refine⟨_,_,rfl,rfl,?_⟩
    show Pd (.bl (decide (((ps.map D.str).length:Int)<24))) n
    rw [show decide (((ps.map D.str).length:Int)<24)=decide (ps.length<24) from decide_eq_decide.mpr (by rw [Cn]; omega)]
    exact p
   | cons t r=>exact p
  | false =>
   rw [e1] at p
   refine BR ⟨_,AR (j:=0) (hat (Go _)),?_⟩
   show match D.bl (BY ws 0==("tie" : Str)) with
    | .bl true=>_
    | .bl false=>_
    | _=>_
   rw [if_neg (by decide)] at p
   cases e2:BY ws 0==("tie" : Str) with
   | false=>rw [e2] at p; exact p
   | true =>
    rw [e2] at p
    refine⟨_,_,rfl,rfl,?_⟩
    show Pd (.bl (decide (((ts.map Bb).length:Int)<60))) n
    rw [show decide (((ts.map Bb).length:Int)<60)=decide (ts.length<60) from decide_eq_decide.mpr (by rw [Cn]; omega)]
    exact p
 rw [decide_eq_false e0]
 unfold Bs at p
 rw [if_neg e0] at p
 refine BR ⟨_,AR (j:=0) (hat (Zt _)),?_⟩
 show if (BY ws 0==("place" : Str))=true then _ else _
 cases e1:BY ws 0==("place" : Str) with
 | true =>
  rw [e1,if_pos rfl] at p
  refine BC ?_
  show match D.bl ((i:Int)==((1:Nat):Int)) with
   | .bl true=>_
   | .bl false=>_
   | _=>_
  rw [Xs]
  by_cases e2:i=1
  ·subst e2
   rw [decide_eq_true rfl]
   refine⟨_,AR (j:=1) (hat (Go _)),_,rfl,hlow (Go _),?_⟩
   rw [show ((1:Nat)==1)=true from rfl,aV] at p
   cases e3:Ci (.str (BY ws 1)) with
   | false=>rw [e3] at p; exact p
   | true =>
    rw [e3,aV] at p
    refine⟨by show (ps.map D.str).length<=10000000; rw [Cn]; have:=inv.2.1; omega,?_⟩
    refine Fg (ZG (BY ws 1)) id (λρ=>∃s,ρ=[.sh (.lst l),s]) _ _ _ _ ?_ ⟨_,rfl⟩ ?_
    ·rintro d hd ρ n' nx sk ⟨s,rfl⟩ h1 h2
     obtain⟨x,hx,rfl⟩:=Zu.mp hd
     refine⟨_,AR (j:=1) (hat (Go _)),?_⟩
     show if (!(decide (cs x<cs (BY ws 1))))=true then _ else _
     refine Dg (λc=>h1 _ ⟨_,rfl⟩ c) λc=>h2 _ ⟨_,rfl⟩ (cZ.mpr c)
    ·rw [Z9,List.map_id]
     refine⟨z0,?_,layN,?_⟩
     ·rw [Ln]
      exact Eb λq hq=>inv.1.names q (cw.mp hq).1
     ·rw [H_,TN]
      exact p
  ·rw [decide_eq_false e2]
   rw [show (i==1)=false from beq_eq_false_iff_ne.mpr e2] at p
   exact p
 | false =>
 rw [e1,if_neg (by decide)] at p
 refine BR ?_
 show if ((i:Int)==((1:Nat):Int))=true then _ else _
 rw [Xs]
 by_cases e2:i=1
 ·subst e2
  rw [if_pos rfl] at p
  refine BC ⟨_,AR (j:=1) (hat (Go _)),Ea (hlow (Go _)),layP,_,rfl,?_⟩
  rw [Kh]
  exact p
 rw [decide_eq_false e2]
 rw [if_neg e2] at p
 refine BR ?_
 show if ((i:Int)==((2:Nat):Int))=true then _ else _
 rw [Xs]
 by_cases e3:i=2
 ·subst e3
  rw [if_pos rfl] at p
  refine BC ⟨by show (ts.map Bb).length<=10000000; rw [Cn]; have:=inv.2.2; omega,?_⟩
  refine Fg (Xw (BY ws 1) (BY ws 2)) id (λρ=>∃s,ρ=[.sh (.lst l),s]) _ _ _ _ ?_ ⟨_,rfl⟩ ?_
  ·rintro d hd ρ n' nx sk ⟨s,rfl⟩ h1 h2
   obtain⟨t,ht,rfl⟩:=Zu.mp hd
   refine⟨_,AR (j:=0) rfl,_,AR (j:=1) rfl,z2,_,AR (j:=1) (hat (by decide)),_,AR (j:=2) (hat (by decide)),z2,_,_,rfl,rfl,rfl,?_⟩
   show if (!BD [.inr t.a,.inr t.b] [.inr (BY ws 1),.inr (BY ws 2)])=true then _ else _
   refine Dg (λc=>h1 _ ⟨_,rfl⟩ c) λc=>h2 _ ⟨_,rfl⟩ (cZ.mpr c)
  ·rw [Z9,List.map_id]
   refine⟨_,AR (j:=2) (hat (Go _)),Ea (hlow (Go _)),layP,_,rfl,?_⟩
   rw [Kh]
   cases e4:ps.contains (BY ws 2) with
   | false=>rw [e4] at p; exact p
   | true =>
   rw [e4,aV] at p
   refine⟨_,AR (j:=2) (hat (Go _)),_,AR (j:=1) (hat (by decide)),?_⟩
   show match D.bl (decide (cs (BY ws 1)<cs (BY ws 2))) with
    | .bl true=>_
    | .bl false=>_
    | _=>_
   cases e5:decide (cs (BY ws 1)<cs (BY ws 2)) with
   | false=>rw [e5] at p; exact p
   | true =>
   rw [e5,aV] at p
   refine⟨z0,?_,layN,?_⟩
   ·rw [Ln]
    exact inv.layT λq hq=>(cw.mp hq).1
   ·rw [H_,Qy]
    exact p
 rw [decide_eq_false e3]
 rw [if_neg e3] at p
 refine BR ?_
 show match D.bl ((i:Int)==((3:Nat):Int)) with
  | .bl true=>_
  | .bl false=>_
  | _=>_
 rw [Xs]
 by_cases e4:i=3
 ·subst e4
  rw [decide_eq_true rfl]
  exact⟨_,AR (j:=3) (hat (Go _)),_,rfl,hlow (Go _),p⟩
 ·rw [decide_eq_false e4]
  rw [show (i==3)=false from beq_eq_false_iff_ne.mpr e4] at p
  exact p
end
noncomputable def fb(g:Nat->Bool):Nat->Nat->Option Nat
 | _,0=>none
 | i,k+1=>if g i=true then fb g (i+1) k else some i
noncomputable def Yt(ws ps:List Str)(ts:List Bv):Option Nat:=match fb (λi=>Bs ws i ps ts) 0 ws.length with
 | some j=>some j
 | none=>if ws.length<(if (BY ws 0 == "place")=true then 2 else 4) then some ws.length else none
theorem JE{ps:List Str}{w:Str}(h:rising ps):O4 ps w=CU ps w:=by
 unfold CU O4
 cases e:ps.getLast? with
 | none=>rw [bV.mp e]; rfl
 | some y =>
  obtain⟨ys,rfl⟩:=ac.mp e
  show _=decide (cs y<cs w)
  by_cases hy:cs y<cs w
  ·rw [decide_eq_true hy]
   refine ah.mpr λx hx=>decide_eq_true ?_
   rcases Uf.mp hx with h1 | h1
   ·exact List.lt_trans ((b8.mp h).2.2 x h1 y On) hy
   ·rw [Zp.mp h1]; exact hy
  ·rw [decide_eq_false hy,List.all_append,bg,decide_eq_false hy,bW,bv]
theorem La{s:Bv}{a b:Str}(h:BD [.inr s.a,.inr s.b] [.inr a,.inr b]=true)(l:Int):Dh s ⟨a,b,l⟩:=by
 unfold BD BD BD at h
 split at h
 ·rename_i e
  split at h
  ·cases h
  ·exact .inr ⟨az e,of_decide_eq_true h⟩
 ·exact .inl (of_decide_eq_true h)
theorem Hq{ts:List Bv}{a b:Str}(h:ts.Pairwise Dh):JF ts a b=B2 ts a b:=by
 unfold B2 JF
 cases e:ts.getLast? with
 | none=>rw [bV.mp e]; rfl
 | some y =>
  obtain⟨ys,rfl⟩:=ac.mp e
  show _=BD [.inr y.a,.inr y.b] [.inr a,.inr b]
  cases hy:BD [.inr y.a,.inr y.b] [.inr a,.inr b] with
  | true =>
   refine ah.mpr λx hx=>?_
   rcases Uf.mp hx with h1 | h1
   ·exact RZ (t:=⟨a,b,0⟩) (KZ ((b8.mp h).2.2 x h1 y On) (La hy 0))
   ·rw [Zp.mp h1]; exact hy
  | false=>rw [List.all_append,bg,hy,bW,bv]
theorem Vs{ws ps:List Str}{ts:List Bv}(inv:Inv72 ps ts)(h:ws≠[]):Yt ws ps ts=Cj ws ps ts:=by
 obtain⟨ok,lp,lt⟩:=inv
 have nG:∀w,O4 ps w=CU ps w:=λw=>JE ok.rise
 have nT:∀a b,JF ts a b=B2 ts a b:=λa b=>Hq ok.trise
 cases ws with
 | nil=>exact absurd rfl h
 | cons w0 r =>
 unfold Yt
 rw [show Cj (w0::r) ps ts=if (w0 == "place")=true then Bg (w0::r) ps ts else if (w0 == "tie")=true then Bq (w0::r) ps ts else some 0 from rfl]
 rw [show BY (w0::r) 0=w0 from rfl]
 have g0:Bs (w0::r) 0 ps ts=if (w0 == "place")=true then ts.isEmpty&&decide (ps.length<24) else (w0 == "tie")&&decide (ts.length<60):=if_pos rfl
 have gS:∀i,i≠0->(w0 == "place")=true->Bs (w0::r) i ps ts=((i==1)&&(Ci (.str (BY (w0::r) 1))&&CU ps (BY (w0::r) 1))):=λi hi hp=>by
  unfold Bs
  rw [if_neg hi,show BY (w0::r) 0=w0 from rfl,if_pos hp,nG]
 have gT:∀i,i≠0->(w0 == "place")=false->Bs (w0::r) i ps ts=if i=1 then ps.contains (BY (w0::r) 1) else if i=2 then ps.contains (BY (w0::r) 2)&&(decide (cs (BY (w0::r) 1)<cs (BY (w0::r) 2))&&B2 ts (BY (w0::r) 1) (BY (w0::r) 2)) else (i==3)&&C8 (BY (w0::r) 3):=λi hi hp=>by
  unfold Bs
  rw [if_neg hi,show BY (w0::r) 0=w0 from rfl,hp,if_neg (by decide),nT]
 generalize hg:(λi=>Bs (w0::r) i ps ts)=g
 have hg':∀i,g i=Bs (w0::r) i ps ts:=λi=>by rw [← hg]
 rw [No]
 show (match (if g 0=true then fb g 1 r.length else some 0) with
  | some j=>some j
  | none=>if r.length+1<(if (w0 == "place")=true then 2 else 4) then some (r.length+1) else none)=_
 rw [hg',g0]
 cases e1:w0==("place" : Str) with
 | true =>
  simp only [eq_self,if_true]
  show _=Bg (w0::r) ps ts
  unfold Bg
  cases e2:ts.isEmpty&&decide (ps.length<24) with
  | false =>
   have:(!ts.isEmpty||ps.length==24)=true:=by
    cases e3:ts.isEmpty with
    | false=>rfl
    | true =>
     rw [e3,aV] at e2
     have:=of_decide_eq_false e2
     rw [show ps.length=24 by omega]
     rfl
   rw [this]
   rfl
  | true =>
   obtain⟨e3,e4⟩:=Zo _ _▸e2
   have:(!ts.isEmpty||ps.length==24)=false:=by
    rw [e3]
    have:=of_decide_eq_true e4
    exact beq_eq_false_iff_ne.mpr (by omega)
   rw [this]
   simp only [eq_self,if_true,bB,Z5,if_false]
   cases r with
   | nil=>rfl
   | cons w1 r' =>
    show (match (if g 1=true then fb g 2 r'.length else some 1) with
     | some j=>some j
     | none=>if r'.length+1+1<2 then some (r'.length+1+1) else none)=S0 ps (w0::w1::r')
    rw [hg',gS 1 (by decide) e1]
    show (match (if (Ci (.str w1)&&CU ps w1)=true then fb g 2 r'.length else some 1) with
     | some j=>some j
     | none=>if r'.length+1+1<2 then some (r'.length+1+1) else none)=if (!Ci (.str w1)||!CU ps w1)=true then some 1 else if r'.isEmpty=true then none else some 2
    rw [← Bool.not_and]
    cases Ci (.str w1)&&CU ps w1 with
    | false=>rfl
    | true =>
     cases r' with
     | nil=>rfl
     | cons x r2 =>
      show (match (if g 2=true then fb g 3 r2.length else some 2) with
       | some j=>some j
       | none=>if r2.length+1+1+1<2 then some (r2.length+1+1+1) else none)=some 2
      rw [hg',gS 2 (by decide) e1]
      rfl
 | false =>
  simp only [Z5,if_false]
  cases e2:w0==("tie" : Str) with
  | false=>rfl
  | true =>
  simp only [aV,eq_self,if_true]
  show _=Bq (w0::r) ps ts
  unfold Bq
  cases e3:decide (ts.length<60) with
  | false =>
   have:=of_decide_eq_false e3
   rw [show ts.length=60 by omega]
   rfl
  | true =>
  have:=of_decide_eq_true e3
  rw [show (ts.length==60)=false from beq_eq_false_iff_ne.mpr (by omega)]
  simp only [eq_self,if_true,bB,Z5,if_false]
  cases r with
  | nil=>rfl
  | cons a r1 =>
  show (match (if g 1=true then fb g 2 r1.length else some 1) with
   | some j=>some j
   | none=>if r1.length+1+1<4 then some (r1.length+1+1) else none)=if (!ps.contains a)=true then some 1 else Wg ps ts a r1
  rw [hg',gT 1 (by decide) e1,if_pos rfl]
  show (match (if ps.contains a=true then fb g 2 r1.length else some 1) with
   | some j=>some j
   | none=>if r1.length+1+1<4 then some (r1.length+1+1) else none)=_
  cases ps.contains a with
  | false=>rfl
  | true =>
  simp only [eq_self,if_true,bB,Z5,if_false]
  cases r1 with
  | nil=>rfl
  | cons b r2 =>
  show (match (if g 2=true then fb g 3 r2.length else some 2) with
   | some j=>some j
   | none=>if r2.length+1+1+1<4 then some (r2.length+1+1+1) else none)=if (!MS a b ps ts)=true then some 2 else Wf r2
  rw [hg',show Bs (w0::a::b::r2) 2 ps ts=(ps.contains b&&(decide (cs a<cs b)&&B2 ts a b)) from gT 2 (by decide) e1]
  show (match (if (ps.contains b&&(decide (cs a<cs b)&&B2 ts a b))=true then fb g 3 r2.length else some 2) with
   | some j=>some j
   | none=>if r2.length+1+1+1<4 then some (r2.length+1+1+1) else none)=_
  rw [← Bool.and_assoc,show (ps.contains b&&decide (cs a<cs b)&&B2 ts a b)=MS a b ps ts from rfl]
  cases MS a b ps ts with
  | false=>rfl
  | true =>
  simp only [eq_self,if_true,bB,Z5,if_false]
  cases r2 with
  | nil=>rfl
  | cons c r3 =>
  show (match (if g 3=true then fb g 4 r3.length else some 3) with
   | some j=>some j
   | none=>if r3.length+1+1+1+1<4 then some (r3.length+1+1+1+1) else none)=if (!C8 c)=true then some 3 else if r3.isEmpty=true then none else some 4
  rw [hg',show Bs (w0::a::b::c::r3) 3 ps ts=C8 c from gT 3 (by decide) e1]
  show (match (if C8 c=true then fb g 4 r3.length else some 3) with
   | some j=>some j
   | none=>if r3.length+1+1+1+1<4 then some (r3.length+1+1+1+1) else none)=_
  cases C8 c with
  | false=>rfl
  | true =>
  simp only [eq_self,if_true,bB,Z5,if_false]
  cases r3 with
  | nil=>rfl
  | cons x r4 =>
  show (match (if g 4=true then fb g 5 r4.length else some 4) with
   | some j=>some j
   | none=>if r4.length+1+1+1+1+1<4 then some (r4.length+1+1+1+1+1) else none)=some 4
  rw [hg',gT 4 (by decide) e1]
  rfl
theorem Sz{ws ps:List Str}{ts:List Bv}(h:Bg ws ps ts=none):CU ps (BY ws 1)=true:=by
 unfold Bg at h
 split at h
 ·cases h
 ·match ws,h with
  | [],h=>cases h
  | [_],h=>cases h
  | w0::w::r,h =>
   rw [S0] at h
   split at h
   ·cases h
   ·rename_i h1
    simp only [eK,bu,not_or,df] at h1
    exact h1.2
theorem QA{ws ps:List Str}{ts:List Bv}(inv:Inv72 ps ts)(hn:ws≠[])(e:Cj ws ps ts=none):(BY ws 0 == "place")=true/\ws.length=2/\Inv72 (ps++[BY ws 1]) ts\/(BY ws 0 == "place")=false/\BY ws 0 = "tie"/\ws.length=4/\Inv72 ps (ts++[Oa ws])/\C8 (BY ws 3)=true:=by
 obtain⟨ok,lp,lt⟩:=inv
 obtain⟨w,q,ew⟩:∃w q,ws=w::q:=by
  cases ws with
  | nil=>exact absurd rfl hn
  | cons w q=>exact⟨w,q,rfl⟩
 have le:Cj ws ps ts=if (w == "place")=true then Bg ws ps ts else if (w == "tie")=true then Bq ws ps ts else some 0:=by rw [ew]; rfl
 have h0:BY ws 0=w:=by rw [ew]; rfl
 rw [e] at le
 rw [h0]
 cases e1:w==("place" : Str) with
 | true =>
  rw [e1,if_pos rfl] at le
  have hl:=Sz le.symm
  obtain⟨w0,y,ey,rfl,hn,hy⟩:=Nb le.symm
  subst ey
  rw [← JE ok.rise] at hl
  refine .inl ⟨rfl,rfl,⟨?_,?_,λt ht=>absurd ht aB,bS⟩,?_,Zt _⟩
  ·intro x hx
   rcases Uf.mp hx with h1 | h1
   ·exact ok.names x h1
   ·rw [Zp.mp h1]; exact hy
  ·refine b8.mpr ⟨ok.rise,cU _ _,λx hx z hz=>?_⟩
   rw [Zp.mp hz]
   exact of_decide_eq_true (ah.mp hl x hx)
  ·show (ps++[y]).length<=24
   rw [FM,Z7]
   omega
 | false =>
  rw [e1,if_neg (by decide)] at le
  cases e2:w==("tie" : Str) with
  | false=>rw [e2] at le; cases le
  | true =>
  rw [e2,if_pos rfl] at le
  obtain⟨w0,a,b,c,ec,hn,ha,hs,hc⟩:=NN le.symm
  subst ec
  unfold MS at hs
  simp only [Zo,decide_eq_true_eq] at hs
  obtain⟨⟨hb,hab⟩,hl⟩:=hs
  rw [← Hq ok.trise] at hl
  have hg:B3 c=true:=by
   unfold C8 at hc
   exact(Zo _ _▸hc).1
  obtain⟨i,i1,i2,ei,eb⟩:=DK hg
  have hv:(PySem.NumText.digitsVal (cs c):Int)=i:=by
   obtain⟨m,rfl,_,em⟩:=Hm i1
   rw [ei,em,PySem.W.KIN.val_back]
  have i3:i<=1000000:=of_decide_eq_true (eb▸hc)
  refine .inr ⟨rfl,by rw [eq_of_beq e2],rfl,⟨⟨ok.names,ok.rise,λt ht=>?_,?_⟩,lp,?_⟩,hc⟩
  ·rcases Uf.mp ht with h1 | h1
   ·exact ok.tin t h1
   ·rw [Zp.mp h1]
    refine⟨cu.mp ha,cu.mp hb,hab,?_,?_⟩
    ·show 1<=(PySem.NumText.digitsVal (cs c):Int); rw [hv]; exact i1
    ·show (PySem.NumText.digitsVal (cs c):Int)<=1000000; rw [hv]; exact i3
  ·refine b8.mpr ⟨ok.trise,cU _ _,λx hx z hz=>?_⟩
   rw [Zp.mp hz]
   exact La (ah.mp hl x hx) _
  ·show (ts++[_]).length<=60
   rw [FM,Z7]
   omega
theorem HP:∀(ls:List Str) (row:Nat) (ps:List Str) (ts:List Bv),(∀x∈ls,IR x)->Inv72 ps ts->(match By row ps ts ls with
  | .inr (ps',ts')=>Inv72 ps' ts'
  | .inl (r,k)=>r<=row+ls.length/\k<=4)
 | [],row,ps,ts,_,inv=>inv
 | x::q,row,ps,ts,hl,inv=>by
  have ok:=(FT (hl x On)).2
  have hq:∀x∈q,IR x:=λy hy=>hl y (Is _ hy)
  rw [By]
  cases e:Cj (Txt.split x sp) ps ts with
  | some k =>
   refine⟨Nat.le_add_right _ _,?_⟩
   revert e
   generalize Txt.split x sp=ws
   intro e
   unfold Cj Bg Bq at e
   split at e
   ·split at e
    ·split at e
     ·cases e; decide
     ·unfold S0 at e; split at e
      ·split at e
       ·cases e; decide
       ·split at e
        ·cases e
        ·cases e; decide
      ·cases e; decide
    ·split at e
     ·split at e
      ·cases e; decide
      ·unfold VF at e; split at e
       ·split at e
        ·cases e; decide
        ·unfold Wg at e; split at e
         ·split at e
          ·cases e; decide
          ·unfold Wf at e; split at e
           ·split at e
            ·cases e; decide
            ·split at e
             ·cases e
             ·cases e; decide
           ·cases e; decide
         ·cases e; decide
       ·cases e; decide
     ·cases e; decide
   ·cases e; decide
  | none =>
   rcases QA inv ok.1 e with ⟨h1,_,h3⟩ | ⟨h1,_,_,h3,_⟩
   ·rw [if_pos h1]
    have z:=HP q (row+1) _ _ hq h3
    revert z
    cases By (row+1) (ps++[BY (Txt.split x sp) 1]) ts q with
    | inl z=>exact λz=>⟨by have:=z.1; rw [No]; omega,z.2⟩
    | inr z=>exact id
   ·rw [h1,if_neg (by decide)]
    have z:=HP q (row+1) _ _ hq h3
    revert z
    cases By (row+1) ps (ts++[Oa (Txt.split x sp)]) q with
    | inl z=>exact λz=>⟨by have:=z.1; rw [No]; omega,z.2⟩
    | inr z=>exact id
noncomputable def Fz:W2:=λss n P=>∃ls:List Str,ss=[.sh (.lst (ls.map .str))]/\(∀x∈ls,IR x)/\ls.length<=1000/\P (NM (By 0 [] [] ls)) n
noncomputable def Nw:AS:=(BP (GS (Ae (An HC (AI (Ap (AE 4)) (AI (Ap (AE 5)) (AI (CC (A0 1)) (AI (CC (A0 2)) Am))))))) (A1 (Du (AB (wC (D.str "line")) (AB (AE 3) (AB (AE 5) AV))))) A2)
noncomputable def RK:AS:=(BP (Ae (Ac KU (CM Bt (AB (AE 4) AV)) (Ac RT (P4 "place" "tie" 2 4) (Ac B_ (AE 4) (wC (D.int 0)))))) (A1 (Du (AB (wC (D.str "line")) (AB (AE 3) (AB (CM Bt (AB (AE 4) AV)) AV))))) A2)
noncomputable def R_:AS:=(BP (Ae (Ac (EH false) (Ac B_ (AE 4) (wC (D.int 0))) (wC (D.str "place")))) (SN 1 "list" M7 (AB (Ac B_ (AE 4) (wC (D.int 1))) AV)) (SN 2 "list" M7 (AB (Du (AB (Ac B_ (AE 4) (wC (D.int 1))) (AB (Ac B_ (AE 4) (wC (D.int 2))) (AB (CM Lq (AB (Ac B_ (AE 4) (wC (D.int 3))) AV)) AV)))) AV)))
noncomputable def KG:AS:=(Ai (Bc 4 (UO "str" KS (Ac B_ (AE 0) (AE 3)) (AB (wC (D.str " ")) AV)))
 (Ai (OU (GR (AB (CM Bt (AB (AE 4) AV)) AV)) (BH 5) Nw)
 (Ai RK R_)))
noncomputable def Es:AS:=(Ai (Dv 1 (Cp AV))
 (Ai (Dv 2 (Cp AV))
 (Ai (OU (GR (AB (CM Bt (AB (AE 0) AV)) AV)) (BH 3) KG)
 (A1 (Du (AB (wC (D.str "net")) (AB (Du (AB (CM Cv (AB (A0 1) AV)) (AB (CM Cv (AB (A0 2) AV)) AV))) AV)))))))
theorem Iy(lo:Int)(k:Nat):CF lo (k+1)=.int lo::CF (lo+1) k:=by
 unfold CF
 rw [cf,TW,aC]
 congr 1
 ·show D.int (lo+((0:Nat):Int))=_
  congr 1
  omega
 ·refine aO λi _=>?_
  show D.int (lo+((i+1:Nat):Int))=_
  congr 1
  omega
theorem OV:HG [.inr "place",.inr "tie"] [.int 2,.int 4] (.inr "place")=some (.int 2):=if_pos rfl
theorem SV:HG [.inr "place",.inr "tie"] [.int 2,.int 4] (.inr "tie")=some (.int 4):=by
 unfold HG
 rw [if_neg (λz=>absurd (az z) (by decide +kernel))]
 exact if_pos rfl
noncomputable def ρ72(all:D)(ps:List Str)(ts:List Bv)(s3 s4 s5:Slot):List Slot:=[.sh all,.ow (.lst (ps.map .str)),.ow (.lst (ts.map Bb)),s3,s4,s5]
theorem HQ{ws ps:List Str}{ts:List Bv}{row:Int}{D2:E2}{n:Nat}{all:D}(hw:Wj ws)(inv:Inv72 ps ts):∀(k i:Nat) (lo:Int) (s5:Slot),lo=(i:Int)->i+k=ws.length->(match fb (λi=>Bs ws i ps ts) i k with
   | some j=>D2.rt (.tup [.str "line",.int row,.int (j:Int)]) n
   | none=>∀s5,D2.nx n (ρ72 all ps ts (.sh (.int row)) (.sh (.lst (ws.map .str))) s5)) ->
  Bk (BH 5) Nw D2 (CF lo k) n (ρ72 all ps ts (.sh (.int row)) (.sh (.lst (ws.map .str))) s5)
 | 0,_,_,s5,_,_,h=>h s5
 | k+1,i,lo,s5,e,hk,h=>by
  subst e
  have ih:=HQ (row:=row) (D2:=D2) (n:=n) (all:=all) hw inv k (i+1) ((i:Int)+1) (.sh (.int (i:Int))) (by omega) (by omega)
  rw [Iy]
  refine⟨ws,ps,ts,i,rfl,hw,by omega,inv,?_⟩
  show if (!Bs ws i ps ts)=true then _ else _
  rw [fb] at h
  cases e:Bs ws i ps ts with
  | false =>
   rw [e] at h
   exact BC ⟨z3,h⟩
  | true =>
   rw [e,if_pos rfl] at h
   exact BR (ih h)
theorem QM{ws ps:List Str}{ts:List Bv}{row:Int}{D2:E2}{n m:Nat}{all:D}{s5:Slot}{w0:Str}{r:List Str}(ew:ws=w0::r)(hv:HG [.inr "place",.inr "tie"] [.int 2,.int 4] (.inr w0)=some (.int (m:Int)))(h:if ws.length<m then D2.rt (.tup [.str "line",.int row,.int (ws.length:Int)]) n else D2.nx n (ρ72 all ps ts (.sh (.int row)) (.sh (.lst (ws.map .str))) s5)):RK D2 n (ρ72 all ps ts (.sh (.int row)) (.sh (.lst (ws.map .str))) s5):=by
 have hi:(ws.map D.str)[0]?=some (D.str w0):=by rw [ew]; rfl
 clear ew
 obtain⟨l,hl⟩:∃l,ws.map D.str=l:=⟨_,rfl⟩
 have hll:l.length=ws.length:=by rw [← hl,Cn]
 rw [hl] at hi h ⊢
 unfold RK
 refine⟨_,_,rfl,rfl,_,AR (j:=0) hi,_,_,_,_,rfl,rfl,hv,?_⟩
 show if decide ((l.length:Int)<(m:Int))=true then _ else _
 by_cases c:ws.length<m
 ·rw [if_pos c] at h
  rw [decide_eq_true (by omega)]
  refine BC ⟨_,_,rfl,rfl,z3,?_⟩
  show D2.rt (.tup [.str "line",.int row,.int (l.length:Int)]) n
  rw [hll]
  exact h
 ·rw [if_neg c] at h
  rw [decide_eq_false (by omega)]
  exact BR h
theorem QP{ws ps:List Str}{ts:List Bv}{row:Int}{D2:E2}{n:Nat}{all:D}{s5:Slot}(inv:Inv72 ps ts)(h:(BY ws 0 == "place")=true/\ws.length=2/\D2.nx n (ρ72 all (ps++[BY ws 1]) ts (.sh (.int row)) (.sh (.lst (ws.map .str))) s5)\/(BY ws 0 == "place")=false/\ws.length=4/\C8 (BY ws 3)=true/\D2.nx n (ρ72 all ps (ts++[Oa ws]) (.sh (.int row)) (.sh (.lst (ws.map .str))) s5)):R_ D2 n (ρ72 all ps ts (.sh (.int row)) (.sh (.lst (ws.map .str))) s5):=by
 have szl:=PySem.sizeLine_eq
 obtain⟨_,lp,lt⟩:=inv
 have hat:∀{i:Nat},i<ws.length->(ws.map D.str)[i]?=some (D.str (BY ws i)):=λhi=>Kv hi
 obtain⟨l,hl⟩:∃l,ws.map D.str=l:=⟨_,rfl⟩
 rw [hl] at h ⊢
 rw [hl] at hat
 unfold R_
 have h0:0<ws.length:=by rcases h with ⟨_,h,_⟩ | ⟨_,h,_⟩ <;> omega
 refine⟨_,AR (j:=0) (hat h0),?_⟩
 show if (BY ws 0==("place" : Str))=true then _ else _
 rcases h with ⟨e,hn,h⟩ | ⟨e,hn,hc,h⟩
 ·rw [e]
  refine BC ⟨_,rfl,rfl,_,AR (j:=1) (hat (by omega)),_,_,rfl,rfl,by rw [Cn]; omega,?_⟩
  unfold ρ72 at h
  rw [Zm] at h
  exact h
 ·rw [e]
  have hg:B3 (BY ws 3)=true:=by
   unfold C8 at hc
   exact(Zo _ _▸hc).1
  obtain⟨i,i1,i2,ei,_⟩:=DK hg
  have hv:(PySem.NumText.digitsVal (cs (BY ws 3)):Int)=i:=by
   obtain⟨m,rfl,_,em⟩:=Hm i1
   rw [ei,em,PySem.W.KIN.val_back]
  refine BR ⟨_,rfl,rfl,_,AR (j:=1) (hat (by omega)),_,AR (j:=2) (hat (by omega)),_,AR (j:=3) (hat (by omega)),i,by rw [ei]; rfl,by omega,by omega,z3,_,_,rfl,rfl,by rw [Cn]; omega,?_⟩
  unfold ρ72 Oa at h
  rw [Zm,hv] at h
  exact h
theorem HU{D2:E2}{n:Nat}{all:List Str}(ha:all.length<=1000)(hlow:∀x∈all,IR x):∀(ls pre:List Str) (lo:Int) (ps:List Str) (ts:List Bv) (s3 s4 s5:Slot),all=pre++ls->lo=(pre.length:Int)->Inv72 ps ts->(match By pre.length ps ts ls with
   | .inr (ps',ts')=>∀s3 s4 s5,D2.nx n (ρ72 (.lst (all.map .str)) ps' ts' s3 s4 s5)
   | .inl (r,k)=>D2.rt (.tup [.str "line",.int (r:Int),.int (k:Int)]) n) ->
  Bk (BH 3) KG D2 (CF lo ls.length) n (ρ72 (.lst (all.map .str)) ps ts s3 s4 s5)
 | [],pre,lo,ps,ts,s3,s4,s5,_,_,_,h=>h s3 s4 s5
 | x::q,pre,lo,ps,ts,s3,s4,s5,ea,el,inv,h=>by
  subst el
  obtain⟨⟨c1,c2,c3,c4,_⟩,ok⟩:=FT (hlow x (by rw [ea]; exact Zz _ On))
  have ih:=HU (D2:=D2) (n:=n) ha hlow q (pre++[x]) ((pre.length:Int)+1)
  have hx:(all.map D.str)[pre.length]?=some (.str x):=by
   rw [ea,Zn,bN (Go _),Nat.sub_self]
   rfl
  rw [No,Iy]
  unfold KG
  refine⟨_,AR hx,rfl,x,sp,rfl,rfl,c1,c2,c3,c4,?_⟩
  clear c1 c2 c3 c4
  rw [By] at h
  generalize Txt.split x sp=ws at h ok ⊢
  have hz:=ok.2.1
  refine⟨_,_,rfl,rfl,_,rfl,⟨by omega,by rw [Cn]; omega⟩,?_⟩
  refine HQ ok inv _ 0 0 _ rfl (by rw [Cn]; exact Nat.zero_add _) ?_
  have le:=Vs inv ok.1
  rw [show ((((ws.map D.str).length:Nat):Int)).toNat=ws.length by rw [Cn]; rfl]
  obtain⟨w0,r,ew⟩:∃w r,ws=w::r:=by
   cases ws with
   | nil=>exact absurd rfl ok.1
   | cons w q=>exact⟨w,q,rfl⟩
  have hw0:BY ws 0=w0:=by rw [ew]; rfl
  unfold Yt at le
  cases e:fb (λi=>Bs ws i ps ts) 0 ws.length with
  | some j =>
   rw [e] at le
   rw [← le] at h
   exact h
  | none =>
   rw [e] at le
   intro s5'
   have hv:HG [.inr "place",.inr "tie"] [.int 2,.int 4] (.inr w0)=some (.int (((if (BY ws 0 == "place")=true then 2 else 4):Nat):Int)):=by
    have g0:Bs ws 0 ps ts=true:=by
     rw [ew,No,fb] at e
     rw [ew]
     cases g:Bs (w0::r) 0 ps ts with
     | true=>rfl
     | false=>rw [g] at e; cases e
    unfold Bs at g0
    rw [if_pos rfl,hw0] at g0
    rw [hw0]
    cases e1:w0==("place" : Str) with
    | true=>rw [eq_of_beq e1]; exact OV
    | false =>
     rw [e1,if_neg (by decide)] at g0
     simp only [Zo] at g0
     rw [eq_of_beq g0.1]
     exact SV
   dsimp only at le
   generalize ((if (BY ws 0 == "place")=true then 2 else 4):Nat)=M at le hv
   refine VL (QM ew hv ?_)
   by_cases c:ws.length<M
   ·rw [if_pos c] at le ⊢
    rw [← le] at h
    exact h
   ·rw [if_neg c] at le ⊢
    rw [← le] at h
    try dsimp only at h
    refine QP inv ?_
    rcases QA inv ok.1 le.symm with ⟨h1,h2,h3⟩ | ⟨h1,_,h2,h3,h4⟩
    ·rw [h1,if_pos rfl] at h
     refine .inl ⟨h1,h2,ih _ _ _ _ _ (by rw [ea,ap]; rfl) (by rw [FM]; rfl) h3 ?_⟩
     rw [show (pre++[x]).length=pre.length+1 by rw [FM]; rfl]
     exact h
    ·rw [h1,if_neg (by decide)] at h
     refine .inr ⟨h1,h2,h4,ih _ _ _ _ _ (by rw [ea,ap]; rfl) (by rw [FM]; rfl) h3 ?_⟩
     rw [show (pre++[x]).length=pre.length+1 by rw [FM]; rfl]
     exact h
theorem Xq:Inv72 [] []:=⟨⟨λx h=>(by cases h),bS,λt h=>(by cases h),bS⟩,Zt _,Zt _⟩
theorem Oh{ss:List Slot}{n:Nat}{Pd:D->Nat->Prop}(h:Fz ss n Pd):Es (EE Pd) n (ss++Re 5 .no):=by
 obtain⟨ls,rfl,hl,hn,h⟩:=h
 have szl:=PySem.sizeLine_eq
 unfold Es
 refine⟨z0,z0,_,_,rfl,rfl,_,rfl,⟨by omega,by rw [Cn]; omega⟩,?_⟩
 rw [show ((((ls.map D.str).length:Nat):Int)).toNat=ls.length by rw [Cn]; rfl]
 refine HU hn hl ls [] 0 [] [] .no .no .no rfl rfl Xq ?_
 rw [show ([]:List Str).length=0 from rfl]
 cases e:By 0 [] [] ls with
 | inl q=>rw [e] at h; exact h
 | inr q =>
  rw [e] at h
  exact λs3 s4 s5=>⟨z2,z2,h⟩
noncomputable def Lw(m:Nat)(w:Str):Prop:=w.length<=m/\∀c∈cs w,c<128
noncomputable def MH(ws:List Str):Nat:=(ws.map λw=>w.length+1).sum
theorem Cr(a b:List Str):MH (a++b)=MH a+MH b:=by unfold MH; rw [Zm,List.sum_append]
theorem FW(a:Str):MH [a]=a.length+1:=rfl
theorem Bw(a:Str)(l:List Str):MH (a::l)=a.length+1+MH l:=by unfold MH; rw [TW,List.sum_cons]
theorem NL{a b:List Str}(h:a.Sublist b):MH a<=MH b:=by
 induction h with
 | slnil=>exact Go _
 | cons x _ ih=>rw [Bw]; omega
 | cons_cons x _ ih=>rw [Bw,Bw]; omega
theorem ED:∀ws:List Str,ws≠[]->(bG sp ws).length+1=MH ws
 | [],h=>absurd rfl h
 | [x],_=>rfl
 | x::y::r,_=>by
  have ih:=ED (y::r) (λz=>by cases z)
  rw [Bw,← ih]
  show (x++sp++bG sp (y::r)).length+1=_
  rw [len_app,len_app,show sp.length=1 by decide +kernel]
  omega
theorem TZ(ws:List Str):(bG sp ws).length<=MH ws:=by
 cases ws with
 | nil=>exact Zt _
 | cons x r=>have:=ED (x::r) (λz=>by cases z); omega
theorem Sf(ws:List Str):(ws.map (·.length)).sum+ws.length*sp.length=MH ws:=by
 rw [show sp.length=1 by decide +kernel,Nat.mul_one]
 induction ws with
 | nil=>rfl
 | cons x r ih=>rw [Bw,← ih,TW,List.sum_cons,No]; omega
theorem Fk:∀{ws:List Str} {c:Nat},c∈cs (bG sp ws)->c=32\/∃w∈ws,c∈cs w
 | [],c,h=>by cases h
 | [x],c,h=>.inr ⟨x,On,h⟩
 | x::y::r,c,h=>by
  rw [Lz] at h
  rcases Uf.mp h with h | h
  ·exact .inr ⟨x,On,h⟩
  ·rcases UF.mp h with h | h
   ·exact .inl h
   ·rcases Fk h with h | ⟨w,hw,h⟩
    ·exact .inl h
    ·exact .inr ⟨w,Is _ hw,h⟩
noncomputable def MP:List Str:=["","a","b","zz","zzzzzzzz","abcdefghi","A","a1","place","tie","places","Tie","0","1","01","1000000","1000001","999999","9999999","10000000","-1","+1","1.","~","a-b"]
theorem QC:∀w∈MP,w.length<=10/\∀c∈cs w,c<128:=by decide +kernel
noncomputable def G8:W2:=λss n P=>∃ws:List Str,ss=[.fd,.sh (.lst (ws.map .str))]/\ws.length<=1002/\1<=n/\∀w,w∈MP++ws->P (.str w) (n - 1)
noncomputable def Qi:AS:=(A1 (Ac B_ (AE 2) (An Bj (AI (A_ 0) (AI (Ap (CM Bt (AB (AE 2) AV))) Am)))))
noncomputable def Ep:AS:=(Ai (Bc 2 (Cp (AB (wC (D.str "")) (AB (wC (D.str "a")) (AB (wC (D.str "b")) (AB (wC (D.str "zz")) (AB (wC (D.str "zzzzzzzz")) (AB (wC (D.str "abcdefghi")) (AB (wC (D.str "A")) (AB (wC (D.str "a1")) (AB (wC (D.str "place")) (AB (wC (D.str "tie")) (AB (wC (D.str "places")) (AB (wC (D.str "Tie")) (AB (wC (D.str "0")) (AB (wC (D.str "1")) (AB (wC (D.str "01")) AV)))))))))))))))))
 (Ai (Bc 2 (Ac Ak (Ac Ak (AE 2) (Cp (AB (wC (D.str "1000000")) (AB (wC (D.str "1000001")) (AB (wC (D.str "999999")) (AB (wC (D.str "9999999")) (AB (wC (D.str "10000000")) (AB (wC (D.str "-1")) (AB (wC (D.str "+1")) (AB (wC (D.str "1.")) (AB (wC (D.str "~")) (AB (wC (D.str "a-b")) AV)))))))))))) (AE 1)))
 Qi))
noncomputable def Kr:W2:=λss n P=>∃(x:Str) (m:Nat),ss=[.fd,.sh (.str x)]/\Lw m x/\m<=200/\3<=n/\∀(y:Str) (n':Nat),Lw (4*m+14) y->n - 3<=n'->P (.str y) n'
noncomputable def CQ:AS:=(Ai (Bc 2 (UO "str" KS (AE 1) (AB (wC (D.str " ")) AV)))
 (Ai (Bc 3 (An Bj (AI (A_ 0) (AI (Ap (Ac Ak (CM Bt (AB (AE 2) AV)) (wC (D.int 1)))) Am))))
 (Ai (Bc 4 (An Bj (AI (A_ 0) (AI (Ap (wC (D.int 5))) Am))))
 (Ai (Bc 5 (An G8 (AI (A_ 0) (AI (Ap (AE 2)) Am))))
 (Ai (BP (Ae (Ac (EH false) (AE 4) (wC (D.int 0)))) (A1 (UO "str" Lp (wC (D.str " ")) (AB (Ac Ak (F5 CA (AE 2) Ax (BE (AE 3))) (F5 CA (AE 2) (BE (Ac Ak (AE 3) (wC (D.int 1)))) Ax)) AV))) A2)
 (Ai (BP (Ae (Ac (EH false) (AE 4) (wC (D.int 1)))) (A1 (UO "str" Lp (wC (D.str " ")) (AB (Ac Ak (Ac Ak (F5 CA (AE 2) Ax (BE (AE 3))) (Cp (AB (AE 5) AV))) (F5 CA (AE 2) (BE (AE 3)) Ax)) AV))) A2)
 (Ai (BP (Ae (Ac (EH false) (AE 4) (wC (D.int 2)))) (A1 (UO "str" Lp (wC (D.str " ")) (AB (Ac Ak (Ac Ak (F5 CA (AE 2) Ax (BE (AE 3))) (Ac RQ (F5 CA (AE 2) (BE (AE 3)) (BE (Ac Ak (AE 3) (wC (D.int 1))))) (wC (D.int 2)))) (F5 CA (AE 2) (BE (Ac Ak (AE 3) (wC (D.int 1)))) Ax)) AV))) A2)
 (A1 (UO "str" Lp (wC (D.str " ")) (AB (Ac Ak (Ac Ak (F5 CA (AE 2) Ax (BE (AE 3))) (Cp (AB (AE 5) AV))) (F5 CA (AE 2) (BE (Ac Ak (AE 3) (wC (D.int 1)))) Ax)) AV))))))))))
section
variable {ss:List Slot}{n:Nat}{Pd:D->Nat->Prop}
theorem Oi{l:List Str}{s0:D}(h0:1<=l.length)(h1:l.length<=2000)(hn:1<=n)(p:∀w∈l,Pd (.str w) (n - 1)):Qi (EE Pd) n [.fd,.sh s0,.sh (.lst (l.map .str))]:=by
 refine⟨_,_,rfl,rfl,_,rfl,by rw [Cn]; omega,by rw [Cn]; omega,hn,λr r0 r1=>?_⟩
 rw [Cn] at r1
 obtain⟨j,rfl⟩:=bE r0
 have hj:j<l.length:=by omega
 refine⟨.str l[j],AR (by rw [Zn,Op hj]; rfl),p _ (ak hj)⟩
theorem Of(h:G8 ss n Pd):Ep (EE Pd) n (ss++Re 1 .no):=by
 obtain⟨ws,rfl,hl,hn,p⟩:=h
 have szl:=PySem.sizeLine_eq
 unfold Ep
 refine⟨(by decide:15<=sizeLine),(by decide:10<=sizeLine),(by decide:15+10<=sizeLine),(by rw [Cn]; show 25+_<=_; omega),?_⟩
 have z:=Oi (n:=n) (Pd:=Pd) (l:=MP++ws) (s0:=.lst (ws.map .str)) (by rw [FM]; show 1<=25+_; omega) (by rw [FM]; show 25+_<=_; omega) hn p
 rw [Zm] at z
 exact z
theorem GA(h:Kr ss n Pd):CQ (EE Pd) n (ss++Re 4 .no):=by
 obtain⟨x,m,rfl,hx,hm,hn,p⟩:=h
 have szl:=PySem.sizeLine_eq
 have lx:IR x:=⟨Zv hx.1 (by omega),hx.2⟩
 obtain⟨⟨c1,c2,c3,c4,_⟩,ok⟩:=FT lx
 have ht:MH (Txt.split x sp)=x.length+1:=by rw [← ED _ ok.1,eo]
 unfold CQ
 refine⟨rfl,x,sp,rfl,rfl,c1,c2,c3,c4,?_⟩
 clear c1 c2 c3 c4
 generalize Txt.split x sp=ws at ok ht ⊢
 have hw:=ok.2.1
 have hx1:=hx.1
 refine⟨_,_,rfl,rfl,_,rfl,by rw [Cn]; omega,by rw [Cn]; omega,by omega,λa a0 a1=>?_⟩
 refine⟨5,rfl,by decide,by decide,by omega,λv v0 v1=>?_⟩
 refine⟨ws,rfl,hw,by omega,λo ho=>?_⟩
 have ho1:o.length+1<=m+11/\∀c∈cs o,c<128:=by
  rcases Uf.mp ho with h | h
  ·have:=QC o h
   exact⟨by have:=this.1; omega,this.2⟩
  ·refine⟨?_,(ok.2.2 o h).2⟩
   have:=NL (List.singleton_sublist.mpr h)
   rw [FW] at this
   omega
 have cl:∀lo hi,(Dp.cutD (ws.map D.str) lo hi).length<=1002:=λlo hi=>by
  have:=(CY (ws.map D.str) lo hi).length_le
  rw [Cn] at this
  omega
 have ct:∀lo hi,MH (Dp.cutD ws lo hi)<=m+1:=λlo hi=>by
  have:=NL (CY ws lo hi)
  omega
 have cm:∀{lo hi} {w:Str},w∈Dp.cutD ws lo hi->∀c∈cs w,c<128:=λh=>(ok.2.2 _ ((CY ws _ _).subset h)).2
 have fin:∀(ws':List Str) (n':Nat),MH ws'<=4*m+14->(∀w∈ws',∀c∈cs w,c<128)->n - 3<=n'->(ws'.map (·.length)).sum+ws'.length*sp.length<=16777216/\(Txt.join sp ws').length<=16777216/\Pd (.str (Txt.join sp ws')) n':=λws' n' h1 h2 h3=>by
  have e:Txt.join sp ws'=bG sp ws':=StrLaws.glued_eq_join _ _
  have jl:=TZ ws'
  rw [Sf,e]
  refine⟨by omega,by omega,p _ _ ⟨by omega,λc hc=>?_⟩ h3⟩
  rcases Fk hc with h | ⟨w,hw,h⟩
  ·omega
  ·exact h2 w hw c h
 show if (v==0)=true then _ else _
 refine Dg (λc=>?_) λc=>?_
 ·obtain⟨f1,f2,f3⟩:=fin (Dp.cutD ws none (some a)++Dp.cutD ws (some (a+1)) none) (n - 1 - 1 - 1) (by rw [Cr]; have:=ct none (some a); have:=ct (some (a+1)) none; omega) (λw hw=>(Uf.mp hw).elim cm cm) (by omega)
  refine⟨rfl,by have:=cl none (some a); have:=cl (some (a+1)) none; omega,sp,_,_,rfl,rfl,?_,f1,f2,f3⟩
  rw [B8,B8,← Zm,EU]
 show if (v==1)=true then _ else _
 refine Dg (λc=>?_) λc=>?_
 ·obtain⟨f1,f2,f3⟩:=fin (Dp.cutD ws none (some a)++[o]++Dp.cutD ws (some a) none) (n - 1 - 1 - 1) (by rw [Cr,Cr,FW]; have:=ct none (some a); have:=ct (some a) none; have:=ho1.1; omega) (λw hw=>(Uf.mp hw).elim (λhw=>(Uf.mp hw).elim cm λhw=>by rw [Zp.mp hw]; exact ho1.2) cm) (by omega)
  refine⟨rfl,(by decide:1<=sizeLine),by have:=cl none (some a); show _+1<=_; omega,by have:=cl none (some a); have:=cl (some a) none; rw [FM]; show _+1+_<=_; omega,sp,_,_,rfl,rfl,?_,f1,f2,f3⟩
  rw [B8,B8]
  rw [show ([D.str o]:List D)=[o].map D.str from rfl,← Zm,← Zm,EU]
 show if (v==2)=true then _ else _
 refine Dg (λc=>?_) λc=>?_
 ·obtain⟨f1,f2,f3⟩:=fin (Dp.cutD ws none (some a)++(Dp.cutD ws (some a) (some (a+1))++Dp.cutD ws (some a) (some (a+1)))++Dp.cutD ws (some (a+1)) none) (n - 1 - 1 - 1) (by rw [Cr,Cr,Cr]; have:=ct none (some a); have:=ct (some a) (some (a+1)); have:=ct (some (a+1)) none; omega) (λw hw=>(Uf.mp hw).elim (λhw=>(Uf.mp hw).elim cm λhw=>(Uf.mp hw).elim cm cm) cm) (by omega)
  have ef:∀l:List D,(Re (2:Int).toNat l).flatten=l++l:=λl=>by show l++(l++[])=_; rw [aR]
  refine⟨rfl,by decide,by decide,by have:=cl (some a) (some (a+1)); show _*2<=_; omega,?_⟩
  rw [ef]
  refine⟨by have:=cl none (some a); have:=cl (some a) (some (a+1)); rw [FM]; omega,by have:=cl none (some a); have:=cl (some a) (some (a+1)); have:=cl (some (a+1)) none; rw [FM,FM]; omega,sp,_,_,rfl,rfl,?_,f1,f2,f3⟩
  rw [B8,B8,B8,← Zm,← Zm,← Zm,EU]
 ·obtain⟨f1,f2,f3⟩:=fin (Dp.cutD ws none (some a)++[o]++Dp.cutD ws (some (a+1)) none) (n - 1 - 1 - 1) (by rw [Cr,Cr,FW]; have:=ct none (some a); have:=ct (some (a+1)) none; have:=ho1.1; omega) (λw hw=>(Uf.mp hw).elim (λhw=>(Uf.mp hw).elim cm λhw=>by rw [Zp.mp hw]; exact ho1.2) cm) (by omega)
  refine⟨rfl,(by decide:1<=sizeLine),by have:=cl none (some a); show _+1<=_; omega,by have:=cl none (some a); have:=cl (some (a+1)) none; rw [FM]; show _+1+_<=_; omega,sp,_,_,rfl,rfl,?_,f1,f2,f3⟩
  rw [B8,B8]
  rw [show ([D.str o]:List D)=[o].map D.str from rfl,← Zm,← Zm,EU]
noncomputable def MF:W2:=λss n P=>∃(ls:List Str) (m K:Nat),ss=[.fd,.sh (.lst (ls.map .str))]/\(∀x∈ls,Lw m x)/\ls.length<=K/\m<=200/\K<=300/\10<=n/\∀(ls':List Str) (n':Nat),(∀x∈ls',Lw (4*m+14) x)->ls'.length<=3*K+1->n - 10<=n'->P (.lst (ls'.map .str)) n'
noncomputable def odd72:List Str:=[""," ","place","tie","place a","place zzzzzzzz","tie a b 1","net","tie a","place A"]
theorem TF:∀w∈odd72,w.length<=14/\∀c∈cs w,c<128:=by decide +kernel
noncomputable def Dr:AS:=(Ai (Bc 2 (An Bj (AI (A_ 0) (AI (Ap (Ac Ak (CM Bt (AB (AE 1) AV)) (wC (D.int 1)))) Am))))
 (Ai (Bc 3 (An Bj (AI (A_ 0) (AI (Ap (Ac Ak (CM Bt (AB (AE 1) AV)) (wC (D.int 1)))) Am))))
 (Ai (Bc 4 (An Bj (AI (A_ 0) (AI (Ap (wC (D.int 8))) Am))))
 (Ai (BP (Ae (Ac (EH false) (AE 4) (wC (D.int 0)))) (A1 (Ac JQ (F5 CA (AE 1) Ax (BE (AE 2))) (F5 CA (AE 1) (BE (Ac Ak (AE 2) (wC (D.int 1)))) Ax))) A2)
 (Ai (BP (Ae (Ac (EH false) (AE 4) (wC (D.int 1)))) (A1 (Ac JQ (Ac Ak (F5 CA (AE 1) Ax (BE (AE 2))) (F5 CA (AE 1) (BE (AE 2)) (BE (Ac Ak (AE 2) (wC (D.int 1)))))) (F5 CA (AE 1) (BE (AE 2)) Ax))) A2)
 (Ai (BP (Ae (Ac (EH false) (AE 4) (wC (D.int 2)))) (A1 (Ac JQ (Ac Ak (F5 CA (AE 1) Ax (BE (AE 2))) (F5 CA (AE 1) (BE (AE 3)) (BE (Ac Ak (AE 3) (wC (D.int 1)))))) (F5 CA (AE 1) (BE (Ac Ak (AE 2) (wC (D.int 1)))) Ax))) A2)
 (Ai (BP (Ae (Ac (EH false) (AE 4) (wC (D.int 3)))) (Ai (Bc 5 (Cp (AB (wC (D.str "")) (AB (wC (D.str " ")) (AB (wC (D.str "place")) (AB (wC (D.str "tie")) (AB (wC (D.str "place a")) (AB (wC (D.str "place zzzzzzzz")) (AB (wC (D.str "tie a b 1")) (AB (wC (D.str "net")) (AB (wC (D.str "tie a")) (AB (wC (D.str "place A")) AV))))))))))))
 (A1 (Ac JQ (Ac Ak (F5 CA (AE 1) Ax (BE (AE 2))) (Cp (AB (Ac B_ (AE 5) (An Bj (AI (A_ 0) (AI (Ap (wC (D.int 10))) Am)))) AV))) (F5 CA (AE 1) (BE (AE 2)) Ax)))) A2)
 (Ai (BP (Ae (Ac (EH false) (AE 2) (CM Bt (AB (AE 1) AV)))) (A1 (Ac JQ (F5 CA (AE 1) Ax (BE (AE 3))) (Ws (F5 CA (AE 1) Ax (BE (AE 3))) (SR (wC (D.int 1)))))) A2)
 (A1 (Ac JQ (Ac Ak (F5 CA (AE 1) Ax (BE (AE 2))) (Cp (AB (An Kr (AI (A_ 0) (AI (Ap (Ac B_ (AE 1) (AE 2))) Am))) AV))) (F5 CA (AE 1) (BE (Ac Ak (AE 2) (wC (D.int 1)))) Ax)))))))))))
theorem LB(h:MF ss n Pd):Dr (EF Pd) n (ss++Re 4 .no):=by
 obtain⟨ls,m,K,rfl,hx,hK,hm,hK2,hn,p⟩:=h
 have szl:=PySem.sizeLine_eq
 obtain⟨l,hl⟩:∃l,ls.map D.str=l:=⟨_,rfl⟩
 have hll:l.length=ls.length:=by rw [← hl,Cn]
 have cl:∀lo hi,(Dp.cutD l lo hi).length<=K:=λlo hi=>by
  have:=(CY l lo hi).length_le
  omega
 have cc:∀lo hi,(Dp.cutD ls lo hi).length<=K:=λlo hi=>by
  have:=(CY ls lo hi).length_le
  omega
 have ce:∀lo hi,Dp.cutD l lo hi=(Dp.cutD ls lo hi).map D.str:=λlo hi=>by rw [← hl,B8]
 have up:∀{w:Str},w∈ls->Lw (4*m+14) w:=λh=>⟨by have:=(hx _ h).1; omega,(hx _ h).2⟩
 have cm:∀{lo hi} {w:Str},w∈Dp.cutD ls lo hi->Lw (4*m+14) w:=λh=>up ((CY ls _ _).subset h)
 unfold Dr
 rw [hl]
 refine⟨_,_,rfl,rfl,_,rfl,by omega,by omega,by omega,λa a0 a1=>?_⟩
 refine⟨_,_,rfl,rfl,_,rfl,by omega,by omega,by omega,λb b0 b1=>?_⟩
 refine⟨8,rfl,by decide,by decide,by omega,λv v0 v1=>?_⟩
 show if (v==0)=true then _ else _
 refine Dg (λc=>?_) λc=>?_
 ·have z:=p (Dp.cutD ls none (some a)++Dp.cutD ls (some (a+1)) none) (n - 1 - 1 - 1) (λw hw=>(Uf.mp hw).elim cm cm) (by rw [FM]; have:=cc none (some a); have:=cc (some (a+1)) none; omega) (by omega)
  rw [Zm,← ce,← ce] at z
  exact⟨by have:=cl none (some a); have:=cl (some (a+1)) none; omega,z⟩
 show if (v==1)=true then _ else _
 refine Dg (λc=>?_) λc=>?_
 ·have z:=p (Dp.cutD ls none (some a)++Dp.cutD ls (some a) (some (a+1))++Dp.cutD ls (some a) none) (n - 1 - 1 - 1) (λw hw=>(Uf.mp hw).elim (λhw=>(Uf.mp hw).elim cm cm) cm) (by rw [FM,FM]; have:=cc none (some a); have:=cc (some a) (some (a+1)); have:=cc (some a) none; omega) (by omega)
  rw [Zm,Zm,← ce,← ce,← ce] at z
  exact⟨by have:=cl none (some a); have:=cl (some a) (some (a+1)); omega,by have:=cl none (some a); have:=cl (some a) (some (a+1)); have:=cl (some a) none; rw [FM]; omega,z⟩
 show if (v==2)=true then _ else _
 refine Dg (λc=>?_) λc=>?_
 ·have z:=p (Dp.cutD ls none (some a)++Dp.cutD ls (some b) (some (b+1))++Dp.cutD ls (some (a+1)) none) (n - 1 - 1 - 1) (λw hw=>(Uf.mp hw).elim (λhw=>(Uf.mp hw).elim cm cm) cm) (by rw [FM,FM]; have:=cc none (some a); have:=cc (some b) (some (b+1)); have:=cc (some (a+1)) none; omega) (by omega)
  rw [Zm,Zm,← ce,← ce,← ce] at z
  exact⟨by have:=cl none (some a); have:=cl (some b) (some (b+1)); omega,by have:=cl none (some a); have:=cl (some b) (some (b+1)); have:=cl (some (a+1)) none; rw [FM]; omega,z⟩
 show if (v==3)=true then _ else _
 refine Dg (λc=>?_) λc=>?_
 ·refine⟨(by decide:10<=sizeLine),10,rfl,by decide,by decide,by omega,λr r0 r1=>?_⟩
  obtain⟨j,rfl⟩:=bE r0
  have hj:j<odd72.length:=by show j<10; omega
  have hod:=TF _ (ak hj)
  have z:=p (Dp.cutD ls none (some a)++[odd72[j]]++Dp.cutD ls (some a) none) (n - 1 - 1 - 1 - 1) (λw hw=>(Uf.mp hw).elim (λhw=>(Uf.mp hw).elim cm λhw=>by rw [Zp.mp hw]; exact⟨by have:=hod.1; omega,hod.2⟩) cm) (by rw [FM,FM]; have:=cc none (some a); have:=cc (some a) none; show _+1+_<=_; omega) (by omega)
  rw [Zm,Zm,← ce,← ce] at z
  refine⟨.str odd72[j],AR (xs:=odd72.map D.str) (by rw [Zn,Op hj]; rfl),(by decide:1<=sizeLine),by have:=cl none (some a); show _+1<=_; omega,by have:=cl none (some a); have:=cl (some a) none; rw [FM]; show _+1+_<=_; omega,z⟩
 refine⟨_,_,rfl,rfl,?_⟩
 show if (a==(l.length:Int))=true then _ else _
 refine Dg (λc=>?_) λc=>?_
 ·have z:=p (Dp.cutD ls none (some b)++(Dp.cutD ls none (some b)).reverse) (n - 1 - 1 - 1) (λw hw=>(Uf.mp hw).elim cm λhw=>cm (List.mem_reverse.mp hw)) (by rw [FM,cC]; have:=cc none (some b); omega) (by omega)
  rw [Zm,List.map_reverse,← ce] at z
  exact⟨1,rfl,rfl,by have:=cl none (some b); rw [cC]; omega,z⟩
 ·obtain⟨j,rfl⟩:=bE a0
  have hj:j<ls.length:=by
   have:¬((j:Int)=(l.length:Int)):=λz=>c (by rw [z]; exact beq_self_eq_true _)
   omega
  refine⟨.str ls[j],AR (by rw [← hl,Zn,Op hj]; rfl),ls[j],m,rfl,hx _ (ak hj),hm,by omega,λy n' hy hn'=>?_⟩
  have z:=p (Dp.cutD ls none (some (j:Int))++[y]++Dp.cutD ls (some ((j:Int)+1)) none) n' (λw hw=>(Uf.mp hw).elim (λhw=>(Uf.mp hw).elim cm λhw=>by rw [Zp.mp hw]; exact hy) cm) (by rw [FM,FM]; have:=cc none (some (j:Int)); have:=cc (some ((j:Int)+1)) none; show _+1+_<=_; omega) (by omega)
  rw [Zm,Zm,← ce,← ce] at z
  exact⟨(by decide:1<=sizeLine),by have:=cl none (some (j:Int)); show _+1<=_; omega,by have:=cl none (some (j:Int)); have:=cl (some ((j:Int)+1)) none; rw [FM]; show _+1+_<=_; omega,z⟩
end
theorem KI{x:Str}(h:DJ x):∀c∈cs x,c<128:=λc hc=>by have:=h.2.2 c hc; omega
theorem Hs{x:Str}(h:DJ x):Lw 30 (GY x):=by
 have t:=ED ["place",x] (λz=>by cases z)
 have hl:=FD h
 rw [Bw,FW,show ("place" : Str).length=5 by decide +kernel] at t
 refine⟨by show (bG sp ["place",x]).length<=30; omega,λc hc=>?_⟩
 rcases Fk hc with h1 | ⟨w,hw,h1⟩
 ·omega
 ·rcases UF.mp hw with rfl | hw
  ·exact(show ∀c∈cs "place",c<128 by decide +kernel) c h1
  ·rw [Zp.mp hw] at h1; exact KI h c h1
theorem LW{t:Bv}(ha:DJ t.a)(hb:DJ t.b)(h1:1<=t.len)(h2:t.len<=1000000):Lw 30 (DF t):=by
 have e:=ED ["tie",t.a,t.b,Gz t.len] (λz=>by cases z)
 have la:=FD ha
 have lb:=FD hb
 have ln:=KD h1 h2
 rw [Bw,Bw,Bw,FW,show ("tie" : Str).length=3 by decide +kernel] at e
 refine⟨by show (bG sp ["tie",t.a,t.b,Gz t.len]).length<=30; omega,λc hc=>?_⟩
 rcases Fk hc with h | ⟨w,hw,h⟩
 ·omega
 ·rcases UF.mp hw with rfl | hw
  ·exact(show ∀c∈cs "tie",c<128 by decide +kernel) c h
  rcases UF.mp hw with rfl | hw
  ·exact KI ha c h
  rcases UF.mp hw with rfl | hw
  ·exact KI hb c h
  rw [Zp.mp hw] at h
  have:=TK h1 c h
  omega
noncomputable def F2:W2:=λss n P=>ss=[.fd]/\3<=n/\∀(ls:List Str) (n':Nat),(∀x∈ls,Lw 30 x)->ls.length<=100->n - 3<=n'->P (.lst (ls.map .str)) n'
noncomputable def Jx:AS:=(SN 2 "list" Tl (AB (CB [some 1,some 3,none] (UL (AB (Ac Ak (AE 3) (wC (D.int 1))) (AB (wC (D.int 12)) AV))) (BH 2) Eh (Du (AB (Ac B_ (AE 0) (AE 1)) (AB (Ac B_ (AE 0) (AE 2)) AV)))) AV))
noncomputable def RX:AS:=(Ai (SN 4 "list" Tl (AB (CB [some 2,none] (GR (AB (AE 5) AV)) (BH 1) Eh (Ac Ak (Ac Ak (Ac Ak (Ac Ak (Ac Ak (wC (D.str "tie ")) (Ac B_ (Ac B_ (A0 0) (AE 1)) (wC (D.int 0)))) (wC (D.str " "))) (Ac B_ (Ac B_ (A0 0) (AE 1)) (wC (D.int 1)))) (wC (D.str " "))) (CM Lo (AB (Ac Ak (wC (D.int 1)) (AE 1)) AV)))) AV))
 (Px 4))
noncomputable def Uk:AS:=(Ai (Bc 5 (Ac Ak (wC (D.int 60)) (An Bj (AI (A_ 0) (AI (Ap (wC (D.int 2))) Am)))))
 RX)
noncomputable def G7:AS:=(Ai (Dv 4 (CB [none] (CS (F5 CA (AE 1) Ax (BE (wC (D.int 12))))) (BH 0) Eh (Ac Ak (wC (D.str "place ")) (AE 0))))
 Uk)
noncomputable def DN:AS:=(Ai (Bc 1 (An Fy Am))
 (Ai (BP (Ae (Ac (EH false) (An Bj (AI (A_ 0) (AI (Ap (wC (D.int 2))) Am))) (wC (D.int 0)))) (A1 (CB [none] (CS (F5 CA (AE 1) Ax (BE (Ac Ak (wC (D.int 24)) (An Bj (AI (A_ 0) (AI (Ap (wC (D.int 2))) Am))))))) (BH 0) Eh (Ac Ak (wC (D.str "place ")) (AE 0)))) A2)
 (Ai (Dv 2 (Cp AV))
 (Ai (OU (GR (AB (wC (D.int 12)) AV)) (BH 3) Jx)
 G7))))
theorem Kx:∀x∈words26,DJ x:=by
 have h:∀x∈words26,1<=x.length/\x.length<=8/\∀c∈cs x,97<=c/\c<=122:=by decide +kernel
 exact h
theorem HS{n:Nat}{P:D->Nat->Prop}{ρ:List Slot}(xs:List Str)(hx:∀x∈xs,DJ x)(p:P (.lst ((xs.map GY).map .str)) n):EA (BH 0) Eh (Ac Ak (wC (D.str "place ")) (AE 0)) (λacc n2=>P (.lst acc) n2) (xs.map .str) [] n [.no]:=by
 refine BI Xe (λρ=>∃s1,ρ=[s1]) _ _ _ _ ?_ ⟨_,rfl⟩ ?_
 ·rintro d hd ρ n' nx ⟨s1,rfl⟩ hnx
  obtain⟨x,hx',rfl⟩:=Zu.mp hd
  have fin:=hnx [.sh (.str x)] ⟨_,rfl⟩
  rw [show Xe (.str x)=.str (GY x) from rfl,← LY] at fin
  exact⟨JI (hx x hx'),fin⟩
 ·rw [Z9,aC]
  rw [aC] at p
  exact p
noncomputable def Mg(p:Str×Str):D:=.tup [.str p.1,.str p.2]
noncomputable def Xd(a:Nat):D->D
 | .int i=>Mg (Bn a,Bn i.toNat)
 | _=>.non
noncomputable def FF(a:Nat):Nat:=[0,11,21,30,38,45,51,56,60,63,65,66,66].getD a 0
theorem O5:∀a,a<12->FF (a+1)=FF a+(11 - a):=by decide
section
variable {ss:List Slot}{n:Nat}{Pd:D->Nat->Prop}
theorem MX{D2:E2}{a:Nat}{prs:List (Str×Str)}{s4 s5:Slot}(ha:a<12)(hl:prs.length=FF a)(h0:∀p∈prs,DJ p.1/\DJ p.2)(h:∀prs':List (Str×Str),prs'.length=FF (a+1)->(∀p∈prs',DJ p.1/\DJ p.2)->D2.nx n [.fd,.sh (.lst (words26.map .str)),.ow (.lst (prs'.map Mg)),.sh (.int (a:Int)),s4,s5]):Jx D2 n [.fd,.sh (.lst (words26.map .str)),.ow (.lst (prs.map Mg)),.sh (.int (a:Int)),s4,s5]:=by
 have szl:=PySem.sizeLine_eq
 have hm:prs.length<=66:=by
  rw [hl]
  exact(show ∀a,a<12->FF a<=66 by decide) a ha
 unfold Jx
 refine⟨_,rfl,rfl,_,_,rfl,⟨by omega,by omega,by decide,by decide⟩,by rw [DB]; omega,?_⟩
 refine BI (Xd a) (λρ=>∃s2,ρ=[.sh (.lst (words26.map .str)),.sh (.int (a:Int)),s2]) _ _ _ _ ?_ ⟨_,rfl⟩ ?_
 ·rintro d hd ρ n' nx ⟨s2,rfl⟩ hnx
  obtain⟨k,hk,rfl⟩:=HN hd
  have hk':a+1+k<12:=by omega
  rw [show (a:Int)+1+(k:Int)=((a+1+k:Nat):Int) by omega] at *
  exact⟨_,AR (HE a (by omega)),_,AR (HE (a+1+k) (by omega)),z2,hnx _ ⟨_,rfl⟩⟩
 ·have hn:(CF ((a:Int)+1) (12 - ((a:Int)+1)).toNat).length=11 - a:=by rw [DB]; omega
  obtain⟨ys,e,hy,hyl⟩:∃ys:List (Str×Str),(CF ((a:Int)+1) (12 - ((a:Int)+1)).toNat).map (Xd a)=ys.map Mg/\(∀p∈ys,DJ p.1/\DJ p.2)/\ys.length=11 - a:=by
   refine⟨(Z0 (12 - ((a:Int)+1)).toNat).map λk=>(Bn a,Bn (a+1+k)),?_,?_,?_⟩
   ·unfold CF
    rw [aC,aC]
    refine aO λk _=>?_
    show Mg (Bn a,Bn ((a:Int)+1+(k:Int)).toNat)=_
    rw [show ((a:Int)+1+(k:Int)).toNat=a+1+k by omega]
    rfl
   ·intro p hp
    obtain⟨k,hk,rfl⟩:=Zu.mp hp
    have:=aW.mp hk
    exact⟨E1 _ (by omega),E1 _ (by omega)⟩
   ·rw [Cn,bA]; omega
  rw [Z9,e]
  refine⟨_,_,rfl,rfl,by rw [Cn,Cn]; omega,?_⟩
  have z:=h (prs++ys) (by rw [FM,O5 a ha]; omega) (λp hp=>(Uf.mp hp).elim (h0 p) (hy p))
  rw [Zm] at z
  exact z
noncomputable def ML(prs:List (Str×Str))(i:Nat):Bv:=⟨(prs.getD i ("","")).1,(prs.getD i ("","")).2,1+(i:Int)⟩
noncomputable def P8(prs:List (Str×Str)):D->D
 | .int i=>.str (DF (ML prs i.toNat))
 | _=>.non
theorem QN{ls:List Str}{prs:List (Str×Str)}{s3:Slot}{m:Nat}(hm:m<=61)(hl:66<=prs.length)(h0:∀p∈prs,DJ p.1/\DJ p.2)(hls:ls.length<=12)(hlw:∀x∈ls,Lw 30 x)(p:∀ls':List Str,(∀x∈ls',Lw 30 x)->ls'.length<=100->Pd (.lst (ls'.map .str)) n):RX (EF Pd) n [.fd,.sh (.lst (words26.map .str)),.ow (.lst (prs.map Mg)),s3,.ow (.lst (ls.map .str)),.sh (.int (m:Int))]:=by
 have szl:=PySem.sizeLine_eq
 have hg:∀k,k<m->∃a b:Str,prs[k]?=some (a,b)/\ML prs k=⟨a,b,1+(k:Int)⟩/\DJ a/\DJ b:=λk hk=>by
  have hk':k<prs.length:=by omega
  refine⟨prs[k].1,prs[k].2,Op hk',?_,h0 _ (ak hk')⟩
  unfold ML
  rw [Zw,Op hk']
  rfl
 unfold RX
 refine⟨_,rfl,rfl,_,rfl,⟨by omega,by omega⟩,by rw [DB]; omega,?_⟩
 refine BI (P8 prs) (λρ=>∃s1,ρ=[.br (.lst (prs.map Mg)),s1]) _ _ _ _ ?_ ⟨_,rfl⟩ ?_
 ·rintro d hd ρ n' nx ⟨s1,rfl⟩ hnx
  obtain⟨k,hk,rfl⟩:=HN hd
  have hk':k<m:=by omega
  obtain⟨a,b,e,et,ha,hb⟩:=hg k hk'
  have la:=FD ha
  have lb:=FD hb
  have h1:(1:Int)<=1+(0+(k:Int)):=by omega
  have h2:1+(0+(k:Int))<=1000000:=by omega
  have ln:=KD h1 h2
  have ei:(prs.map Mg)[k]?=some (Mg (a,b)):=by rw [Zn,e]; rfl
  have ea:atI (prs.map Mg) (0+(k:Int))=some (Mg (a,b)):=by rw [d9]; exact AR ei
  have fin:=hnx [.br (.lst (prs.map Mg)),.sh (.int (0+(k:Int)))] ⟨_,rfl⟩
  have ef:P8 prs (.int (0+(k:Int)))=.str (DF ⟨a,b,1+(0+(k:Int))⟩):=by
   show D.str (DF (ML prs (0+(k:Int)).toNat))=_
   rw [show (0+(k:Int)).toNat=k by omega,et,d9]
  have eq:("tie " : Str)++a++sp++b++sp++Gz (1+(0+(k:Int)))=DF ⟨a,b,1+(0+(k:Int))⟩:=by
   rw [← LX]
   show _=("tie " : Str)++(a++sp++(b++sp++Gz (1+(0+(k:Int)))))
   rw [BJ,BJ,BJ,BJ,BJ,BJ]
  rw [ef,← eq] at fin
  have k1:("tie " : Str).length=4:=by decide +kernel
  have k2:sp.length=1:=by decide +kernel
  have l1:(("tie " : Str)++a).length=4+a.length:=by rw [len_app,k1]
  have l2:(("tie " : Str)++a++sp).length=4+a.length+1:=by rw [len_app,l1,k2]
  have l3:(("tie " : Str)++a++sp++b).length=4+a.length+1+b.length:=by rw [len_app,l2]
  have l4:(("tie " : Str)++a++sp++b++sp).length=4+a.length+1+b.length+1:=by rw [len_app,l3,k2]
  have k2':(" " : Str).length=1:=k2
  have ln':(aH (toString (1+(0+(k:Int))))).length<=7:=ln
  exact⟨_,ea,_,AR (j:=0) rfl,by show ("tie " : Str).length+a.length<=_; rw [k1]; omega,by show (("tie " : Str)++a).length+_<=_; rw [l1,k2']; omega,_,ea,_,AR (j:=1) rfl,by show (("tie " : Str)++a++sp).length+b.length<=_; rw [l2]; omega,by show (("tie " : Str)++a++sp++b).length+_<=_; rw [l3,k2']; omega,KC h1 h2,by rw [szl]; omega,by show (("tie " : Str)++a++sp++b++sp).length+_<=_; rw [l4]; omega,fin⟩
 ·have hr:(CF 0 ((m:Int)).toNat).map (P8 prs)=((Z0 m).map λk=>DF (ML prs k)).map .str:=by
   unfold CF
   rw [aC,aC,show ((m:Int)).toNat=m from rfl]
   refine aO λk _=>?_
   show D.str (DF (ML prs (0+(k:Int)).toNat))=_
   rw [show (0+(k:Int)).toNat=k by omega]
   rfl
  rw [Z9,hr]
  refine⟨_,_,rfl,rfl,by rw [Cn,Cn,Cn,bA]; omega,_,rfl,?_⟩
  have z:=p (ls++(Z0 m).map λk=>DF (ML prs k)) (λx hx=>?_) (by rw [FM,Cn,bA]; omega)
  ·rw [Zm] at z
   exact z
  ·rcases Uf.mp hx with hx | hx
   ·exact hlw x hx
   ·obtain⟨k,hk,rfl⟩:=Zu.mp hx
    have hk:=aW.mp hk
    obtain⟨a,b,_,et,ha,hb⟩:=hg k hk
    rw [et]
    exact LW ha hb (by show (1:Int)<=1+(k:Int); omega) (by show 1+(k:Int)<=1000000; omega)
theorem Ec(hi:Int):Dp.cutD (words26.map D.str) none (some hi)=(Dp.cutD words26 none (some hi)).map D.str:=B8 _ _ _ _
theorem Mb{prs:List (Str×Str)}{s3 s4 s5:Slot}(hn:1<=n)(hl:prs.length=FF 12)(h0:∀p∈prs,DJ p.1/\DJ p.2)(p:∀ls':List Str,(∀x∈ls',Lw 30 x)->ls'.length<=100->Pd (.lst (ls'.map .str)) (n - 1)):G7 (EF Pd) n [.fd,.sh (.lst (words26.map .str)),.ow (.lst (prs.map Mg)),s3,s4,s5]:=by
 unfold G7
 have hc:∀x∈Dp.cutD words26 none (some 12),DJ x:=λx hx=>Kx x ((CY _ _ _).subset hx)
 have hc2:(Dp.cutD words26 none (some 12)).length<=12:=by decide +kernel
 refine⟨by rw [Ec,Cn]; omega,?_⟩
 rw [Ec]
 refine HS (P:=λd n1=>Uk (EF Pd) n1 [.fd,.sh (.lst (words26.map .str)),.ow (.lst (prs.map Mg)),s3,.ow d,s5]) (ρ:=[]) _ hc ?_
 refine⟨2,rfl,by decide,by decide,hn,λr r0 r1=>?_⟩
 obtain⟨j,rfl⟩:=bE r0
 have z:=QN (n:=n - 1) (Pd:=Pd) (ls:=(Dp.cutD words26 none (some 12)).map GY) (prs:=prs) (s3:=s3) (m:=60+j) (by omega) (by rw [hl]; decide) h0 (by rw [Cn]; exact hc2) (λx hx=>by obtain⟨y,hy,rfl⟩:=Zu.mp hx; exact Hs (hc y hy)) p
 exact z
theorem Jt(h:F2 ss n Pd):DN (EF Pd) n (ss++Re 5 .no):=by
 obtain⟨rfl,hn,p⟩:=h
 unfold DN
 refine⟨rfl,?_⟩
 refine⟨2,rfl,by decide,by decide,by omega,λr r0 r1=>?_⟩
 show if (r==0)=true then _ else _
 refine Dg (λc=>?_) λc=>?_
 ·refine⟨2,rfl,by decide,by decide,by omega,λs s0 s1=>?_⟩
  have hc:∀x∈Dp.cutD words26 none (some (24+s)),DJ x:=λx hx=>Kx x ((CY _ _ _).subset hx)
  have hc2:(Dp.cutD words26 none (some (24+s))).length<=26:=(CY _ _ _).length_le
  refine⟨by rw [Ec,Cn]; omega,?_⟩
  rw [Ec]
  refine HS (P:=Pd) (ρ:=[]) _ hc ?_
  exact p _ _ (λx hx=>by obtain⟨y,hy,rfl⟩:=Zu.mp hx; exact Hs (hc y hy)) (by rw [Cn]; omega) (by omega)
 ·refine⟨z0,12,rfl,by decide,?_⟩
  refine DD (all:=CF 0 12) (λpre m ρ=>m=n - 1/\∃(prs:List (Str×Str)) (s3:Slot),ρ=[.fd,.sh (.lst (words26.map .str)),.ow (.lst (prs.map Mg)),s3,.no,.no]/\prs.length=FF pre.length/\∀p∈prs,DJ p.1/\DJ p.2) ?_ ?_ _ [] _ _ rfl ⟨rfl,[],.no,rfl,rfl,λp hp=>by cases hp⟩
  ·rintro m ρ ⟨rfl,prs,s3,rfl,hl,h0⟩
   exact Mb (by omega) hl h0 λls' h1 h2=>p ls' _ h1 h2 (by omega)
  ·rintro pre d post m ρ nx hall ⟨rfl,prs,s3,rfl,hl,h0⟩ hnx
   obtain⟨rfl,hp⟩:=Jp hall
   have z:=MX (n:=n - 1) (D2:={ EF Pd with nx:=nx,ct:=nx,bk:=G7 (EF Pd) }) (a:=pre.length) (prs:=prs) (s4:=.no) (s5:=.no) hp hl h0 λprs' h1 h2=>hnx _ _ ⟨rfl,prs',_,rfl,by rw [h1,FM]; rfl,h2⟩
   rw [← d9 (pre.length:Int)] at z
   exact z
end
noncomputable def Ni(ls:List Str):D:=.lst (ls.map .str)
noncomputable def R7:AS:=(Ai (Bc 7 (CM M6 (AB (AE 6) AV)))
 (BP (FU (Ae (Ac (EH true) (CM RO (AB (An G9 (AI (CC (AE 7)) Am)) AV)) (CM RO (AB (An Fz (AI (Ap (AE 6)) Am)) AV)))) (Ae (Ac X1 (AE 7) (AE 6)))) (A1 (wC (D.bl false))) A2))
noncomputable def Uy:AS:=(Ai (UN 2 (BH 6) R7)
 (A1 (wC (D.bl true))))
noncomputable def M_:AS:=(Ai (Bc 5 (An MF (AI (A_ 1) (AI (Ap (AE 3)) Am))))
 (Ai (BP (Ae (Ac (EH false) (An Bj (AI (A_ 1) (AI (Ap (wC (D.int 3))) Am))) (wC (D.int 0)))) (Bc 5 (An MF (AI (A_ 1) (AI (Ap (AE 5)) Am)))) A2)
 (SN 2 "list" M7 (AB (AE 5) AV))))
noncomputable def MU:AS:=(Ai (Bc 3 (An Ks (AI (Ap (An OJ (AI (A_ 1) (AI (Ap (wC (D.int 5))) (AI (Ap (wC (D.int 6))) Am))))) Am)))
 (Ai (OU (GR (AB (wC (D.int 8)) AV)) (BH 4) M_)
 Uy))
noncomputable def Ja:AS:=(Ai (Dv 2 (Cp AV))
 (Ai (BP (Ae (Ac (EH false) (An Bj (AI (A_ 1) (AI (Ap (wC (D.int 8))) Am))) (wC (D.int 0)))) (SN 2 "list" M7 (AB (An F2 (AI (A_ 1) Am)) AV)) A2)
 MU))
noncomputable def WW(as:List (List Str)):Prop:=∀ls∈as,(∀x∈ls,IR x)/\ls.length<=1000
noncomputable abbrev EL:E2:={ nx:=λ_ _=>False,rt:=λd _=>d=.bl true }
theorem Rh(ls:List Str):JS (ls.map .str)=0:=by
 induction ls with
 | nil=>rfl
 | cons x r ih=>rw [TW,JS,ih]; rfl
theorem TU{ls:List Str}(h:∀x∈ls,IR x):EC (Ni ls):=by
 refine Mv (B:=0) (by decide) (fines_iff.mpr λd hd=>?_) ?_
 ·obtain⟨x,hx,rfl⟩:=Zu.mp hd
  exact λc hc=>by have:=(h x hx).2 c hc; omega
 ·show JS (ls.map .str)+1<=100
  rw [Rh]
  decide
theorem K_{ls:List Str}(h:∀x∈ls,IR x)(hl:ls.length<=1000):QE (NM (By 0 [] [] ls)):=by
 have z:=HP ls 0 [] [] h Xq
 revert z
 cases By 0 [] [] ls with
 | inl q =>
  intro z
  obtain⟨r,k⟩:=q
  obtain⟨z1,z2⟩:=z
  refine NS (B:=1000001) (by decide) ⟨(show ∀c∈cs "line",c<1114112 by decide +kernel),by show Int.natAbs _<=_; omega,by show Int.natAbs _<=_; omega,trivial⟩ ?_ ?_
  ·show max 0 (max 0 (max 0 0))+1<=100; decide
  ·show ("line" : Str).length+1+(200+1+(200+1+0))<=200000; rw [show ("line" : Str).length=4 by decide +kernel]; decide
 | inr q =>
  intro z
  obtain⟨ps,ts⟩:=q
  obtain⟨ok,lp,lt⟩:=z
  obtain⟨f1,f2,f3⟩:=VC (Ta ok) (Lh ok) (by rw [Cn]; show ps.length<=26; omega) (by rw [Cn]; show ts.length<=80; omega)
  refine NS (B:=1000001) (by decide) ⟨(show ∀c∈cs "net",c<1114112 by decide +kernel),f1,trivial⟩ ?_ ?_
  ·show max 0 (max (Ri (.tup [.tup (ps.map .str),.tup (ts.map Bb)])) 0)+1<=100
   have:Ri (.tup [.tup (ps.map .str),.tup (ts.map Bb)])<=3:=f3
   omega
  ·show ("net" : Str).length+1+(SO (.tup [.tup (ps.map .str),.tup (ts.map Bb)])+1+0)<=200000
   have:SO (.tup [.tup (ps.map .str),.tup (ts.map Bb)])<=48000:=f2
   rw [show ("net" : Str).length=3 by decide +kernel]
   omega
theorem QO{as:List (List Str)}(h:WW as)(n:Nat)(s3 s4 s5 s6 s7:Slot):Uy EL n [.no,.fd,.ow (.lst (as.map Ni)),s3,s4,s5,s6,s7]:=by
 refine⟨_,rfl,λa=>?_⟩
 refine DD (all:=as.map Ni) (λpre m ρ=>m=n/\∃s3 s4 s5 s6 s7,ρ=[.no,.fd,.lt a (.lst (as.map Ni)),s3,s4,s5,s6,s7]) ?_ ?_ _ [] _ _ rfl ⟨rfl,_,_,_,_,_,rfl⟩
 ·rintro m ρ ⟨rfl,s3,s4,s5,s6,s7,rfl⟩
  exact⟨rfl,rfl⟩
 ·rintro pre d post m ρ nx hall ⟨rfl,s3,s4,s5,s6,s7,rfl⟩ hnx
  obtain⟨ls,hls,rfl⟩:∃ls∈as,d=Ni ls:=by
   have:d∈as.map Ni:=by rw [hall]; exact Zz _ On
   obtain⟨N,h1,h2⟩:=Zu.mp this
   exact⟨N,h1,h2.symm⟩
  obtain⟨low,hl⟩:=h ls hls
  have sh:=K_ low hl
  have la:=TU low
  unfold R7
  refine⟨ls,rfl,low,hl,_,rfl,sh,ls,rfl,low,hl,_,rfl,sh,?_⟩
  generalize hA:MQ (NM (By 0 [] [] ls))=A
  show if (!(A==A))=true then _ else _
  rw [beq_self_eq_true]
  refine BR ⟨la,la,?_⟩
  show if (!PY (.lst (ls.map .str)) (.lst (ls.map .str)))=true then _ else _
  rw [PV]
  exact BR (hnx _ _ ⟨rfl,_,_,_,_,_,rfl⟩)
theorem Om{D2:E2}{n:Nat}{as:List (List Str)}{L:List Str}{s4 s5 s6 s7:Slot}(hn:21<=n)(hL:∀x∈L,Lw 30 x)(hl:L.length<=11)(ha:as.length<=100)(h:∀(ls:List Str) (n':Nat),(∀x∈ls,IR x)->ls.length<=1000->n - 21<=n'->D2.nx n' [.no,.fd,.ow (.lst ((as++[ls]).map Ni)),.sh (Ni L),s4,.sh (Ni ls),s6,s7]):M_ D2 n [.no,.fd,.ow (.lst (as.map Ni)),.sh (Ni L),s4,s5,s6,s7]:=by
 have szl:=PySem.sizeLine_eq
 have low:∀{m:Nat} {ls:List Str},m<=1000->(∀x∈ls,Lw m x)->∀x∈ls,IR x:=λhm h x hx=>⟨Zv (h x hx).1 hm,(h x hx).2⟩
 unfold M_
 refine⟨L,30,11,rfl,hL,hl,by decide,by decide,by omega,λl1 n1 h1 e1 hn1=>?_⟩
 refine⟨3,rfl,by decide,by decide,by omega,λr r0 r1=>?_⟩
 show if (r==0)=true then _ else _
 refine Dg (λc=>?_) λc=>?_
 ·refine⟨l1,134,34,rfl,h1,e1,by decide,by decide,by omega,λl2 n2 h2 e2 hn2=>?_⟩
  have z:=h l2 n2 (low (by decide) h2) (by omega) (by omega)
  rw [Zm] at z
  exact⟨_,rfl,rfl,_,_,rfl,rfl,by rw [Cn]; omega,z⟩
 ·have z:=h l1 (n1 - 1) (low (by decide) h1) (by omega) (by omega)
  rw [Zm] at z
  exact⟨_,rfl,rfl,_,_,rfl,rfl,by rw [Cn]; omega,z⟩
theorem I_{n:Nat}{as:List (List Str)}{s3 s4 s5 s6 s7:Slot}(hn:400<=n)(ha:as.length<=1)(h:WW as):MU EL n [.no,.fd,.ow (.lst (as.map Ni)),s3,s4,s5,s6,s7]:=by
 unfold MU
 refine⟨5,6,rfl,by decide,by decide,by omega,λN n1 ok hp ht hn1=>?_⟩
 refine⟨N,rfl,ok,by omega,by omega,8,rfl,by decide,?_⟩
 have hL:∀x∈linesOf N,Lw 30 x:=λx hx=>by
  unfold linesOf at hx
  rcases Uf.mp hx with hx | hx
  ·obtain⟨y,hy,rfl⟩:=Zu.mp hx
   exact Hs (ok.names y hy)
  ·obtain⟨t,ht,rfl⟩:=Zu.mp hx
   obtain⟨a,b,_,c,d⟩:=Qw ok ht
   exact LW a b c d
 have hl:(linesOf N).length<=11:=by unfold linesOf; rw [FM,Cn,Cn]; omega
 refine DD (all:=CF 0 8) (λpre m ρ=>n1 - 21*pre.length<=m/\∃(bs:List (List Str)) (s4 s5 s6 s7:Slot),ρ=[.no,.fd,.ow (.lst (bs.map Ni)),.sh (Ni (linesOf N)),s4,s5,s6,s7]/\bs.length<=1+pre.length/\WW bs) ?_ ?_ _ [] _ _ rfl ⟨Go _,as,_,_,_,_,rfl,ha,h⟩
 ·rintro m ρ ⟨_,bs,s4,s5,s6,s7,rfl,_,hb⟩
  exact QO hb _ _ _ _ _ _
 ·rintro pre d post m ρ nx hall ⟨hm,bs,s4,s5,s6,s7,rfl,hb,hbs⟩ hnx
  obtain⟨rfl,hp⟩:=Jp hall
  refine Om (by omega) hL hl (by omega) λls n' h1 h2 h3=>hnx _ _ ⟨?_,bs++[ls],_,_,_,_,rfl,?_,?_⟩
  ·rw [FM,Z7]; omega
  ·rw [FM,FM,Z7,Z7]; omega
  ·intro l hl
   rcases Uf.mp hl with hl | hl
   ·exact hbs l hl
   ·rw [Zp.mp hl]; exact⟨h1,h2⟩
theorem MY:Ja EL 9000 (.no::.fd::Re 6 .no):=by
 unfold Ja
 refine⟨z0,8,rfl,by decide,by decide,by decide,λr r0 r1=>?_⟩
 show if (r==0)=true then _ else _
 refine Dg (λc=>?_) λc=>?_
 ·refine⟨_,rfl,rfl,rfl,by decide,λls n' h1 h2 h3=>?_⟩
  refine⟨_,_,rfl,rfl,(by decide:0<sizeLine),?_⟩
  exact I_ (as:=[ls]) (by omega) (Go 1) λl hl=>by rw [Zp.mp hl]; exact⟨λx hx=>⟨Zv (h1 x hx).1 (by decide),(h1 x hx).2⟩,by omega⟩
 ·exact I_ (as:=[]) (by decide) (by decide) λl hl=>by cases hl
end Nt
set_option maxHeartbeats 4000000
namespace K72
open PySem PySem.Spec PyProof.Rows L2 Dp Nt
section
variable (P:Program)(w:World)(K:Frag)(mg:Str->Option Value)(base:Heap)
noncomputable abbrev IP:Prop:=Got P w K mg base "is_whole" 1 ["thing"] .sh Kp
noncomputable abbrev Gj:Prop:=Got P w K mg base "is_number" 2 ["thing"] .sh HA
noncomputable abbrev Je:Prop:=Got P w K mg base "is_name" 1 ["thing"] .sh OK
noncomputable abbrev Gk:Prop:=Got P w K mg base "is_length" 3 ["word"] .sh ON
noncomputable abbrev Ew:Prop:=Got P w K mg base "place_fault" 2 ["words","places","ties"] .sh OI
noncomputable abbrev Dt:Prop:=Got P w K mg base "is_second_end" 1 ["a","b","places","ties"] .sh OH
noncomputable abbrev Gi:Prop:=Got P w K mg base "tie_fault" 4 ["words","places","ties"] .sh OG
noncomputable abbrev Fv:Prop:=Got P w K mg base "line_fault" 5 ["words","places","ties"] .sh OL
noncomputable abbrev IN:Prop:=WZ P w K mg base "read_net" 6 ["lines"] .sh G_
noncomputable abbrev BA:Prop:=Got P w K mg base "_law_next" 1 ["_law_feed_here","_law_many"] .sh Bj
noncomputable abbrev Dn:Prop:=Got P w K mg base "_law_names" 1 [] .sh Fy
noncomputable abbrev Ey:Prop:=Got P w K mg base "_law_places" 2 ["_law_feed_here","_law_many"] .sh Fx
noncomputable abbrev Ez:Prop:=Got P w K mg base "_law_length" 2 ["_law_feed_here","_law_sort"] .sh OM
noncomputable abbrev Gp:Prop:=Got P w K mg base "_law_ties" 3 ["_law_feed_here","_law_places_here","_law_most"] .sh Kq
noncomputable abbrev IQ:Prop:=Got P w K mg base "_law_net" 4 ["_law_feed_here","_law_most","_law_ties_here"] .sh OJ
noncomputable abbrev Fw:Prop:=Got P w K mg base "_law_lines" 1 ["_law_net_here"] .fr Ks
noncomputable abbrev EW:Prop:=Got P w K mg base "_law_is_name" 1 ["_law_word_here"] .sh HB
noncomputable abbrev DQ:Prop:=Got P w K mg base "_law_is_length" 1 ["_law_word_here"] .sh F1
noncomputable abbrev Gr:Prop:=Got P w K mg base "_law_good" 2 ["_law_words","_law_at","_law_places_here","_law_ties_here"] .sh HC
noncomputable abbrev Gq:Prop:=Got P w K mg base "_law_read" 3 ["_law_lines_here"] .sh Fz
noncomputable abbrev Gn:Prop:=Got P w K mg base "_law_told" 7 ["_law_lines_here"] .sh G9
noncomputable abbrev Gm:Prop:=Got P w K mg base "_law_word" 2 ["_law_feed_here","_law_words"] .sh G8
noncomputable abbrev Co:Prop:=Got P w K mg base "_law_line_spoilt" 3 ["_law_feed_here","_law_line"] .sh Kr
noncomputable abbrev Ex:Prop:=Got P w K mg base "_law_spoilt" 4 ["_law_feed_here","_law_lines_here"] .fr MF
noncomputable abbrev EX:Prop:=Got P w K mg base "_law_crowded" 2 ["_law_feed_here"] .fr F2
end
section
variable {P:Program}{w:World}{K:Frag}{mg:Str->Option Value}{base:Heap}
theorem Gu:Ah ["self","word","number"] ["self","word","number"] (AK Be):=by constructor <;> first | rfl | decide +kernel
theorem Gy{f C U:Addr}{fd:FuncData}(c:XC K "NoPaper" C U)(F:Fun K "__init__" "NoPaper.__init__" Be f fd):A5 P w K mg base Cb 1 f fd ["self","word","number"] (F7 C "word" "number"):=by
 refine F.ok Gu (λvs H Q E h=>by obtain⟨a,v1,v2,rfl,_⟩:=h; rfl) (λcdv A outer s H vs Q E hr h=>?_)
 obtain⟨a,v1,v2,rfl,ha,hq⟩:=h
 refine⟨_,BK (Ui c c.nw (pv 0) (pv 1) rfl) (Ct (Uh c c.nn (pv 0) (pv 2) rfl)),?_⟩
 refine⟨v1,rfl,V.ref a,rfl,a,rfl,ha,λd hd hne=>⟨v2,rfl,V.ref a,rfl,a,d,[(("word" : Str),v1)],rfl,AN,?_,(by decide:1<1000),?_⟩⟩
 ·rw [AM hne,AN]
 ·rw [show DC "number" v2 [(("word" : Str),v1)]=[(("word" : Str),v1),(("number" : Str),v2)] from by unfold DC; rw [if_neg (by decide)]; rfl]
  exact hq d hd hne
theorem HL:Ah ["self","row","word"] ["self","row","word"] (AK Bo):=by constructor <;> first | rfl | decide +kernel
theorem Hl{f C U:Addr}{fd:FuncData}(c:XC K "NoLine" C U)(F:Fun K "__init__" "NoLine.__init__" Bo f fd):A5 P w K mg base Cb 1 f fd ["self","row","word"] (F7 C "row" "word"):=by
 refine F.ok HL (λvs H Q E h=>by obtain⟨a,v1,v2,rfl,_⟩:=h; rfl) (λcdv A outer s H vs Q E hr h=>?_)
 obtain⟨a,v1,v2,rfl,ha,hq⟩:=h
 refine⟨_,BK (Ui c c.nr (pv 0) (pv 1) rfl) (Ct (Uh c c.nw (pv 0) (pv 2) rfl)),?_⟩
 refine⟨v1,rfl,V.ref a,rfl,a,rfl,ha,λd hd hne=>⟨v2,rfl,V.ref a,rfl,a,d,[(("row" : Str),v1)],rfl,AN,?_,(by decide:1<1000),?_⟩⟩
 ·rw [AM hne,AN]
 ·rw [show DC "word" v2 [(("row" : Str),v1)]=[(("row" : Str),v1),(("word" : Str),v2)] from by unfold DC; rw [if_neg (by decide)]; rfl]
  exact hq d hd hne
theorem LA:Ah ["thing"] ["thing"] (AK E8):=by constructor <;> first | rfl | decide +kernel
theorem LP{f:Addr}{fd:FuncData}(T:Txt K mg)(F:Fun K "is_whole" "is_whole" E8 f fd):A5 P w K mg base Cb 1 f fd ["thing"] (E5 K .sh Kp 1):=by
 exact Hx F LA (by decide) (λcdv A outer s H E hr=>(AJ (AZ (DA (NB TX (dv 0) rfl T.n_isinstance rfl T.n_int (by decide +kernel)) (C_ (Ru (NB Q8 (dv 0) rfl T.n_isinstance rfl T.n_bool (by decide +kernel)))))))) (λss n Pd hl hw=>LD hw)
theorem Jm:Ah ["thing"] ["thing"] (AK D0):=by constructor <;> first | rfl | decide +kernel
theorem J0{f:Addr}{fd:FuncData}(T:Txt K mg)(G_is_whole:IP P w K mg base)(F:Fun K "is_number" "is_number" D0 f fd):A5 P w K mg base Cb 2 f fd ["thing"] (E5 K .sh HA 1):=by
 obtain⟨_,g_MOST_NUMBER⟩:=T.g_MOST_NUMBER
 exact Hx F Jm (by decide) (λcdv A outer s H E hr=>(AJ (AZ (DA (AO G_is_whole (hr.mono (by decide)) rfl (AD (Aq (dv 0)) AW)) (C_ (IE Cg EV Cg EV AC (dv 0) (Fo rfl g_MOST_NUMBER))))))) (λss n Pd hl hw=>Jr hw)
theorem MT:Ah ["thing"] ["thing"] (AK F9):=by constructor <;> first | rfl | decide +kernel
theorem Mq{f:Addr}{fd:FuncData}(T:Txt K mg)(F:Fun K "is_name" "is_name" F9 f fd):A5 P w K mg base Cb 1 f fd ["thing"] (E5 K .sh OK 1):=by
 obtain⟨_,g_MOST_SIGNS⟩:=T.g_MOST_SIGNS
 exact Hx F MT (by decide) (λcdv A outer s H E hr=>(AF (A3 (DTW.dt (DL (FJ (FI (NB TV (dv 0) rfl T.n_isinstance rfl T.n_str (by decide +kernel)))) (C9 (FJ (Rf Cg EV Cg EV AC (AY Af BO rfl T.n_len PySem.boot_len (AG (dv 0) AL)) (Fo rfl g_MOST_SIGNS)))))) (AJ (AZ Fp)) Ag)
 (AJ (AZ (AY (L7 rfl) U2 rfl T.n_all eT (AG (B7 rfl [("sign" : Str)] [none] (B5 (dv 0)) (λ_ _ _ _ _=>(Ay (i:=0) (show aT [("sign" : Str)] by decide +kernel) rfl (ZB rfl))) (λ_ _ _ _ _=>Bp) (λ_ _ _ _ _=>(IE Cg EV Cg EV AH (dv 0) AH)) (by kernel_rfl)) AL)))))) (λss n Pd hl hw=>Ma hw)
theorem Jn:Ah ["word"] ["word"] (AK D1):=by constructor <;> first | rfl | decide +kernel
theorem J1{f:Addr}{fd:FuncData}(T:Txt K mg)(G_is_number:Gj P w K mg base)(F:Fun K "is_length" "is_length" D1 f fd):A5 P w K mg base Cb 3 f fd ["word"] (E5 K .sh ON 1):=by
 obtain⟨_,g_MOST_NUMBER⟩:=T.g_MOST_NUMBER
 exact Hx F Jn (by decide) (λcdv A outer s H E hr=>(AF (A3 (DTW.dt (DL (Ad BF Bu (dv 0) AH (AU _)) (DL (Ad BF Bu (Aj AX A4 (dv 0) AC) AH (AU _)) (C9 (Ad He ME (AY Af BO rfl T.n_len PySem.boot_len (AG (dv 0) AL)) (AY Af BO rfl T.n_len PySem.boot_len (AG (A7 GP NI rfl T.n_str boot_str (AG (Fo rfl g_MOST_NUMBER) AL)) AL)) (AU _)))))) (AJ (AZ Fp)) Ag)
 (AJ (AZ (DA (AY (L7 rfl) U2 rfl T.n_all eT (AG (B7 rfl [("sign" : Str)] [none] (B5 (dv 0)) (λ_ _ _ _ _=>(Ay (i:=0) (show aT [("sign" : Str)] by decide +kernel) rfl (ZB rfl))) (λ_ _ _ _ _=>Bp) (λ_ _ _ _ _=>(Bm Mn SG (dv 0) AH (by with_unfolding_all rfl))) (by kernel_rfl)) AL)) (C_ (AO G_is_number (hr.mono (by decide)) rfl (AD (Aq (A7 Ef Km rfl T.n_int boot_int (AG (dv 0) AL))) AW)))))))) (λss n Pd hl hw=>HZ hw)
theorem HJ:Ah ["words","places","ties"] ["words","places","ties"] (AK C2):=by constructor <;> first | rfl | decide +kernel
theorem Hf{f:Addr}{fd:FuncData}(T:Txt K mg)(G_is_name:Je P w K mg base)(F:Fun K "place_fault" "place_fault" C2 f fd):A5 P w K mg base Cb 2 f fd ["words","places","ties"] (E5 K .sh OI 3):=by
 obtain⟨_,g_MOST_PLACES⟩:=T.g_MOST_PLACES
 exact Hx F HJ (by decide) (λcdv A outer s H E hr=>(AF (A3 (DTW.dt (DL (Rb (EI 2)) (C9 (Ad BF Bu (AY Af BO rfl T.n_len PySem.boot_len (AG (EI 1) AL)) (Fo rfl g_MOST_PLACES) (AU _))))) (AJ (AZ AC)) Ag)
 (AF (A3 (DTW.dt (DL (Ad (FC hr) IM (AY Af BO rfl T.n_len PySem.boot_len (AG (dv 0) AL)) AC (AU _)) (C9 (FJ (FI (AO G_is_name (hr.mono (by decide)) rfl (AD (Aq (Aj AX A4 (dv 0) AC)) AW))))))) (AJ (AZ AC)) Ag)
 (AF (A3 (DTW.dt (Ra (Rb (EI 1)) (N3 (Ad Cg EV (Aj AX A4 (dv 0) AC) (Aj AX A4 (EI 1) (NA AC)) (AU _))))) (AJ (AZ AC)) Ag)
 (AJ (AZ (Rw (Ad He ME (AY Af BO rfl T.n_len PySem.boot_len (AG (dv 0) AL)) AC (AU _)) AC IG))))))) (λss n Pd hl hw=>F_ hw)
theorem F8:Ah ["a","b","places","ties"] ["a","b","places","ties"] (AK CT):=by constructor <;> first | rfl | decide +kernel
theorem GD{f:Addr}{fd:FuncData}(T:Txt K mg)(F:Fun K "is_second_end" "is_second_end" CT f fd):A5 P w K mg base Cb 1 f fd ["a","b","places","ties"] (E5 K .sh OH 4):=by
 exact Hx F F8 (by decide) (λcdv A outer s H E hr=>(AF (A3 (DTW.dt (DL (Ad (JC hr) Jc (dv 1) (EI 2) (by with_unfolding_all rfl)) (C9 (Ad Cg EV (dv 1) (dv 0) (AU _))))) (AJ (AZ Fp)) Ag)
 (AJ (AZ (Uw (T2 (EI 3)) (C_ (Bm (Vk hr) YB (Bi (AA (dv 0) (AA (dv 1) AT))) (BS CO BU (Aj AX A4 (EI 3) (NA AC)) Az (Ao AC)) (AU _)))))))) (λss n Pd hl hw=>E_ hw)
theorem Jl:Ah ["words","places","ties"] ["words","places","ties"] (AK Dz):=by constructor <;> first | rfl | decide +kernel
theorem Jz{f:Addr}{fd:FuncData}(T:Txt K mg)(G_is_length:Gk P w K mg base)(G_is_second_end:Dt P w K mg base)(F:Fun K "tie_fault" "tie_fault" Dz f fd):A5 P w K mg base Cb 4 f fd ["words","places","ties"] (E5 K .sh OG 3):=by
 obtain⟨_,g_MOST_TIES⟩:=T.g_MOST_TIES
 exact Hx F Jl (by decide) (λcdv A outer s H E hr=>(AF (A3 (Ad BF Bu (AY Af BO rfl T.n_len PySem.boot_len (AG (EI 2) AL)) (Fo rfl g_MOST_TIES) (AU _)) (AJ (AZ AC)) Ag)
 (AF (A3 (DTW.dt (DL (Ad (FC hr) IM (AY Af BO rfl T.n_len PySem.boot_len (AG (dv 0) AL)) AC (AU _)) (C9 (Ad (JC hr) Jc (Aj AX A4 (dv 0) AC) (EI 1) (by with_unfolding_all rfl))))) (AJ (AZ AC)) Ag)
 (AF (A3 (DTW.dt (DL (Ad (FC hr) IM (AY Af BO rfl T.n_len PySem.boot_len (AG (dv 0) AL)) AC (AU _)) (C9 (FJ (FI (AO G_is_second_end (hr.mono (by decide)) rfl (AD (Aq (Aj AX A4 (dv 0) AC)) (AD (Aq (Aj AX A4 (dv 0) AC)) (AD (Do (EI 1)) (AD (Do (EI 2)) AW)))))))))) (AJ (AZ AC)) Ag)
 (AF (A3 (DTW.dt (DL (Ad (FC hr) IM (AY Af BO rfl T.n_len PySem.boot_len (AG (dv 0) AL)) AC (AU _)) (C9 (FJ (FI (AO G_is_length (hr.mono (by decide)) rfl (AD (Aq (Aj AX A4 (dv 0) AC)) AW))))))) (AJ (AZ AC)) Ag)
 (AJ (AZ (Rw (Ad He ME (AY Af BO rfl T.n_len PySem.boot_len (AG (dv 0) AL)) AC (AU _)) AC IG)))))))) (λss n Pd hl hw=>HR hw)
theorem IX:Ah ["words","places","ties"] ["words","places","ties"] (AK DU):=by constructor <;> first | rfl | decide +kernel
theorem Ic{f:Addr}{fd:FuncData}(T:Txt K mg)(G_place_fault:Ew P w K mg base)(G_tie_fault:Gi P w K mg base)(F:Fun K "line_fault" "line_fault" DU f fd):A5 P w K mg base Cb 5 f fd ["words","places","ties"] (E5 K .sh OL 3):=by
 exact Hx F IX (by decide) (λcdv A outer s H E hr=>(AF (A3 (Ad BF Bu (Aj AX A4 (dv 0) AC) AH (AU _)) (AJ (AZ (AO G_place_fault (hr.mono (by decide)) rfl (AD (Aq (dv 0)) (AD (Do (EI 1)) (AD (Do (EI 2)) AW)))))) Ag)
 (AJ (AZ (Rw (Ad BF Bu (Aj AX A4 (dv 0) AC) AH (AU _)) (AO G_tie_fault (hr.mono (by decide)) rfl (AD (Aq (dv 0)) (AD (Do (EI 1)) (AD (Do (EI 2)) AW)))) AC))))) (λss n Pd hl hw=>Gv hw)
theorem sc_read_net:Ah ["lines","places","ties","row","line","words","fault"] ["lines"] (AK E7):=by constructor <;> first | rfl | decide +kernel
theorem LO{f:Addr}{fd:FuncData}(T:Txt K mg)(G_line_fault:Fv P w K mg base)(GX_NoLine:G1 P w K mg base "NoLine" ["row","word"] 1)(F:Fun K "read_net" "read_net" E7 f fd):A5 P w K mg base (OS P w) 6 f fd ["lines"] (YT K .sh G_ 1):=by
 exact fnX (wb:=λPr=>Dl Pr) F sc_read_net (by decide) (λcdv A outer s H E Pr F0 U M l hr=>(CZ (GN (Di (i:=1) sc_read_net.nd rfl (ZB rfl) (BN AT)))
 (CZ (GN (Di (i:=2) sc_read_net.nd rfl (ZB rfl) (BN AT)))
 (CZ (Pa (λ_ _ _ h=>h) S5 rfl rfl T.n_enumerate (pv 0) (Rp rfl (EJ (Ay (i:=3) sc_read_net.nd rfl (ZB rfl)) (EJ (Ay (i:=4) sc_read_net.nd rfl (ZB rfl)) N7))) (CZ (GN (Aw (i:=5) sc_read_net.nd rfl (ZB rfl) (IF PySem.F.plainAttrs_str PySem.F.slot_str_split PySem.F.type_str_split Hr Kj (dv 4) (AG AH AL))))
 (CZ (GN (Aw (i:=6) sc_read_net.nd rfl (ZB rfl) (AO G_line_fault (hr.mono (by decide)) rfl (AD (Aq (dv 5)) (AD (Do (EI 1)) (AD (Do (EI 2)) AW))))))
 (CZ (V6 (Ad S8 WJ (dv 6) IG (AU _)) (IB (M8 Qr l (λ_ h=>h) (PZ GX_NoLine (hr.mono (by decide)) rfl (AA (dv 3) (AA (dv 6) AT))))) (Tr Ag))
 (IB (GN (A3 (Ad BF Bu (Aj AX A4 (dv 5) AC) AH (AU _)) (AJ (Fn 1 PySem.F.plainAttrs_list PySem.F.slot_list_append PySem.F.type_list_append CH Jd (pv 1) (AA (Aj AX A4 (dv 5) AC) AT))) (AJ (Fn 2 PySem.F.plainAttrs_list PySem.F.slot_list_append PySem.F.type_list_append CH Jd (pv 2) (AA (Bi (AA (Aj AX A4 (dv 5) AC) (AA (Aj AX A4 (dv 5) AC) (AA (A7 Ef Km rfl T.n_int boot_int (AG (Aj AX A4 (dv 5) AC) AL)) AT)))) AT))))))))))
 (IB (GN (AZ (Bi (AA (A7 BZ DP rfl T.n_tuple dB (AG (EI 1) AL)) (AA (A7 BZ DP rfl T.n_tuple dB (AG (EI 2) AL)) AT)))))))))) (λss n Pd Pr hl hw=>IY hw)
theorem sc__law_names:Ah ["_law_names_here"] [] (AK DV):=by constructor <;> first | rfl | decide +kernel
theorem Ie{f:Addr}{fd:FuncData}(T:Txt K mg)(F:Fun K "_law_names" "_law_names" DV f fd):A5 P w K mg base Cb 1 f fd [] (E5 K .sh Fy 0):=by
 exact Hx F sc__law_names (by decide) (λcdv A outer s H E hr=>(AF (Aw (i:=0) sc__law_names.nd rfl (ZB rfl) (BN (AA AH (AA AH (AA AH (AA AH (AA AH (AA AH (AA AH (AA AH (AA AH (AA AH (AA AH (AA AH (AA AH (AA AH (AA AH (AA AH (AA AH AT)))))))))))))))))))
 (AJ (AZ (Ab AQ Aa (dv 0) (BN (AA AH (AA AH (AA AH (AA AH (AA AH (AA AH (AA AH (AA AH (AA AH AT))))))))))))))) (λss n Pd hl hw=>IZ hw)
theorem sc__law_places:Ah ["_law_feed_here","_law_many","_law_names_here","_law_at","_law_step"] ["_law_feed_here","_law_many"] (AK C4):=by constructor <;> first | rfl | decide +kernel
theorem Hj{f:Addr}{fd:FuncData}(T:Txt K mg)(G__law_names:Dn P w K mg base)(G__law_next:BA P w K mg base)(F:Fun K "_law_places" "_law_places" C4 f fd):A5 P w K mg base Cb 2 f fd ["_law_feed_here","_law_many"] (E5 K .sh Fx 2):=by
 exact Hx F sc__law_places (by decide) (λcdv A outer s H E hr=>(AF (Aw (i:=2) sc__law_places.nd rfl (aJ rfl) (JT G__law_names (hr.mono (by decide)) rfl))
 (AF (Aw (i:=3) sc__law_places.nd rfl (aJ rfl) (AO G__law_next (hr.mono (by decide)) rfl (AD (BG 0) (AD (Aq AC) AW))))
 (AF (Aw (i:=4) sc__law_places.nd rfl (aJ rfl) (Aj AX A4 (BN (AA AC (AA AC (AA AC (AA AC AT))))) (AO G__law_next (hr.mono (by decide)) rfl (AD (BG 0) (AD (Aq AC) AW)))))
 (AJ (AZ (A7 BZ DP rfl T.n_tuple dB (AG (AY NE UA rfl T.n_sorted boot_sorted (AG (B7 rfl [("_law_names_here" : Str),("_law_at" : Str),("_law_step" : Str),("_law_k" : Str)] [some 2,some 3,some 4,none] (DI.c (CJ rfl T.n_range (AG (dv 1) AL))) (λ_ _ _ _ _=>(Ay (i:=3) (show aT [("_law_names_here" : Str),("_law_at" : Str),("_law_step" : Str),("_law_k" : Str)] by decide +kernel) rfl (ZB rfl))) (λ_ _ _ _ _=>Bp) (λ_ _ _ _ _=>(Aj AX A4 (dv 0) (Ab C6 FN (Ab AQ Aa (dv 1) (Ab S9 WK (dv 2) (dv 3))) AC))) (by kernel_rfl)) AL)) AL)))))))) (λss n Pd hl hw=>HV hw)
theorem HK:Ah ["_law_feed_here","_law_sort"] ["_law_feed_here","_law_sort"] (AK C5):=by constructor <;> first | rfl | decide +kernel
theorem Hk{f:Addr}{fd:FuncData}(T:Txt K mg)(G__law_next:BA P w K mg base)(F:Fun K "_law_length" "_law_length" C5 f fd):A5 P w K mg base Cb 2 f fd ["_law_feed_here","_law_sort"] (E5 K .sh OM 2):=by
 exact Hx F HK (by decide) (λcdv A outer s H E hr=>(AF (A3 (Ad BF Bu (dv 1) AC (AU _)) (AJ (AZ (Ab Nh SA (Ab Mm FN AC AC) (AO G__law_next (hr.mono (by decide)) rfl (AD (BG 0) (AD (Aq AC) AW)))))) Ag)
 (AJ (AZ (Ab AQ Aa AC (AO G__law_next (hr.mono (by decide)) rfl (AD (BG 0) (AD (Aq (Aj AX A4 (BN (AA AC (AA AC (AA AC AT)))) (dv 1))) AW)))))))) (λss n Pd hl hw=>HY hw)
theorem sc__law_ties:Ah ["_law_feed_here","_law_places_here","_law_most","_law_found","_law_sort","_law_k","_law_a","_law_b"] ["_law_feed_here","_law_places_here","_law_most"] (AK D6):=by constructor <;> first | rfl | decide +kernel
theorem J8{f:Addr}{fd:FuncData}(T:Txt K mg)(G__law_length:Ez P w K mg base)(G__law_next:BA P w K mg base)(F:Fun K "_law_ties" "_law_ties" D6 f fd):A5 P w K mg base Cb 3 f fd ["_law_feed_here","_law_places_here","_law_most"] (E5 K .sh Kq 3):=by
 exact Hx F sc__law_ties (by decide) (λcdv A outer s H E hr=>(AF (Di (i:=3) sc__law_ties.nd rfl (aJ rfl) Rx)
 (AF (Aw (i:=4) sc__law_ties.nd rfl (ZB rfl) (AO G__law_next (hr.mono (by decide)) rfl (AD (BG 0) (AD (Aq AC) AW))))
 (AF (IC bq rfl (CJ rfl T.n_range (AG (AO G__law_next (hr.mono (by decide)) rfl (AD (BG 0) (AD (Aq (Ab AQ Aa (dv 2) AC)) AW))) AL)) (Ay (i:=5) sc__law_ties.nd rfl (ZB rfl)) (AJ (A3 (Ad He ME (AY Af BO rfl T.n_len PySem.boot_len (AG (dv 1) AL)) AC (AU _)) (AF (Aw (i:=6) sc__law_ties.nd rfl (ZB rfl) (AO G__law_next (hr.mono (by decide)) rfl (AD (BG 0) (AD (Aq (AY Af BO rfl T.n_len PySem.boot_len (AG (dv 1) AL))) AW))))
 (AF (Aw (i:=7) sc__law_ties.nd rfl (ZB rfl) (Ab C6 FN (Ab AQ Aa (Ab AQ Aa (dv 6) AC) (AO G__law_next (hr.mono (by decide)) rfl (AD (BG 0) (AD (Aq (Ab Nh SA (AY Af BO rfl T.n_len PySem.boot_len (AG (dv 1) AL)) AC)) AW)))) (AY Af BO rfl T.n_len PySem.boot_len (AG (dv 1) AL))))
 (AJ (Ts (i:=3) hr (pv 3) (Bi (AA (Aj AX A4 (dv 1) (AY (Ph rfl) WM rfl T.n_min boot_min (AG (dv 6) (AG (dv 7) AL)))) (AA (Aj AX A4 (dv 1) (AY (Pj rfl) WN rfl T.n_max boot_max (AG (dv 6) (AG (dv 7) AL)))) AT))) (AO G__law_length (hr.mono (by decide)) rfl (AD (BG 0) (AD (Aq (Aj AX A4 (BN (AA (dv 4) (AA (Ab C6 FN (dv 5) AC) AT))) (Ab G2 FN (dv 4) AC))) AW))))))) Ag)))
 (AJ (AZ (A7 BZ DP rfl T.n_tuple dB (AG (B7 rfl [("_law_found" : Str),("_law_pair" : Str)] [some 3,none] (B5 (AY (ND rfl) T_ rfl T.n_sorted boot_sorted (AG (EI 3) AL))) (λ_ _ _ _ _=>(Ay (i:=1) (show aT [("_law_found" : Str),("_law_pair" : Str)] by decide +kernel) rfl (ZB rfl))) (λ_ _ _ _ _=>Bp) (λ_ _ _ _ _=>(Ab AQ Aa (dv 1) (Bi (AA (T1 hr (EI 0) (dv 1)) AT)))) (by kernel_rfl)) AL)))))))) (λss n Pd hl hw=>Jq hw)
theorem sc__law_net:Ah ["_law_feed_here","_law_most","_law_ties_here","_law_places_here"] ["_law_feed_here","_law_most","_law_ties_here"] (AK E9):=by constructor <;> first | rfl | decide +kernel
theorem LQ{f:Addr}{fd:FuncData}(T:Txt K mg)(G__law_next:BA P w K mg base)(G__law_places:Ey P w K mg base)(G__law_ties:Gp P w K mg base)(F:Fun K "_law_net" "_law_net" E9 f fd):A5 P w K mg base Cb 4 f fd ["_law_feed_here","_law_most","_law_ties_here"] (E5 K .sh OJ 3):=by
 exact Hx F sc__law_net (by decide) (λcdv A outer s H E hr=>(AF (Aw (i:=3) sc__law_net.nd rfl (ZB rfl) (AO G__law_places (hr.mono (by decide)) rfl (AD (BG 0) (AD (Aq (AO G__law_next (hr.mono (by decide)) rfl (AD (BG 0) (AD (Aq (Ab AQ Aa (dv 1) AC)) AW)))) AW))))
 (AJ (AZ (Bi (AA (dv 3) (AA (AO G__law_ties (hr.mono (by decide)) rfl (AD (BG 0) (AD (Aq (dv 3)) (AD (Aq (dv 2)) AW)))) AT))))))) (λss n Pd hl hw=>LC hw)
theorem sc__law_lines:Ah ["_law_net_here","_law_lines_here"] ["_law_net_here"] (AK DX):=by constructor <;> first | rfl | decide +kernel
theorem Ig{f:Addr}{fd:FuncData}(T:Txt K mg)(F:Fun K "_law_lines" "_law_lines" DX f fd):A5 P w K mg base Cb 1 f fd ["_law_net_here"] (E5 K .fr Ks 1):=by
 exact Hx F sc__law_lines (by decide) (λcdv A outer s H E hr=>(AF (Lv (i:=1) sc__law_lines.nd rfl (ZB rfl) rfl [("_law_name" : Str)] [none] (B5 (Aj AX A4 (dv 0) AC)) (λ_ _ _ _ _=>(Ay (i:=0) (show aT [("_law_name" : Str)] by decide +kernel) rfl (ZB rfl))) (λ_ _ _ _ _=>Bp) (λ_ _ _ _ _=>(Ab AQ Aa AH (dv 0))) (by kernel_rfl))
 (AF (Fn 1 PySem.F.plainAttrs_list PySem.F.slot_list_extend PySem.F.type_list_extend GF SH (pv 1) (AA (B7 rfl [("_law_a" : Str),("_law_b" : Str),("_law_length_here" : Str)] [none,none,none] (B5 (Aj AX A4 (dv 0) AC)) (λ_ _ _ _ _=>(Rp rfl (EJ (Ay (i:=0) (show aT [("_law_a" : Str),("_law_b" : Str),("_law_length_here" : Str)] by decide +kernel) rfl (ZB rfl)) (EJ (Ay (i:=1) (show aT [("_law_a" : Str),("_law_b" : Str),("_law_length_here" : Str)] by decide +kernel) rfl (ZB rfl)) (EJ (Ay (i:=2) (show aT [("_law_a" : Str),("_law_b" : Str),("_law_length_here" : Str)] by decide +kernel) rfl (ZB rfl)) N7))))) (λ_ _ _ _ _=>Bp) (λ_ _ _ _ _=>(Ab AQ Aa (Ab AQ Aa (Ab AQ Aa (Ab AQ Aa (Ab AQ Aa AH (dv 0)) AH) (dv 1)) AH) (A7 GP NI rfl T.n_str boot_str (AG (dv 2) AL)))) (by kernel_rfl)) AT))
 (AJ (N4 1 (pv 1)))))) (λss n Pd hl hw=>HW hw)
theorem Gs:Ah ["_law_word_here"] ["_law_word_here"] (AK Cd):=by constructor <;> first | rfl | decide +kernel
theorem Gw{f:Addr}{fd:FuncData}(T:Txt K mg)(F:Fun K "_law_is_name" "_law_is_name" Cd f fd):A5 P w K mg base Cb 1 f fd ["_law_word_here"] (E5 K .sh HB 1):=by
 exact Hx F Gs (by decide) (λcdv A outer s H E hr=>(AF (A3 (Ad (Jy hr) Jc Fp (B7 rfl [("_law_sign" : Str)] [none] (B5 (dv 0)) (λ_ _ _ _ _=>(Ay (i:=0) (show aT [("_law_sign" : Str)] by decide +kernel) rfl (ZB rfl))) (λ_ _ _ _ _=>Bp) (λ_ _ _ _ _=>(Bm Mn SG (dv 0) AH (by with_unfolding_all rfl))) (by kernel_rfl)) (by with_unfolding_all rfl)) (AJ (AZ Fp)) Ag)
 (AJ (AZ (IE Cg EV Cg EV AC (AY Af BO rfl T.n_len PySem.boot_len (AG (dv 0) AL)) AC))))) (λss n Pd hl hw=>Js hw)
theorem Fa:Ah ["_law_word_here"] ["_law_word_here"] (AK CD):=by constructor <;> first | rfl | decide +kernel
theorem Fe{f:Addr}{fd:FuncData}(T:Txt K mg)(F:Fun K "_law_is_length" "_law_is_length" CD f fd):A5 P w K mg base Cb 1 f fd ["_law_word_here"] (E5 K .sh F1 1):=by
 exact Hx F Fa (by decide) (λcdv A outer s H E hr=>(AF (A3 (DTW.dt (DL (Ad BF Bu (dv 0) AH (AU _)) (DL (Ad (Jy hr) Jc Fp (B7 rfl [("_law_sign" : Str)] [none] (B5 (dv 0)) (λ_ _ _ _ _=>(Ay (i:=0) (show aT [("_law_sign" : Str)] by decide +kernel) rfl (ZB rfl))) (λ_ _ _ _ _=>Bp) (λ_ _ _ _ _=>(Bm Mn SG (dv 0) AH (by with_unfolding_all rfl))) (by kernel_rfl)) (by with_unfolding_all rfl)) (DL (Ad BF Bu (Aj AX A4 (dv 0) AC) AH (AU _)) (C9 (Ad He ME (AY Af BO rfl T.n_len PySem.boot_len (AG (dv 0) AL)) AC (AU _))))))) (AJ (AZ Fp)) Ag)
 (AJ (AZ (Bm Cg EV (A7 Ef Km rfl T.n_int boot_int (AG (dv 0) AL)) (Ab Mm FN AC AC) (AU _)))))) (λss n Pd hl hw=>MZ hw)
theorem sc__law_good:Ah ["_law_words","_law_at","_law_places_here","_law_ties_here","_law_pairs"] ["_law_words","_law_at","_law_places_here","_law_ties_here"] (AK D8):=by constructor <;> first | rfl | decide +kernel
theorem J_{f:Addr}{fd:FuncData}(T:Txt K mg)(G__law_is_length:DQ P w K mg base)(G__law_is_name:EW P w K mg base)(F:Fun K "_law_good" "_law_good" D8 f fd):A5 P w K mg base Cb 2 f fd ["_law_words","_law_at","_law_places_here","_law_ties_here"] (E5 K .sh HC 4):=by
 exact Hx F sc__law_good (by decide) (λcdv A outer s H E hr=>(AF (A3 (Ad BF Bu (dv 1) AC (AU _)) (AF (A3 (Ad BF Bu (Aj AX A4 (dv 0) AC) AH (AU _)) (AJ (AZ (DA (Bm (Mo hr) SI (EI 3) (BN AT) (AU _)) (C_ (Bm (FC hr) IM (AY Af BO rfl T.n_len PySem.boot_len (AG (EI 2) AL)) AC (AU _)))))) Ag)
 (AJ (AZ (DA (Bm BF Bu (Aj AX A4 (dv 0) AC) AH (AU _)) (C_ (Bm (FC hr) IM (AY Af BO rfl T.n_len PySem.boot_len (AG (EI 3) AL)) AC (AU _))))))) Ag)
 (AF (A3 (Ad BF Bu (Aj AX A4 (dv 0) AC) AH (AU _)) (AJ (AZ (DA (Bm BF Bu (dv 1) AC (AU _)) (DA (AO G__law_is_name (hr.mono (by decide)) rfl (AD (Aq (Aj AX A4 (dv 0) AC)) AW)) (C_ (Bm (Mo hr) SI (B7 rfl [("_law_words" : Str),("_law_name" : Str)] [some 0,none] (B5 (EI 2)) (λ_ _ _ _ _=>(Ay (i:=1) (show aT [("_law_words" : Str),("_law_name" : Str)] by decide +kernel) rfl (ZB rfl))) (λ_ _ _ _ _=>(N6 (Ad (Qu hr) U1 (dv 1) (Aj AX A4 (dv 0) AC) (AU _)))) (λ_ _ _ _ _=>(dv 1)) (by kernel_rfl)) (BN AT) (AU _))))))) Ag)
 (AF (A3 (Ad BF Bu (dv 1) AC (AU _)) (AJ (AZ (Bm (Jy hr) Jc (Aj AX A4 (dv 0) AC) (EI 2) (by with_unfolding_all rfl)))) Ag)
 (AF (A3 (Ad BF Bu (dv 1) AC (AU _)) (AF (Tt (i:=4) sc__law_good.nd rfl (ZB rfl) rfl [("_law_words" : Str),("_law_tie" : Str)] [some 0,none] (B5 (EI 3)) (λ_ _ _ _ _=>(Ay (i:=1) (show aT [("_law_words" : Str),("_law_tie" : Str)] by decide +kernel) rfl (ZB rfl))) (λ_ _ _ _ _=>(N6 (Ad (Qu hr) U1 (Bi (AA (Aj AX A4 (dv 1) AC) (AA (Aj AX A4 (dv 1) AC) AT))) (Bi (AA (Aj AX A4 (dv 0) AC) (AA (Aj AX A4 (dv 0) AC) AT))) (AU _)))) (λ_ _ _ _ _=>(dv 1)) (by kernel_rfl))
 (AJ (AZ (DA (Bm (Jy hr) Jc (Aj AX A4 (dv 0) AC) (EI 2) (by with_unfolding_all rfl)) (DA (Bm Vj YA (Aj AX A4 (dv 0) AC) (Aj AX A4 (dv 0) AC) (AU _)) (C_ (Bm (Mo hr) SI (dv 4) (BN AT) (AU _)))))))) Ag)
 (AJ (AZ (DA (Bm BF Bu (dv 1) AC (AU _)) (C_ (AO G__law_is_length (hr.mono (by decide)) rfl (AD (Aq (Aj AX A4 (dv 0) AC)) AW))))))))))) (λss n Pd hl hw=>Ol hw)
theorem sc__law_read:Ah ["_law_lines_here","_law_places_here","_law_ties_here","_law_row","_law_words","_law_at"] ["_law_lines_here"] (AK D7):=by constructor <;> first | rfl | decide +kernel
theorem J9{f:Addr}{fd:FuncData}(T:Txt K mg)(G__law_good:Gr P w K mg base)(F:Fun K "_law_read" "_law_read" D7 f fd):A5 P w K mg base Cb 3 f fd ["_law_lines_here"] (E5 K .sh Fz 1):=by
 exact Hx F sc__law_read (by decide) (λcdv A outer s H E hr=>(AF (Di (i:=1) sc__law_read.nd rfl (ZB rfl) (BN AT))
 (AF (Di (i:=2) sc__law_read.nd rfl (ZB rfl) (BN AT))
 (AF (IC bq rfl (CJ rfl T.n_range (AG (AY Af BO rfl T.n_len PySem.boot_len (AG (dv 0) AL)) AL)) (Ay (i:=3) sc__law_read.nd rfl (ZB rfl)) (AF (Aw (i:=4) sc__law_read.nd rfl (ZB rfl) (IF PySem.F.plainAttrs_str PySem.F.slot_str_split PySem.F.type_str_split Hr Kj (Aj AX A4 (dv 0) (dv 3)) (AG AH AL)))
 (AF (IC bq rfl (CJ rfl T.n_range (AG (AY Af BO rfl T.n_len PySem.boot_len (AG (dv 4) AL)) AL)) (Ay (i:=5) sc__law_read.nd rfl (ZB rfl)) (AJ (A3 (FJ (FI (AO G__law_good (hr.mono (by decide)) rfl (AD (Aq (dv 4)) (AD (Aq (dv 5)) (AD (Do (EI 1)) (AD (Do (EI 2)) AW))))))) (AJ (AZ (Bi (AA AH (AA (dv 3) (AA (dv 5) AT)))))) Ag)))
 (AF (A3 (Ad (FC hr) IM (AY Af BO rfl T.n_len PySem.boot_len (AG (dv 4) AL)) (T6 hr (Ry (by decide)) (Aj AX A4 (dv 4) AC)) (AU _)) (AJ (AZ (Bi (AA AH (AA (dv 3) (AA (AY Af BO rfl T.n_len PySem.boot_len (AG (dv 4) AL)) AT)))))) Ag)
 (AJ (A3 (Ad BF Bu (Aj AX A4 (dv 4) AC) AH (AU _)) (AJ (Fn 1 PySem.F.plainAttrs_list PySem.F.slot_list_append PySem.F.type_list_append CH Jd (pv 1) (AA (Aj AX A4 (dv 4) AC) AT))) (AJ (Fn 2 PySem.F.plainAttrs_list PySem.F.slot_list_append PySem.F.type_list_append CH Jd (pv 2) (AA (Bi (AA (Aj AX A4 (dv 4) AC) (AA (Aj AX A4 (dv 4) AC) (AA (A7 Ef Km rfl T.n_int boot_int (AG (Aj AX A4 (dv 4) AC) AL)) AT)))) AT)))))))))
 (AJ (AZ (Bi (AA AH (AA (Bi (AA (A7 BZ DP rfl T.n_tuple dB (AG (EI 1) AL)) (AA (A7 BZ DP rfl T.n_tuple dB (AG (EI 2) AL)) AT))) AT))))))))) (λss n Pd hl hw=>Oh hw)
theorem sc__law_told:Ah ["_law_lines_here","_law_told_here","_law_others","e"] ["_law_lines_here"] (AK D5):=by constructor <;> first | rfl | decide +kernel
theorem J7{f:Addr}{fd:FuncData}(T:Txt K mg)(GR_read_net:IN P w K mg base)(F:Fun K "_law_told" "_law_told" D5 f fd):A5 P w K mg base Cb 7 f fd ["_law_lines_here"] (E5 K .sh G9 1):=by
 obtain⟨C_NoLine,U_NoLine,xc_NoLine,xm_NoLine⟩:=T.x_NoLine
 obtain⟨C_NoPaper,U_NoPaper,xc_NoPaper,xm_NoPaper⟩:=T.x_NoPaper
 obtain⟨C_NoPlace,U_NoPlace,xc_NoPlace,xm_NoPlace⟩:=T.x_NoPlace
 obtain⟨C_NoRow,U_NoRow,xc_NoRow,xm_NoRow⟩:=T.x_NoRow
 obtain⟨C_NoTie,U_NoTie,xc_NoTie,xm_NoTie⟩:=T.x_NoTie
 obtain⟨C_TooMany,U_TooMany,xc_TooMany,xm_TooMany⟩:=T.x_TooMany
 obtain⟨C_Twice,U_Twice,xc_Twice,xm_Twice⟩:=T.x_Twice
 obtain⟨C_ThinError,xi_ThinError,xm_ThinError,xk_ThinError⟩:=T.x_ThinError
 exact Hx F sc__law_told (by decide) (λcdv A outer s H E hr=>(AF (Aw (i:=1) sc__law_told.nd rfl (ZB rfl) (Bi (AA AH (AA IG AT))))
 (AF (V7 rfl rfl (λ_ _ h=>h) (Rg (Tq (i:=1) sc__law_told.nd rfl (ZB rfl) (Rq (Rt GR_read_net (hr.mono (by decide)) rfl (AD (Do (EI 0)) AW)))))
 (Tw (i:=3) sc__law_told.nd rfl rfl rfl xm_ThinError xk_ThinError (ZB ⟨rfl,xi_ThinError⟩) rfl rfl (λa=>(AF (Aw (i:=1) sc__law_told.nd rfl (ZB rfl) (Bi (AA AH (AA IG AT))))
 (AF (Aw (i:=2) sc__law_told.nd rfl (ZB rfl) (Uw (T4 (i:=3) (Ee (by decide) xc_NoPaper rfl xm_NoPaper (Ee (by decide) xc_NoPlace rfl xm_NoPlace (Ee (by decide) xc_NoRow rfl xm_NoRow (Ee (by decide) xc_NoTie rfl xm_NoTie (Ee (by decide) xc_TooMany rfl xm_TooMany (Ee (by decide) xc_Twice rfl xm_Twice WE)))))) (by decide) rfl T.n_isinstance) (C_ (Ru (T5 (i:=3) rfl T.n_ValueError rfl T.n_isinstance)))))
 (AJ (A3 (DTW.dt (Ra (FI (WA (i:=3) (by decide) xc_NoLine rfl xm_NoLine rfl T.n_isinstance)) (N3 (FJ (FI (dv 2)))))) (AJ (Aw (i:=1) sc__law_told.nd rfl (ZB rfl) (Bi (AA AH (AA (Uv (i:=3) (by decide)) (AA (Uv (i:=3) (by decide)) AT)))))) Ag)))))
 V9))
 (AJ (AZ (dv 1)))))) (λss n Pd hl hw=>Og hw)
theorem sc__law_word:Ah ["_law_feed_here","_law_words","_law_some"] ["_law_feed_here","_law_words"] (AK D4):=by constructor <;> first | rfl | decide +kernel
theorem J5{f:Addr}{fd:FuncData}(T:Txt K mg)(G__law_next:BA P w K mg base)(F:Fun K "_law_word" "_law_word" D4 f fd):A5 P w K mg base Cb 2 f fd ["_law_feed_here","_law_words"] (E5 K .sh G8 2):=by
 exact Hx F sc__law_word (by decide) (λcdv A outer s H E hr=>(AF (Aw (i:=2) sc__law_word.nd rfl (ZB rfl) (BN (AA AH (AA AH (AA AH (AA AH (AA AH (AA AH (AA AH (AA AH (AA AH (AA AH (AA AH (AA AH (AA AH (AA AH (AA AH AT)))))))))))))))))
 (AF (Aw (i:=2) sc__law_word.nd rfl (ZB rfl) (Ab AQ Aa (Ab AQ Aa (dv 2) (BN (AA AH (AA AH (AA AH (AA AH (AA AH (AA AH (AA AH (AA AH (AA AH (AA AH AT)))))))))))) (dv 1)))
 (AJ (AZ (Aj AX A4 (dv 2) (AO G__law_next (hr.mono (by decide)) rfl (AD (BG 0) (AD (Aq (AY Af BO rfl T.n_len PySem.boot_len (AG (dv 2) AL))) AW))))))))) (λss n Pd hl hw=>Of hw)
theorem sc__law_line_spoilt:Ah ["_law_feed_here","_law_line","_law_words","_law_at","_law_way","_law_other"] ["_law_feed_here","_law_line"] (AK Br):=by constructor <;> first | rfl | decide +kernel
theorem Ei{f:Addr}{fd:FuncData}(T:Txt K mg)(G__law_next:BA P w K mg base)(G__law_word:Gm P w K mg base)(F:Fun K "_law_line_spoilt" "_law_line_spoilt" Br f fd):A5 P w K mg base Cb 3 f fd ["_law_feed_here","_law_line"] (E5 K .sh Kr 2):=by
 exact Hx F sc__law_line_spoilt (by decide) (λcdv A outer s H E hr=>(AF (Aw (i:=2) sc__law_line_spoilt.nd rfl (ZB rfl) (IF PySem.F.plainAttrs_str PySem.F.slot_str_split PySem.F.type_str_split Hr Kj (dv 1) (AG AH AL)))
 (AF (Aw (i:=3) sc__law_line_spoilt.nd rfl (ZB rfl) (AO G__law_next (hr.mono (by decide)) rfl (AD (BG 0) (AD (Aq (Ab AQ Aa (AY Af BO rfl T.n_len PySem.boot_len (AG (dv 2) AL)) AC)) AW))))
 (AF (Aw (i:=4) sc__law_line_spoilt.nd rfl (ZB rfl) (AO G__law_next (hr.mono (by decide)) rfl (AD (BG 0) (AD (Aq AC) AW))))
 (AF (Aw (i:=5) sc__law_line_spoilt.nd rfl (ZB rfl) (AO G__law_word (hr.mono (by decide)) rfl (AD (BG 0) (AD (Aq (dv 2)) AW))))
 (AF (A3 (Ad BF Bu (dv 4) AC (AU _)) (AJ (AZ (IF PySem.F.plainAttrs_str PySem.F.slot_str_join PySem.F.type_str_join G3 Kk AH (AG (Ab AQ Aa (BS CO BU (dv 2) Az (Ao (dv 3))) (BS CO BU (dv 2) (Ao (Ab AQ Aa (dv 3) AC)) Az)) AL)))) Ag)
 (AF (A3 (Ad BF Bu (dv 4) AC (AU _)) (AJ (AZ (IF PySem.F.plainAttrs_str PySem.F.slot_str_join PySem.F.type_str_join G3 Kk AH (AG (Ab AQ Aa (Ab AQ Aa (BS CO BU (dv 2) Az (Ao (dv 3))) (BN (AA (dv 5) AT))) (BS CO BU (dv 2) (Ao (dv 3)) Az)) AL)))) Ag)
 (AF (A3 (Ad BF Bu (dv 4) AC (AU _)) (AJ (AZ (IF PySem.F.plainAttrs_str PySem.F.slot_str_join PySem.F.type_str_join G3 Kk AH (AG (Ab AQ Aa (Ab AQ Aa (BS CO BU (dv 2) Az (Ao (dv 3))) (Ab S_ WL (BS CO BU (dv 2) (Ao (dv 3)) (Ao (Ab AQ Aa (dv 3) AC))) AC)) (BS CO BU (dv 2) (Ao (Ab AQ Aa (dv 3) AC)) Az)) AL)))) Ag)
 (AJ (AZ (IF PySem.F.plainAttrs_str PySem.F.slot_str_join PySem.F.type_str_join G3 Kk AH (AG (Ab AQ Aa (Ab AQ Aa (BS CO BU (dv 2) Az (Ao (dv 3))) (BN (AA (dv 5) AT))) (BS CO BU (dv 2) (Ao (Ab AQ Aa (dv 3) AC)) Az)) AL)))))))))))) (λss n Pd hl hw=>GA hw)
theorem sc__law_spoilt:Ah ["_law_feed_here","_law_lines_here","_law_at","_law_other","_law_way","_law_odd"] ["_law_feed_here","_law_lines_here"] (AK C3):=by constructor <;> first | rfl | decide +kernel
theorem Hg{f:Addr}{fd:FuncData}(T:Txt K mg)(G__law_line_spoilt:Co P w K mg base)(G__law_next:BA P w K mg base)(F:Fun K "_law_spoilt" "_law_spoilt" C3 f fd):A5 P w K mg base Cb 4 f fd ["_law_feed_here","_law_lines_here"] (E5 K .fr MF 2):=by
 exact Hx F sc__law_spoilt (by decide) (λcdv A outer s H E hr=>(AF (Aw (i:=2) sc__law_spoilt.nd rfl (ZB rfl) (AO G__law_next (hr.mono (by decide)) rfl (AD (BG 0) (AD (Aq (Ab AQ Aa (AY Af BO rfl T.n_len PySem.boot_len (AG (dv 1) AL)) AC)) AW))))
 (AF (Aw (i:=3) sc__law_spoilt.nd rfl (ZB rfl) (AO G__law_next (hr.mono (by decide)) rfl (AD (BG 0) (AD (Aq (Ab AQ Aa (AY Af BO rfl T.n_len PySem.boot_len (AG (dv 1) AL)) AC)) AW))))
 (AF (Aw (i:=4) sc__law_spoilt.nd rfl (ZB rfl) (AO G__law_next (hr.mono (by decide)) rfl (AD (BG 0) (AD (Aq AC) AW))))
 (AF (A3 (Ad BF Bu (dv 4) AC (AU _)) (AJ (AZ (Ab DY CL (BS CO BU (dv 1) Az (Ao (dv 2))) (BS CO BU (dv 1) (Ao (Ab AQ Aa (dv 2) AC)) Az)))) Ag)
 (AF (A3 (Ad BF Bu (dv 4) AC (AU _)) (AJ (AZ (Ab DY CL (Ab AQ Aa (BS CO BU (dv 1) Az (Ao (dv 2))) (BS CO BU (dv 1) (Ao (dv 2)) (Ao (Ab AQ Aa (dv 2) AC)))) (BS CO BU (dv 1) (Ao (dv 2)) Az)))) Ag)
 (AF (A3 (Ad BF Bu (dv 4) AC (AU _)) (AJ (AZ (Ab DY CL (Ab AQ Aa (BS CO BU (dv 1) Az (Ao (dv 2))) (BS CO BU (dv 1) (Ao (dv 3)) (Ao (Ab AQ Aa (dv 3) AC)))) (BS CO BU (dv 1) (Ao (Ab AQ Aa (dv 2) AC)) Az)))) Ag)
 (AF (A3 (Ad BF Bu (dv 4) AC (AU _)) (AF (Aw (i:=5) sc__law_spoilt.nd rfl (ZB rfl) (BN (AA AH (AA AH (AA AH (AA AH (AA AH (AA AH (AA AH (AA AH (AA AH (AA AH AT))))))))))))
 (AJ (AZ (Ab DY CL (Ab AQ Aa (BS CO BU (dv 1) Az (Ao (dv 2))) (BN (AA (Aj AX A4 (dv 5) (AO G__law_next (hr.mono (by decide)) rfl (AD (BG 0) (AD (Aq AC) AW)))) AT))) (BS CO BU (dv 1) (Ao (dv 2)) Az))))) Ag)
 (AF (A3 (Ad BF Bu (dv 2) (AY Af BO rfl T.n_len PySem.boot_len (AG (dv 1) AL)) (AU _)) (AJ (AZ (Ab DY CL (BS CO BU (dv 1) Az (Ao (dv 3))) (V_ (BS CO BU (dv 1) Az (Ao (dv 3))) (NA AC))))) Ag)
 (AJ (AZ (Ab DY CL (Ab AQ Aa (BS CO BU (dv 1) Az (Ao (dv 2))) (BN (AA (AO G__law_line_spoilt (hr.mono (by decide)) rfl (AD (BG 0) (AD (Aq (Aj AX A4 (dv 1) (dv 2))) AW))) AT))) (BS CO BU (dv 1) (Ao (Ab AQ Aa (dv 2) AC)) Az))))))))))))) (λss n Pd hl hw=>LB hw)
theorem sc__law_crowded:Ah ["_law_feed_here","_law_names_here","_law_pairs","_law_a","_law_lines_here","_law_many"] ["_law_feed_here"] (AK Ce):=by constructor <;> first | rfl | decide +kernel
theorem Gx{f:Addr}{fd:FuncData}(T:Txt K mg)(G__law_names:Dn P w K mg base)(G__law_next:BA P w K mg base)(F:Fun K "_law_crowded" "_law_crowded" Ce f fd):A5 P w K mg base Cb 2 f fd ["_law_feed_here"] (E5 K .fr F2 1):=by
 exact Hx F sc__law_crowded (by decide) (λcdv A outer s H E hr=>(AF (Aw (i:=1) sc__law_crowded.nd rfl (aJ rfl) (JT G__law_names (hr.mono (by decide)) rfl))
 (AF (A3 (Ad BF Bu (AO G__law_next (hr.mono (by decide)) rfl (AD (BG 0) (AD (Aq AC) AW))) AC (AU _)) (AJ (AZ (B7 rfl [("_law_name" : Str)] [none] (B5 (BS CO BU (dv 1) Az (Ao (Ab AQ Aa AC (AO G__law_next (hr.mono (by decide)) rfl (AD (BG 0) (AD (Aq AC) AW))))))) (λ_ _ _ _ _=>(Ay (i:=0) (show aT [("_law_name" : Str)] by decide +kernel) rfl (ZB rfl))) (λ_ _ _ _ _=>Bp) (λ_ _ _ _ _=>(Ab AQ Aa AH (dv 0))) (by kernel_rfl)))) Ag)
 (AF (Di (i:=2) sc__law_crowded.nd rfl (aJ rfl) (BN AT))
 (AF (IC bq rfl (CJ rfl T.n_range (AG AC AL)) (Ay (i:=3) sc__law_crowded.nd rfl (aJ rfl)) (AJ (Fn 2 PySem.F.plainAttrs_list PySem.F.slot_list_extend PySem.F.type_list_extend GF SH (pv 2) (AA (B7 rfl [("_law_names_here" : Str),("_law_a" : Str),("_law_b" : Str)] [some 1,some 3,none] (DI.c (Pe rfl T.n_range (AG (Ab AQ Aa (dv 3) AC) (AG AC AL)))) (λ_ _ _ _ _=>(Ay (i:=2) (show aT [("_law_names_here" : Str),("_law_a" : Str),("_law_b" : Str)] by decide +kernel) rfl (ZB rfl))) (λ_ _ _ _ _=>Bp) (λ_ _ _ _ _=>(Bi (AA (Aj AX A4 (dv 0) (dv 1)) (AA (Aj AX A4 (dv 0) (dv 2)) AT)))) (by kernel_rfl)) AT))))
 (AF (Lv (i:=4) sc__law_crowded.nd rfl (ZB rfl) rfl [("_law_name" : Str)] [none] (B5 (BS CO BU (dv 1) Az (Ao AC))) (λ_ _ _ _ _=>(Ay (i:=0) (show aT [("_law_name" : Str)] by decide +kernel) rfl (ZB rfl))) (λ_ _ _ _ _=>Bp) (λ_ _ _ _ _=>(Ab AQ Aa AH (dv 0))) (by kernel_rfl))
 (AF (Aw (i:=5) sc__law_crowded.nd rfl (ZB rfl) (Ab AQ Aa AC (AO G__law_next (hr.mono (by decide)) rfl (AD (BG 0) (AD (Aq AC) AW)))))
 (AF (Fn 4 PySem.F.plainAttrs_list PySem.F.slot_list_extend PySem.F.type_list_extend GF SH (pv 4) (AA (B7 rfl [("_law_pairs" : Str),("_law_k" : Str)] [some 2,none] (DI.c (CJ rfl T.n_range (AG (dv 5) AL))) (λ_ _ _ _ _=>(Ay (i:=1) (show aT [("_law_pairs" : Str),("_law_k" : Str)] by decide +kernel) rfl (ZB rfl))) (λ_ _ _ _ _=>Bp) (λ_ _ _ _ _=>(Ab AQ Aa (Ab AQ Aa (Ab AQ Aa (Ab AQ Aa (Ab AQ Aa AH (Aj AX A4 (Aj AX A4 (EI 0) (dv 1)) AC)) AH) (Aj AX A4 (Aj AX A4 (EI 0) (dv 1)) AC)) AH) (A7 GP NI rfl T.n_str boot_str (AG (Ab AQ Aa AC (dv 1)) AL)))) (by kernel_rfl)) AT))
 (AJ (N4 4 (pv 4))))))))))) (λss n Pd hl hw=>Jt hw)
end
section
variable {P:Program}{w:World}{K:Frag}{mg:Str->Option Value}{base:Heap}
theorem Jo:Ah ["_law_script"] ["_law_script"] (AK D9):=by constructor <;> first | rfl | decide +kernel
theorem KA{f:Addr}{fd:FuncData}(T:Txt K mg)(F:Fun K "_law_feed" "_law_feed" D9 f fd):A5 P w K mg base Cb 1 f fd ["_law_script"] (Ji K):=by
 refine F.ok Jo (λvs H Q E h=>?_) (λcdv A outer s H vs Q E hr h=>?_)
 ·obtain⟨a,ns,rfl,_⟩:=h
  rfl
 ·obtain⟨a,ns,rfl,⟨hl,hS⟩,q⟩:=h
  refine⟨_,Ct (GC (Ml (A9 (JB Ft rfl T.n_list boot_list (A9 (LL sl_list (pv 0) Na (NZ Au)) B1)) (A9 Au (A9 Au B1))))),?_⟩
  refine⟨_,rfl,63,rfl,a,_,rfl,hS,λp hp=>⟨p,_,rfl,.inl (SqL.of AN),λc hc=>⟨by show 3<=sizeLine; decide,λg hg=>?_⟩⟩⟩
  rw [X8 hl] at hg ⊢
  have ncg:c≠g:=λz=>by rw [← z,AN] at hg; cases hg
  exact q c g _ ncg (by rw [AM ncg,AN]) AN
theorem sc_law:Ah ["_law_script","_law_feed_here","_law_some","_law_lines_here","_law_k","_law_spoilt_here","_law_told_here","_law_handed"] ["_law_script"] (AK HM):=by constructor <;> first | rfl | decide +kernel
theorem Vp{f ff:Addr}{fd fdf:FuncData}(T:Txt K mg)(Gf:A5 P w K mg base Cb 1 ff fdf ["_law_script"] (Ji K))(mf:mg "_law_feed"=some (.ref ff))(kf:keepIn K (.ref ff)=true)(bf:Binds K fdf ["_law_script"] [])
  (G__law_crowded:EX P w K mg base) (G__law_lines:Fw P w K mg base) (G__law_net:IQ P w K mg base) (G__law_next:BA P w K mg base) (G__law_read:Gq P w K mg base) (G__law_spoilt:Ex P w K mg base) (G__law_told:Gn P w K mg base) (F:Fun K "law" "law" HM f fd):A5 P w K mg base Cb 8 f fd ["_law_script"] (K9 K):=by
 exact Xz (n0:=9000) F sc_law rfl (by decide) (λcdv A outer s H E hr=>FA (i:=1) sc_law.nd rfl (ZB rfl) (Nd Gf (hr.mono (by decide)) rfl mf kf bf .nil Qs (A9 (pv 0) B1)))
  (λcdv A outer s H E hr=>(AF (Di (i:=2) sc_law.nd rfl (ZB rfl) (BN AT))
 (AF (A3 (Ad BF Bu (AO G__law_next (hr.mono (by decide)) rfl (AD (BG 1) (AD (Aq AC) AW))) AC (AU _)) (AJ (Fn 2 PySem.F.plainAttrs_list PySem.F.slot_list_append PySem.F.type_list_append CH Jd (pv 2) (AA (AO G__law_crowded (hr.mono (by decide)) rfl (AD (BG 1) AW)) AT))) Ag)
 (AF (Aw (i:=3) sc_law.nd rfl (ZB rfl) (AO G__law_lines (hr.mono (by decide)) rfl (AD (Aq (AO G__law_net (hr.mono (by decide)) rfl (AD (BG 1) (AD (Aq AC) (AD (Aq AC) AW))))) AW)))
 (AF (IC bq rfl (CJ rfl T.n_range (AG AC AL)) (Ay (i:=4) sc_law.nd rfl (ZB rfl)) (AF (Aw (i:=5) sc_law.nd rfl (ZB rfl) (AO G__law_spoilt (hr.mono (by decide)) rfl (AD (BG 1) (AD (Aq (dv 3)) AW))))
 (AF (A3 (Ad BF Bu (AO G__law_next (hr.mono (by decide)) rfl (AD (BG 1) (AD (Aq AC) AW))) AC (AU _)) (AJ (Aw (i:=5) sc_law.nd rfl (ZB rfl) (AO G__law_spoilt (hr.mono (by decide)) rfl (AD (BG 1) (AD (Aq (dv 5)) AW))))) Ag)
 (AJ (Fn 2 PySem.F.plainAttrs_list PySem.F.slot_list_append PySem.F.type_list_append CH Jd (pv 2) (AA (dv 5) AT))))))
 (AF (Tu bq rfl (pv 2) (Ay (i:=6) sc_law.nd rfl (ZB rfl)) (AF (Aw (i:=7) sc_law.nd rfl (ZB rfl) (A7 Ft UB rfl T.n_list boot_list (AG (dv 6) AL)))
 (AJ (A3 (DTW.dt (DL (Ad Xk Y5 (AY (JV hr) SD rfl T.n_repr boot_repr (AG (AO G__law_told (hr.mono (by decide)) rfl (AD (Do (dv 7)) AW)) AL)) (AY (JV hr) SD rfl T.n_repr boot_repr (AG (AO G__law_read (hr.mono (by decide)) rfl (AD (Aq (dv 6)) AW)) AL)) (AU _)) (C9 (Ad (Vh hr) X_ (dv 7) (dv 6) (AU _))))) (AJ (AZ Fp)) Ag))))
 (AJ (AZ Fp)))))))) MY
end
theorem Ii{β:Type}{n:Nat}(g k:List Value->β)(us:List Value)(h:us.length=n+1)(c:∀(a:Value) (r:List Value),r.length=n->g (a::r)=k (a::r)):g us=k us:=by
 cases us with
 | nil=>cases h
 | cons a r=>exact c a r (Nat.succ.inj h)
theorem len0{β:Type}(g k:List Value->β)(us:List Value)(h:us.length=0)(c:g []=k []):g us=k us:=by
 cases us with
 | nil=>exact c
 | cons a r=>cases h
theorem Zd{d:FuncData}{ps:List Str}(c:bindArgs d ⟨[],[]⟩=pure (ps.zip []))(us:List Value)(h:us.length=0):bindArgs d ⟨us,[]⟩=pure (ps.zip us):=len0 (λr=>bindArgs d ⟨r,[]⟩) (λr=>pure (ps.zip (r))) us h c
theorem Pp{d:FuncData}{ps:List Str}(c:∀a0:Value,bindArgs d ⟨[a0],[]⟩=pure (ps.zip [a0]))(us:List Value)(h:us.length=1):bindArgs d ⟨us,[]⟩=pure (ps.zip us):=Ii (λr=>bindArgs d ⟨r,[]⟩) (λr=>pure (ps.zip (r))) us h λa0 r h=>len0 (λr=>bindArgs d ⟨a0::r,[]⟩) (λr=>pure (ps.zip (a0::r))) r h (c a0)
theorem Wh{d:FuncData}{ps:List Str}(c:∀a0 a1:Value,bindArgs d ⟨[a0,a1],[]⟩=pure (ps.zip [a0,a1]))(us:List Value)(h:us.length=2):bindArgs d ⟨us,[]⟩=pure (ps.zip us):=Ii (λr=>bindArgs d ⟨r,[]⟩) (λr=>pure (ps.zip (r))) us h λa0 r h=>Ii (λr=>bindArgs d ⟨a0::r,[]⟩) (λr=>pure (ps.zip (a0::r))) r h λa1 r h=>len0 (λr=>bindArgs d ⟨a0::a1::r,[]⟩) (λr=>pure (ps.zip (a0::a1::r))) r h (c a0 a1)
theorem WG{d:FuncData}{ps:List Str}(c:∀a0 a1 a2:Value,bindArgs d ⟨[a0,a1,a2],[]⟩=pure (ps.zip [a0,a1,a2]))(us:List Value)(h:us.length=3):bindArgs d ⟨us,[]⟩=pure (ps.zip us):=Ii (λr=>bindArgs d ⟨r,[]⟩) (λr=>pure (ps.zip (r))) us h λa0 r h=>Ii (λr=>bindArgs d ⟨a0::r,[]⟩) (λr=>pure (ps.zip (a0::r))) r h λa1 r h=>Ii (λr=>bindArgs d ⟨a0::a1::r,[]⟩) (λr=>pure (ps.zip (a0::a1::r))) r h λa2 r h=>len0 (λr=>bindArgs d ⟨a0::a1::a2::r,[]⟩) (λr=>pure (ps.zip (a0::a1::a2::r))) r h (c a0 a1 a2)
theorem ZH{d:FuncData}{ps:List Str}(c:∀a0 a1 a2 a3:Value,bindArgs d ⟨[a0,a1,a2,a3],[]⟩=pure (ps.zip [a0,a1,a2,a3]))(us:List Value)(h:us.length=4):bindArgs d ⟨us,[]⟩=pure (ps.zip us):=Ii (λr=>bindArgs d ⟨r,[]⟩) (λr=>pure (ps.zip (r))) us h λa0 r h=>Ii (λr=>bindArgs d ⟨a0::r,[]⟩) (λr=>pure (ps.zip (a0::r))) r h λa1 r h=>Ii (λr=>bindArgs d ⟨a0::a1::r,[]⟩) (λr=>pure (ps.zip (a0::a1::r))) r h λa2 r h=>Ii (λr=>bindArgs d ⟨a0::a1::a2::r,[]⟩) (λr=>pure (ps.zip (a0::a1::a2::r))) r h λa3 r h=>len0 (λr=>bindArgs d ⟨a0::a1::a2::a3::r,[]⟩) (λr=>pure (ps.zip (a0::a1::a2::a3::r))) r h (c a0 a1 a2 a3)
noncomputable def Ht(K:Frag)(x:Str)(st:Stmt):Prop:=∃(f:Addr) (oc:Value) (od an:Option Addr) (sl:Array (Option Value)) (kV dc pm cd ct:Value),nsIn K mainGlobals x=some (some (.ref f))/\K.lookup f=some ⟨oc,od,.func (fnOf x x (B6 st) (BV st) (AK st) .none kV dc pm an cd ct),sl⟩/\codeIn K cd x=true/\keepIn K (.ref f)=true
noncomputable def Hn(K:Frag)(x:Str):Prop:=nsIn K mainGlobals x=some none
noncomputable def Hi(K:Frag)(x:Str)(i:Int):Prop:=∃t,nsIn K mainGlobals x=some (some (.int i t))
theorem Ht.mk{K:Frag}{x:Str}{st:Stmt}{f:Addr}{oc:Value}{od an:Option Addr}{sl:Array (Option Value)}{kV dc pm cd ct:Value}(a:nsIn K mainGlobals x=some (some (.ref f)))(l:K.lookup f=some ⟨oc,od,.func (fnOf x x (B6 st) (BV st) (AK st) .none kV dc pm an cd ct),sl⟩)(c:codeIn K cd x=true)(k:keepIn K (.ref f)=true):Ht K x st:=⟨f,oc,od,an,sl,kV,dc,pm,cd,ct,a,l,c,k⟩
theorem Hi.mk{K:Frag}{x:Str}{i:Int}{t:Tok}(a:nsIn K mainGlobals x=some (some (.int i t))):Hi K x i:=⟨t,a⟩
theorem Hn.mk{K:Frag}{x:Str}(a:nsIn K mainGlobals x=some none):Hn K x:=a
section
variable {P:Program}{w:World}{K:Frag}{mg:Str->Option Value}{h base:Heap}{x:Str}{st:Stmt}
theorem Ht.fn(X:K.In h)(G:h.Ns mainGlobals mg)(H:Ht K x st):∃f fd,mg x=some (.ref f)/\Fun K x x st f fd:=by
 obtain⟨f,oc,od,an,sl,kV,dc,pm,cd,ct,a,l,c,k⟩:=H
 exact⟨f,_,mg_of X G a,KO (st:=st) l c k⟩
theorem Ht.got{k:Nat}{ps:List Str}{κ:Kd}{W:W2}(X:K.In h)(G:h.Ns mainGlobals mg)(H:Ht K x st)(hW:∀ss n P,W ss n P->ss.length=ps.length)
  (hb:∀(kV doc pm:Value) (an:Option Addr) (cdv ct:Value) (us:List Value),us.length=ps.length->bindArgs (fnOf x x (B6 st) (BV st) (AK st) .none kV doc pm an cdv ct) ⟨us,[]⟩=pure (ps.zip us))
  (ok:∀{f:Addr} {fd:FuncData},Fun K x x st f fd->mg x=some (.ref f)->Binds K fd ps []->A5 P w K mg base Cb k f fd ps (E5 K κ W ps.length)):Got P w K mg base x k ps κ W:=by
 obtain⟨f,fd,m,F⟩:=H.fn X G
 have b:=F.binds hb
 exact V0 F m b hW (ok F m b)
end
theorem xc_mk{K:Frag}{nm q q2:Str}{C U N N2:Addr}{bs bs2 sub sub2:List Value}{sn sn2:List Str}{ab ab2 hd2:Bool}{col col2:Option Bool}{dd dd2:Option Addr}{k0 k1 k2 k3 k5 l0 l1 l2 l3 l5:Option Value}(at_:nsIn K mainGlobals nm=some (some (.ref C)))(atU:nsIn K mainGlobals "ThinError"=some (some (.ref U)))
  (o:K.lookup C=some (excClassObj nm q C N bs (.ref U::[.type "ValueError",.type "Exception",.type "BaseException",.type "object"]) true sn sub ab col dd k0 k1 k2 k3 k5 "ValueError.__new__"))
  (u:K.lookup U=some (excClassObj "ThinError" q2 U N2 bs2 [.type "ValueError",.type "Exception",.type "BaseException",.type "object"] hd2 sn2 sub2 ab2 col2 dd2 l0 l1 l2 l3 l5 "ValueError.__new__"))
  (kp:keepIn K (.ref C)=true) (ga:PySem.W.findIn K (.ref C) "__getattribute__"=some (some (.builtin "BaseException.__getattribute__"))) (gt:PySem.W.findIn K (.ref C) "__getattr__"=some none) (sa:PySem.W.findIn K (.ref C) "__setattr__"=some (some (.builtin "object.__setattr__"))) (ca:PySem.W.findIn K (.ref C) "__class__"=some (some (.builtin "object.__class__")))
  (nw:PySem.W.findIn K (.ref C) "word"=some none) (nn:PySem.W.findIn K (.ref C) "number"=some none) (nr:PySem.W.findIn K (.ref C) "row"=some none):XC K nm C U :=
 ⟨⟨q,N,bs,sn,sub,ab,col,dd,k0,k1,k2,k3,k5,o⟩,⟨q2,N2,bs2,sn2,sub2,ab2,col2,dd2,l0,l1,l2,l3,l5,hd2,u⟩,kp,ga,gt,sa,at_,atU,ca,nw,nn,nr⟩
noncomputable def H0(K:Frag)(nm:Str):Prop:=∃C U,XC K nm C U/\PySem.W.findIn K (.ref C) "__init__"=some (some (.builtin "ValueError.__init__"))
noncomputable def H2(K:Frag)(nm qual:Str)(st:Stmt):Prop:=∃C U,XC K nm C U/\∃(f:Addr) (oc:Value) (od an:Option Addr) (sl:Array (Option Value)) (kV dc pm cd ct:Value),PySem.W.findIn K (.ref C) "__init__"=some (some (.ref f))/\PySem.W.typeIn K (.ref f)=some (.type "function")/\K.lookup f=some ⟨oc,od,.func (fnOf "__init__" qual (B6 st) (BV st) (AK st) .none kV dc pm an cd ct),sl⟩/\codeIn K cd qual=true/\keepIn K (.ref f)=true
theorem H0.mk{K:Frag}{nm:Str}{C U:Addr}(c:XC K nm C U)(i:PySem.W.findIn K (.ref C) "__init__"=some (some (.builtin "ValueError.__init__"))):H0 K nm:=⟨C,U,c,i⟩
theorem H2.mk{K:Frag}{nm qual:Str}{st:Stmt}{C U f:Addr}{oc:Value}{od an:Option Addr}{sl:Array (Option Value)}{kV dc pm cd ct:Value}(c:XC K nm C U)(i:PySem.W.findIn K (.ref C) "__init__"=some (some (.ref f)))(ty:PySem.W.typeIn K (.ref f)=some (.type "function"))
  (l:K.lookup f=some ⟨oc,od,.func (fnOf "__init__" qual (B6 st) (BV st) (AK st) .none kV dc pm an cd ct),sl⟩) (cc:codeIn K cd qual=true) (k:keepIn K (.ref f)=true):H2 K nm qual st:=⟨C,U,c,f,oc,od,an,sl,kV,dc,pm,cd,ct,i,ty,l,cc,k⟩
section
variable {P:Program}{w:World}{K:Frag}{mg:Str->Option Value}{h base:Heap}{x:Str}{st:Stmt}
theorem H0.xm{nm:Str}(X:K.In h)(G:h.Ns mainGlobals mg)(H:H0 K nm):∃C U,XC K nm C U/\mg nm=some (.ref C):=let ⟨C,U,c,_⟩:=H; ⟨C,U,c,mg_of X G c.at_⟩
theorem H2.xm{nm qual:Str}(X:K.In h)(G:h.Ns mainGlobals mg)(H:H2 K nm qual st):∃C U,XC K nm C U/\mg nm=some (.ref C):=let ⟨C,U,c,_⟩:=H; ⟨C,U,c,mg_of X G c.at_⟩
theorem H2.u{nm qual:Str}(X:K.In h)(G:h.Ns mainGlobals mg)(H:H2 K nm qual st):∃U,Wm K U/\mg "ThinError"=some (.ref U)/\nsIn K mainGlobals "ThinError"=some (some (.ref U)):=let ⟨C,U,c,_⟩:=H; ⟨U,c.isU,mg_of X G c.atU,c.atU⟩
theorem H0.g{nm:Str}(X:K.In h)(G:h.Ns mainGlobals mg)(H:H0 K nm):G1 P w K mg base nm [] 1:=let ⟨C,U,c,i⟩:=H; ⟨C,U,c,mg_of X G c.at_,.inl ⟨rfl,i⟩⟩
theorem Ht.gotR{k:Nat}{ps:List Str}{κ:Kd}{W:WX}(X:K.In h)(G:h.Ns mainGlobals mg)(H:Ht K x st)(hW:∀ss n P Pr,W ss n P Pr->ss.length=ps.length)
  (hb:∀(kV doc pm:Value) (an:Option Addr) (cdv ct:Value) (us:List Value),us.length=ps.length->bindArgs (fnOf x x (B6 st) (BV st) (AK st) .none kV doc pm an cdv ct) ⟨us,[]⟩=pure (ps.zip us))
  (ok:∀{f:Addr} {fd:FuncData},Fun K x x st f fd->A5 P w K mg base (OS P w) k f fd ps (YT K κ W ps.length)):WZ P w K mg base x k ps κ W:=by
 obtain⟨f,fd,m,F⟩:=H.fn X G
 exact⟨f,fd,ok F,m,F.kp,F.binds hb,hW⟩
end
theorem M5{P:Program}{w:World}{K:Frag}{mg:Str->Option Value}{h base:Heap}(X:K.In h)(G:h.Ns mainGlobals mg)(H:H2 K "NoPaper" "NoPaper.__init__" Be):G1 P w K mg base "NoPaper" ["word","number"] 1:=by
 obtain⟨C,U,c,f,oc,od,an,sl,kV,dc,pm,cd,ct,i,ty,l,cc,k⟩:=H
 have F:=KO (st:=Be) l cc k
 exact⟨C,U,c,mg_of X G c.at_,.inr ⟨_,_,f,_,_,_,_,rfl,i,ty,Gy c F,F.binds λ_ _ _ _ _ _=>WG λ_ _ _=>rfl⟩⟩
theorem PP{P:Program}{w:World}{K:Frag}{mg:Str->Option Value}{h base:Heap}(X:K.In h)(G:h.Ns mainGlobals mg)(H:H2 K "NoLine" "NoLine.__init__" Bo):G1 P w K mg base "NoLine" ["row","word"] 1:=by
 obtain⟨C,U,c,f,oc,od,an,sl,kV,dc,pm,cd,ct,i,ty,l,cc,k⟩:=H
 have F:=KO (st:=Bo) l cc k
 exact⟨C,U,c,mg_of X G c.at_,.inr ⟨_,_,f,_,_,_,_,rfl,i,ty,Hl c F,F.binds λ_ _ _ _ _ _=>WG λ_ _ _=>rfl⟩⟩
theorem all_mk{l:PySem.W.OpenLaw}{w:World}{K:Frag}{h:Heap}{mg:Str->Option Value}{fa:Addr}(X:K.In h)(G:h.Ns mainGlobals mg)(hfa:mg "law"=some (.ref fa))
  (h0:Ht K "is_whole" E8) (h1:Ht K "is_number" D0) (h2:Ht K "is_name" F9) (h3:Ht K "is_length" D1) (h4:Ht K "place_fault" C2) (h5:Ht K "is_second_end" CT) (h6:Ht K "tie_fault" Dz) (h7:Ht K "line_fault" DU) (h8:Ht K "read_net" E7) (h9:Ht K "_law_feed" D9) (h10:Ht K "_law_next" Cs) (h11:Ht K "_law_names" DV) (h12:Ht K "_law_places" C4) (h13:Ht K "_law_length" C5) (h14:Ht K "_law_ties" D6) (h15:Ht K "_law_net" E9) (h16:Ht K "_law_lines" DX) (h17:Ht K "_law_is_name" Cd) (h18:Ht K "_law_is_length" CD) (h19:Ht K "_law_good" D8) (h20:Ht K "_law_read" D7) (h21:Ht K "_law_told" D5) (h22:Ht K "_law_word" D4) (h23:Ht K "_law_line_spoilt" Br) (h24:Ht K "_law_spoilt" C3) (h25:Ht K "_law_crowded" Ce) (h26:Ht K "law" HM)
  (z0:Hn K "ValueError") (z1:Hn K "all") (z2:Hn K "bool") (z3:Hn K "enumerate") (z4:Hn K "int") (z5:Hn K "isinstance") (z6:Hn K "len") (z7:Hn K "list") (z8:Hn K "max") (z9:Hn K "min") (z10:Hn K "range") (z11:Hn K "repr") (z12:Hn K "sorted") (z13:Hn K "str") (z14:Hn K "tuple") (v0:Hi K "MOST_SIGNS" 8) (v1:Hi K "MOST_NUMBER" 1000000) (v2:Hi K "MOST_PLACES" 24) (v3:Hi K "MOST_TIES" 60)
  (y0:H2 K "NoPaper" "NoPaper.__init__" Be) (y1:H2 K "NoLine" "NoLine.__init__" Bo) (y2:H0 K "TooMany") (y3:H0 K "Twice") (y4:H0 K "NoPlace") (y5:H0 K "NoTie") (y6:H0 K "NoRow")
  : ∃fd:FuncData,(∀(s:Shared) (v:Value),BindsTo s fd ⟨[v],[]⟩ [("_law_script",v)])/\∀base:Heap,K.In base->base.Ns mainGlobals mg->A5 l.prog w K mg base Cb 8 fa fd ["_law_script"] (K9 K):=by
 have T:Txt K mg:=⟨mg_none_of X G z0,mg_none_of X G z1,mg_none_of X G z2,mg_none_of X G z3,mg_none_of X G z4,mg_none_of X G z5,mg_none_of X G z6,mg_none_of X G z7,mg_none_of X G z8,mg_none_of X G z9,mg_none_of X G z10,mg_none_of X G z11,mg_none_of X G z12,mg_none_of X G z13,mg_none_of X G z14,(let ⟨t,e⟩:=v0; ⟨t,mg_of X G e⟩),(let ⟨t,e⟩:=v1; ⟨t,mg_of X G e⟩),(let ⟨t,e⟩:=v2; ⟨t,mg_of X G e⟩),(let ⟨t,e⟩:=v3; ⟨t,mg_of X G e⟩),y0.xm X G,y1.xm X G,y2.xm X G,y3.xm X G,y4.xm X G,y5.xm X G,y6.xm X G,y0.u X G⟩
 obtain⟨ff,ffd,mf,Ff⟩:=h9.fn X G
 have bf:=Ff.binds (ps:=["_law_script"]) λ_ _ _ _ _ _=>Pp λ_=>rfl
 obtain⟨f,oc,od,an,sl,kV,dc,pm,cd,ct,a,l',c,k⟩:=h26
 have e:=hfa.symm.trans (mg_of X G a)
 cases e
 refine⟨fnOf "law" "law" (B6 HM) (BV HM) (AK HM) .none kV dc pm an cd ct,λs v=>.of_eq rfl,λbase _ _=>?_⟩
 have GX_NoPaper:G1 l.prog w K mg base "NoPaper" ["word","number"] 1:=M5 X G y0
 have GX_NoLine:G1 l.prog w K mg base "NoLine" ["row","word"] 1:=PP X G y1
 have GX_TooMany:G1 l.prog w K mg base "TooMany" [] 1:=y2.g X G
 have GX_Twice:G1 l.prog w K mg base "Twice" [] 1:=y3.g X G
 have GX_NoPlace:G1 l.prog w K mg base "NoPlace" [] 1:=y4.g X G
 have GX_NoTie:G1 l.prog w K mg base "NoTie" [] 1:=y5.g X G
 have GX_NoRow:G1 l.prog w K mg base "NoRow" [] 1:=y6.g X G
 have G_is_whole:IP l.prog w K mg base:=h0.got X G (λ_ _ _ h=>GB h) (λ_ _ _ _ _ _=>Pp λ_=>rfl) λF m b=>LP T   F
 have G_is_number:Gj l.prog w K mg base:=h1.got X G (λ_ _ _ h=>GB h) (λ_ _ _ _ _ _=>Pp λ_=>rfl) λF m b=>J0 T G_is_whole  F
 have G_is_name:Je l.prog w K mg base:=h2.got X G (λ_ _ _ h=>GB h) (λ_ _ _ _ _ _=>Pp λ_=>rfl) λF m b=>Mq T   F
 have G_is_length:Gk l.prog w K mg base:=h3.got X G (λ_ _ _ h=>by obtain⟨_,e,_⟩:=h; rw [e]; rfl) (λ_ _ _ _ _ _=>Pp λ_=>rfl) λF m b=>J1 T G_is_number  F
 have G_place_fault:Ew l.prog w K mg base:=h4.got X G (λ_ _ _ h=>by obtain⟨_,_,_,e,_⟩:=h; rw [e]; rfl) (λ_ _ _ _ _ _=>WG λ_ _ _=>rfl) λF m b=>Hf T G_is_name  F
 have G_is_second_end:Dt l.prog w K mg base:=h5.got X G (λ_ _ _ h=>by obtain⟨_,_,_,_,e,_⟩:=h; rw [e]; rfl) (λ_ _ _ _ _ _=>ZH λ_ _ _ _=>rfl) λF m b=>GD T   F
 have G_tie_fault:Gi l.prog w K mg base:=h6.got X G (λ_ _ _ h=>by obtain⟨_,_,_,e,_⟩:=h; rw [e]; rfl) (λ_ _ _ _ _ _=>WG λ_ _ _=>rfl) λF m b=>Jz T G_is_length G_is_second_end  F
 have G_line_fault:Fv l.prog w K mg base:=h7.got X G (λ_ _ _ h=>by obtain⟨_,_,_,e,_⟩:=h; rw [e]; rfl) (λ_ _ _ _ _ _=>WG λ_ _ _=>rfl) λF m b=>Ic T G_place_fault G_tie_fault  F
 have GR_read_net:IN l.prog w K mg base:=h8.gotR X G (λ_ _ _ _ h=>by obtain⟨_,e,_⟩:=h; rw [e]; rfl) (λ_ _ _ _ _ _=>Pp λ_=>rfl) λF=>LO T G_line_fault GX_NoLine F
 have Gf:=KA (P:=l.prog) (w:=w) (base:=base) T Ff
 have G__law_next:BA l.prog w K mg base:=h10.got X G (λ_ _ _ h=>by obtain⟨_,e,_⟩:=h; rw [e]; rfl) (λ_ _ _ _ _ _=>Wh λ_ _=>rfl) λF m b=>TC F T.n_len
 have G__law_names:Dn l.prog w K mg base:=h11.got X G (λ_ _ _ h=>by obtain⟨e,_⟩:=h; rw [e]; rfl) (λ_ _ _ _ _ _=>Zd rfl) λF m b=>Ie T   F
 have G__law_places:Ey l.prog w K mg base:=h12.got X G (λ_ _ _ h=>by obtain⟨_,e,_⟩:=h; rw [e]; rfl) (λ_ _ _ _ _ _=>Wh λ_ _=>rfl) λF m b=>Hj T G__law_names G__law_next  F
 have G__law_length:Ez l.prog w K mg base:=h13.got X G (λ_ _ _ h=>by obtain⟨_,e,_⟩:=h; rw [e]; rfl) (λ_ _ _ _ _ _=>Wh λ_ _=>rfl) λF m b=>Hk T G__law_next  F
 have G__law_ties:Gp l.prog w K mg base:=h14.got X G (λ_ _ _ h=>by obtain⟨_,_,e,_⟩:=h; rw [e]; rfl) (λ_ _ _ _ _ _=>WG λ_ _ _=>rfl) λF m b=>J8 T G__law_length G__law_next  F
 have G__law_net:IQ l.prog w K mg base:=h15.got X G (λ_ _ _ h=>by obtain⟨_,_,e,_⟩:=h; rw [e]; rfl) (λ_ _ _ _ _ _=>WG λ_ _ _=>rfl) λF m b=>LQ T G__law_next G__law_places G__law_ties  F
 have G__law_lines:Fw l.prog w K mg base:=h16.got X G (λ_ _ _ h=>by obtain⟨_,e,_⟩:=h; rw [e]; rfl) (λ_ _ _ _ _ _=>Pp λ_=>rfl) λF m b=>Ig T   F
 have G__law_is_name:EW l.prog w K mg base:=h17.got X G (λ_ _ _ h=>by obtain⟨_,e,_⟩:=h; rw [e]; rfl) (λ_ _ _ _ _ _=>Pp λ_=>rfl) λF m b=>Gw T   F
 have G__law_is_length:DQ l.prog w K mg base:=h18.got X G (λ_ _ _ h=>by obtain⟨_,e,_⟩:=h; rw [e]; rfl) (λ_ _ _ _ _ _=>Pp λ_=>rfl) λF m b=>Fe T   F
 have G__law_good:Gr l.prog w K mg base:=h19.got X G (λ_ _ _ h=>by obtain⟨_,_,_,_,e,_⟩:=h; rw [e]; rfl) (λ_ _ _ _ _ _=>ZH λ_ _ _ _=>rfl) λF m b=>J_ T G__law_is_length G__law_is_name  F
 have G__law_read:Gq l.prog w K mg base:=h20.got X G (λ_ _ _ h=>by obtain⟨_,e,_⟩:=h; rw [e]; rfl) (λ_ _ _ _ _ _=>Pp λ_=>rfl) λF m b=>J9 T G__law_good  F
 have G__law_told:Gn l.prog w K mg base:=h21.got X G (λ_ _ _ h=>by obtain⟨_,e,_⟩:=h; rw [e]; rfl) (λ_ _ _ _ _ _=>Pp λ_=>rfl) λF m b=>J7 T GR_read_net  F
 have G__law_word:Gm l.prog w K mg base:=h22.got X G (λ_ _ _ h=>by obtain⟨_,e,_⟩:=h; rw [e]; rfl) (λ_ _ _ _ _ _=>Wh λ_ _=>rfl) λF m b=>J5 T G__law_next  F
 have G__law_line_spoilt:Co l.prog w K mg base:=h23.got X G (λ_ _ _ h=>by obtain⟨_,_,e,_⟩:=h; rw [e]; rfl) (λ_ _ _ _ _ _=>Wh λ_ _=>rfl) λF m b=>Ei T G__law_next G__law_word  F
 have G__law_spoilt:Ex l.prog w K mg base:=h24.got X G (λ_ _ _ h=>by obtain⟨_,_,_,e,_⟩:=h; rw [e]; rfl) (λ_ _ _ _ _ _=>Wh λ_ _=>rfl) λF m b=>Hg T G__law_line_spoilt G__law_next  F
 have G__law_crowded:EX l.prog w K mg base:=h25.got X G (λ_ _ _ h=>by obtain⟨e,_⟩:=h; rw [e]; rfl) (λ_ _ _ _ _ _=>Pp λ_=>rfl) λF m b=>Gx T G__law_names G__law_next  F
 exact Vp T Gf mf Ff.kp bf G__law_crowded G__law_lines G__law_net G__law_next G__law_read G__law_spoilt G__law_told (KO (st:=HM) l' c k)
theorem walk{l:PySem.W.OpenLaw}{q:Program}{loose:List Str}{XP:(Str->Option Value)->Heap->Prop}{YP:World->Heap->Prop}{d:DefRec}{K:Params->Frag}(hn:l.most=some 63)(hdf:d.params.defaults=[])
  (hY:∀(w:World) (h:Heap),YP w h->(K w.params).In h)
  (F:∀(w:World) (mg:Str->Option Value) (fa:Addr) (h:Heap),(K w.params).In h->h.Ns mainGlobals mg->mg d.name=some (.ref fa) ->
   ∃fd:FuncData,(∀(s:Shared) (u:Value),BindsTo s fd ⟨[u],[]⟩ [("_law_script",u)])/\∀base:Heap,(K w.params).In base->base.Ns mainGlobals mg->A5 l.prog w (K w.params) mg base Cb 8 fa fd ["_law_script"] (K9 (K w.params))) :
  PySem.W.WalkO q loose XP YP l.row.toRowW d [] (λf vs=>PySem.call f vs) :=
 L2.NJ (n:=63) (k:=8) (x := "_law_script") (CX:=λ_=>Cb) (sp:=λw=>K9 (K w.params)) hn (by decide) hdf ⟨rfl,by decide,by decide,rfl⟩ hY F (λ_ _ a ns hl _ hS=>⟨a,ns,rfl,⟨hl,hS⟩,λ_=>rfl⟩) λ_ _ _ _ _ z=>z
end K72
end _p
namespace PySem.W.Fast
theorem tw1952786706825622320:True:=⟨⟩
theorem tw402044918358586040:True:=⟨⟩
theorem tw6788435397998561167:True:=⟨⟩
theorem tw7964994077737101170:True:=⟨⟩
theorem tw7771148954128302563:True:=⟨⟩
theorem tw5048274955501757388:True:=⟨⟩
theorem tw1075459572637797164:True:=⟨⟩
theorem tw6857429450207304480:True:=⟨⟩
theorem tw13579484911235921531:True:=⟨⟩
theorem tw1014697088924690106:True:=⟨⟩
theorem tw2279463027761768864:True:=⟨⟩
theorem tw5249883998108128240:True:=⟨⟩
theorem tw9137072599467072855:True:=⟨⟩
theorem tw1904979722461585458:True:=⟨⟩
theorem tw12420411517196805522:True:=⟨⟩
theorem tw1865461055191383828:True:=⟨⟩
theorem tw15057767881862327829:True:=⟨⟩
theorem tw16021257649475880319:True:=⟨⟩
theorem tw1304323810882368159:True:=⟨⟩
theorem tw9255613220345124958:True:=⟨⟩
theorem tw16600751430212605951:True:=⟨⟩
theorem tw9806589088611146578:True:=⟨⟩
theorem tw12830794739163486923:True:=⟨⟩
theorem tw9064013572014954782:True:=⟨⟩
theorem tw11962016306205359984:True:=⟨⟩
theorem tw7930652224972631165:True:=⟨⟩
end PySem.W.Fast
open _p
open PySem PySem.W PyProof.Rows
set_option maxRecDepth 100000 in
set_option maxHeartbeats 0 in
theorem PySem.Challenge.cw_thinnet_k72_lines_refused_holds : PySem.Challenge.rw_thinnet_k72_lines_refused.Holds := by
 w_on; o_law; k_head; (case hw=>w_witness2)
 k_fill
 refine K72.walk (l:=PySem.Challenge.rw_thinnet_k72_lines_refused) rfl rfl (λw h Y=>PySem.W.kIn_of Y) ?F
 case F =>
  intro w mg fa h KX G hmg
  refine' K72.all_mk KX G hmg ?_ ?_ ?_ ?_ ?_ ?_ ?_ ?_ ?_ ?_ ?_ ?_ ?_ ?_ ?_ ?_ ?_ ?_ ?_ ?_ ?_ ?_ ?_ ?_ ?_ ?_ ?_ ?_ ?_ ?_ ?_ ?_ ?_ ?_ ?_ ?_ ?_ ?_ ?_ ?_ ?_ ?_ ?_ ?_ ?_ ?_ ?_ ?_ ?_ ?_ ?_ ?_ ?_
  all_goals first
   | (refine' K72.Ht.mk ?a ?l ?c ?k; (case a=>k_is); (case l=>k_is); (case c=>k_is); (case k=>k_is))
   | (refine' K72.Hi.mk ?a; (case a=>k_is))
   | (refine' K72.Hn.mk ?a; (case a=>k_is))
   | skip
  ·(refine' K72.H2.mk ?c ?i ?ty ?l ?cc ?k; (case c=>(refine' K72.xc_mk ?at_ ?atU ?o ?u ?kp ?ga ?gt ?sa ?ca ?nw ?nn ?nr; (case at_=>k_is); (case atU=>k_is); (case o=>k_is); (case u=>k_is); (case kp=>k_is); (case ga=>k_is); (case gt=>k_is); (case sa=>k_is); (case ca=>k_is); (case nw=>k_is); (case nn=>k_is); (case nr=>k_is))); (case i=>k_is); (case ty=>k_is); (case l=>k_is); (case cc=>k_is); (case k=>k_is))
  ·(refine' K72.H2.mk ?c ?i ?ty ?l ?cc ?k; (case c=>(refine' K72.xc_mk ?at_ ?atU ?o ?u ?kp ?ga ?gt ?sa ?ca ?nw ?nn ?nr; (case at_=>k_is); (case atU=>k_is); (case o=>k_is); (case u=>k_is); (case kp=>k_is); (case ga=>k_is); (case gt=>k_is); (case sa=>k_is); (case ca=>k_is); (case nw=>k_is); (case nn=>k_is); (case nr=>k_is))); (case i=>k_is); (case ty=>k_is); (case l=>k_is); (case cc=>k_is); (case k=>k_is))
  ·(refine' K72.H0.mk ?c ?i; (case c=>(refine' K72.xc_mk ?at_ ?atU ?o ?u ?kp ?ga ?gt ?sa ?ca ?nw ?nn ?nr; (case at_=>k_is); (case atU=>k_is); (case o=>k_is); (case u=>k_is); (case kp=>k_is); (case ga=>k_is); (case gt=>k_is); (case sa=>k_is); (case ca=>k_is); (case nw=>k_is); (case nn=>k_is); (case nr=>k_is))); (case i=>k_is))
  ·(refine' K72.H0.mk ?c ?i; (case c=>(refine' K72.xc_mk ?at_ ?atU ?o ?u ?kp ?ga ?gt ?sa ?ca ?nw ?nn ?nr; (case at_=>k_is); (case atU=>k_is); (case o=>k_is); (case u=>k_is); (case kp=>k_is); (case ga=>k_is); (case gt=>k_is); (case sa=>k_is); (case ca=>k_is); (case nw=>k_is); (case nn=>k_is); (case nr=>k_is))); (case i=>k_is))
  ·(refine' K72.H0.mk ?c ?i; (case c=>(refine' K72.xc_mk ?at_ ?atU ?o ?u ?kp ?ga ?gt ?sa ?ca ?nw ?nn ?nr; (case at_=>k_is); (case atU=>k_is); (case o=>k_is); (case u=>k_is); (case kp=>k_is); (case ga=>k_is); (case gt=>k_is); (case sa=>k_is); (case ca=>k_is); (case nw=>k_is); (case nn=>k_is); (case nr=>k_is))); (case i=>k_is))
  ·(refine' K72.H0.mk ?c ?i; (case c=>(refine' K72.xc_mk ?at_ ?atU ?o ?u ?kp ?ga ?gt ?sa ?ca ?nw ?nn ?nr; (case at_=>k_is); (case atU=>k_is); (case o=>k_is); (case u=>k_is); (case kp=>k_is); (case ga=>k_is); (case gt=>k_is); (case sa=>k_is); (case ca=>k_is); (case nw=>k_is); (case nn=>k_is); (case nr=>k_is))); (case i=>k_is))
  ·(refine' K72.H0.mk ?c ?i; (case c=>(refine' K72.xc_mk ?at_ ?atU ?o ?u ?kp ?ga ?gt ?sa ?ca ?nw ?nn ?nr; (case at_=>k_is); (case atU=>k_is); (case o=>k_is); (case u=>k_is); (case kp=>k_is); (case ga=>k_is); (case gt=>k_is); (case sa=>k_is); (case ca=>k_is); (case nw=>k_is); (case nn=>k_is); (case nr=>k_is))); (case i=>k_is))
#print axioms PySem.Challenge.cw_thinnet_k72_lines_refused_holds

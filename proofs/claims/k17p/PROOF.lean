import PyProof.Rows.All
import Wide.All
import OpenK.AllK
import Wide.FinOn
import Lean
import PyProof.EqAt
import PyProof.EqKinds
import PyProof.TupleCall
import PyProof.StationsW
import PyProof.PassesOwn
import PyProof.RulesAs
import PyProof.ExcClass3
import PyProof.Rows.CatchOwn
import OpenK.KMake
import OpenK.KWalk
import PyProof.InstStoreFacts
import PyProof.ExcBaseAll.ValueError
import PyProof.RangeIter
import OpenK.KRaise
import PyProof.NsDelKeeps
import KE.KIsAll
import PyProof.P3In
import PyProof.NeData
import PyProof.ExcArgs
import KE.KSortTup
import PyProof.CompUse
import KE.KRevIter
import PyProof.TupleOfGen
import PyProof.CollectIter
import PyProof.ListMulRoad
import PyProof.ReprLen
import PyProof.SumAny
import PyProof.Rows.SeqCalls
import PySem.Challenge.RW_thinnet_k17_refusals_apart
open PySem.W (Frag nsIn keepIn fnOf codeIn mg_of mg_none_of)
set_option compiler.extract_closed false
set_option Elab.async false
set_option linter.all false
set_option maxRecDepth 100000
open Array renaming length_toList->Ua,append_assoc->WO
open Array.Perm renaming refl->XN
open Bool renaming false_ne_true->TW,and_eq_true->Tu,eq_iff_iff->U2,false_eq_true->Vj,eq_false_iff->Vu,and_true->W7
open Classical renaming propDecidable->VC
open False renaming elim->T5
open ForInStep renaming yield->VF
open Int renaming toNat_natCast->VN,natAbs->WJ
open List renaming length_map->Ev,replicate->Is,getElem?_eq_getElem->No,mem_cons_of_mem->Op,size_toArray->Re,mem_cons->TM,length_cons->Tk,mem_cons_self->Tv,length_append->Tz,getElem?_eq_some_iff->T0,mem_map->T2,mem_append_right->T4,getD_eq_getElem?_getD->T7,range->T_,not_mem_nil->UA,length_singleton->UB,getElem?_map->UF,map_cons->UG,toArray->UJ,mem_range->UK,append_nil->UL,lookup->UU,getElem?_append_right->UY,length_nil->Ub,mem_of_getElem?->Uh,length_range->Uk,lookup_cons->Uq,mem_singleton->Ur,length_set->Ut,length_take->Uu,mem_append->U1,nil_append->U3,append_assoc->U6,getElem?_append_left->U8,length_eq_zero_iff->VB,nodup_cons->VE,pairwise_cons->VI,length_replicate->VS,all_eq_true->VV,getElem_mem->VX,Nodup->VY,drop_eq_getElem_cons->Vg,map_append->Vi,zip_cons_cons->Vl,map_map->Vn,getElem?_replicate->Vr,pairwise_singleton->Vs,getElem?_set->Vt,length_drop->V1,mem_iff_getElem?->V4,getElem?_set_ne->V7,of_mem_zip->V_,map_nil->WA,forIn_cons->WB,mem_of_mem_take->WH,filterMap_cons->WK,map_congr_left->WL,length->WN,mem_filterMap->WP,contains_cons->WQ,flatMap_cons->Wf,pairwise_map->Wg,pairwise_iff_getElem->Wh,map->Wo,drop_length->Wp,getElem?_cons_succ->Wt,getElem?_set_self->Wv,take_of_length_le->Wy,getElem?_zipWith->W0,all_cons->W6,all_map->XJ
open List.Pairwise renaming nil->Wc,imp_of_mem->Wr
open Nat renaming le_refl->Go,lt_of_lt_of_le->Tx,ne_of_lt->T1,le_trans->T6,zero_le->UI,le_succ->UV,lt_irrefl->UX,lt_succ_of_lt->Uj,ne_of_gt->Uy,not_lt->Vq,mod_lt->WI,le_of_lt->Wi,min_le_right->Wk,lt_succ_self->Wm
open Ne renaming symm->Ug
open Option renaming map_eq_some_iff->VL,bind_some->V2
open Option.some renaming inj->Rs
open Or renaming inl->Tw,inr->UH
open PyProof.Rows renaming slot_tuple_getitem->UN,callWith_type1->Ul,get?_update_seq->Vh,listUpdate_at->Vz,listItems_at->Wq,lt_int->Ww,boot_all->W3
open PyProof.Rows.KeyOrd renaming kle_refl->Uo,kle_of_klt->Vv,kle_trans->V3,kle_antisymm->XA
open PySem renaming wpAny_bind->Ch,wpAny_pure->Db,wpAny_loadPart_at->T8,wpAny_mono->UC,wpAny_field->UE,wpAny_newObj_type->UO,sizeLine_eq->UQ,wpAny_holding->UR,wpAny_isSubtype_exc->UT,wpAny_callSpecial?_slot->UW,wpAny_Call_Name_kw->Uf,wpAny_call_entry->Uv,wpAny_seqItems->Uw,wpAny_setField_rec->Uz,wpAny_pyIter_list->U5,wpAny_call->U7,codeAny_mono->U_,wpAny_getItem_str_slice->VA,wpAny_pyIter_tuple->VH,wpAny_truthy_bool->VM,wpAny_setField->VT,wpAny_rule->VW,wpAny_standAt->VZ,wpAny_attempt->Vb,wpAny_execs_nil->Vd,wpAny_passesOwn->Ve,wpAny_onRaise->Vy,wpAny_execs_cons->V0,plainObj_wpAny_Assign_Attribute->V5,codeAny_call_builtin->WC,post_val_or_str->WE,wpAny_updateSeq_pair->WF,wpAny_newFunctionEnv_cells->WU,noFill_tuple_add->Wj,wpAny_typeOf->Wl,wpAny_madeBy_exc->Wn,codeAny_builtin->Wu,wpAny_letGo->Wz
open PySem.Around renaming under->VQ,frames_deeper->W4
open PySem.Builtin.List renaming listExtendWith->WS
open PySem.Builtin.ObjectAttr renaming storeInDict->WD
open PySem.Builtin.Range renaming rangeSize->Ws
open PySem.Builtin.Slice renaming slicePlaces->U9,sliceAdjust->Vf,sliceApplied->WV
open PySem.Builtin.SmallTypes renaming nextOf->UP,ownedTupleIsFree->Ui,ownedTupleHandOut->Vm
open PySem.Builtin.Tuple renaming tupleExact->Us,tupleTooMany->Vc,tupleItemsOf->WW,tupleIsExact->WZ
open PySem.Calls renaming Name_function_global->WT
open PySem.Code renaming quiet_builtin->VG,isGuard->V9,guards->Wx,isFrame->XI
open PySem.EntryCells renaming newEntry->W8
open PySem.F renaming slot_tuple_iterator_next->U4,slot_zip_next->WG,args_tuple_iterator_next_1->WM,entry_tuple_iterator_next->WR,slot_range_iterator_next->WY
open PySem.Heap renaming get?_push_of_some->Cn,lt_size->FM,get?_push_size->On,get?_update_other->T3,size_push->UZ,get?_update_self->Ue,SameBut->V6,IsTuple->XM
open PySem.Heap.SameBut renaming update->W_
open PySem.Heap.UpToSlots renaming refl->W9
open PySem.NameKind renaming free->UD,cell->Va
open PySem.Obj renaming mapSeq->US,mapFields->Up,data_mapFields->Vk
open PySem.PassesOwn renaming never->VJ
open PySem.PyData renaming eqv->Ud,depthAll->Um,canLayAll0->VO,hasDict->VU,eqvAll->Wa,hasDictAll->We,leavesShortAll->W1
open PySem.SeqAt.EqAt renaming int_str->XG,str_int->XH
open PySem.Shared renaming heap->Vx
open PySem.Str renaming ofString->UM,length_append->Wd
open PySem.Value renaming ref->Sc,none->T9,type->Ux,builtin->VD,bool->Vp,notImplemented->W5,int->XB,str->XD
open Sum renaming inr->VP,inl->Vo
open Sum.inr renaming inj->Vw
open True renaming intro->V8
namespace _p
theorem zau0 (h : True := by first | exact .inl rfl | exact .inr rfl | assumption) : True := h
theorem zau1 (h : True := by decide) : True := h
theorem zau2 (h : True := by intro _; rfl) : True := h
theorem zau3 (h : True := by rfl) : True := h
theorem zau4 (h : True := by first | exact Tw rfl | exact UH (Tw rfl) | exact UH (UH rfl)) : True := h
theorem zau5 (h : True := by intro z; cases z) : True := h
theorem zau6 (h : True := by intro _ _; rfl) : True := h
theorem zau7 (h : True := by intro _ z; cases z) : True := h
namespace L2
open PySem PySem.Spec PyProof.Rows
noncomputable abbrev Key:=Sum Int Str
noncomputable def PF:Key->Value->Bool
 | .inl k,v=>Value.isInt k v
 | .inr x,v=>Value.isStrOf x v
noncomputable def Sw(w:World):Key->Int
 | .inl k=>hashInt k
 | .inr x=>hashStr w x
theorem A0:∀{k:Key} {v:Value},PF k v=true->(∃i t,k=Vo i/\v=XB i t)\/(∃x t,k=VP x/\v=XD x t)
 | .inl i,v,h=>by
  obtain⟨t,e⟩:=Value.isInt_shape (k:=i) (v:=v) h
  exact .inl ⟨i,t,rfl,e⟩
 | .inr x,v,h=>by
  obtain⟨t,e⟩:=Value.isStrOf_shape (x:=x) (v:=v) h
  exact .inr ⟨x,t,rfl,e⟩
theorem QX(a b:Int):decide ((Vo a:Key)=Vo b)=(a==b):=by
 by_cases e:a=b
 ·subst e; simp
 ·have h:¬(Vo a:Key)=Vo b:=λq=>e (Sum.inl.inj q)
  rw [decide_eq_false h]
  exact(beq_eq_false_iff_ne.mpr e).symm
theorem QU(a b:Str):decide ((VP a:Key)=VP b)=decide (a=b):=by
 by_cases e:a=b
 ·subst e; simp
 ·have h:¬(VP a:Key)=VP b:=λq=>e (Vw q)
  rw [decide_eq_false h,decide_eq_false e]
theorem QW(a:Int)(b:Str):decide ((Vo a:Key)=VP b)=false:=decide_eq_false (λq=>nomatch q)
theorem QV(a:Str)(b:Int):decide ((VP a:Key)=Vo b)=false:=decide_eq_false (λq=>nomatch q)
noncomputable def Kh(prog:Program)(w:World):PySem.KeyKind prog w Key where
 is:=PF
 hash:=Sw w
 inj:=λv a b ha hb=>by
  rcases A0 ha with ⟨i,t,rfl,rfl⟩ | ⟨x,t,rfl,rfl⟩
  ·rcases A0 hb with ⟨j,u,rfl,e⟩ | ⟨y,u,rfl,e⟩
   ·injection e with e1 _; rw [e1]
   ·exact nomatch e
  ·rcases A0 hb with ⟨j,u,rfl,e⟩ | ⟨y,u,rfl,e⟩
   ·exact nomatch e
   ·injection e with e1 _; rw [e1]
 byValue:=λk v h=>by
  rcases A0 h with ⟨i,t,rfl,rfl⟩ | ⟨x,t,rfl,rfl⟩ <;> rfl
 pyHash:=λhv h=>by
  rcases A0 hv with ⟨i,t,rfl,rfl⟩ | ⟨x,t,rfl,rfl⟩
  ·exact wpAny_pyHash_int h
  ·exact wpAny_pyHash_str h
 eqBool:=λhu hv h=>by
  rcases A0 hu with ⟨i,t,rfl,rfl⟩ | ⟨x,t,rfl,rfl⟩
  ·rcases A0 hv with ⟨j,u,rfl,rfl⟩ | ⟨y,u,rfl,rfl⟩
   ·rw [QX] at h; exact wpAny_eqBool_int h
   ·rw [QW] at h; exact XG i t y u _ _ _ _ h
  ·rcases A0 hv with ⟨j,u,rfl,rfl⟩ | ⟨y,u,rfl,rfl⟩
   ·rw [QV] at h; exact XH x t j u _ _ _ _ h
   ·rw [QU] at h; exact wpAny_eqBool_str h
 «strs»:=λk x t v h=>by
  rcases A0 h with ⟨i,u,rfl,e⟩ | ⟨y,u,rfl,e⟩
  ·exact nomatch e
  ·injection e with e1 _
   subst e1
   cases v <;> rfl
inductive V where
 | non | bl (b:Bool) | int (i:Int) | str (x:Str) | byt (b:Array UInt8) | flt (b:UInt64) | ref (a:Addr) | ty (n:String)
 deriving DecidableEq
noncomputable def RelV:V->Value->Prop
 | .non,u=>u=T9
 | .bl b,u=>u=Vp b
 | .int i,u=>∃t,u=XB i t
 | .str x,u=>∃t,u=XD x t
 | .byt b,u=>∃t,u=Value.bytes b t
 | .flt b,u=>∃t,u=Value.float b t
 | .ref a,u=>u=Sc a
 | .ty n,u=>u=Ux n
noncomputable abbrev Vals:List V->List Value->Prop:=Paired RelV
theorem Vals.length{xs:List V}{us:List Value}(r:Vals xs us):xs.length=us.length:=Paired.length r
theorem Vals.get:∀{xs:List V} {us:List Value} {i:Nat} {x:V},Vals xs us->xs[i]?=some x->∃u,us[i]?=some u/\RelV x u
 | _,_,_,_,.nil,e=>by simp at e
 | _,_,0,_,.cons r _,e=>by simp at e; subst e; exact⟨_,rfl,r⟩
 | _,_,i+1,x,.cons _ t,e=>by
  obtain⟨u,h1,h2⟩:=Vals.get (i:=i) (x:=x) t (by simpa using e)
  exact⟨u,by simpa using h1,h2⟩
theorem Vals.set{x:V}{u:Value}(r:RelV x u):∀{xs:List V} {us:List Value} (i:Nat),Vals xs us->Vals (xs.set i x) (us.set i u)
 | _,_,_,.nil=>.nil
 | _,_,0,.cons _ t=>.cons r t
 | _,_,i+1,.cons q t=>.cons q (Vals.set r i t)
theorem Vals.append:∀{xs ys:List V} {us ws:List Value},Vals xs us->Vals ys ws->Vals (xs++ys) (us++ws)
 | _,_,_,_,.nil,s=>s
 | _,_,_,_,.cons r t,s=>.cons r (Vals.append t s)
theorem Vals.take:∀{xs:List V} {us:List Value} (n:Nat),Vals xs us->Vals (xs.take n) (us.take n)
 | _,_,0,_=>.nil
 | _,_,_+1,.nil=>.nil
 | _,_,n+1,.cons r t=>.cons r (Vals.take n t)
theorem Vals.drop:∀{xs:List V} {us:List Value} (n:Nat),Vals xs us->Vals (xs.drop n) (us.drop n)
 | _,_,0,r=>r
 | _,_,_+1,.nil=>.nil
 | _,_,n+1,.cons _ t=>Vals.drop n t
noncomputable def RelO:Option V->Option Value->Prop
 | some v,some u=>RelV v u
 | none,none=>True
 | _,_=>False
noncomputable def KV{κ:Type}:List (κ×V)->List (κ×Value)->Prop:=Paired fun(p:κ×V) (q:κ×Value)=>p.1=q.1/\RelV p.2 q.2
noncomputable def kV:Key->V
 | .inl i=>.int i
 | .inr x=>.str x
inductive HO where
 | lst (xs:List V)
 | tup (xs:List V)
 | dK (kvs:List (Key×V)) | dT (kvs:List (List Key×V))
 | set (S:Int->Bool) (n:Nat)
 | ins (C dx:Addr) (fs:List (Str×V))
 | own (x:Addr)
 | xd (fs:List (Str×V))
 | met (f x:Addr)
 | rng (lo hi:Int)
 | frz (o:Obj) (u:HO)
 | tbl (ps:Array Value)
 | ext (φ:Heap->Prop)
noncomputable abbrev Hp:=Addr->Option HO
noncomputable def Ac(H:Hp)(a:Addr)(o:HO):Hp:=λb=>if b=a then some o else H b
theorem AJ{H:Hp}{a:Addr}{o:HO}:Ac H a o a=some o:=by unfold Ac; rw [if_pos rfl]
theorem AH{H:Hp}{a b:Addr}{o:HO}(h:b≠a):Ac H a o b=H b:=by unfold Ac; rw [if_neg h]
theorem AU{H:Hp}{a b:Addr}{o:HO}(h:H a=some o)(h':H b=none):a≠b:=by
 intro e; subst e; rw [h] at h'; cases h'
noncomputable def IsTupN(h:Heap)(a:Addr)(items:Array Value):Prop:=∃o,h.get? a=some o/\o.cls=.type "tuple"/\∃n,o.data=.seq items n/\o.dict=none/\o.slots=#[]
theorem IsTupN.tup{h:Heap}{a:Addr}{items:Array Value}(x:IsTupN h a items):IsTup h a items:=let ⟨o,h1,h2,n,h3,_⟩:=x; ⟨o,h1,h2,n,h3⟩
theorem IsTupN.new(h:Heap)(items:Array Value):IsTupN (h.push { cls:=.type "tuple",data:=.seq items }) h.objs.size items:=⟨_,On _ rfl,rfl,_,rfl,rfl,rfl⟩
section
variable (P:Program)(w:World)
noncomputable def ObjOk(H:Hp)(h:Heap)(a:Addr):HO->Prop
 | .lst xs=>xs.length<=sizeLine/\∃(its:List Value) (n:Nat),Vals xs its/\h.get? a=some { cls:=.type "list",data:=.seq its.toArray n }
 | .tup xs=>xs.length<=sizeLine/\∃its:List Value,Vals xs its/\IsTupN h a its.toArray
 | .dK kvs=>kvs.length<=sizeLine/\(a==sysModules)=false/\∃vs,KV kvs vs/\h.DictOf (Kh P w) a vs
 | .dT kvs=>kvs.length<=sizeLine/\(a==sysModules)=false/\∃xs:List (List Key×Addr×Value),
   Paired (fun(p:List Key×V) (q:List Key×Addr×Value)=>p.1=q.1/\H q.2.1=some (.tup (p.1.map kV))/\RelV p.2 q.2.2) kvs xs /\
   ∃o es ep,h.get? a=some o/\o.ExactDict/\o.data=.dict es ep/\es.toList=xs.map (entryOfKey (tupleKind (Kh P w)))/\(xs.map (·.1)).Nodup
 | .set S n=>h.SetOf (intKind P w) a S n
 | .ins C dx fs=>H dx=some (.own a)/\fs.length<=1000/\dx≠a/\h.get? a=some (PySem.W.instObj C dx) /\
   ∃mA,h.Ns1 dx mA/\(∀f,RelO (fs.lookup f) (mA f))/\PySem.Within mA (fs.map (·.1))
 | .own _=>∃o,h.get? a=some o
 | .xd fs=>∃mA,h.Ns1 a mA/\∀f,RelO (fs.lookup f) (mA f)
 | .rng lo hi=>∃t u v,h.get? a=some { cls:=.type "range",data:=.fields #[.int lo t,.int hi u,.int 1 v] }
 | .frz o u=>h.get? a=some o/\ObjOk H h a u
 | .tbl ps=>h.get? a=some { cls:=.none,data:=.fields ps }
 | .met f x=>h.get? a=some (PySem.W.methodObj (.ref f) (.ref x))
 | .ext φ=>φ h/\(∃o,h.get? a=some o)/\∀h1 h2:Heap,φ h1->(∀o,h1.get? a=some o->h2.get? a=some o)->φ h2
noncomputable def HOk(H:Hp)(h:Heap):Prop:=∀a o,H a=some o->ObjOk P w H h a o
end
section
variable {P:Program}{w:World}{H H':Hp}{h h':Heap}{a:Addr}{o:HO}
theorem ObjOk.lt(x:ObjOk P w H h a o):a<h.objs.size:=by
 cases o with
 | lst xs=>obtain⟨_,_,_,_,e⟩:=x; exact FM e
 | tup xs=>obtain⟨_,_,_,p⟩:=x; exact p.tup.lt
 | dK kvs=>obtain⟨_,_,_,_,o,_,_,e,_⟩:=x; exact FM e
 | dT kvs=>obtain⟨_,_,_,_,o,_,_,e,_⟩:=x; exact FM e
 | set S n=>obtain⟨o,_,_,_,e,_⟩:=x; exact FM e
 | ins C dx fs=>obtain⟨_,_,_,e,_⟩:=x; exact FM e
 | own y=>obtain⟨_,e⟩:=x; exact FM e
 | xd fs=>obtain⟨_,⟨_,_,_,e,_⟩,_⟩:=x; exact FM e
 | rng lo hi=>obtain⟨_,_,_,e⟩:=x; exact FM e
 | frz ob u=>obtain⟨e,_⟩:=x; exact FM e
 | tbl ps=>exact FM (show h.get? a=some _ from x)
 | met f y=>exact FM (show h.get? a=some _ from x)
 | ext φ=>obtain⟨_,⟨_,e⟩,_⟩:=x; exact FM e
theorem Paired.mapP{α β:Type}{F G:α->β->Prop}:∀{l₁:List α} {l₂:List β},Paired F l₁ l₂->(∀a b,F a b->G a b)->Paired G l₁ l₂
 | _,_,.nil,_=>.nil
 | _,_,.cons r t,f=>.cons (f _ _ r) (Paired.mapP t f)
theorem ObjOk.stay(x:ObjOk P w H h a o)(k:∀b u,(b=a\/H b=some (.own a))->h.get? b=some u->h'.get? b=some u)
  (ho:∀b,H b=some (.own a)->H' b=some (.own a)) (ht:∀b xs,H b=some (.tup xs)->H' b=some (.tup xs)):ObjOk P w H' h' a o:=by
 induction o with
 | lst xs=>obtain⟨z,its,n,r,e⟩:=x; exact⟨z,its,n,r,k _ _ (.inl rfl) e⟩
 | tup xs=>obtain⟨z,its,r,ob,e,c⟩:=x; exact⟨z,its,r,ob,k _ _ (.inl rfl) e,c⟩
 | dK kvs=>obtain⟨z,y,vs,r,ob,es,ep,e,c⟩:=x; exact⟨z,y,vs,r,ob,es,ep,k _ _ (.inl rfl) e,c⟩
 | dT kvs =>
  obtain⟨z,y,xs,r,ob,es,ep,e,c⟩:=x
  exact⟨z,y,xs,Paired.mapP r λp q z=>⟨z.1,ht _ _ z.2.1,z.2.2⟩,ob,es,ep,k _ _ (.inl rfl) e,c⟩
 | set S n=>obtain⟨ob,es,ep,t,e,c⟩:=x; exact⟨ob,es,ep,t,k _ _ (.inl rfl) e,c⟩
 | ins C dx fs =>
  obtain⟨d,z,ne,e,mA,⟨od,es,ep,e2,c⟩,r⟩:=x
  exact⟨ho _ d,z,ne,k _ _ (.inl rfl) e,mA,⟨od,es,ep,k _ _ (.inr d) e2,c⟩,r⟩
 | own y=>obtain⟨ob,e⟩:=x; exact⟨ob,k _ _ (.inl rfl) e⟩
 | xd fs=>obtain⟨mA,⟨od,es,ep,e,c⟩,r⟩:=x; exact⟨mA,⟨od,es,ep,k _ _ (.inl rfl) e,c⟩,r⟩
 | rng lo hi=>obtain⟨t,u,v,e⟩:=x; exact⟨t,u,v,k _ _ (.inl rfl) e⟩
 | frz ob u ih=>obtain⟨e,q⟩:=x; exact⟨k _ _ (.inl rfl) e,ih q⟩
 | tbl ps =>
  have e:h.get? a=some { cls:=.none,data:=.fields ps }:=x
  show h'.get? a=some { cls:=.none,data:=.fields ps }
  exact k a _ (.inl rfl) e
 | met f y =>
  have e:h.get? a=some (PySem.W.methodObj (.ref f) (.ref y)):=x
  show h'.get? a=some (PySem.W.methodObj (.ref f) (.ref y))
  exact k a _ (.inl rfl) e
 | ext φ=>obtain⟨p,⟨o,e⟩,st⟩:=x; exact⟨st _ _ p λo q=>k _ _ (.inl rfl) q,⟨o,k _ _ (.inl rfl) e⟩,st⟩
theorem HOk.lt(x:HOk P w H h)(e:H a=some o):a<h.objs.size:=(x a o e).lt
theorem HOk.fresh(x:HOk P w H h)(e:h.objs.size<=a):H a=none:=by
 cases q:H a with
 | none=>rfl
 | some u=>exact absurd (Tx (x.lt q) e) (UX _)
theorem HOk.kept(x:HOk P w H h)(k:∀b u,h.get? b=some u->h'.get? b=some u):HOk P w H h':=λa o e =>
 (x a o e).stay (λb u _ q=>k b u q) (λ_ q=>q) λ_ _ q=>q
theorem HOk.laid(x:HOk P w H h)(k:∀b u,h.get? b=some u->h'.get? b=some u)(hp:h.objs.size<=a)(new:ObjOk P w (Ac H a o) h' a o):HOk P w (Ac H a o) h':=λb u e=>by
 have hn:=x.fresh hp
 by_cases hb:b=a
 ·subst hb; rw [AJ] at e; cases e; exact new
 ·rw [AH hb] at e
  exact(x b u e).stay (λc v _ q=>k c v q) (λc q=>by rw [AH (AU q hn)]; exact q) λc xs q=>by rw [AH (AU q hn)]; exact q
end
noncomputable def Rd(H:Hp)(a:Addr)(u:HO):Prop:=H a=some u\/∃o,H a=some (.frz o u)
theorem Rd.ok{P:Program}{w:World}{H:Hp}{h:Heap}{a:Addr}{u:HO}(r:Rd H a u)(x:HOk P w H h):ObjOk P w H h a u:=by
 rcases r with r | ⟨o,r⟩
 ·exact x a u r
 ·obtain⟨_,q⟩:=x a _ r
  exact q
noncomputable def SX:Option HO->Prop
 | some (.lst _)=>True
 | some (.dK _)=>True
 | some (.dT _)=>True
 | some (.set _ _)=>True
 | some (.ins _ _ _)=>True
 | some (.ext _)=>True
 | _=>False
section
variable {P:Program}{w:World}{H:Hp}{h h':Heap}{x e:Addr}{o':HO}
theorem HOk.write(ok:HOk P w H h)(mu:SX (H x))(he:e=x\/H e=some (.own x))(k:∀b u,b≠e->h.get? b=some u->h'.get? b=some u)(heo:∃u,h'.get? e=some u)
  (new:ObjOk P w (Ac H x o') h' x o'):HOk P w (Ac H x o') h':=λb u q=>by
 have nown:∀c y,H c=some (.own y)->c≠x:=λc y r z=>by subst z; rw [r] at mu; exact mu
 have ntup:∀c xs,H c=some (.tup xs)->c≠x:=λc xs r z=>by subst z; rw [r] at mu; exact mu
 by_cases hb:b=x
 ·subst hb; rw [AJ] at q; cases q; exact new
 ·rw [AH hb] at q
  by_cases hbe:b=e
  ·have q':H b=some (.own x):=by
    rcases he with z | z
    ·exact absurd (hbe.trans z) hb
    ·rw [hbe]; exact z
   rw [q] at q'; cases q'
   obtain⟨v,hv⟩:=heo
   exact⟨v,by rw [hbe]; exact hv⟩
  ·refine(ok b u q).stay (λc v hc r=>k c v ?_ r) (λc r=>by rw [AH (nown c b r)]; exact r) λc xs r=>by rw [AH (ntup c xs r)]; exact r
   rcases hc with rfl | hc
   ·exact hbe
   ·rintro rfl
    rcases he with z | z
    ·exact nown c b hc z
    ·rw [hc] at z; cases z; exact hb rfl
end
structure Un (fs ex:List Addr) (H H':Hp) (h h':Heap):Prop where
 keep:∀b o,h.get? b=some o->H b=none->b∉fs->b∉ex->h'.get? b=some o
 slot:∀b o,h.get? b=some o->H b=none->b∈fs->b∉ex->∃sl,h'.get? b=some { o with slots:=sl }
 free:∀b o,h.get? b=some o->H b=none->b∉ex->H' b=none
 there:∀b o,h.get? b=some o->b∉ex->∃o',h'.get? b=some o'
 tups:∀b xs,H b=some (.tup xs)->H' b=some (.tup xs)
 frzs:∀b o u,H b=some (.frz o u)->H' b=some (.frz o u)
 tbls:∀b ps,H b=some (.tbl ps)->∃more,H' b=some (.tbl (ps++more))
section
variable {fs fs' ex ex':List Addr}{H H1 H2:Hp}{h h1 h2 h':Heap}{a x e:Addr}{o:HO}
theorem Un.any(u:Un fs ex H H1 h h1){b:Addr}{ob:Obj}(q:h.get? b=some ob)(n:H b=none)(hx:b∉ex):∃sl,h1.get? b=some { ob with slots:=sl }:=by
 by_cases hb:b∈fs
 ·exact u.slot b ob q n hb hx
 ·exact⟨ob.slots,u.keep b ob q n hb hx⟩
theorem Un.trans(a:Un fs ex H H1 h h1)(b:Un fs ex H1 H2 h1 h2):Un fs ex H H2 h h2 where
 keep:=λc ob q n hc hx=>b.keep c ob (a.keep c ob q n hc hx) (a.free c ob q n hx) hc hx
 slot:=λc ob q n hc hx=>by
  obtain⟨sl,e1⟩:=a.slot c ob q n hc hx
  obtain⟨sl',e2⟩:=b.slot c _ e1 (a.free c ob q n hx) hc hx
  exact⟨sl',e2⟩
 free:=λc ob q n hx=>by
  obtain⟨o',e1⟩:=a.there c ob q hx
  exact b.free c o' e1 (a.free c ob q n hx) hx
 there:=λc ob q hx=>by
  obtain⟨o',e1⟩:=a.there c ob q hx
  exact b.there c o' e1 hx
 tups:=λc xs q=>b.tups c xs (a.tups c xs q)
 frzs:=λc ob xs q=>b.frzs c ob xs (a.frzs c ob xs q)
 tbls:=λc ps q=>by
  obtain⟨m1,e1⟩:=a.tbls c ps q
  obtain⟨m2,e2⟩:=b.tbls c _ e1
  exact⟨m1++m2,by rw [e2,WO]⟩
theorem Un.kept(k:∀b u,h.get? b=some u->h'.get? b=some u):Un fs ex H H h h' :=
 ⟨λb ob q _ _ _=>k b ob q,λb ob q _ _ _=>⟨ob.slots,k b ob q⟩,λ_ _ _ n _=>n,λb ob q _=>⟨ob,k b ob q⟩,λ_ _ q=>q,λ_ _ _ q=>q,λ_ ps q=>⟨#[],by rw [q]; simp⟩⟩
theorem Un.refl:Un fs ex H H h h:=Un.kept λ_ _ q=>q
theorem Un.laid(k:∀b u,h.get? b=some u->h'.get? b=some u)(hp:h.objs.size<=a)(hn:H a=none):Un fs ex H (Ac H a o) h h' where
 keep:=λb u q _ _ _=>k b u q
 slot:=λb u q _ _ _=>⟨u.slots,k b u q⟩
 free:=λb u q n _=>by rw [AH (T1 (Tx (FM q) hp))]; exact n
 there:=λb u q _=>⟨u,k b u q⟩
 tups:=λb xs q=>by rw [AH (AU q hn)]; exact q
 frzs:=λb u xs q=>by rw [AH (AU q hn)]; exact q
 tbls:=λb ps q=>⟨#[],by rw [AH (AU q hn),q]; simp⟩
theorem Un.write(mu:SX (H x))(he:e=x\/H e=some (.own x))(k:∀b u,b≠e->h.get? b=some u->h'.get? b=some u)(heo:∃u,h'.get? e=some u):Un fs ex H (Ac H x o) h h':=by
 have hx:∀b,H b=none->b≠x:=λb n z=>by subst z; rw [n] at mu; exact mu
 have hb:∀b,H b=none->b≠e:=λb n z=>by
  subst z
  rcases he with r | r
  ·exact hx b n r
  ·rw [n] at r; cases r
 have hm:∀b u,H b=some u->¬SX (some u)->b≠x:=λb u q nm z=>by subst z; rw [q] at mu; exact nm mu
 refine⟨λb u q n _ _=>k b u (hb b n) q,λb u q n _ _=>⟨u.slots,k b u (hb b n) q⟩,λb u q n _=>by rw [AH (hx b n)]; exact n,λb u q _=>?_,
  λb xs q=>by rw [AH (hm b _ q λz=>z)]; exact q,λb u xs q=>by rw [AH (hm b _ q λz=>z)]; exact q,λb ps q=>⟨#[],by rw [AH (hm b _ q λz=>z),q]; simp⟩⟩
 by_cases hbe:b=e
 ·subst hbe; exact heo
 ·exact⟨u,k b u hbe q⟩
end
noncomputable def SM(h:Heap)(H:Hp):List Addr:=(T_ h.objs.size).filter λa=>(H a).isSome
noncomputable def HG(h:Heap)(H:Hp):Heap:=PySem.W.hideAll h (SM h H)
theorem Lw(h:Heap)(H:Hp):(HG h H).objs.size=h.objs.size:=PySem.W.hideAll_size _ _
theorem NC{h:Heap}{H:Hp}{b:Addr}{o:Obj}(e:h.get? b=some o)(n:H b=none):(HG h H).get? b=some o :=
 PySem.W.hideAll_get _ e λhm=>by
  have q:(H b).isSome=true:=(List.mem_filter.mp hm).2
  rw [n] at q; simp at q
theorem OJ{h:Heap}{H:Hp}{b:Addr}{o:Obj}(e:(HG h H).get? b=some o):h.get? b=some o/\H b=none:=by
 have e':h.get? b=some o:=PySem.W.of_hideAll (SM h H) e
 refine⟨e',?_⟩
 cases q:H b with
 | none=>rfl
 | some x =>
  have hm:b∈SM h H:=List.mem_filter.mpr ⟨UK.mpr (FM e'),by simp [q]⟩
  have z:(HG h H).get? b=none:=PySem.W.hideAll_none (SM h H) hm
  rw [z] at e; cases e
structure Mod (K:Frag) (mg:Str->Option Value) (base:Heap):Prop where
 kin:K.In base
 glob:base.Ns mainGlobals mg
 blt:∃mb,base.Ns builtinsNs mb/\∀x:Str,x ≠ "__name__"->mb x=bootBuiltins x
 nolimit:base.NoLimit
/-- the context: a def's body (or a comprehension's block) running. base: fixed through the whole law; s₀, H₀: the entry; outer: the frames whose slots others may change (a def's callers); stack: all frames that run;
   ex: iterators that were made ahead of the entry and are walked here (a comprehension's); fn: the names whose cells were made at the entry (a def: all; a comprehension's block: its own); calm: not within an except suite; pn: pins that every state bears; xe: what is wanted of an exception that leaves the code -/
structure Cx where
 prog:Program
 w:World
 K:Frag
 mg:Str->Option Value
 base:Heap
 A:Around
 N:List Str
 s₀:Shared
 H₀:Hp
 env:Env
 outer:List Env
 stack:List Env
 ex:List Addr
 fn:Str->Bool
 calm:Bool
 pn:List (Addr×Obj)
 xe:Value->Shared->Prop
noncomputable def GS(l:List Env):List Addr:=l.filterMap (·.frame)
noncomputable abbrev Cx.fs(X:Cx):List Addr:=GS X.outer
noncomputable def Nd(sc:Scope)(x:Str):Prop:=sc.names.lookup x=some .local\/sc.names.lookup x=some .cell\/sc.names.lookup x=some .free
noncomputable def Loc(sc:Scope)(x:Str):Prop:=sc.names.lookup x=some .local\/sc.names.lookup x=some .cell
noncomputable def Look(env:Env)(h:Heap)(m:Str->Option Value)(x:Str)(u:Value):Prop :=
 (env.kindOf x=some .local/\m x=some u)\/((env.kindOf x=some .cell\/env.kindOf x=some .free)/\∃c,env.cells.lookup x=some c/\h.IsCell c (some u))
structure Cx.Ok (X:Cx):Prop where
 mod:Mod X.K X.mg X.base
 kind:X.env.scope.kind=.function
 glob:X.env.globals=mainGlobals
 blt:X.env.builtins=builtinsNs
 above:X.s₀.heap.objs.size<=X.env.locals
 inj:∀x y c,X.env.cells.lookup x=some c->X.env.cells.lookup y=some c->x=y
 has:∀x,(X.env.kindOf x=some .cell\/X.env.kindOf x=some .free)->∃c,X.env.cells.lookup x=some c
 cab:∀x c,X.fn x=true->X.env.cells.lookup x=some c->X.s₀.heap.objs.size<=c
 hd:X.calm=true->X.A.handled=none
 frames:X.A.frames=some X.stack
 stk:X.stack=X.outer\/(X.stack=X.env::X.outer/\X.env.frame=some X.env.locals)
 exf:∀b∈X.ex,b≠X.env.locals/\∀x c,X.env.cells.lookup x=some c->c≠b
 bs:∀b o,X.base.get? b=some o->X.s₀.heap.get? b=some o/\X.H₀ b=none
 bsz:X.base.objs.size<=X.s₀.heap.objs.size
 noex:∀b o,X.base.get? b=some o->b∉X.ex
 exfs:∀b∈X.ex,b∉X.fs
 funs:X.s₀.heap.FunFrames X.base X.outer
 frf:∀b∈X.fs,X.H₀ b=none
structure Inv (X:Cx) (pins:List (Addr×Obj)) (σ:List (Option V)) (H:Hp) (s:Shared):Prop where
 ok:X.Ok
 os:s.os=X.s₀.os
 bare:AllBare s.gens
 base:Un X.fs X.ex X.H₀ H X.s₀.heap s.heap
 loc:∃m,s.heap.Ns X.env.locals m/\∀(i:Nat) (x:Str) (v:V),X.N[i]?=some x->σ[i]?=some (some v)->Nd X.env.scope x->∃u,RelV v u/\Look X.env s.heap m x u
 cell:∀x c,X.env.cells.lookup x=some c->∃v,s.heap.IsCell c v
 free:H X.env.locals=none
 freeC:∀x c,X.env.cells.lookup x=some c->H c=none
 pin:∀p∈X.pn++pins,s.heap.get? p.1=some p.2/\H p.1=none/\p.1≠X.env.locals/\p.1∉X.fs/\∀v,p.2.data≠.cell v
 hok:HOk X.prog X.w H s.heap
 len:σ.length=X.N.length
section
variable {X:Cx}{pins:List (Addr×Obj)}{σ:List (Option V)}{H H':Hp}{s:Shared}{h':Heap}
theorem Cx.Ok.nofr(ok:X.Ok){b:Addr}{o:Obj}(e:X.base.get? b=some o):b∉X.fs:=λhb=>by
 have:=(ok.funs.mem hb).1
 rw [e] at this; cases this
theorem Inv.bs(I:Inv X pins σ H s):∀b o,X.base.get? b=some o->s.heap.get? b=some o/\H b=none:=λb o e =>
 ⟨I.base.keep b o (I.ok.bs b o e).1 (I.ok.bs b o e).2 (I.ok.nofr e) (I.ok.noex b o e),I.base.free b o (I.ok.bs b o e).1 (I.ok.bs b o e).2 (I.ok.noex b o e)⟩
theorem Inv.bk(I:Inv X pins σ H s):∀b o,X.base.get? b=some o->s.heap.get? b=some o:=λb o e=>(I.bs b o e).1
theorem Inv.mod(I:Inv X pins σ H s):Mod X.K X.mg X.base:=I.ok.mod
theorem Inv.kIn(I:Inv X pins σ H s):X.K.In s.heap:=I.ok.mod.kin.keeps I.bk
theorem Inv.lt(I:Inv X pins σ H s):X.env.locals<s.heap.objs.size:=let ⟨_,hn,_⟩:=I.loc; hn.lt
theorem Inv.sz(I:Inv X pins σ H s):X.s₀.heap.objs.size<=s.heap.objs.size:=T6 I.ok.above (Wi I.lt)
theorem Inv.nofs(I:Inv X pins σ H s){a:Addr}(h:s.heap.objs.size<=a):a∉X.fs:=λhb=>by
 obtain⟨_,o,ho,_⟩:=I.ok.funs.mem hb
 exact absurd (Tx (FM ho) (T6 I.sz h)) (UX _)
theorem Inv.cne(I:Inv X pins σ H s):∀x c,X.env.cells.lookup x=some c->c≠X.env.locals:=λx c e z=>by
 obtain⟨v,o,ho,hd⟩:=I.cell x c e
 obtain⟨m,⟨o',es,ep,ho',hd',_⟩,_⟩:=I.loc
 rw [z,ho'] at ho; cases ho; rw [hd'] at hd; cases hd
theorem Inv.funs(I:Inv X pins σ H s):s.heap.FunFrames X.base X.outer:=by
 have all:∀(l:List Env),(∀b∈GS l,b∈X.fs)->X.s₀.heap.FunFrames X.base l->s.heap.FunFrames X.base l:=by
  intro l
  induction l with
  | nil=>intro _ _; trivial
  | cons env r ih =>
   intro hs hl
   obtain⟨hk,⟨L,o,hf,hn,ho,hd⟩,hr⟩:=hl
   have hL:L∈X.fs:=hs L (by unfold GS; rw [WK,hf]; exact Tv)
   obtain⟨sl,e⟩:=I.base.slot L o ho (I.ok.frf L hL) hL λz=>I.ok.exfs L z hL
   exact⟨hk,⟨L,_,hf,hn,e,hd⟩,ih (λb hb=>hs b (by unfold GS; rw [WK,hf]; exact Op _ hb)) hr⟩
 exact all X.outer (λ_ hb=>hb) I.ok.funs
theorem Inv.stack(I:Inv X pins σ H s):s.heap.FunFrames X.base X.stack:=by
 rcases I.ok.stk with e | ⟨e,hf⟩
 ·rw [e]; exact I.funs
 ·rw [e]
  obtain⟨m,hn,_⟩:=I.loc
  refine .cons (by rw [I.ok.kind]; decide) hf hn ?_ I.funs
  exact Heap.get?_none_of_le (T6 I.ok.bsz I.ok.above)
theorem Inv.stkSub(I:Inv X pins σ H s):∀b∈GS X.stack,b∈X.env.locals::X.fs:=λb hb=>by
 rcases I.ok.stk with e | ⟨e,hf⟩
 ·rw [e] at hb; exact Op _ hb
 ·rw [e] at hb
  unfold GS at hb
  rw [WK,hf] at hb
  exact hb
theorem Inv.stkFree(I:Inv X pins σ H s):∀b∈GS X.stack,H b=none:=λb hb=>by
 rcases TM.mp (I.stkSub b hb) with e | hb
 ·rw [e]; exact I.free
 ·obtain⟨_,o,ho,_⟩:=I.ok.funs.mem hb
  exact I.base.free b o ho (I.ok.frf b hb) λz=>I.ok.exfs b z hb
theorem Inv.step{g':Array GenState}{t':Nat}{d':Drawn}{ch:List Addr}(I:Inv X pins σ H s)
  (hch:∀b∈ch,(b∈X.ex\/X.s₀.heap.objs.size<=b)/\b≠X.env.locals/\(∀x c,X.env.cells.lookup x=some c->c≠b)/\∀p∈X.pn++pins,p.1≠b)
  (keep:∀b o,b≠X.env.locals->b∉X.fs->b∉ch->s.heap.get? b=some o->H b=none->h'.get? b=some o)
  (slot:∀b o,b≠X.env.locals->b∈X.fs->b∉ch->s.heap.get? b=some o->H b=none->∃sl,h'.get? b=some { o with slots:=sl }) (free:∀b o,b∉ch->s.heap.get? b=some o->H b=none->H' b=none)
  (there:∀b o,b∉ch->s.heap.get? b=some o->∃o',h'.get? b=some o')
  (tups:∀b xs,H b=some (.tup xs)->H' b=some (.tup xs)) (frzs:∀b o u,H b=some (.frz o u)->H' b=some (.frz o u)) (tbls:∀b ps,H b=some (.tbl ps)->∃more,H' b=some (.tbl (ps++more)))
  (ns:∀m,s.heap.Ns X.env.locals m->h'.Ns X.env.locals m) (hok:HOk X.prog X.w H' h') (hg:AllBare g') :
  Inv X pins σ H' { s with heap:=h',gens:=g',drawn:=d',toks:=t' }:=by
 have neL:∀b o,X.s₀.heap.get? b=some o->b≠X.env.locals:=λb o e=>T1 (Tx (FM e) I.ok.above)
 have neC:∀b o,X.s₀.heap.get? b=some o->b∉X.ex->b∉ch:=λb o e hx hb=>by
  rcases (hch b hb).1 with z | z
  ·exact hx z
  ·exact absurd (Tx (FM e) z) (UX _)
 have cellK:∀x c,X.env.cells.lookup x=some c->∀v,s.heap.IsCell c v->h'.IsCell c v:=λx c e v ⟨o,ho,hd⟩=>by
  have nch:c∉ch:=λz=>(hch c z).2.2.1 x c e rfl
  by_cases hc:c∈X.fs
  ·obtain⟨sl,q⟩:=slot c o (I.cne x c e) hc nch ho (I.freeC x c e)
   exact⟨_,q,hd⟩
  ·exact⟨o,keep c o (I.cne x c e) hc nch ho (I.freeC x c e),hd⟩
 refine⟨I.ok,I.os,hg,⟨λb o e n hb hx=>?_,λb o e n hb hx=>?_,λb o e n hx=>?_,λb o e hx=>?_,λb xs e=>tups b xs (I.base.tups b xs e),λb o xs e=>frzs b o xs (I.base.frzs b o xs e),λb ps e=>?_⟩,?_,λx c e=>?_,?_,λx c e=>?_,λp hp=>?_,hok,I.len⟩
 ·exact keep b o (neL b o e) hb (neC b o e hx) (I.base.keep b o e n hb hx) (I.base.free b o e n hx)
 ·obtain⟨sl,e1⟩:=I.base.slot b o e n hb hx
  obtain⟨sl',e2⟩:=slot b _ (neL b o e) hb (neC b o e hx) e1 (I.base.free b o e n hx)
  exact⟨sl',e2⟩
 ·obtain⟨o',e1⟩:=I.base.there b o e hx
  exact free b o' (neC b o e hx) e1 (I.base.free b o e n hx)
 ·obtain⟨o',e1⟩:=I.base.there b o e hx
  exact there b o' (neC b o e hx) e1
 ·obtain⟨m1,e1⟩:=I.base.tbls b ps e
  obtain⟨m2,e2⟩:=tbls b _ e1
  exact⟨m1++m2,by rw [e2,WO]⟩
 ·obtain⟨m,hn,hl⟩:=I.loc
  refine⟨m,ns m hn,λi x v e1 e2 e3=>?_⟩
  obtain⟨u,r,l⟩:=hl i x v e1 e2 e3
  refine⟨u,r,?_⟩
  rcases l with l | ⟨k,c,e,z⟩
  ·exact .inl l
  ·exact .inr ⟨k,c,e,cellK x c e _ z⟩
 ·obtain⟨v,z⟩:=I.cell x c e
  exact⟨v,cellK x c e v z⟩
 ·obtain⟨m,⟨o,_,_,ho,_⟩,_⟩:=I.loc
  exact free _ o (λz=>(hch _ z).2.1 rfl) ho I.free
 ·obtain⟨v,o,ho,hd⟩:=I.cell x c e
  exact free c o (λz=>(hch c z).2.2.1 x c e rfl) ho (I.freeC x c e)
 ·obtain⟨e,n,ne,nf,d⟩:=I.pin p hp
  have nch:p.1∉ch:=λz=>(hch p.1 z).2.2.2 p hp rfl
  exact⟨keep p.1 p.2 ne nf nch e n,free p.1 p.2 nch e n,ne,nf,d⟩
theorem Inv.un{t':Nat}(I:Inv X pins σ H s)(u:Un X.fs [] H H' s.heap h')(hok:HOk X.prog X.w H' h'):Inv X pins σ H' { s with heap:=h',toks:=t' }:=by
 obtain⟨m,⟨o,es,ep,ho,r⟩,_⟩:=id I.loc
 obtain⟨sl,hL⟩:=u.any ho I.free (by simp)
 exact I.step (g':=s.gens) (d':=s.drawn) (ch:=[]) (λ_ z=>nomatch z) (λb o _ hb _ e n=>u.keep b o e n hb (by simp)) (λb o _ hb _ e n=>u.slot b o e n hb (by simp)) (λb o _ e n=>u.free b o e n (by simp)) (λb o _ e=>u.there b o e (by simp)) u.tups u.frzs u.tbls (λm' hm=>by
  obtain⟨o',es',ep',ho',r'⟩:=hm
  rw [ho] at ho'; cases ho'
  exact⟨_,es',ep',hL,r'⟩) hok I.bare
theorem Inv.call{g':Array GenState}{t':Nat}{d':Drawn}{ch:List Addr}(I:Inv X pins σ H s)(u:Un (GS X.stack) ch H H' s.heap h')(hok:HOk X.prog X.w H' h')(hg:AllBare g')
  (hch:∀b∈ch,(b∈X.ex\/X.s₀.heap.objs.size<=b)/\b≠X.env.locals/\(∀x c,X.env.cells.lookup x=some c->c≠b)/\∀p∈X.pn++pins,p.1≠b) :
  Inv X pins σ H' { s with heap:=h',gens:=g',drawn:=d',toks:=t' }:=by
 obtain⟨m,⟨o,es,ep,ho,r⟩,_⟩:=id I.loc
 obtain⟨sl,hL⟩:=u.any ho I.free λz=>(hch _ z).2.1 rfl
 exact I.step (ch:=ch) hch (λb o hL hb hc e n=>u.keep b o e n (λz=>(TM.mp (I.stkSub b z)).elim hL hb) hc) (λb o _ _ hc e n=>u.any e n hc) (λb o hc e n=>u.free b o e n hc) (λb o hc e=>u.there b o e hc) u.tups u.frzs u.tbls (λm' hm=>by
  obtain⟨o',es',ep',ho',r'⟩:=hm
  rw [ho] at ho'; cases ho'
  exact⟨_,es',ep',hL,r'⟩) hok hg
theorem Inv.turned{t':Nat}{it:Addr}(I:Inv X pins σ H s)(k:∀b o,b≠it->s.heap.get? b=some o->h'.get? b=some o)(hn:H it=none)(hL:it≠X.env.locals)
  (h1:it∈X.ex\/X.s₀.heap.objs.size<=it) (h2:∀x c,X.env.cells.lookup x=some c->c≠it) (h3:∀p∈X.pn++pins,p.1≠it):Inv X pins σ H { s with heap:=h',toks:=t' }:=by
 have nit:∀b u,H b=some u->b≠it:=λb u e z=>by rw [z,hn] at e; cases e
 refine I.step (g':=s.gens) (d':=s.drawn) (ch:=[it]) (λb hb=>?_) (λb o _ _ hc e _=>k b o (λz=>hc (by simp [z])) e) (λb o _ _ hc e _=>⟨o.slots,k b o (λz=>hc (by simp [z])) e⟩) (λ_ _ _ _ n=>n)
  (λb o hc e=>⟨o,k b o (λz=>hc (by simp [z])) e⟩) (λ_ _ e=>e) (λ_ _ _ e=>e) (λb ps e=>⟨#[],by rw [e]; simp⟩) (λm hm=>?_) (λb u e=>?_) I.bare
 ·have e:b=it:=by simpa using hb
  subst e
  exact⟨h1,hL,h2,h3⟩
 ·obtain⟨o,es,ep,ho,r⟩:=hm
  exact⟨o,es,ep,k _ o (Ug hL) ho,r⟩
 ·refine(I.hok b u e).stay (λc v hc q=>k c v ?_ q) (λ_ q=>q) λ_ _ q=>q
  rcases hc with z | z
  ·rw [z]; exact nit b u e
  ·exact nit c _ z
theorem Inv.tok(I:Inv X pins σ H s)(t:Nat):Inv X pins σ H { s with toks:=t }:=I.un (h':=s.heap) (t':=t) Un.refl I.hok
theorem Inv.kept{t':Nat}(I:Inv X pins σ H s)(k:∀b u,s.heap.get? b=some u->h'.get? b=some u):Inv X pins σ H { s with heap:=h',toks:=t' }:=I.un (Un.kept k) (I.hok.kept k)
theorem Inv.laid{a:Addr}{o:HO}{t':Nat}(I:Inv X pins σ H s)(k:∀b u,s.heap.get? b=some u->h'.get? b=some u)(hp:s.heap.objs.size<=a)(new:ObjOk X.prog X.w (Ac H a o) h' a o) :
  Inv X pins σ (Ac H a o) { s with heap:=h',toks:=t' }:=I.un (Un.laid k hp (I.hok.fresh hp)) (I.hok.laid k hp new)
theorem Inv.write{x e:Addr}{o:HO}{t':Nat}(I:Inv X pins σ H s)(mu:SX (H x))(he:e=x\/H e=some (.own x))(k:∀b u,b≠e->s.heap.get? b=some u->h'.get? b=some u)(heo:∃u,h'.get? e=some u)
  (new:ObjOk X.prog X.w (Ac H x o) h' x o):Inv X pins σ (Ac H x o) { s with heap:=h',toks:=t' }:=I.un (Un.write mu he k heo) (I.hok.write mu he k heo new)
theorem Inv.pins_of{pins':List (Addr×Obj)}(I:Inv X pins σ H s)(h:∀p∈pins',s.heap.get? p.1=some p.2/\H p.1=none/\p.1≠X.env.locals/\p.1∉X.fs/\∀v,p.2.data≠.cell v):Inv X pins' σ H s :=
 ⟨I.ok,I.os,I.bare,I.base,I.loc,I.cell,I.free,I.freeC,λp hp=>(U1.mp hp).elim (λz=>I.pin p (List.mem_append_left _ z)) (h p),I.hok,I.len⟩
theorem FU{N:List Str}(hN:N.Nodup){i j:Nat}{x:Str}(a:N[i]?=some x)(b:N[j]?=some x):i=j:=by
 obtain⟨h1,e1⟩:=T0.mp a
 obtain⟨h2,e2⟩:=T0.mp b
 exact(List.getElem_inj hN).mp (e1.trans e2.symm)
theorem LN{M:Model}{A:Around}{E:Value->Shared->Prop}{i:Nat}{x:Str}{v:V}{u:Value}{Q:Unit->Shared->Prop}(I:Inv X pins σ H s)(hN:X.N.Nodup)(hi:X.N[i]?=some x)(hx:Loc X.env.scope x)(r:RelV v u)
  (h:∀s',Inv X pins (σ.set i (some v)) H s'->(∃a,V6 a s.heap s'.heap/\(a=X.env.locals\/X.env.cells.lookup x=some a))->Q () s') (hf:autoParam (X.fn x=true\/X.env.scope.names.lookup x=some .local) zau0._auto_1):wpAny M A (storeName X.env x u) Q E s:=by
 obtain⟨m,hn,hl⟩:=id I.loc
 have hcls:(X.env.scope.kind==.class||(X.env.scope.kind==.module&&X.env.locals != X.env.globals))=false:=by rw [I.ok.kind]; rfl
 have hiσ:i<σ.length:=by rw [I.len]; exact(T0.mp hi).1
 have cne:=I.cne
 have tracked:∀{a:Addr} {h':Heap},(∃o,s.heap.get? a=some o/\H a=none)->V6 a s.heap h'->HOk X.prog X.w H h':=λ{a h'} ha hs b ob e=>by
  obtain⟨_,_,hfree⟩:=ha
  refine(I.hok b ob e).stay (λc w' hc q=>(hs.2 c ?_).trans q) (λ_ q=>q) λ_ _ q=>q
  rintro rfl
  rcases hc with rfl | hc
  ·rw [hfree] at e; cases e
  ·rw [hfree] at hc; cases hc
 rcases hx with hk | hk
 ·refine wpAny_storeName_local hk hn (λh' hn' hs=>?_) hcls
  obtain⟨oL,_,_,hoL,_⟩:=id hn
  refine h _ ⟨I.ok,I.os,I.bare,⟨λb o e n hb hx=>?_,λb o e n hb hx=>?_,I.base.free,λb o e hx=>?_,I.base.tups,I.base.frzs,I.base.tbls⟩,⟨_,hn',λj y v' e1 e2 e3=>?_⟩,λy c e=>?_,I.free,I.freeC,λp hp=>?_,tracked ⟨oL,hoL,I.free⟩ hs,by simpa using I.len⟩ ⟨_,hs,.inl rfl⟩
  ·exact(hs.2 b (T1 (Tx (FM e) I.ok.above))).trans (I.base.keep b o e n hb hx)
  ·obtain⟨sl,e1⟩:=I.base.slot b o e n hb hx
   exact⟨sl,(hs.2 b (T1 (Tx (FM e) I.ok.above))).trans e1⟩
  ·obtain⟨o',e1⟩:=I.base.there b o e hx
   exact⟨o',(hs.2 b (T1 (Tx (FM e) I.ok.above))).trans e1⟩
  ·by_cases hj:j=i
   ·subst hj
    rw [hi] at e1; cases e1
    rw [Wv hiσ] at e2
    cases e2
    exact⟨u,r,.inl ⟨hk,by simp⟩⟩
   ·rw [V7 (Ug hj)] at e2
    obtain⟨u',r',q⟩:=hl j y v' e1 e2 e3
    refine⟨u',r',?_⟩
    rcases q with ⟨k,e⟩ | ⟨k,c,e,z⟩
    ·refine .inl ⟨k,?_⟩
     have:y≠x:=λe=>hj (FU hN e1 (e▸hi))
     simp [this,e]
    ·exact .inr ⟨k,c,e,z.sameBut hs (cne y c e)⟩
  ·obtain⟨w',z⟩:=I.cell y c e
   exact⟨w',z.sameBut hs (cne y c e)⟩
  ·obtain⟨e,n,ne,nf,d⟩:=I.pin p hp
   exact⟨(hs.2 p.1 ne).trans e,n,ne,nf,d⟩
 ·have hfn:X.fn x=true:=by
   rcases hf with z | z
   ·exact z
   ·rw [z] at hk; cases hk
  obtain⟨c,hc⟩:=I.ok.has x (.inl hk)
  obtain⟨w',z⟩:=I.cell x c hc
  refine wpAny_storeName_cell I.ok.kind hk hc z (λh' hc' hs=>?_)
  obtain⟨oc,hoc,hocd⟩:=id z
  refine h { s with heap:=h' } ⟨I.ok,I.os,I.bare,⟨λb o e n hb hx=>?_,λb o e n hb hx=>?_,I.base.free,λb o e hx=>?_,I.base.tups,I.base.frzs,I.base.tbls⟩,⟨m,hn.sameBut hs (Ug (cne x c hc)),λj y v' e1 e2 e3=>?_⟩,λy c' e=>?_,I.free,I.freeC,λp hp=>?_,tracked ⟨oc,hoc,I.freeC x c hc⟩ hs,by simpa using I.len⟩ ⟨c,hs,.inr hc⟩
  ·exact(hs.2 b (T1 (Tx (FM e) (I.ok.cab x c hfn hc)))).trans (I.base.keep b o e n hb hx)
  ·obtain⟨sl,e1⟩:=I.base.slot b o e n hb hx
   exact⟨sl,(hs.2 b (T1 (Tx (FM e) (I.ok.cab x c hfn hc)))).trans e1⟩
  ·obtain⟨o',e1⟩:=I.base.there b o e hx
   exact⟨o',(hs.2 b (T1 (Tx (FM e) (I.ok.cab x c hfn hc)))).trans e1⟩
  ·by_cases hj:j=i
   ·subst hj
    rw [hi] at e1; cases e1
    rw [Wv hiσ] at e2
    cases e2
    exact⟨u,r,.inr ⟨.inl hk,c,hc,hc'⟩⟩
   ·rw [V7 (Ug hj)] at e2
    obtain⟨u',r',q⟩:=hl j y v' e1 e2 e3
    refine⟨u',r',?_⟩
    rcases q with q | ⟨k,c',e,z'⟩
    ·exact .inl q
    ·refine .inr ⟨k,c',e,z'.sameBut hs ?_⟩
     rintro rfl
     exact hj (FU hN e1 (I.ok.inj _ _ _ e hc▸hi))
  ·by_cases hcc:c'=c
   ·subst hcc; exact⟨_,hc'⟩
   ·obtain⟨w2,z2⟩:=I.cell y c' e
    exact⟨w2,z2.sameBut hs hcc⟩
  ·obtain⟨e,n,ne,nf,d⟩:=I.pin p hp
   refine⟨(hs.2 p.1 ?_).trans e,n,ne,nf,d⟩
   intro q
   rw [q,hoc] at e
   have q':oc=p.2:=Rs e
   exact d w' (by rw [← q']; exact hocd)
theorem E8{M:Model}{A:Around}{E:Value->Shared->Prop}{i:Nat}{x:Str}{v:V}{u:Value}{Q:Unit->Shared->Prop}(I:Inv X pins σ H s)(hN:X.N.Nodup)(hi:X.N[i]?=some x)(hx:Loc X.env.scope x)(r:RelV v u)
  (h:∀s',Inv X pins (σ.set i (some v)) H s'->Q () s') (hf:autoParam (X.fn x=true\/X.env.scope.names.lookup x=some .local) zau0._auto_1):wpAny M A (storeName X.env x u) Q E s :=
 LN I hN hi hx r (λs' I' _=>h s' I') hf
theorem Inv.call'{s':Shared}{ch:List Addr}(I:Inv X pins σ H s)(ho:s'.os=s.os)(u:Un (GS X.stack) ch H H' s.heap s'.heap)(hok:HOk X.prog X.w H' s'.heap)(hg:AllBare s'.gens)
  (hch:∀b∈ch,(b∈X.ex\/X.s₀.heap.objs.size<=b)/\b≠X.env.locals/\(∀x c,X.env.cells.lookup x=some c->c≠b)/\∀p∈X.pn++pins,p.1≠b):Inv X pins σ H' s':=by
 obtain⟨h',g',d',t',o'⟩:=s'
 have e:o'=s.os:=ho
 subst e
 exact I.call (g':=g') (t':=t') (d':=d') u hok hg hch
end
noncomputable abbrev XK:=Value->Option Addr->Hp->Prop
noncomputable abbrev St:=List (Option V)
noncomputable abbrev VK:=V->Hp->Prop
noncomputable abbrev TE:=St->Hp->VK->Prop
noncomputable abbrev TT:=St->Hp->(Bool->Hp->Prop)->Prop
noncomputable abbrev TA:=St->Hp->(List V->Hp->Prop)->Prop
structure Ends where
 nx:St->Hp->Prop
 rt:VK
 bk:St->Hp->Prop:=λ_ _=>False
 ct:St->Hp->Prop:=λ_ _=>False
noncomputable abbrev TS:=Ends->St->Hp->Prop
noncomputable def EP(X:Cx)(pins:List (Addr×Obj))(σ:St)(Q:VK)(u:Value)(s':Shared):Prop:=∃v H',Inv X pins σ H' s'/\RelV v u/\Q v H'
noncomputable def TP(X:Cx)(pins:List (Addr×Obj))(σ:St)(Q:Bool->Hp->Prop)(b:Bool)(s':Shared):Prop:=∃H',Inv X pins σ H' s'/\Q b H'
noncomputable def AP(X:Cx)(pins:List (Addr×Obj))(σ:St)(Q:List V->Hp->Prop)(us:List Value)(s':Shared):Prop:=∃vs H',Inv X pins σ H' s'/\Vals vs us/\Q vs H'
noncomputable def SP(X:Cx)(pins:List (Addr×Obj))(D:Ends)(f:Flow)(s':Shared):Prop :=
 match f with
 | .next=>∃σ' H',Inv X pins σ' H' s'/\D.nx σ' H'
 | .brk=>∃σ' H',Inv X pins σ' H' s'/\D.bk σ' H'
 | .cont=>∃σ' H',Inv X pins σ' H' s'/\D.ct σ' H'
 | .ret u=>∃v σ' H',Inv X pins σ' H' s'/\RelV v u/\D.rt v H'
noncomputable def PE(X:Cx)(e:Expr)(t:TE):Prop :=
 ∀(pins:List (Addr×Obj)) (s:Shared) (σ:St) (H:Hp) (Q:VK),Inv X pins σ H s->t σ H Q->wpAny (model X.prog X.w) X.A (eval e X.env) (EP X pins σ Q) X.xe s
noncomputable def PT(X:Cx)(e:Expr)(t:TT):Prop :=
 ∀(pins:List (Addr×Obj)) (s:Shared) (σ:St) (H:Hp) (Q:Bool->Hp->Prop),Inv X pins σ H s->t σ H Q->wpAny (model X.prog X.w) X.A (isTrue e X.env (eval e X.env)) (TP X pins σ Q) X.xe s
noncomputable def PW(X:Cx)(e:Expr)(t:TT):Prop :=
 ∀(whole:Sem Value) (pins:List (Addr×Obj)) (s:Shared) (σ:St) (H:Hp) (Q:Bool->Hp->Prop),Inv X pins σ H s->t σ H Q->wpAny (model X.prog X.w) X.A (isTrue e X.env whole) (TP X pins σ Q) X.xe s
theorem PW.pt{X:Cx}{e:Expr}{t:TT}(h:PW X e t):PT X e t:=h _
noncomputable def PA(X:Cx)(es:List Expr)(t:TA):Prop :=
 ∀(pos:Pos) (pins:List (Addr×Obj)) (s:Shared) (σ:St) (H:Hp) (Q:List V->Hp->Prop),Inv X pins σ H s->t σ H Q->wpAny (model X.prog X.w) X.A (spliced (backTo pos (starEach es X.env))) (AP X pins σ Q) X.xe s
noncomputable def PS(X:Cx)(st:Stmt)(t:TS):Prop :=
 ∀(pins:List (Addr×Obj)) (s:Shared) (σ:St) (H:Hp) (D:Ends),Inv X pins σ H s->t D σ H->wpAny (model X.prog X.w) X.A (exec st X.env) (SP X pins D) X.xe s
noncomputable def PSs(X:Cx)(st:List Stmt)(t:TS):Prop :=
 ∀(pins:List (Addr×Obj)) (s:Shared) (σ:St) (H:Hp) (D:Ends),Inv X pins σ H s->t D σ H->wpAny (model X.prog X.w) X.A (execs st X.env) (SP X pins D) X.xe s
theorem A3{α:Type}{t:Sem α}{Q Q':α->Shared->Prop}{M:Model}{A:Around}{E:Value->Shared->Prop}{s:Shared}(h:wpAny M A t Q E s)(hQ:∀a s,Q a s->Q' a s):wpAny M A t Q' E s:=UC h hQ λ_ _ x=>x
section
variable {X:Cx}
noncomputable def BP(i:Nat):TE:=λσ H Q=>∃v,σ[i]?=some (some v)/\Q v H
noncomputable def tC(v:V):TE:=λ_ H Q=>Q v H
theorem CU{i:Nat}{x:Str}{pos:Pos}(hN:X.N[i]?=some x)(hv:Nd X.env.scope x)(hd:autoParam ((x==("__debug__" : Str))=false) zau1._auto_1)(hcd:autoParam ((x==("__classdict__" : Str))=false) zau1._auto_1):PE X (.Name x pos) (BP i):=by
 intro pins s σ H Q I h
 obtain⟨v,e,h⟩:=h
 obtain⟨m,hn,hl⟩:=I.loc
 obtain⟨u,r,l⟩:=hl i x v hN e hv
 have fin:EP X pins σ Q u s:=⟨v,H,I,r,h⟩
 rcases l with ⟨hk,hm⟩ | ⟨hk,c,hc,hcell⟩
 ·exact wpAny_Name (wpAny_loadName_local I.ok.kind hk hn hm fin) hd
 ·rcases hk with hk | hk
  ·exact wpAny_Name (wpAny_loadName_cell I.ok.kind hk hc hcell fin) hd
  ·exact wpAny_Name (wpAny_loadName_free I.ok.kind hk hc hcell fin hcd) hd
theorem Ab{i j pos}:PE X (.Constant (.int i) j pos) (tC (.int i)):=λ_ _ _ H _ I h=>wpAny_Constant_int ⟨.int i,H,I.tok _,⟨_,rfl⟩,h⟩
theorem Ri{b j pos}:PE X (.Constant (.bool b) j pos) (tC (.bl b)):=λ_ _ _ H _ I h=>Constant_bool ⟨.bl b,H,I,rfl,h⟩
theorem QJ{j pos}:PE X (.Constant .none j pos) (tC .non):=λ_ _ _ H _ I h=>Constant_none ⟨.non,H,I,rfl,h⟩
theorem QG{x j pos}:PE X (.Constant (.str x) j pos) (tC (.str x)):=λ_ _ _ H _ I h=>Calls.Constant_str ⟨.str x,H,I.tok _,⟨_,rfl⟩,h⟩
noncomputable def Gl(X:Cx)(x:Str):Prop:=X.env.kindOf x=some .globalImplicit
theorem Bq{E:Value->Shared->Prop}{pins:List (Addr×Obj)}{s:Shared}{σ:St}{H:Hp}{x:Str}{u:Value}{pos:Pos}{Q:Value->Shared->Prop}(I:Inv X pins σ H s)(hg:Gl X x)(hm:X.mg x=some u)(h:Q u s)
  (hd:autoParam ((x==("__debug__" : Str))=false) zau1._auto_1):wpAny (model X.prog X.w) X.A (eval (.Name x pos) X.env) Q E s :=
 WT I.ok.kind hg (Calls.loadGlobal_global (by rw [I.ok.glob]; exact I.mod.glob.keeps I.bk) hm h) hd
theorem CW{E:Value->Shared->Prop}{pins:List (Addr×Obj)}{s:Shared}{σ:St}{H:Hp}{x:Str}{u:Value}{pos:Pos}{Q:Value->Shared->Prop}(I:Inv X pins σ H s)(hg:Gl X x)(hm:X.mg x=none)(hv:bootBuiltins x=some u)(h:Q u s)
  (hn:autoParam (x ≠ "__name__") zau1._auto_1) (hd:autoParam ((x==("__debug__" : Str))=false) zau1._auto_1):wpAny (model X.prog X.w) X.A (eval (.Name x pos) X.env) Q E s:=by
 obtain⟨mb,h1,h2⟩:=I.mod.blt
 exact WT I.ok.kind hg (Calls.loadGlobal_builtin (by rw [I.ok.glob]; exact I.mod.glob.keeps I.bk) hm (by rw [I.ok.blt]; exact h1.keeps I.bk) ((h2 x hn).trans hv) h) hd
theorem N_{x:Str}{v:V}{u:Value}{pos:Pos}(hg:Gl X x)(hm:X.mg x=some u)(r:RelV v u)(hd:autoParam ((x==("__debug__" : Str))=false) zau1._auto_1):PE X (.Name x pos) (tC v) :=
 λ_ _ _ H _ I h=>Bq I hg hm ⟨v,H,I,r,h⟩ hd
theorem Kc{x:Str}{v:V}{u:Value}{pos:Pos}(hg:Gl X x)(hm:X.mg x=none)(hv:bootBuiltins x=some u)(r:RelV v u)(hn:autoParam (x ≠ "__name__") zau1._auto_1)(hd:autoParam ((x==("__debug__" : Str))=false) zau1._auto_1):PE X (.Name x pos) (tC v) :=
 λ_ _ _ H _ I h=>CW I hg hm hv ⟨v,H,I,r,h⟩ hn hd
variable {a b:Expr}{ta tb:TE}{pos:Pos}
noncomputable def tB(t:TE):TT:=λσ H Q=>t σ H λx H1=>∃c,x=.bl c/\Q c H1
theorem P8{e:Expr}{t:TE}(h:PE X e t)(he:autoParam (∀whole,isTrue e X.env whole=(do let v ← whole; standAt e.pos; holding [v] (truthy v))) zau2._auto_1):PT X e (tB t):=by
 intro pins s σ H Q I hw
 refine isTrue_plain (A3 (h pins s σ H _ I hw) λv s1 ⟨x,H1,I1,r1,q1⟩=>?_) (he _)
 obtain⟨d,rfl,q⟩:=q1
 cases r1
 exact VM ⟨H1,I1,q⟩
variable {tA tB':TT}{rest:List Expr}
noncomputable def RQ(t u:TT):TT:=λσ H Q=>t σ H λc H1=>if c=true then u σ H1 Q else Q false H1
noncomputable def Tf(t u:TT):TT:=λσ H Q=>t σ H λc H1=>if c=true then Q true H1 else u σ H1 Q
noncomputable def Sn(t:TT):TT:=λσ H Q=>t σ H λc H1=>Q (!c) H1
theorem KW(ha:PT X a tA):PW X (.BoolOp .And [a] pos) tA:=by
 intro wh pins s σ H Q I h
 refine isTrue_and (A3 (ha pins s σ H Q I h) λc s1 e=>?_)
 cases c with
 | true=>exact isTrue_and_nil e
 | false=>exact e
theorem P7(ha:PT X a tA):PW X (.BoolOp .Or [a] pos) tA:=by
 intro wh pins s σ H Q I h
 refine isTrue_or (A3 (ha pins s σ H Q I h) λc s1 e=>?_)
 cases c with
 | false=>exact isTrue_or_nil e
 | true=>exact e
theorem Mb(ha:PT X a tA)(hb:PW X (.BoolOp .And (b::rest) pos) tB'):PW X (.BoolOp .And (a::b::rest) pos) (RQ tA tB'):=by
 intro wh pins s σ H Q I h
 refine isTrue_and (A3 (ha pins s σ H _ I h) λc s1 ⟨H1,I1,q1⟩=>?_)
 cases c with
 | true=>exact hb wh pins s1 σ H1 Q I1 q1
 | false=>exact⟨H1,I1,q1⟩
theorem Rg(ha:PT X a tA)(hb:PW X (.BoolOp .Or (b::rest) pos) tB'):PW X (.BoolOp .Or (a::b::rest) pos) (Tf tA tB'):=by
 intro wh pins s σ H Q I h
 refine isTrue_or (A3 (ha pins s σ H _ I h) λc s1 ⟨H1,I1,q1⟩=>?_)
 cases c with
 | true=>exact⟨H1,I1,q1⟩
 | false=>exact hb wh pins s1 σ H1 Q I1 q1
theorem P9(ha:PT X a tA):PT X (.UnaryOp .Not a pos) (Sn tA):=by
 intro pins s σ H Q I h
 exact isTrue_not (ha pins s σ H (λc H1=>Q (!c) H1) I h)
noncomputable def RP(ta tb:TE):TE:=λσ H Q=>ta σ H λx H1=>∃c,x=.bl c/\if c=true then tb σ H1 Q else Q (.bl false) H1
noncomputable def RK(ta:TE):TE:=λσ H Q=>ta σ H λx H1=>∃c,x=.bl c/\Q (.bl (!c)) H1
theorem QH{op}{t:TE}(h:PE X a t):PE X (.BoolOp op [a] pos) t:=λpins s σ H Q I hw=>BoolOp_one (h pins s σ H Q I hw)
theorem QK(ha:PE X a ta)(hb:PE X (.BoolOp .And (b::rest) pos) tb):PE X (.BoolOp .And (a::b::rest) pos) (RP ta tb):=by
 intro pins s σ H Q I h
 refine BoolOp_and (A3 (ha pins s σ H _ I h) λv s1 ⟨x,H1,I1,r1,q1⟩=>?_)
 obtain⟨c,rfl,q1⟩:=q1
 cases r1
 refine VM ?_
 cases c with
 | true=>exact hb pins s1 σ H1 Q I1 q1
 | false=>exact⟨.bl false,H1,I1,rfl,q1⟩
theorem QI(ha:PE X a ta):PE X (.UnaryOp .Not a pos) (RK ta):=by
 intro pins s σ H Q I h
 refine UnaryOp_ (A3 (ha pins s σ H _ I h) λv s1 ⟨x,H1,I1,r1,q1⟩=>?_)
 obtain⟨c,rfl,q1⟩:=q1
 cases r1
 exact not_of (VM ⟨.bl (!c),H1,I1,rfl,q1⟩)
noncomputable def Tg(t:TT)(ta tb:TE):TE:=λσ H Q=>t σ H λc H1=>if c=true then ta σ H1 Q else tb σ H1 Q
theorem IM{c:Expr}(hc:PT X c tA)(ha:PE X a ta)(hb:PE X b tb):PE X (.IfExp c a b pos) (Tg tA ta tb):=by
 intro pins s σ H Q I h
 refine wpAny_IfExp (A3 (hc pins s σ H _ I h) λd s1 ⟨H1,I1,q1⟩=>?_)
 cases d with
 | true=>exact ha pins s1 σ H1 Q I1 q1
 | false=>exact hb pins s1 σ H1 Q I1 q1
end
noncomputable def SqL(K:Frag)(H:Hp)(a:Addr)(xs:List V):Prop :=
 Rd H a (.lst xs) \/
  ∃(o:Obj) (its:Array Value) (n:Nat),K.lookup a=some o/\o.cls=.type "list"/\o.dict=none/\o.data=.seq its n/\its.size<=sizeLine/\Vals xs its.toList
noncomputable def Du(K:Frag)(H:Hp)(a:Addr)(xs:List V):Prop :=
 Rd H a (.tup xs) \/
  ∃(o:Obj) (its:Array Value) (n:Nat),K.lookup a=some o/\o.cls=.type "tuple"/\o.data=.seq its n/\its.size<=sizeLine/\Vals xs its.toList
noncomputable def TB:Value->Option V
 | .none=>some .non
 | .bool b=>some (.bl b)
 | .int i _=>some (.int i)
 | .str x _=>some (.str x)
 | .bytes b _=>some (.byt b)
 | .float b _=>some (.flt b)
 | .ref a=>some (.ref a)
 | .type n=>some (.ty n)
 | _=>none
theorem RelV.abs{x:V}{u:Value}(r:RelV x u):TB u=some x:=by
 cases x with
 | non=>cases r; rfl
 | bl _=>cases r; rfl
 | int _=>obtain⟨t,rfl⟩:=r; rfl
 | str _=>obtain⟨t,rfl⟩:=r; rfl
 | byt _=>obtain⟨t,rfl⟩:=r; rfl
 | flt _=>obtain⟨t,rfl⟩:=r; rfl
 | ref _=>cases r; rfl
 | ty _=>cases r; rfl
theorem RelV.inj{x y:V}{u:Value}(r:RelV x u)(q:RelV y u):x=y:=Rs (r.abs.symm.trans q.abs)
theorem Vals.inj:∀{xs ys:List V} {us:List Value},Vals xs us->Vals ys us->xs=ys
 | _,_,_,.nil,.nil=>rfl
 | _,_,_,.cons r t,.cons r' t'=>by rw [r.inj r',Vals.inj t t']
section
variable {X:Cx}{pins:List (Addr×Obj)}{σ:St}{H:Hp}{s:Shared}{a:Addr}{xs ys:List V}
theorem SqL.of{K:Frag}(h:H a=some (.lst xs)):SqL K H a xs:=.inl (.inl h)
theorem Inv.list(I:Inv X pins σ H s)(h:SqL X.K H a xs):∃its:List Value,Vals xs its/\PlainL s.heap a its.toArray/\xs.length<=sizeLine:=by
 rcases h with h | ⟨o,its,n,hk,hc,hd,hs,hz,r⟩
 ·obtain⟨z,its,n,r,e⟩:=h.ok I.hok
  exact⟨its,r,⟨_,n,e,rfl,rfl,rfl⟩,z⟩
 ·refine⟨its.toList,r,⟨o,n,I.kIn a o hk,hc,hd,by simpa using hs⟩,?_⟩
  have e:=r.length
  simp only [Ua] at e
  omega
theorem Inv.tuple(I:Inv X pins σ H s)(h:Du X.K H a xs):∃its:List Value,Vals xs its/\IsTup s.heap a its.toArray/\xs.length<=sizeLine:=by
 rcases h with h | ⟨o,its,n,hk,hc,hs,hz,r⟩
 ·obtain⟨z,its,r,p⟩:=h.ok I.hok
  exact⟨its,r,p.tup,z⟩
 ·refine⟨its.toList,r,⟨o,I.kIn a o hk,hc,n,by simpa using hs⟩,?_⟩
  have e:=r.length
  simp only [Ua] at e
  omega
theorem Inv.list_inj(I:Inv X pins σ H s)(h:SqL X.K H a xs)(h':SqL X.K H a ys):xs=ys:=by
 obtain⟨its,r,⟨o,n,e,_,_,d⟩,_⟩:=I.list h
 obtain⟨its',r',⟨o',n',e',_,_,d'⟩,_⟩:=I.list h'
 rw [e] at e'; cases e'
 rw [d] at d'
 injection d' with d1 _
 have:its=its':=by simpa using congrArg Array.toList d1
 subst this
 exact r.inj r'
theorem Inv.tuple_inj(I:Inv X pins σ H s)(h:Du X.K H a xs)(h':Du X.K H a ys):xs=ys:=by
 obtain⟨its,r,⟨o,e,_,n,d⟩,_⟩:=I.tuple h
 obtain⟨its',r',⟨o',e',_,n',d'⟩,_⟩:=I.tuple h'
 rw [e] at e'; cases e'
 rw [d] at d'
 injection d' with d1 _
 have:its=its':=by simpa using congrArg Array.toList d1
 subst this
 exact r.inj r'
end
noncomputable abbrev Cx.wish(X:Cx)(E:Value->Shared->Prop):Cx:={ X with xe:=E }
noncomputable abbrev Cx.nox(X:Cx):Cx:=X.wish λ_ _=>False
theorem Cx.Ok.wish{X:Cx}(ok:X.Ok)(E:Value->Shared->Prop):(X.wish E).Ok :=
 ⟨ok.mod,ok.kind,ok.glob,ok.blt,ok.above,ok.inj,ok.has,ok.cab,ok.hd,ok.frames,ok.stk,ok.exf,ok.bs,ok.bsz,ok.noex,ok.exfs,ok.funs,ok.frf⟩
theorem Cx.Ok.unwish{X:Cx}{E:Value->Shared->Prop}(ok:(X.wish E).Ok):X.Ok :=
 ⟨ok.mod,ok.kind,ok.glob,ok.blt,ok.above,ok.inj,ok.has,ok.cab,ok.hd,ok.frames,ok.stk,ok.exf,ok.bs,ok.bsz,ok.noex,ok.exfs,ok.funs,ok.frf⟩
section
variable {X:Cx}{pins:List (Addr×Obj)}{σ:St}{H:Hp}{s:Shared}{E:Value->Shared->Prop}
theorem Inv.wish(I:Inv X pins σ H s)(E:Value->Shared->Prop):Inv (X.wish E) pins σ H s:=⟨I.ok.wish E,I.os,I.bare,I.base,I.loc,I.cell,I.free,I.freeC,I.pin,I.hok,I.len⟩
theorem Inv.unwish(I:Inv (X.wish E) pins σ H s):Inv X pins σ H s:=⟨I.ok.unwish,I.os,I.bare,I.base,I.loc,I.cell,I.free,I.freeC,I.pin,I.hok,I.len⟩
theorem SP.unwish{D:Ends}{f:Flow}{s':Shared}(h:SP (X.wish E) pins D f s'):SP X pins D f s':=by
 cases f with
 | next=>obtain⟨σ',H',I,q⟩:=h; exact⟨σ',H',I.unwish,q⟩
 | brk=>obtain⟨σ',H',I,q⟩:=h; exact⟨σ',H',I.unwish,q⟩
 | cont=>obtain⟨σ',H',I,q⟩:=h; exact⟨σ',H',I.unwish,q⟩
 | ret u=>obtain⟨v,σ',H',I,r,q⟩:=h; exact⟨v,σ',H',I.unwish,r,q⟩
theorem PSs.nox{st:List Stmt}{t:TS}(h:PSs X.nox st t):PSs X st t:=λpins s σ H D I hw =>
 UC (h pins s σ H D (I.wish _) hw) (λ_ _ q=>q.unwish) λ_ _ z=>T5 z
end
section
variable {X:Cx}{st:Stmt}{rest:List Stmt}{t u:TS}{e:Expr}{te:TE}{pos:Pos}
noncomputable def Ou:TS:=λD σ H=>D.nx σ H
noncomputable def LM(t u:TS):TS:=λD σ H=>t { D with nx:=u D } σ H
theorem Eo:PSs X [] Ou:=λ_ _ σ H _ I h=>Vd ⟨σ,H,I,h⟩
theorem Ay(h1:PS X st t)(h2:PSs X rest u):PSs X (st::rest) (LM t u):=by
 intro pins s σ H D I h
 refine V0 (A3 (h1 pins s σ H { D with nx:=u D } I h) λf s1 q=>?_)
 cases f with
 | next =>
  obtain⟨σ',H',I',q⟩:=q
  exact h2 pins s1 σ' H' D I' q
 | ret v=>exact q
 | brk=>exact q
 | cont=>exact q
theorem Bp(h1:PS X st t):PSs X [st] t:=by
 intro pins s σ H D I h
 refine V0 (A3 (h1 pins s σ H D I h) λf s1 q=>?_)
 cases f with
 | next=>exact Vd q
 | ret v=>exact q
 | brk=>exact q
 | cont=>exact q
theorem Inv.quiet{pins:List (Addr×Obj)}{σ:St}{H:Hp}{s:Shared}(I:Inv X pins σ H s):interactive X.env=false:=by simp [interactive,I.ok.kind]
noncomputable def RN(te:TE):TS:=λD σ H=>te σ H λ_ H1=>D.nx σ H1
theorem N4(he:PE X e te)(hs:autoParam (swapsWith e none pos.line X.env=pure false) zau3._auto_1):PS X (.Expr e pos) (RN te):=by
 intro pins s σ H D I h
 exact wpAny_Expr_any (A3 (he pins s σ H _ I h) λv s1 ⟨x,H1,I1,r1,q1⟩=>⟨σ,H1,I1,q1⟩) I.quiet hs
noncomputable def Nv(te:TE):TS:=λD σ H=>te σ H D.rt
theorem FJ(he:PE X e te):PS X (.Return (some e) pos) (Nv te):=by
 intro pins s σ H D I h
 exact wpAny_Return_some (A3 (he pins s σ H _ I h) λv s1 ⟨x,H1,I1,r1,q1⟩=>⟨x,σ,H1,I1,r1,q1⟩)
noncomputable def RL(c:TT)(t u:TS):TS:=λD σ H=>c σ H λb H1=>if b=true then t D σ H1 else u D σ H1
theorem KY{c:Expr}{a b:List Stmt}{tc:TT}(hc:PT X c tc)(ha:PSs X a t)(hb:PSs X b u):PS X (.If c a b pos) (RL tc t u):=by
 intro pins s σ H D I h
 refine wpAny_If (A3 (hc pins s σ H _ I h) λd s1 ⟨H1,I1,q1⟩=>?_)
 cases d with
 | true=>exact ha pins s1 σ H1 D I1 q1
 | false=>exact hb pins s1 σ H1 D I1 q1
noncomputable def Pq:TS:=λ_ _ _=>False
theorem LX{sts:List Stmt}:PSs X sts Pq:=λ_ _ _ _ _ _ h=>h.elim
end
noncomputable abbrev TG:=V->St->Hp->(St->Hp->Prop)->Prop
noncomputable abbrev Qy:=List V->St->Hp->(St->Hp->Prop)->Prop
noncomputable def PG(X:Cx)(target:Expr)(t:TG):Prop :=
 ∀(pins:List (Addr×Obj)) (s:Shared) (σ:St) (H:Hp) (v:V) (u:Value) (Q:St->Hp->Prop),Inv X pins σ H s->RelV v u->t v σ H Q ->
  wpAny (model X.prog X.w) X.A (assign target X.env u) (λ_ s'=>∃σ' H',Inv X pins σ' H' s'/\Q σ' H') X.xe s
noncomputable def SD(X:Cx)(ts:List Expr)(t:Qy):Prop :=
 ∀(pins:List (Addr×Obj)) (s:Shared) (σ:St) (H:Hp) (vs:List V) (us:List Value) (Q:St->Hp->Prop),Inv X pins σ H s->Vals vs us->t vs σ H Q ->
  wpAny (model X.prog X.w) X.A (assignInOrder ((assignEach ts X.env).map (·.2)) us) (λ_ s'=>∃σ' H',Inv X pins σ' H' s'/\Q σ' H') X.xe s
noncomputable abbrev Qx:=V->V->V->Hp->(Hp->Prop)->Prop
noncomputable def R_(X:Cx)(t:Qx):Prop :=
 ∀(pins:List (Addr×Obj)) (s:Shared) (σ:St) (H:Hp) (o i v:V) (ov iv u:Value) (Q:Hp->Prop),Inv X pins σ H s->RelV o ov->RelV i iv->RelV v u->t o i v H Q ->
  wpAny (model X.prog X.w) X.A (setItem ov iv u) (λ_ s'=>∃H',Inv X pins σ H' s'/\Q H') X.xe s
section
variable {X:Cx}{pos:Pos}
noncomputable def GR(i:Nat):TG:=λv σ H Q=>Q (σ.set i (some v)) H
theorem N9{i:Nat}{x:Str}(hN:X.N.Nodup)(hi:X.N[i]?=some x)(hx:Loc X.env.scope x)(hf:autoParam (X.fn x=true\/X.env.scope.names.lookup x=some .local) zau0._auto_1):PG X (.Name x pos) (GR i):=by
 intro pins s σ H v u Q I r h
 exact wpAny_assign_Name (E8 I hN hi hx r (λs' I'=>⟨_,H,I',h⟩) hf)
noncomputable def S2:Qy:=λvs σ H Q=>vs=[]/\Q σ H
noncomputable def Rp(t:TG)(u:Qy):Qy:=λvs σ H Q=>∃v r,vs=v::r/\t v σ H λσ' H'=>u r σ' H' Q
theorem N8:SD X [] S2:=by
 intro pins s σ H vs us Q I r h
 obtain⟨e,h⟩:=h
 subst e
 cases r
 exact assignInOrder_nil ⟨σ,H,I,h⟩
theorem Mg{e:Expr}{es:List Expr}{t:TG}{u:Qy}(h1:PG X e t)(h2:SD X es u)
  (hs:autoParam ((assignEach (e::es) X.env).map (·.2)=assign e X.env::(assignEach es X.env).map (·.2)) zau3._auto_1):SD X (e::es) (Rp t u):=by
 intro pins s σ H vs us Q I r h
 obtain⟨v,vr,e1,h⟩:=h
 subst e1
 cases r with
 | cons r rr =>
  rw [hs]
  refine assignInOrder_cons (A3 (h1 pins s σ H _ _ _ I r h) λ_ s1 ⟨σ1,H1,I1,q1⟩=>?_)
  exact h2 pins s1 σ1 H1 _ _ Q I1 rr q1
noncomputable def S1(K:Frag)(n:Nat)(t:Qy):TG:=λv σ H Q=>∃a xs,v=.ref a/\Du K H a xs/\xs.length=n/\t xs σ H Q
theorem QE{es:List Expr}{k:Nat}{t:Qy}{n:Nat}(hc:X.calm=true)(h:SD X es t)
  (hn:autoParam ((assignEach es X.env).length=n) zau3._auto_1) (hst:autoParam ((assignEach es X.env).findIdx? (·.1)=none) zau3._auto_1):PG X (.Tuple es k pos) (S1 X.K n t):=by
 intro pins s σ H v u Q I r hw
 obtain⟨a,xs,e1,hq,hl,hw⟩:=hw
 subst e1
 cases r
 obtain⟨its,rv,ht,hz⟩:=I.tuple hq
 refine assign_Tuple_tuple (I.ok.hd hc) ht (by simp [hn,← hl,rv.length]) hst λh' hx=>?_
 have I1:Inv X pins σ H { s with heap:=h' }:=I.kept (t':=s.toks) λb o e=>hx b o (T1 (FM e)) e
 exact h pins _ σ H xs _ Q I1 (by simpa using rv) hw
noncomputable def Ro(to ti:TE)(t:Qx):TG:=λv σ H Q=>to σ H λo H1=>ti σ H1 λi H2=>t o i v H2 λH3=>Q σ H3
theorem Jo{o i:Expr}{to ti:TE}{t:Qx}(ho:PE X o to)(hi:PE X i ti)(hs:R_ X t)
  (ha:autoParam (∀v,assign (.Subscript o i pos) X.env v=(do
   let ov ← holding [v] (eval o X.env)
   let iv ← holding [v,ov] (eval i X.env)
   standAt pos
   holding [v,ov,iv] (setItem ov iv v)
   release [v,ov,iv] [])) zau2._auto_1):PG X (.Subscript o i pos) (Ro to ti t):=by
 intro pins s σ H v u Q I r h
 rw [ha]
 refine Ch (UR (A3 (ho pins s σ H _ I h) λov s1 ⟨x,H1,I1,r1,q1⟩=>?_))
 refine Ch (UR (A3 (hi pins s1 σ H1 _ I1 q1) λiv s2 ⟨y,H2,I2,r2,q2⟩=>?_))
 refine Ch (VZ (Ch (UR (A3 (hs pins s2 σ H2 x y v ov iv u _ I2 r1 r2 r q2) λ_ s3 ⟨H3,I3,q3⟩=>?_))))
 exact wpAny_release ⟨σ,H3,I3,q3⟩
noncomputable def JU(te:TE)(g:TG):TS:=λD σ H=>te σ H λx H1=>g x σ H1 D.nx
theorem Jl{tg e:Expr}{te:TE}{g:TG}(he:PE X e te)(hg:PG X tg g)(hs:autoParam (swapsWithSole [tg] e pos.line X.env=pure false) zau3._auto_1)(hw:autoParam (swappedStores [tg] e X.env=pure none) zau3._auto_1)
  (h1:autoParam ((assignEach [tg] X.env).map (·.2)=[assign tg X.env]) zau3._auto_1):PS X (.Assign [tg] e pos) (JU te g):=by
 intro pins s σ H D I h
 refine wpAny_Assign_stores (A3 (he pins s σ H _ I h) λv s1 ⟨x,H1,I1,r1,q1⟩=>?_) hs hw
 rw [h1]
 exact A3 (hg pins s1 σ H1 x v _ I1 r1 q1) λ_ s2 q=>q
theorem DA{i:Nat}{x:Str}{e:Expr}{te:TE}{pos':Pos}(hN:X.N.Nodup)(hi:X.N[i]?=some x)(hx:Loc X.env.scope x)(he:PE X e te)(hs:autoParam (swapsWith e (some (.Name x pos')) pos.line X.env=pure false) zau3._auto_1)(hf:autoParam (X.fn x=true\/X.env.scope.names.lookup x=some .local) zau0._auto_1) :
  PS X (.Assign [.Name x pos'] e pos) (JU te (GR i)):=by
 intro pins s σ H D I h
 refine wpAny_Assign_Name (A3 (he pins s σ H _ I h) λv s1 ⟨y,H1,I1,r1,q1⟩=>?_) hs
 exact E8 I1 hN hi hx r1 (λs2 I2=>⟨_,H1,I2,q1⟩) hf
end
section
variable {X:Cx}{pos:Pos}
end
structure It where
 go:Nat->Hp->Prop
 yld:Nat->Hp->V->Hp->Prop
 stop:Nat->Hp->Prop
noncomputable def B_(X:Cx)(pins:List (Addr×Obj))(H:Hp)(b:Addr):Prop :=
 H b=none/\b≠X.env.locals/\b∉X.fs/\(b∈X.ex\/X.s₀.heap.objs.size<=b)/\(∀x c,X.env.cells.lookup x=some c->c≠b)/\∀p∈X.pn++pins,p.1≠b
theorem Inv.fpOk{X:Cx}{pins:List (Addr×Obj)}{σ:St}{H H':Hp}{s:Shared}{b:Addr}(I:Inv X pins σ H s)(hb:s.heap.objs.size<=b)(hn:H' b=none):B_ X pins H' b:=by
 refine⟨hn,Uy (Tx I.lt hb),I.nofs hb,.inr (T6 I.sz hb),λx c e z=>?_,λp hp z=>?_⟩
 ·obtain⟨v,q⟩:=I.cell x c e
  exact absurd (Tx q.lt (by rw [z]; exact hb)) (UX _)
 ·exact absurd (Tx (FM (I.pin p hp).1) (by rw [z]; exact hb)) (UX _)
structure Turn (P:Program) (w:World) (K:Frag) (tg:Expr) (J:It) (fp:List Addr) (it:Addr) (tn:Nat->Heap->Prop):Prop where
 mem:it∈fp
 obj:∀i h,tn i h->∀b∈fp,∃o,h.get? b=some o/\∀v,o.data≠.cell v
 keep:∀i h h',tn i h->(∀b∈fp,∀o,h.get? b=some o->h'.get? b=some o)->tn i h'
 item:∀(X:Cx),X.prog=P->X.w=w->X.K=K->X.calm=true->∀(i:Nat) (pins:List (Addr×Obj)) (s:Shared) (σ:St) (H:Hp) (E:Value->Shared->Prop),Inv X pins σ H s->(∀b∈fp,B_ X pins H b)->tn i s.heap->J.go i H ->
  wpAny (model P w) X.A (pyNext (.ref it)) (λr s1=>∃u,r=some u /\
   wpAny (model P w) X.A (letOwnedTupleGo tg (.ref it) u) (λ_ s2=>∃x H',Inv X pins σ H' s2/\RelV x u/\J.yld i H x H'/\tn (i+1) s2.heap/\∀b∈fp,H' b=none) E s1) E s
 done:∀(X:Cx),X.prog=P->X.w=w->X.K=K->X.calm=true->∀(i:Nat) (pins:List (Addr×Obj)) (s:Shared) (σ:St) (H:Hp) (E:Value->Shared->Prop),Inv X pins σ H s->(∀b∈fp,B_ X pins H b)->tn i s.heap->J.stop i H ->
  wpAny (model P w) X.A (pyNext (.ref it)) (λr s1=>r=none/\Inv X pins σ H s1) E s
 self:∀(A:Around) (i:Nat) (s:Shared) (Q:Value->Shared->Prop) (E:Value->Shared->Prop),tn i s.heap->Q (.ref it) s->wpAny (model P w) A (pyIter (.ref it)) Q E s
noncomputable abbrev TI:=St->Hp->(It->Hp->Prop)->Prop
noncomputable def TZ(X:Cx)(pins:List (Addr×Obj))(σ:St)(tg:Expr)(R:It->Hp->Prop)(itv:Value)(s2:Shared):Prop :=
 ∃(it:Addr) (fp:List Addr) (tn:Nat->Heap->Prop) (J:It) (H':Hp),itv=.ref it/\Inv X pins σ H' s2/\Turn X.prog X.w X.K tg J fp it tn/\tn 0 s2.heap/\(∀b∈fp,B_ X pins H' b)/\R J H'
noncomputable def PI(X:Cx)(tg iter:Expr)(wi:TI):Prop :=
 ∀(pins:List (Addr×Obj)) (s:Shared) (σ:St) (H:Hp) (R:It->Hp->Prop),Inv X pins σ H s->wi σ H R ->
  wpAny (model X.prog X.w) X.A (eval iter X.env) (λv s1=>wpAny (model X.prog X.w) X.A (pyIter v) (TZ X pins σ tg R) X.xe s1) X.xe s
theorem Ie {M : Model} {A : Around} {E : Value → Shared → Prop} {s : Shared} {tg : Expr} {it : Addr} {u : Value} {o : Obj} {n : String} {vs : Array Value} {Q : Unit → Shared → Prop} (ho : s.heap.get? it = some o) (hc : o.cls = .type n) (hd : o.data = .fields vs)
    (hn : ["enumerate", "zip", "dict_itemiterator", "dict_reverseitemiterator", "odict_iterator", "itertools.zip_longest", "itertools.pairwise"].contains n = false) (hQ : Q () s) : wpAny M A (letOwnedTupleGo tg (.ref it) u) Q E s := by
  unfold letOwnedTupleGo
  cases tg <;> first
    | exact Db hQ
    | (cases u <;> first
        | exact Db hQ
        | (refine Ch (wpAny_load ho ?_)
           rw [hc, hd]
           show wpAny M A (if (["enumerate", "zip", "dict_itemiterator", "dict_reverseitemiterator", "odict_iterator", "itertools.zip_longest", "itertools.pairwise"].contains n && vs[0]? == some (rawInt _)) = true then _ else _) Q E s
           rw [if_neg (by intro h; rw [hn, Bool.false_and] at h; cases h)]
           exact Db hQ))
noncomputable def Tb(K:Frag)(a:Addr):It :=
 ⟨λi H=>∃xs x,SqL K H a xs/\xs[i]?=some x,λi H x H'=>H'=H/\∀xs,SqL K H a xs->xs[i]?=some x,λi H=>∃xs,SqL K H a xs/\xs.length<=i⟩
noncomputable def TJ(K:Frag)(a:Addr):It :=
 ⟨λi H=>∃xs x,Du K H a xs/\xs[i]?=some x,λi H x H'=>H'=H/\∀xs,Du K H a xs->xs[i]?=some x,λi H=>∃xs,Du K H a xs/\xs.length<=i⟩
noncomputable def Q3(lo:Int)(n:Nat):It:=⟨λi _=>i<n,λi H x H'=>H'=H/\x=.int (lo+i),λi _=>n<=i⟩
theorem LJ{P:Program}{w:World}{K:Frag}{tg:Expr}(a it:Addr):Turn P w K tg (Tb K a) [it] it (λi h=>h.IsListIter it a i) where
 mem:=by simp
 obj:=λi h st b hb=>by
  have e:b=it:=by simpa using hb
  subst e
  obtain⟨o,e,c,d⟩:=st
  exact⟨o,e,λv z=>by rw [d] at z; cases z⟩
 keep:=λi h h' st k=>st.at λo e=>k it (by simp) o e
 item:=by
  intro X hP hw hK hc i pins s σ H E I hf st hg
  subst hP hw hK
  obtain⟨xs,x,hq,hx⟩:=hg
  obtain⟨its,rv,p,hz⟩:=I.list hq
  obtain⟨u,hu,ru⟩:=rv.get hx
  obtain⟨f0,f1,f2,f3,f4,f5⟩:=hf it (by simp)
  refine wpAny_pyNext_list_item st p.isList (x:=u) (by simpa using hu) λh' st' sb=>?_
  have I1:Inv X pins σ H { s with heap:=h' }:=I.turned (t':=s.toks) (λb o hb e=>(sb.2 b hb).trans e) f0 f1 f3 f4 f5
  obtain⟨o,e,c,d⟩:=id st'
  exact⟨u,rfl,Ie (s:={ s with heap:=h' }) e c d (by decide) ⟨x,H,I1,ru,⟨rfl,λys hy=>by rw [I.list_inj hy hq]; exact hx⟩,st',λb hb=>(hf b hb).1⟩⟩
 done:=by
  intro X hP hw hK hc i pins s σ H E I hf st hg
  subst hP hw hK
  obtain⟨xs,hq,hx⟩:=hg
  obtain⟨its,rv,p,hz⟩:=I.list hq
  obtain⟨f0,f1,f2,f3,f4,f5⟩:=hf it (by simp)
  have hl:=rv.length
  exact wpAny_pyNext_list_end (I.ok.hd hc) st p.isList (by simp; omega) λh' eb=>⟨rfl,I.turned (t':=s.toks) (λb o hb e=>eb b o hb e) f0 f1 f3 f4 f5⟩
 self:=λ_ _ _ _ _ st h=>wpAny_pyIter_listiter st h
theorem JT{P:Program}{w:World}{K:Frag}{tg:Expr}(a it:Addr):Turn P w K tg (TJ K a) [it] it (λi h=>h.IsTupleIter it a i) where
 mem:=by simp
 obj:=λi h st b hb=>by
  have e:b=it:=by simpa using hb
  subst e
  obtain⟨o,e,c,d⟩:=st
  exact⟨o,e,λv z=>by rw [d] at z; cases z⟩
 keep:=λi h h' st k=>st.at λo e=>k it (by simp) o e
 item:=by
  intro X hP hw hK hc i pins s σ H E I hf st hg
  subst hP hw hK
  obtain⟨xs,x,hq,hx⟩:=hg
  obtain⟨its,rv,p,hz⟩:=I.tuple hq
  obtain⟨u,hu,ru⟩:=rv.get hx
  obtain⟨f0,f1,f2,f3,f4,f5⟩:=hf it (by simp)
  refine wpAny_pyNext_tuple_item st (show s.heap.IsTuple a its.toArray from p) (x:=u) (by simpa using hu) λh' st' sb=>?_
  have I1:Inv X pins σ H { s with heap:=h' }:=I.turned (t':=s.toks) (λb o hb e=>(sb.2 b hb).trans e) f0 f1 f3 f4 f5
  obtain⟨o,e,c,d⟩:=id st'
  exact⟨u,rfl,Ie (s:={ s with heap:=h' }) e c d (by decide) ⟨x,H,I1,ru,⟨rfl,λys hy=>by rw [I.tuple_inj hy hq]; exact hx⟩,st',λb hb=>(hf b hb).1⟩⟩
 done:=by
  intro X hP hw hK hc i pins s σ H E I hf st hg
  subst hP hw hK
  obtain⟨xs,hq,hx⟩:=hg
  obtain⟨its,rv,p,hz⟩:=I.tuple hq
  obtain⟨f0,f1,f2,f3,f4,f5⟩:=hf it (by simp)
  have hl:=rv.length
  exact wpAny_pyNext_tuple_end (I.ok.hd hc) st (show s.heap.IsTuple a its.toArray from p) (by simp; omega) λh' eb=>⟨rfl,I.turned (t':=s.toks) (λb o hb e=>eb b o hb e) f0 f1 f3 f4 f5⟩
 self:=λ_ _ _ _ _ st h=>wpAny_pyIter_tupleiter st h
theorem CB{P:Program}{w:World}{K:Frag}{tg:Expr}(it:Addr)(lo:Int)(n:Nat):Turn P w K tg (Q3 lo n) [it] it (λi h=>IsRangeIter h it (lo+(i:Nat)*1) ((n:Int) - (i:Nat)) 1) where
 mem:=by simp
 obj:=λi h st b hb=>by
  have e:b=it:=by simpa using hb
  subst e
  exact⟨_,st,λv z=>by
   have z':Data.fields _=Data.cell v:=z
   cases z'⟩
 keep:=λi h h' st k=>k it (by simp) _ st
 item:=by
  intro X hP hw hK hc i pins s σ H E I hf st hg
  subst hP hw hK
  obtain⟨f0,f1,f2,f3,f4,f5⟩:=hf it (by simp)
  have W:=Walks.range (prog:=X.prog) (w:=X.w) (I.ok.hd hc) it lo 1 n
  refine W.item i s _ _ hg st λv h' tk hv st' kk=>?_
  obtain⟨t,rfl⟩:=hv
  have I1:Inv X pins σ H { s with heap:=h',toks:=tk }:=I.turned (λb o hb e=>kk b o (by simpa using hb) e) f0 f1 f3 f4 f5
  refine⟨_,rfl,Ie (s:={ s with heap:=h',toks:=tk }) (n := "range_iterator") st' rfl rfl (by decide) ⟨.int (lo+i),H,I1,⟨t,?_⟩,⟨rfl,rfl⟩,st',λb hb=>(hf b hb).1⟩⟩
  rw [Int.mul_one]
 done:=by
  intro X hP hw hK hc i pins s σ H E I hf st hg
  subst hP hw hK
  obtain⟨f0,f1,f2,f3,f4,f5⟩:=hf it (by simp)
  exact wpAny_pyNext_range_end (I.ok.hd hc) st (by have:n<=i:=hg; omega) λh' eb=>⟨rfl,I.turned (t':=s.toks) (λb o hb e=>eb b o hb e) f0 f1 f3 f4 f5⟩
 self:=λ_ _ _ _ _ st h=>wpAny_pyIter_rangeiter st h
section
variable {X:Cx}{tg:Expr}
theorem IK{pins:List (Addr×Obj)}{σ:St}{H:Hp}{s:Shared}{R:It->Hp->Prop}{E:Value->Shared->Prop}{lo hi:Int}{t u v:Tok}{tk:Nat}(I:Inv X pins σ H s)(h1:-(2 ^ 62)<=lo)(h2:lo<2 ^ 62)(h3:-(2 ^ 62)<=hi)(h4:hi<2 ^ 62)
  (q:R (Q3 lo (hi - lo).toNat) H):wpAny (model X.prog X.w) X.A (pyIter (.ref s.heap.objs.size)) (TZ X pins σ tg R) E { s with heap:=s.heap.push { cls:=.type "range",data:=.fields #[.int lo t,.int hi u,.int 1 v] },toks:=tk }:=by
 refine wpAny_pyIter_range (IsRange.new ..) (small_one h1 h2 h3 h4) ?_
 have I1:Inv X pins σ H { s with heap:=s.heap.push { cls:=.type "range",data:=.fields #[.int lo t,.int hi u,.int 1 v] },toks:=tk }:=I.kept λb o e=>Cn _ e
 refine⟨(s.heap.push { cls:=.type "range",data:=.fields #[.int lo t,.int hi u,.int 1 v] }).objs.size,[(s.heap.push { cls:=.type "range",data:=.fields #[.int lo t,.int hi u,.int 1 v] }).objs.size],_,_,H,rfl,
  I1.kept (t':=tk) λb o e=>Cn _ e,CB _ lo (hi - lo).toNat,?_,λb hb=>?_,q⟩
 ·have e1:lo+((0:Nat):Int)*1=lo:=by simp
  have e2:(((hi - lo).toNat:Nat):Int) - ((0:Nat):Int)=Ws lo hi 1:=by rw [rangeSize_one]; split <;> omega
  show IsRangeIter _ _ (lo+((0:Nat):Int)*1) ((((hi - lo).toNat:Nat):Int) - ((0:Nat):Int)) 1
  rw [e1,e2]
  exact On _ rfl
 ·have e:b=(s.heap.push { cls:=.type "range",data:=.fields #[.int lo t,.int hi u,.int 1 v] }).objs.size:=by simpa using hb
  subst e
  exact I1.fpOk (Go _) (I1.hok.fresh (Go _))
noncomputable def PM(ta:TA):TI:=λσ H R=>ta σ H λvs H1=>∃j:Int,vs=[.int j]/\-(2 ^ 62)<=j/\j<2 ^ 62/\R (Q3 0 j.toNat) H1
noncomputable def Rn(ta:TA):TI:=λσ H R=>ta σ H λvs H1=>∃i j:Int,vs=[.int i,.int j]/\(-(2 ^ 62)<=i/\i<2 ^ 62/\-(2 ^ 62)<=j/\j<2 ^ 62)/\R (Q3 i (j - i).toNat) H1
theorem Lb{a:Expr}{ta:TA}{p pos:Pos}(hg:Gl X "range")(hm:X.mg "range"=none)(ha:PA X [a] ta)(hs:autoParam (starEach [a] X.env=[(false,eval a X.env)]) zau3._auto_1):PI X tg (.Call (.Name "range" p) [a] [] pos) (PM ta):=by
 intro pins s σ H R I h
 refine Call_ (CW I hg hm boot_range (Ul (A3 (ha pos pins s σ H _ I h) λus s1 ⟨vs,H1,I1,r1,q1⟩=>?_) hs rfl))
 obtain⟨j,e,q1,q2,q⟩:=q1
 subst e
 cases r1 with
 | cons r rr =>
  cases rr
  obtain⟨t,rfl⟩:=r
  exact call_range_1 (IK I1 (by omega) (by omega) q1 q2 (by simpa using q))
theorem La{a b:Expr}{ta:TA}{p pos:Pos}(hg:Gl X "range")(hm:X.mg "range"=none)(ha:PA X [a,b] ta)(hs:autoParam (starEach [a,b] X.env=[(false,eval a X.env),(false,eval b X.env)]) zau3._auto_1)(hs2:autoParam (starEach [b] X.env=[(false,eval b X.env)]) zau3._auto_1) :
  PI X tg (.Call (.Name "range" p) [a,b] [] pos) (Rn ta):=by
 intro pins s σ H R I h
 refine Call_ (CW I hg hm boot_range (Ul (A3 (ha pos pins s σ H _ I h) λus s1 ⟨vs,H1,I1,r1,q1⟩=>?_) (by rw [hs,hs2]) (by rw [hs2]; rfl)))
 obtain⟨i,j,e,⟨q1,q2,q3,q4⟩,q⟩:=q1
 subst e
 cases r1 with
 | cons r rr =>
  cases rr with
  | cons r' rr =>
   cases rr
   obtain⟨t,rfl⟩:=r
   obtain⟨t',rfl⟩:=r'
   exact call_range_2 (IK I1 q1 q2 q3 q4 q)
noncomputable def Ss(wi:TI)(g:TG)(tb:TS):TS:=λD σ H=>wi σ H λJ H1=>∃W:Nat->Nat->St->Hp->Prop,(∃m,W 0 m σ H1)/\∀i m σ H,W i m σ H ->
 (J.stop i H/\D.nx σ H)\/(J.go i H/\∃N:St->Hp->Prop,(∀σ' H',N σ' H'->∃m',m'<m/\W (i+1) m' σ' H')/\∀x H',J.yld i H x H'->g x σ H' λσ2 H2=>tb { D with nx:=N,ct:=N,bk:=D.nx } σ2 H2)
noncomputable def D3(fp:List Addr)(h:Heap):List (Addr×Obj):=fp.filterMap λb=>(h.get? b).map λo=>(b,o)
theorem BV{fp:List Addr}{h:Heap}{b:Addr}{o:Obj}(hb:b∈fp)(e:h.get? b=some o):(b,o)∈D3 fp h:=WP.mpr ⟨b,hb,by rw [e]; rfl⟩
theorem Lh{fp:List Addr}{h:Heap}{p:Addr×Obj}(hp:p∈D3 fp h):p.1∈fp/\h.get? p.1=some p.2:=by
 obtain⟨b,hb,e⟩:=WP.mp hp
 cases q:h.get? b with
 | none=>rw [q] at e; cases e
 | some o =>
  rw [q] at e
  have e':(b,o)=p:=Rs e
  subst e'
  exact⟨hb,q⟩
theorem Inv.pinned{pins:List (Addr×Obj)}{σ:St}{H:Hp}{s:Shared}{fp:List Addr}(I:Inv X pins σ H s)(hf:∀b∈fp,B_ X pins H b)(ho:∀b∈fp,∃o,s.heap.get? b=some o/\∀v,o.data≠.cell v):Inv X (pins++D3 fp s.heap) σ H s :=
 I.pins_of λp hp=>(U1.mp hp).elim (λz=>I.pin p (T4 _ z)) λz=>by
  obtain⟨hb,e⟩:=Lh z
  obtain⟨f0,f1,f2,_⟩:=hf p.1 hb
  obtain⟨o,e',d⟩:=ho p.1 hb
  rw [e] at e'; cases e'
  exact⟨e,f0,f1,f2,d⟩
theorem Inv.unpinned{pins pl:List (Addr×Obj)}{σ:St}{H:Hp}{s:Shared}(I:Inv X (pins++pl) σ H s):Inv X pins σ H s:=I.pins_of λp hp=>I.pin p (T4 _ (List.mem_append_left _ hp))
theorem QA{iter:Expr}{body:List Stmt}{wi:TI}{g:TG}{tb:TS}{pos:Pos}(hp:PassesOwn (model X.prog X.w) X.A X.env X.xe)(hc:X.calm=true)(hi:PI X tg iter wi)(hg:PG X tg g)(hb:PSs X body tb)
  (hs:autoParam (∀x,foldedSetIterable iter X.env x=pure x) zau2._auto_1):PS X (.For tg iter body [] pos) (Ss wi g tb):=by
 intro pins s σ H D I h
 refine wpAny_For (A3 (hi pins s σ H _ I h) λv s1 h1=>A3 h1 λitv s2 h2=>?_) hs
 obtain⟨it,fp,tn,J,H2,e,I2,T,st2,f2,W,⟨m0,w0⟩,turn⟩:=h2
 subst e
 have stat:∀{H':Hp},(∀b∈fp,H' b=none)->∀b∈fp,B_ X pins H' b:=λhn b hb=>⟨hn b hb,(f2 b hb).2⟩
 refine codeAny_forLoop_any (λn s'=>∃i σ' H',Inv X pins σ' H' s'/\tn i s'.heap/\(∀b∈fp,H' b=none)/\W i n σ' H') ?_ m0 ⟨0,σ,H2,I2,st2,λb hb=>(f2 b hb).1,w0⟩
 rintro n s3 ⟨i,σ3,H3,I3,st3,fr3,w3⟩
 rcases turn i n σ3 H3 w3 with ⟨stop,qn⟩ | ⟨go,N,hN,step⟩
 ·refine Ve hp (A3 (T.done X rfl rfl rfl hc i pins s3 σ3 H3 X.xe I3 (stat fr3) st3 stop) λr s4 ⟨hr,I4⟩=>?_)
  subst hr
  exact Vd ⟨σ3,H3,I4,qn⟩
 ·refine Ve hp (A3 (T.item X rfl rfl rfl hc i pins s3 σ3 H3 X.xe I3 (stat fr3) st3 go) λr s4 ⟨u,hr,h4⟩=>?_)
  subst hr
  refine Ve hp (A3 h4 λ_ s5 ⟨x,H5,I5,r5,y5,st5,fr5⟩=>?_)
  have I5':=I5.pinned (stat fr5) (T.obj _ _ st5)
  refine Ve hp (A3 (hg _ s5 σ3 H5 x u _ I5' r5 (step x H5 y5)) λ_ s6 ⟨σ6,H6,I6,q6⟩=>?_)
  refine Ve hp (A3 (hb _ s6 σ6 H6 _ I6 q6) λf s7 q7=>?_)
  have again:∀{σ7:St} {H7:Hp},Inv X (pins++D3 fp s5.heap) σ7 H7 s7->N σ7 H7->∃m,m<n/\∃i σ' H',Inv X pins σ' H' s7/\tn i s7.heap/\(∀b∈fp,H' b=none)/\W i m σ' H':=λ{σ7 H7} I7 n7=>by
   obtain⟨m',hm,w7⟩:=hN σ7 H7 n7
   refine⟨m',hm,i+1,σ7,H7,I7.unpinned,T.keep _ _ _ st5 λb hb o e=>(I7.pin (b,o) (T4 _ (T4 _ (BV hb e)))).1,λb hb=>?_,w7⟩
   obtain⟨o,e,d⟩:=T.obj _ _ st5 b hb
   exact(I7.pin (b,o) (T4 _ (T4 _ (BV hb e)))).2.1
  cases f with
  | next=>obtain⟨σ7,H7,I7,n7⟩:=q7; exact again I7 n7
  | cont=>obtain⟨σ7,H7,I7,n7⟩:=q7; exact again I7 n7
  | brk=>obtain⟨σ7,H7,I7,q7⟩:=q7; exact⟨σ7,H7,I7.unpinned,q7⟩
  | ret v=>obtain⟨x7,σ7,H7,I7,r7,q7⟩:=q7; exact⟨x7,σ7,H7,I7.unpinned,r7,q7⟩
end
noncomputable abbrev R2:=V->V->Hp->VK->Prop
noncomputable def OpR(X:Cx)(f:Value->Value->Sem Value)(r:R2):Prop :=
 ∀(pins:List (Addr×Obj)) (s:Shared) (σ:St) (H:Hp) (x y:V) (v u:Value) (Q:VK),Inv X pins σ H s->RelV x v->RelV y u->r x y H Q ->
  wpAny (model X.prog X.w) X.A (f v u) (EP X pins σ Q) X.xe s
noncomputable def CK(X:Cx)(f:Value)(r:List V->Hp->VK->Prop):Prop :=
 ∀(pins:List (Addr×Obj)) (s:Shared) (σ:St) (H:Hp) (xs:List V) (us:List Value) (Q:VK),Inv X pins σ H s->Vals xs us->r xs H Q ->
  wpAny (model X.prog X.w) X.A (call f us) (EP X pins σ Q) X.xe s
noncomputable def B3(r:R2)(ta tb:TE):TE:=λσ H Q=>ta σ H λx H1=>tb σ H1 λy H2=>r x y H2 Q
noncomputable def rI(C:Int->Int->Prop)(g:Int->Int->V):R2:=λx y H Q=>∃i j,x=.int i/\y=.int j/\C i j/\Q (g i j) H
noncomputable def En(g:Int->Int->V):R2:=λx y H Q=>∃i j,x=.int i/\y=.int j/\Q (g i j) H
section
variable {X:Cx}{a b c:Expr}{ta tb tc:TE}{pos:Pos}
theorem Qp(ha:PE X a ta)(hb:PE X b tb){pins:List (Addr×Obj)}{s:Shared}{σ:St}{H:Hp}{R:V->V->Hp->Prop}(I:Inv X pins σ H s)
  (h:ta σ H λx H1=>tb σ H1 λy H2=>R x y H2) {Q:Value->Shared->Prop} {f:Value->Value->Sem Value}
  (hf:∀v u s2 x y H2,Inv X pins σ H2 s2->RelV x v->RelV y u->R x y H2->wpAny (model X.prog X.w) X.A (f v u) Q X.xe s2) :
  wpAny (model X.prog X.w) X.A (eval a X.env) (λv s₁=>wpAny (model X.prog X.w) X.A (eval b X.env) (λu s₂=>wpAny (model X.prog X.w) X.A (f v u) Q X.xe s₂) X.xe s₁) X.xe s:=by
 refine A3 (ha pins s σ H _ I h) λv s1 ⟨x,H1,I1,r1,q1⟩=>?_
 refine A3 (hb pins s1 σ H1 _ I1 q1) λu s2 ⟨y,H2,I2,r2,q2⟩=>?_
 exact hf v u s2 x y H2 I2 r1 r2 q2
theorem BB{op:Operator}{r:R2}(ho:OpR X (binaryOp op) r)(ha:PE X a ta)(hb:PE X b tb):PE X (.BinOp a op b pos) (B3 r ta tb):=by
 intro pins s σ H Q I h
 exact wpAny_BinOp (Qp ha hb I h λv u s2 x y H2 I2 rx ry q=>ho pins s2 σ H2 x y v u Q I2 rx ry q)
theorem SQ{f:Value->Value->Sem Value}{C:Int->Int->Prop}{g:Int->Int->Int}
  (rule:∀(i j:Int) (t u:Tok) (s:Shared) (Q:Value->Shared->Prop) (E:Value->Shared->Prop),C i j->Q (.int (g i j) s.toks) { s with toks:=s.toks+1 }->wpAny (model X.prog X.w) X.A (f (.int i t) (.int j u)) Q E s) :
  OpR X f (rI C λi j=>.int (g i j)):=by
 intro pins s σ H x y v u Q I rx ry h
 obtain⟨i,j,rfl,rfl,hc,q⟩:=h
 obtain⟨t,rfl⟩:=rx
 obtain⟨t',rfl⟩:=ry
 exact rule i j t t' s _ _ hc ⟨.int (g i j),H,I.tok _,⟨_,rfl⟩,q⟩
theorem Rl{f:Value->Value->Sem Value}{g:Int->Int->Int}
  (rule:∀(i j:Int) (t u:Tok) (s:Shared) (Q:Value->Shared->Prop) (E:Value->Shared->Prop),Q (.int (g i j) s.toks) { s with toks:=s.toks+1 }->wpAny (model X.prog X.w) X.A (f (.int i t) (.int j u)) Q E s) :
  OpR X f (En λi j=>.int (g i j)):=by
 intro pins s σ H x y v u Q I rx ry h
 obtain⟨i,j,rfl,rfl,q⟩:=h
 obtain⟨t,rfl⟩:=rx
 obtain⟨t',rfl⟩:=ry
 exact rule i j t t' s _ _ ⟨.int (g i j),H,I.tok _,⟨_,rfl⟩,q⟩
theorem OH{f:Value->Value->Sem Value}{g:Int->Int->Bool}
  (rule:∀(i j:Int) (t u:Tok) (s:Shared) (Q:Value->Shared->Prop) (E:Value->Shared->Prop),Q (.bool (g i j)) s->wpAny (model X.prog X.w) X.A (f (.int i t) (.int j u)) Q E s) :
  OpR X f (En λi j=>.bl (g i j)):=by
 intro pins s σ H x y v u Q I rx ry h
 obtain⟨i,j,rfl,rfl,q⟩:=h
 obtain⟨t,rfl⟩:=rx
 obtain⟨t',rfl⟩:=ry
 exact rule i j t t' s _ _ ⟨.bl (g i j),H,I,rfl,q⟩
noncomputable def Oo(i j:Int):Prop:=0<j/\j<1073741824
noncomputable def JJ(i j:Int):Prop:=0<=j/\j<=1000000/\i.natAbs<2 ^ 64
noncomputable def CMul(i j:Int):Prop:=(-(2 ^ 64)<i/\i<2 ^ 64)\/(-(2 ^ 64)<j/\j<2 ^ 64)
theorem CMul.ok{i j:Int}(h:CMul i j):IntMulOk i j:=by
 rcases h with ⟨h1,h2⟩ | ⟨h1,h2⟩
 ·exact .of_left (intBits_le_64 h1 h2)
 ·exact .of_right (intBits_le_64 h1 h2)
theorem op_add:OpR X (binaryOp .Add) (En λi j=>.int (i+j)):=Rl λ_ _ _ _ _ _ _ q=>add_int q
theorem op_sub:OpR X (binaryOp .Sub) (En λi j=>.int (i - j)):=Rl λ_ _ _ _ _ _ _ q=>sub_int q
theorem op_mul:OpR X (binaryOp .Mult) (rI CMul λi j=>.int (i*j)):=SQ λ_ _ _ _ _ _ _ hc q=>mul_int q hc.ok
theorem G8:OpR X (binaryOp .FloorDiv) (rI Oo λi j=>.int (i / j)):=SQ λi j _ _ _ _ _ hc q=>by
 have h1:(0:Int)<j:=hc.1
 have h2:j<1073741824:=hc.2
 exact floordiv_int (by omega) (by rw [Int.fdiv_eq_ediv_of_nonneg i (by omega)]; exact q) (.inl (PyProof.noPylong_small (by omega)))
theorem Bx:OpR X (binaryOp .Mod) (rI (λ_ j=>0<j) λi j=>.int (i % j)):=SQ λi j _ _ _ _ _ hc q=>by
 have h1:(0:Int)<j:=hc
 exact mod_int' (by omega) (by rw [Int.fmod_eq_emod_of_nonneg i (by omega)]; exact q)
theorem D4:OpR X (binaryOp .Pow) (rI JJ λi j=>.int (i ^ j.toNat)):=SQ λ_ _ _ _ _ _ _ hc q=>pow_int_small hc.1 hc.2.1 hc.2.2 q
end
noncomputable def RS:V->V->Bool
 | .non,.non=>true | .non,.int _=>true | .int _,.non=>true | .non,.bl _=>true | .bl _,.non=>true | .non,.str _=>true | .str _,.non=>true
 | .int _,.int _=>true | .bl _,.bl _=>true | .str _,.str _=>true | .byt _,.byt _=>true
 | .int _,.str _=>true | .str _,.int _=>true | .bl _,.str _=>true | .str _,.bl _=>true
 | _,_=>false
noncomputable def TR:R2:=λx y H Q=>RS x y=true/\Q (.bl (decide (x=y))) H
noncomputable def TL:R2:=λx y H Q=>RS x y=true/\Q (.bl (!decide (x=y))) H
theorem Eu{i j:Int}:decide (V.int i=V.int j)=(i==j):=by
 rw [U2]
 simp
theorem HP{i j:Bool}:decide (V.bl i=V.bl j)=(i==j):=by
 rw [U2]
 simp
theorem Et{i j:Str}:decide (V.str i=V.str j)=(i==j):=by
 rw [U2]
 simp
theorem Kw{i j:Array UInt8}:decide (V.byt i=V.byt j)=(i.toList==j.toList):=by
 rw [U2]
 cases i
 cases j
 simp
section
variable {X:Cx}{a b c:Expr}{ta tb tc:TE}{pos:Pos}
theorem Aa{pins:List (Addr×Obj)}{σ:St}{H:Hp}{s:Shared}{Q:VK}{k k':Bool}(I:Inv X pins σ H s)(q:Q (.bl k) H)(e:k=k'):EP X pins σ Q (.bool k') s:=by
 subst e
 exact⟨.bl k,H,I,rfl,q⟩
theorem B6:OpR X (compareOp .Eq) TR:=by
 intro pins s σ H x y v u Q I rx ry h
 obtain⟨hs,q⟩:=h
 cases x with
 | non =>
  cases rx
  cases y with
  | non=>cases ry; exact PySem.EqNone.eq_none_none (Aa I q (by simp))
  | bl j=>cases ry; exact PySem.EqNone.eq_none_bool (Aa I q (by simp))
  | int j=>obtain⟨t',rfl⟩:=ry; exact PySem.EqNone.eq_none_int (Aa I q (by simp))
  | str j=>obtain⟨t',rfl⟩:=ry; exact PySem.EqNone.eq_none_str (Aa I q (by simp))
  | _=>exact absurd (show false=true from hs) TW
 | bl i =>
  cases rx
  cases y with
  | non=>cases ry; exact PySem.EqNone.eq_bool_none (Aa I q (by simp))
  | bl j=>cases ry; exact eq_bool (Aa I q HP)
  | str j=>obtain⟨t',rfl⟩:=ry; exact PySem.EqMixed.eq_bool_str (Aa I q (by simp))
  | _=>exact absurd (show false=true from hs) TW
 | int i =>
  obtain⟨t,rfl⟩:=rx
  cases y with
  | non=>cases ry; exact PySem.EqNone.eq_int_none (Aa I q (by simp))
  | int j=>obtain⟨t',rfl⟩:=ry; exact eq_int (Aa I q Eu)
  | str j=>obtain⟨t',rfl⟩:=ry; exact PySem.EqMixed.eq_int_str (Aa I q (by simp))
  | _=>exact absurd (show false=true from hs) TW
 | str i =>
  obtain⟨t,rfl⟩:=rx
  cases y with
  | non=>cases ry; exact PySem.EqNone.eq_str_none (Aa I q (by simp))
  | bl j=>cases ry; exact PySem.EqMixed.eq_str_bool (Aa I q (by simp))
  | int j=>obtain⟨t',rfl⟩:=ry; exact PySem.EqMixed.eq_str_int (Aa I q (by simp))
  | str j=>obtain⟨t',rfl⟩:=ry; exact eq_str (Aa I q Et)
  | _=>exact absurd (show false=true from hs) TW
 | byt i =>
  obtain⟨t,rfl⟩:=rx
  cases y with
  | byt j=>obtain⟨t',rfl⟩:=ry; exact PySem.W.eq_bytes (Aa I q Kw)
  | _=>exact absurd (show false=true from hs) TW
 | _=>cases y <;> exact absurd (show false=true from hs) TW
theorem PD:OpR X (compareOp .NotEq) TL:=by
 intro pins s σ H x y v u Q I rx ry h
 obtain⟨hs,q⟩:=h
 cases x with
 | non =>
  cases rx
  cases y with
  | non=>cases ry; exact PySem.EqNone.ne_none_none (Aa I q (by simp))
  | bl j=>cases ry; exact PySem.EqNone.ne_none_bool (Aa I q (by simp))
  | int j=>obtain⟨t',rfl⟩:=ry; exact PySem.EqNone.ne_none_int (Aa I q (by simp))
  | str j=>obtain⟨t',rfl⟩:=ry; exact PySem.EqNone.ne_none_str (Aa I q (by simp))
  | _=>exact absurd (show false=true from hs) TW
 | bl i =>
  cases rx
  cases y with
  | non=>cases ry; exact PySem.EqNone.ne_bool_none (Aa I q (by simp))
  | bl j=>cases ry; exact ne_bool (Aa I q (congrArg not HP))
  | str j=>obtain⟨t',rfl⟩:=ry; exact PySem.EqMixed.ne_bool_str (Aa I q (by simp))
  | _=>exact absurd (show false=true from hs) TW
 | int i =>
  obtain⟨t,rfl⟩:=rx
  cases y with
  | non=>cases ry; exact PySem.EqNone.ne_int_none (Aa I q (by simp))
  | int j=>obtain⟨t',rfl⟩:=ry; exact ne_int (Aa I q (congrArg not Eu))
  | str j=>obtain⟨t',rfl⟩:=ry; exact PySem.EqMixed.ne_int_str (Aa I q (by simp))
  | _=>exact absurd (show false=true from hs) TW
 | str i =>
  obtain⟨t,rfl⟩:=rx
  cases y with
  | non=>cases ry; exact PySem.EqNone.ne_str_none (Aa I q (by simp))
  | bl j=>cases ry; exact PySem.EqMixed.ne_str_bool (Aa I q (by simp))
  | int j=>obtain⟨t',rfl⟩:=ry; exact PySem.EqMixed.ne_str_int (Aa I q (by simp))
  | str j=>obtain⟨t',rfl⟩:=ry; exact ne_str (Aa I q (congrArg not Et))
  | _=>exact absurd (show false=true from hs) TW
 | byt i =>
  obtain⟨t,rfl⟩:=rx
  cases y with
  | byt j=>obtain⟨t',rfl⟩:=ry; exact PySem.W.ne_bytes (Aa I q (congrArg not Kw))
  | _=>exact absurd (show false=true from hs) TW
 | _=>cases y <;> exact absurd (show false=true from hs) TW
theorem op_lt:OpR X (compareOp .Lt) (En λi j=>.bl (decide (i<j))):=OH λ_ _ _ _ _ _ _ q=>Ww q
theorem op_le:OpR X (compareOp .LtE) (En λi j=>.bl (decide (i<=j))):=OH λ_ _ _ _ _ _ _ q=>le_int q
theorem Rj:OpR X (compareOp .Gt) (En λi j=>.bl (decide (j<i))):=OH λ_ _ _ _ _ _ _ q=>gt_int q
theorem Rk:OpR X (compareOp .GtE) (En λi j=>.bl (decide (j<=i))):=OH λ_ _ _ _ _ _ _ q=>ge_int q
theorem Lf:OpR X (compareOp .Lt) (λx y H Q=>∃i j,x=.str i/\y=.str j/\Q (.bl (decide (i.cps.toList<j.cps.toList))) H):=by
 intro pins s σ H x y v u Q I rx ry h
 obtain⟨i,j,rfl,rfl,q⟩:=h
 obtain⟨t,rfl⟩:=rx
 obtain⟨t',rfl⟩:=ry
 exact lt_str (Aa I q rfl)
theorem OpR.or{f:Value->Value->Sem Value}{r r':R2}(h:OpR X f r)(h':OpR X f r'):OpR X f (λx y H Q=>r x y H Q\/r' x y H Q):=by
 intro pins s σ H x y v u Q I rx ry q
 rcases q with q | q
 ·exact h pins s σ H x y v u Q I rx ry q
 ·exact h' pins s σ H x y v u Q I rx ry q
theorem Ah(b:Expr){op:CmpOp}(h:autoParam (op≠.In) zau1._auto_1)(h2:autoParam (op≠.NotIn) zau1._auto_1):behindInMarks op b=false:=by
 have e1:(op==CmpOp.In)=false:=by cases op <;> first | rfl | exact absurd rfl h
 have e2:(op==CmpOp.NotIn)=false:=by cases op <;> first | rfl | exact absurd rfl h2
 cases b <;> simp [behindInMarks,e1,e2]
theorem OB{op:CmpOp}{r:R2}(ho:OpR X (compareOp op) r)(ha:PE X a ta)(hb:PE X b tb)(hm:behindInMarks op b=false):PE X (.Compare a [op] [b] pos) (B3 r ta tb):=by
 intro pins s σ H Q I h
 exact wpAny_Compare1 (Qp ha hb I h λv u s2 x y H2 I2 rx ry q=>ho pins s2 σ H2 x y v u Q I2 rx ry q) hm
noncomputable def MO(t:TE):TT:=λσ H Q=>t σ H λx H'=>∃k,x=.bl k/\Q k H'
theorem DX{op:CmpOp}{r:R2}(ho:OpR X (compareOp op) r)(ha:PE X a ta)(hb:PE X b tb)(hm:behindInMarks op b=false):PT X (.Compare a [op] [b] pos) (MO (B3 r ta tb)):=by
 intro pins s σ H Q I h
 refine wpAny_isTrue_Compare1 (A3 (ha pins s σ H _ I h) λv s1 ⟨x,H1,I1,r1,q1⟩=>A3 (hb pins s1 σ H1 _ I1 q1) λu s2 ⟨y,H2,I2,r2,q2⟩ =>
  A3 (ho pins s2 σ H2 x y v u _ I2 r1 r2 q2) λc s3 ⟨z,H3,I3,r3,k,e,q3⟩=>?_) hm
 subst e
 cases r3
 exact VM ⟨H3,I3,q3⟩
theorem FW:(sizeLine:Nat)<2 ^ 63:=by rw [UQ]; decide
theorem Jq:OpR X (binaryOp .Add) (λx y H Q=>∃i j,x=.str i/\y=.str j/\i.length+j.length<=sizeLine/\Q (.str (i++j)) H):=by
 intro pins s σ H x y v u Q I rx ry h
 obtain⟨i,j,rfl,rfl,hz,q⟩:=h
 obtain⟨t,rfl⟩:=rx
 obtain⟨t',rfl⟩:=ry
 exact add_str (λt' tk=>⟨.str (i++j),H,I.tok _,⟨_,rfl⟩,q⟩) hz
theorem vals1{x:V}{us:List Value}(r:Vals [x] us):∃u,us=[u]/\RelV x u:=by
 cases r with
 | cons r1 r2=>cases r2; exact⟨_,rfl,r1⟩
theorem vals2{x y:V}{us:List Value}(r:Vals [x,y] us):∃u w',us=[u,w']/\RelV x u/\RelV y w':=by
 cases r with
 | cons r1 r2 =>
  cases r2 with
  | cons r3 r4=>cases r4; exact⟨_,_,rfl,r1,r3⟩
noncomputable def Q2(K:Frag)(x:V)(H:Hp)(n:Nat):Prop :=
 match x with
 | .str y=>y.length<=sizeLine/\n=y.length
 | .byt y=>y.size<=sizeLine/\n=y.size
 | .ref p=>(∃xs,SqL K H p xs/\n=xs.length)\/∃xs,Du K H p xs/\n=xs.length
 | _=>False
theorem BS:CK X (.builtin "len") (λxs H Q=>∃x n,xs=[x]/\Q2 X.K x H n/\Q (.int n) H):=by
 intro pins s σ H xs us Q I r h
 obtain⟨x,n,rfl,e,q⟩:=h
 obtain⟨u,rfl,rx⟩:=vals1 r
 have hl:=FW
 have hs:sizeLine=16777216:=UQ
 cases x with
 | str y =>
  obtain⟨t,rfl⟩:=rx
  obtain⟨hy,e'⟩:y.length<=sizeLine/\n=y.length:=e
  subst e'
  exact len_str (by omega) ⟨.int _,H,I.tok _,⟨_,rfl⟩,q⟩
 | byt y =>
  obtain⟨t,rfl⟩:=rx
  obtain⟨hy,e'⟩:y.size<=sizeLine/\n=y.size:=e
  subst e'
  exact PySem.W.len_bytes (by omega) ⟨.int _,H,I.tok _,⟨_,rfl⟩,q⟩
 | ref p =>
  cases rx
  have e':(∃xs,SqL X.K H p xs/\n=xs.length)\/∃xs,Du X.K H p xs/\n=xs.length:=e
  rcases e' with ⟨xs,hx,e'⟩ | ⟨xs,hx,e'⟩
  ·subst e'
   obtain⟨its,r',pl,hz⟩:=I.list hx
   have hlen:=r'.length
   exact Calls.call_len_list pl.isList (by simp only [Re]; omega) ⟨.int xs.length,H,I.tok _,⟨_,by simp only [Re]; rw [hlen]⟩,q⟩
  ·subst e'
   obtain⟨its,r',pl,hz⟩:=I.tuple hx
   have hlen:=r'.length
   exact len_tuple pl (by simp only [Re]; omega) ⟨.int xs.length,H,I.tok _,⟨_,by simp only [Re]; rw [hlen]⟩,q⟩
 | _=>exact(show False from e).elim
end
structure ObjM (h:Heap) (x dx C:Addr) (mA:Str->Option Value):Prop where
 obj:h.get? x=some (PySem.W.instObj C dx)
 ns:h.Ns1 dx mA
 ne:dx≠x
theorem GN{h:Heap}{dx:Addr}{mA:Str->Option Value}(n:h.Ns1 dx mA):∃od,h.get? dx=some od/\∀name,PySem.W.lookIn name od=some (mA name):=by
 obtain⟨o,es,ep,ho,hd,hk,_,hm⟩:=n
 refine⟨o,ho,λname=>?_⟩
 have e:=hm name
 unfold nsFind findBy at e
 rw [← Array.find?_toList] at e
 unfold PySem.W.lookIn
 rw [hd]
 dsimp only
 split
 ·rename_i y q
  rw [q] at e
  exact congrArg some e
 ·rename_i q
  rw [q] at e
  have a:es.toList.any (·.refKey)=false:=by
   rw [List.any_eq_false]
   intro y hy
   obtain⟨z,t,hkey⟩:=hk y (Array.mem_toList_iff.mp hy)
   simp [DictEntry.refKey,hkey]
  have a':¬es.toList.any (·.refKey)=true:=by rw [a]; exact TW
  rw [if_neg a']
  exact congrArg some e
theorem ObjM.look{h:Heap}{x dx C:Addr}{mA:Str->Option Value}(I:ObjM h x dx C mA):∃od,PySem.W.InstAt h x (PySem.W.instObj C dx) C (some od)/\∀name,PySem.W.lookIn name od=some (mA name) :=
 let ⟨od,ho,hl⟩:=GN I.ns
 ⟨od,⟨I.obj,rfl,rfl,ho⟩,hl⟩
section
variable {prog:Program}{w:World}{A:Around}{E:Value->Shared->Prop}{s:Shared}{K:Frag}{x dx C f:Addr}{mA:Str->Option Value}{name:Str}{v:Value}
end
noncomputable def B4(f:Str)(v:V):List (Str×V)->List (Str×V)
 | []=>[(f,v)]
 | (g,x)::r=>if g=f then (g,v)::r else (g,x)::B4 f v r
theorem ES(f g:Str)(v:V):∀fs:List (Str×V),(B4 f v fs).lookup g=if g=f then some v else fs.lookup g
 | []=>by
  show UU g [(f,v)]=_
  by_cases h:g=f
  ·have hb:(g==f)=true:=beq_iff_eq.mpr h
   simp only [UU,hb,if_pos h]
  ·have hb:(g==f)=false:=beq_eq_false_iff_ne.mpr h
   simp only [UU,hb,if_neg h]
 | (k,x)::r=>by
  have ih:=ES f g v r
  rw [show B4 f v ((k,x)::r)=(if k=f then (k,v)::r else (k,x)::B4 f v r) from rfl]
  by_cases hk:k=f
  ·rw [if_pos hk]
   by_cases h:g=k
   ·have hb:(g==k)=true:=beq_iff_eq.mpr h
    simp only [UU,hb,if_pos (h.trans hk)]
   ·have hb:(g==k)=false:=beq_eq_false_iff_ne.mpr h
    simp only [UU,hb,if_neg (λe:g=f=>h (e.trans hk.symm))]
  ·rw [if_neg hk]
   by_cases h:g=k
   ·have hb:(g==k)=true:=beq_iff_eq.mpr h
    simp only [UU,hb,if_neg (λe:g=f=>hk (h.symm.trans e))]
   ·have hb:(g==k)=false:=beq_eq_false_iff_ne.mpr h
    simp only [UU,hb]
    exact ih
theorem D9(f:Str)(v:V):∀fs:List (Str×V),f∈(B4 f v fs).map (·.1)/\∀g,g∈fs.map (·.1)->g∈(B4 f v fs).map (·.1)
 | []=>⟨by simp [B4],λg h=>by simp at h⟩
 | (k,x)::r=>by
  obtain⟨i1,i2⟩:=D9 f v r
  rw [show B4 f v ((k,x)::r)=(if k=f then (k,v)::r else (k,x)::B4 f v r) from rfl]
  by_cases hk:k=f
  ·rw [if_pos hk]
   subst hk
   exact⟨by simp,λg h=>by simpa using h⟩
  ·rw [if_neg hk]
   refine⟨?_,λg h=>?_⟩
   ·rw [UG]
    exact Op _ i1
   ·rw [UG] at h ⊢
    rcases TM.mp h with e | e
    ·exact TM.mpr (.inl e)
    ·exact Op _ (i2 g e)
theorem EU(f:Str)(v:V):∀fs:List (Str×V),(B4 f v fs).length<=fs.length+1
 | []=>by simp [B4]
 | (k,x)::r=>by
  have ih:=EU f v r
  rw [show B4 f v ((k,x)::r)=(if k=f then (k,v)::r else (k,x)::B4 f v r) from rfl]
  by_cases hk:k=f
  ·rw [if_pos hk,Tk,Tk]; omega
  ·rw [if_neg hk,Tk,Tk]; omega
theorem RelO.some_of{v:V}{o:Option Value}(r:RelO (some v) o):∃u,o=some u/\RelV v u:=by
 cases o with
 | none=>exact(show False from r).elim
 | some u=>exact⟨u,rfl,r⟩
theorem Lx{v:V}{u:Value}(r:RelV v u):PySem.W.handedIn u=true:=by
 cases v with
 | non=>cases (show u=T9 from r); rfl
 | bl b=>cases (show u=Vp b from r); rfl
 | int i=>obtain⟨t,e⟩:=(show ∃t,u=XB i t from r); cases e; rfl
 | str x=>obtain⟨t,e⟩:=(show ∃t,u=XD x t from r); cases e; rfl
 | byt b=>obtain⟨t,e⟩:=(show ∃t,u=Value.bytes b t from r); cases e; rfl
 | flt b=>obtain⟨t,e⟩:=(show ∃t,u=Value.float b t from r); cases e; rfl
 | ref a=>cases (show u=Sc a from r); rfl
 | ty n=>cases (show u=Ux n from r); rfl
section
variable {P:Program}{w:World}{H H':Hp}{h h':Heap}{a C dx:Addr}{fs fs':List (Str×V)}
theorem OT(hok:HOk P w H h)(e:H a=some (.ins C dx fs)):∃mA,ObjM h a dx C mA/\(∀f,RelO (fs.lookup f) (mA f))/\PySem.Within mA (fs.map (·.1))/\fs.length<=1000/\H dx=some (.own a):=by
 obtain⟨d,z,ne,ob,mA,n,r,q⟩:=(show ObjOk P w H h a (.ins C dx fs) from hok a _ e)
 exact⟨mA,⟨ob,n,ne⟩,r,q,z,d⟩
end
structure Cls (K:Frag) (C:Addr):Prop where
 pg:PySem.W.plainGet K C Str.empty=true
 hd:PySem.W.hasDictIn K C=true
 po:PySem.W.plainOver K C=true
 sa:PySem.W.findIn K (.ref C) "__setattr__"=some (some (.builtin "object.__setattr__"))
theorem Cls.get{K:Frag}{C:Addr}(c:Cls K C)(f:Str):PySem.W.plainGet K C f=true:=c.pg
noncomputable def DP(K:Frag)(C:Addr)(f:Str):Prop:=PySem.W.findIn K (.ref C) f=some none
structure Tt (K:Frag) (C:Addr) (f:Str) (v:V) (u:Value):Prop where
 at_:PySem.W.findIn K (.ref C) f=some (some u)
 rel:RelV v u
 get:PySem.W.specialIn K u "__get__"=some none
 cp:PySem.W.copiedNames.contains f=false
structure Tr (K:Frag) (C:Addr) (m:Str) (f:Addr):Prop where
 at_:PySem.W.findIn K (.ref C) m=some (some (.ref f))
 fn:PySem.W.isFn K (.ref f)=true
 kp:keepIn K (.ref f)=true
section
variable {X:Cx}{pins:List (Addr×Obj)}{σ:St}{H:Hp}{s:Shared}{a C dx:Addr}{fs:List (Str×V)}{f:Str}{v:V}{A:Around}{E:Value->Shared->Prop}
theorem Of{prog:Program}{w:World}{env:Env}{e:Expr}{f:Str}{pos:Pos}{s:Shared}{Q:Value->Shared->Prop}(hb:attributeBase e f env (eval e env)=eval e env)
  (h:wpAny (model prog w) A (eval e env) (λo s₁=>wpAny (model prog w) A (getAttr o f true) Q E s₁) E s):wpAny (model prog w) A (eval (.Attribute e f pos) env) Q E s :=
 Attribute_any_ h (by rw [arm_eval_Attribute,hb])
end
section
variable {X:Cx}{o e value:Expr}{f:Str}{pos pos' tpos:Pos}{ta tv:TE}
end
section
variable {X:Cx}{pins:List (Addr×Obj)}{σ:St}{H:Hp}{s:Shared}{A:Around}{E:Value->Shared->Prop}{Q:Value->Shared->Prop}{c:Value}{b:Bool}
inductive DN (K:Frag) (H:Hp):V->Value->Prop where
 | non:DN K H .non (.type "NoneType")
 | bl (x:Bool):DN K H (.bl x) (.type "bool")
 | int (i:Int):DN K H (.int i) (.type "int")
 | str (x:Str):DN K H (.str x) (.type "str")
 | flt (x:UInt64):DN K H (.flt x) (.type "float")
 | lst {a:Addr} {xs:List V} (e:H a=some (.lst xs)):DN K H (.ref a) (.type "list")
 | frz {a:Addr} {o:Obj} {xs:List V} (e:H a=some (.frz o (.lst xs))):DN K H (.ref a) (.type "list")
 | tup {a:Addr} {xs:List V} (e:H a=some (.tup xs)):DN K H (.ref a) (.type "tuple")
 | dF {a:Addr} {o:Obj} {kvs:List (Key×V)} (e:H a=some (.frz o (.dK kvs))):DN K H (.ref a) (.type "dict")
 | dK {a:Addr} {kvs:List (Key×V)} (e:H a=some (.dK kvs)):DN K H (.ref a) (.type "dict")
 | dT {a:Addr} {kvs:List (List Key×V)} (e:H a=some (.dT kvs)):DN K H (.ref a) (.type "dict")
 | ins {a C dx:Addr} {fs:List (Str×V)} (e:H a=some (.ins C dx fs)) (cl:Cls K C) (ha:PySem.W.findIn K (.ref C) "__class__"=some (some (.builtin "object.__class__")))
   (hn:PySem.W.specialIn K (.builtin "object.__class__") "__get__"=some (some (.builtin "getset_descriptor.__get__"))) (htk:PySem.W.takesIn K (.builtin "object.__class__")=some true)
   (hm:PySem.W.mroIn K C (.type "object")=some true):DN K H (.ref a) (.ref C)
theorem Ls{x:V}{u t:Value}(I:Inv X pins σ H s)(rx:RelV x u)(ty:DN X.K H x t)(e:PySem.W.kitOne X.K t c=some b)(h:∀tk,Q (.bool b) { s with toks:=tk }) :
  wpAny (model X.prog X.w) A (call (.builtin "isinstance") [u,c]) Q E s:=by
 cases ty with
 | non=>cases (show u=T9 from rx); exact PySem.W.kia_one PySem.W.kitx_none I.kIn V8 e (λz=>nomatch z) h
 | bl y=>cases (show u=Vp y from rx); exact PySem.W.kia_one PySem.W.kitx_bool I.kIn V8 e (λz=>nomatch z) h
 | int i=>obtain⟨t,q⟩:=(show ∃t,u=XB i t from rx); cases q; exact PySem.W.kia_one PySem.W.kitx_int I.kIn V8 e (λz=>nomatch z) h
 | str y=>obtain⟨t,q⟩:=(show ∃t,u=XD y t from rx); cases q; exact PySem.W.kia_one PySem.W.kitx_str I.kIn V8 e (λz=>nomatch z) h
 | flt y=>obtain⟨t,q⟩:=(show ∃t,u=Value.float y t from rx); cases q; exact PySem.W.kia_one PySem.W.kitx_float I.kIn V8 e (λz=>nomatch z) h
 | @lst a xs ea =>
  cases (show u=Sc a from rx)
  obtain⟨_,_,n,_,h1⟩:=(show ObjOk X.prog X.w H s.heap a (.lst xs) from I.hok a _ ea)
  exact PySem.W.kia_one PySem.W.kitx_list I.kIn ⟨_,h1,rfl⟩ e (λz=>nomatch z) h
 | @frz a ob xs ea =>
  cases (show u=Sc a from rx)
  obtain⟨_,_,_,n,_,h1⟩:=(show ObjOk X.prog X.w H s.heap a (.frz ob (.lst xs)) from I.hok a _ ea)
  exact PySem.W.kia_one PySem.W.kitx_list I.kIn ⟨_,h1,rfl⟩ e (λz=>nomatch z) h
 | @tup a xs ea =>
  cases (show u=Sc a from rx)
  obtain⟨_,_,_,p⟩:=(show ObjOk X.prog X.w H s.heap a (.tup xs) from I.hok a _ ea)
  obtain⟨o,h1,h2,_⟩:=p
  exact PySem.W.kia_one PySem.W.kitx_tuple I.kIn ⟨o,h1,h2⟩ e (λz=>nomatch z) h
 | @dF a ob kvs ea =>
  cases (show u=Sc a from rx)
  obtain⟨_,_,_,vs,_,p⟩:=(show ObjOk X.prog X.w H s.heap a (.frz ob (.dK kvs)) from I.hok a _ ea)
  obtain⟨o,es,ep,h1,h2,_⟩:=p
  exact PySem.W.kia_one PySem.W.kitx_dict I.kIn ⟨o,h1,h2.1⟩ e (λz=>nomatch z) h
 | @dK a kvs ea =>
  cases (show u=Sc a from rx)
  obtain⟨_,_,vs,_,p⟩:=(show ObjOk X.prog X.w H s.heap a (.dK kvs) from I.hok a _ ea)
  obtain⟨o,es,ep,h1,h2,_⟩:=p
  exact PySem.W.kia_one PySem.W.kitx_dict I.kIn ⟨o,h1,h2.1⟩ e (λz=>nomatch z) h
 | @dT a kvs ea =>
  cases (show u=Sc a from rx)
  obtain⟨_,_,xs,_,o,es,ep,h1,h2,_⟩:=(show ObjOk X.prog X.w H s.heap a (.dT kvs) from I.hok a _ ea)
  exact PySem.W.kia_one PySem.W.kitx_dict I.kIn ⟨o,h1,h2.1⟩ e (λz=>nomatch z) h
 | @ins a C dx fs ea cl ha hn htk hm =>
  cases (show u=Sc a from rx)
  obtain⟨mA,O,_⟩:=OT I.hok ea
  obtain⟨od,J,_⟩:=O.look
  exact PySem.W.kia_one (PySem.W.kitx_own (cl.get _) cl.hd ha hn htk hm) I.kIn J e (λz=>nomatch z) h
end
structure Room (k:Nat) (A:Around):Prop where
 hd:A.handled=none
 dp:A.depth+3*k+5<recursionLimit
 un:A.units+16*k+200<cLine
 gd:A.guards=some []
theorem Room.mono{j k:Nat}{A:Around}(r:Room k A)(h:j<=k):Room j A:=⟨r.hd,by have:=r.dp; omega,by have:=r.un; omega,by first | exact r.gd | (show pushGuards _ _=_; rw [r.gd]; rfl) | (simp [VQ,pushGuards,Wx,V9,r.gd])⟩
theorem Room.deeper{k:Nat}{A:Around}(r:Room (k+1) A)(env:Env):Room k (A.deeper env) :=
 ⟨r.hd,by have:=r.dp; show A.depth+1+3*k+5<_; omega,by have:=r.un; show A.units+3+16*k+200<_; omega,by first | exact r.gd | (show pushGuards _ _=_; rw [r.gd]; rfl) | (simp [VQ,pushGuards,Wx,V9,r.gd])⟩
theorem Room.in1{k:Nat}{A:Around}(r:Room (k+1) A):Room k A.in1 :=
 ⟨r.hd,by have:=r.dp; show A.depth+3*k+5<_; omega,by have:=r.un; show A.units+1+16*k+200<_; omega,by first | exact r.gd | (show pushGuards _ _=_; rw [r.gd]; rfl) | (simp [VQ,pushGuards,Wx,V9,r.gd])⟩
theorem Jy{A:Around}{C:Addr}{us:List Value}{kw:List (Str×Value)}:(A.under (.builtin "type.__call__" ⟨.ref C::us,kw⟩)).depth=A.depth+1:=by
 first | rfl | simp [VQ,Code.weight,Code.isCreation,V9,Code.isCaller,Code.frames,XI,guardIds]
theorem Jx{A:Around}{C:Addr}{us:List Value}{kw:List (Str×Value)}:(A.under (.builtin "type.__call__" ⟨.ref C::us,kw⟩)).units=A.units+1:=by
 first | rfl | simp [VQ,Code.cUnits,Code.frames,XI]
theorem Room.make{k:Nat}{A:Around}(r:Room (k+1) A)(C:Addr)(us:List Value)(kw:List (Str×Value)):Room k (A.under (.builtin "type.__call__" ⟨.ref C::us,kw⟩)) :=
 ⟨r.hd,by have:=r.dp; rw [Jy]; omega,by have:=r.un; rw [Jx]; omega,by first | exact r.gd | (show pushGuards _ _=_; rw [r.gd]; rfl) | (simp [VQ,pushGuards,Wx,V9,r.gd])⟩
theorem Room.depth{k:Nat}{A:Around}(r:Room k A):A.depth<recursionLimit:=by have:=r.dp; omega
theorem Room.units0{k:Nat}{A:Around}(r:Room k A):A.units<cLine:=by have:=r.un; omega
noncomputable def Nz:TA:=λ_ H Q=>Q [] H
noncomputable def KQ(ta:TE)(tr:TA):TA:=λσ H Q=>ta σ H λx H1=>tr σ H1 λxs H2=>Q (x::xs) H2
section
variable {X:Cx}{e:Expr}{es:List Expr}{te:TE}{t:TA}{pos:Pos}
theorem BU:PA X [] Nz:=λ_ _ _ _ H Q I h=>Calls.spliced_nil ⟨[],H,I,.nil,h⟩
theorem Az(ha:PE X e te)(hr:PA X es t)(hs:autoParam (starEach (e::es) X.env=(false,eval e X.env)::starEach es X.env) zau3._auto_1):PA X (e::es) (KQ te t):=by
 intro pos pins s σ H Q I h
 rw [hs]
 show wpAny _ _ (spliced ((false,eval e X.env)::backTo pos (starEach es X.env))) _ _ s
 refine Calls.spliced_cons (A3 (ha pins s σ H _ I h) λu s1 ⟨x,H1,I1,r1,q1⟩=>?_)
 exact A3 (hr pos pins s1 σ H1 _ I1 q1) λus s2 ⟨xs,H2,I2,r2,q2⟩=>⟨x::xs,H2,I2,.cons r1 r2,q2⟩
noncomputable def Sl(t:TA):TE:=λσ H Q=>t σ H λxs H1=>xs.length<=sizeLine/\∀p,H1 p=none->Q (.ref p) (Ac H1 p (.tup xs))
noncomputable def Sq(t:TA):TE:=λσ H Q=>t σ H λxs H1=>xs.length<=sizeLine/\∀p,H1 p=none->Q (.ref p) (Ac H1 p (.lst xs))
theorem QF{x1}(h:PA X es t):PE X (.Tuple es x1 pos) (Sl t):=by
 intro pins s σ H Q I hq
 refine wpAny_Tuple_spliced (A3 (h pos pins s σ H _ I hq) λus s1 ⟨xs,H1,I1,r,z,q⟩=>⟨by rw [← r.length]; exact z,?_⟩)
 have hf:H1 s1.heap.objs.size=none:=I1.hok.fresh (Go _)
 refine⟨.ref s1.heap.objs.size,Ac H1 s1.heap.objs.size (.tup xs),I1.laid (t':=s1.toks) (λb u e=>Cn _ e) (Go _) ?_,rfl,q _ hf⟩
 exact⟨z,us,r,IsTupN.new _ _⟩
theorem Jp(h:PA X es t):PE X (.List es pos) (Sq t):=by
 intro pins s σ H Q I hq
 refine wpAny_List_spliced (A3 (h pos pins s σ H _ I hq) λus s1 ⟨xs,H1,I1,r,z,q⟩=>⟨by rw [← r.length]; exact z,?_⟩)
 have hf:H1 s1.heap.objs.size=none:=I1.hok.fresh (Go _)
 refine⟨.ref s1.heap.objs.size,Ac H1 s1.heap.objs.size (.lst xs),I1.laid (t':=s1.toks) (λb u e=>Cn _ e) (Go _) ?_,rfl,q _ hf⟩
 exact⟨z,us,0,r,On _ rfl⟩
end
noncomputable abbrev Sp:=List V->Hp->VK->XK->Prop
noncomputable abbrev MC:=List Env->Hp->Shared->XK->Value->Shared->Prop
structure Env0 (P:Program) (w:World) (K:Frag) (mg:Str->Option Value) (base:Heap) (A:Around) (outer:List Env) (s:Shared) (H:Hp):Prop where
 frames:A.frames=some outer
 mod:Mod K mg base
 bs:∀b o,base.get? b=some o->s.heap.get? b=some o/\H b=none
 bsz:base.objs.size<=s.heap.objs.size
 funs:s.heap.FunFrames base outer
 frf:∀b∈GS outer,H b=none
 hok:HOk P w H s.heap
 bare:AllBare s.gens
noncomputable def CE(outer:List Env)(P:Program)(w:World)(H:Hp)(s:Shared)(Q:VK)(u:Value)(s':Shared):Prop :=
 ∃v H',s'.os=s.os/\AllBare s'.gens/\Un (GS outer) [] H H' s.heap s'.heap/\HOk P w H' s'.heap/\RelV v u/\Q v H'
noncomputable def CR(CX:MC)(outer:List Env)(P:Program)(w:World)(H:Hp)(s:Shared)(Q:VK)(E:XK)(r:Result)(s':Shared):Prop :=
 match r with
 | .ok (.ret u)=>CE outer P w H s Q u s'
 | .ok _=>False
 | .error e=>CX outer H s E e s'
structure A1 (P:Program) (w:World) (K:Frag) (mg:Str->Option Value) (base:Heap) (CX:MC) (k:Nat) (f:Addr) (fd:FuncData) (ps:List Str) (sp:Sp):Prop where
 len:∀vs H Q E,sp vs H Q E->vs.length=ps.length
 run:∀(A:Around) (outer:List Env) (s:Shared) (H:Hp) (args:Args) (us:List Value) (vs:List V) (Q:VK) (E:XK),Room k A->Env0 P w K mg base A outer s H->BindsTo s fd args (ps.zip us)->Vals vs us->sp vs H Q E ->
  codeAny (model P w) A (.call (.ref f) args) (CR CX outer P w H s Q E) s
theorem Env0.make{P:Program}{w:World}{K:Frag}{mg:Str->Option Value}{base:Heap}{A:Around}{outer:List Env}{s:Shared}{H:Hp}(e:Env0 P w K mg base A outer s H)(C:Addr)(us:List Value)(kw:List (Str×Value)) :
  Env0 P w K mg base (A.under (.builtin "type.__call__" ⟨.ref C::us,kw⟩)) outer s H:=⟨by first | exact e.frames | (simpa [VQ,Code.envs,XI,pushEnvs] using e.frames),e.mod,e.bs,e.bsz,e.funs,e.frf,e.hok,e.bare⟩
theorem Env0.in1{P:Program}{w:World}{K:Frag}{mg:Str->Option Value}{base:Heap}{A:Around}{outer:List Env}{s:Shared}{H:Hp}(e:Env0 P w K mg base A outer s H) :
  Env0 P w K mg base A.in1 outer s H:=⟨e.frames,e.mod,e.bs,e.bsz,e.funs,e.frf,e.hok,e.bare⟩
section
variable {X:Cx}{pins:List (Addr×Obj)}{σ:St}{H:Hp}{s s':Shared}
theorem Inv.env0(I:Inv X pins σ H s):Env0 X.prog X.w X.K X.mg X.base X.A X.stack s H :=
 ⟨I.ok.frames,I.ok.mod,I.bs,T6 I.ok.bsz I.sz,I.stack,I.stkFree,I.hok,I.bare⟩
theorem Inv.after{Q:VK}{u:Value}(I:Inv X pins σ H s)(h:CE X.stack X.prog X.w H s Q u s'):EP X pins σ Q u s':=by
 obtain⟨v,H',os,bare,un,hok,r,q⟩:=h
 obtain⟨hh,g,d,t,os'⟩:=s'
 obtain rfl:os'=s.os:=os
 exact⟨v,H',I.call (h':=hh) (g':=g) (d':=d) (t':=t) (ch:=[]) un hok bare (λb z=>absurd z (by simp)),r,q⟩
end
noncomputable def MP(sp:Sp)(dvs:List V)(E:XK)(t:TA):TE:=λσ H Q=>t σ H λvs H1=>sp (vs++dvs) H1 Q E
noncomputable def Binds(K:Frag)(fd:FuncData)(ps:List Str)(ds:List Value):Prop :=
 ∀(s:Shared) (us:List Value),K.In s.heap->(us++ds).length=ps.length->BindsTo s fd ⟨us,[]⟩ (ps.zip (us++ds))
theorem Binds.all{K:Frag}{fd:FuncData}{ps:List Str}(h:∀us:List Value,us.length=ps.length->bindArgs fd ⟨us,[]⟩=pure (ps.zip us)):Binds K fd ps []:=λs us _ hl=>by
 rw [UL] at hl ⊢
 exact .of_eq (h us hl)
noncomputable def EK(CX:MC)(X:Cx)(E:XK):Prop:=∀(pins:List (Addr×Obj)) (σ:St) (H:Hp) (s:Shared) (e:Value) (s':Shared),Inv X pins σ H s->CX X.stack H s E e s'->X.xe e s'
section
variable {X:Cx}{CX:MC}{k:Nat}{f C:Addr}{fd:FuncData}{ps:List Str}{sp:Sp}{dvs:List V}{ds:List Value}{E:XK}{x m:Str}{p pos apos:Pos}{e o:Expr}{es:List Expr}{ta:TE}{t:TA}
theorem P0{pins:List (Addr×Obj)}{σ:St}{H:Hp}{s:Shared}{Q:VK}{us:List Value}{vs:List V}(F:A1 X.prog X.w X.K X.mg X.base CX k f fd ps sp)(hr:Room k X.A)(hb:Binds X.K fd ps ds)(hd:Vals dvs ds)(hx:EK CX X E)
  (I:Inv X pins σ H s) (r:Vals vs us) (h:sp (vs++dvs) H Q E):wpAny (model X.prog X.w) X.A (call (.ref f) us) (EP X pins σ Q) X.xe s:=by
 have r2:Vals (vs++dvs) (us++ds):=r.append hd
 have hl:(us++ds).length=ps.length:=by rw [← r2.length]; exact F.len _ _ _ _ h
 refine U7 (U_ (F.run X.A X.stack s H ⟨us,[]⟩ (us++ds) (vs++dvs) Q E hr I.env0 (hb s us I.kIn hl) r2 h) λr s' hq=>?_)
 cases r with
 | error e=>exact hx pins σ H s e s' I hq
 | ok fl =>
  cases fl with
  | ret u=>exact I.after hq
  | next=>exact T5 hq
  | brk=>exact T5 hq
  | cont=>exact T5 hq
theorem Kb(F:A1 X.prog X.w X.K X.mg X.base CX k f fd ps sp)(hr:Room k X.A)(hg:Gl X x)(hm:X.mg x=some (.ref f))(hk:keepIn X.K (.ref f)=true)(hb:Binds X.K fd ps ds)(hd:Vals dvs ds)(hx:EK CX X E)
  (ha:PA X (e::es) t) (hdb:autoParam ((x==("__debug__" : Str))=false) zau1._auto_1) (he:autoParam (starEach (e::es) X.env=(false,eval e X.env)::starEach es X.env) zau3._auto_1) (hpl:autoParam ((backTo pos (starEach es X.env)).any (·.1)=false) zau3._auto_1) :
  PE X (.Call (.Name x p) (e::es) [] pos) (MP sp dvs E t):=by
 intro pins s σ H Q I h
 refine Uf (Bq I hg hm ?_ hdb)
 refine PySem.W.callWith_K (h₀:=X.base) I.ok.mod.kin hk (A3 (ha pos pins s σ H _ I h) λus s1 ⟨vs,H1,I1,r,q⟩=>⟨I1.kIn,?_⟩) he hpl
 exact P0 F hr hb hd hx I1 r q
structure Mk (K:Frag) (C f:Addr):Prop where
 makes:PySem.W.makesIn K C=true
 init:PySem.W.findIn K (.ref C) "__init__"=some (some (.ref f))
 fn:PySem.W.isFn K (.ref f)=true
 kp:keepIn K (.ref C)=true
end
section
variable {X:Cx}{CX:MC}{k:Nat}{f C:Addr}{fd:FuncData}{ps ks:List Str}{sp:Sp}{E:XK}{x m:Str}{p pos apos kpos:Pos}{e o:Expr}{es:List Expr}{kws:List Keyword}{te ta:TE}{t tk:TA}{nm:Option Str}
structure TF (K:Frag) (fd:FuncData) (ps ks:List Str) (g:List Value->List Value->List Value) (gV:List V->List V->List V):Prop where
 to:∀(s:Shared) (us ws:List Value),K.In s.heap->(g us ws).length=ps.length->BindsTo s fd ⟨us,ks.zip ws⟩ (ps.zip (g us ws))
 rel:∀{vs:List V} {us:List Value} {zs:List V} {ws:List Value},Vals vs us->Vals zs ws->Vals (gV vs zs) (g us ws)
variable {g:List Value->List Value->List Value}{gV:List V->List V->List V}
end
structure AT (N P:List Str) (sc:Scope):Prop where
 kind:sc.kind=.function
 co:sc.isCoroutine=false
 gen:sc.isGenerator=false
 nd:N.Nodup
 pre:N.take P.length=P
 par:∀x∈P,sc.names.lookup x=some .local\/sc.names.lookup x=some .cell
 nofree:∀y∈sc.names,y.2≠.free
theorem Gc{kindOf:Str->Option NameKind}{x:Str}:∀{binds:List (Str×Value)} {m:Str->Option Value},(∀v,(x,v)∉binds)->bindL kindOf binds m x=m x
 | [],_,_=>rfl
 | (n,v)::r,m,h=>by
  unfold bindL
  rw [Gc λw hw=>h w (Op _ hw)]
  split
  ·have:x≠n:=by rintro rfl; exact h v Tv
   simp [this]
  ·rfl
theorem Ge{kindOf:Str->Option NameKind}{x:Str}:∀{binds:List (Str×Value)} {m:Str->Option Value},(∀v,(x,v)∉binds)->bindC kindOf binds m x=m x
 | [],_,_=>rfl
 | (n,v)::r,m,h=>by
  unfold bindC
  rw [Ge λw hw=>h w (Op _ hw)]
  split
  ·rfl
  ·have:x≠n:=by rintro rfl; exact h v Tv
   simp [this]
theorem Gd{kindOf:Str->Option NameKind}{x:Str}{v:Value}:∀{P:List Str} {vs:List Value} {i:Nat} {m:Str->Option Value},P.Nodup->P[i]?=some x->vs[i]?=some v->kindOf x=some .local ->
  bindL kindOf (P.zip vs) m x=some v
 | [],_,_,_,_,h,_,_=>by simp at h
 | _::_,[],_,_,_,_,h,_=>by simp at h
 | p::P,w::vs,0,m,nd,h1,h2,hk=>by
  simp at h1 h2; subst h1; subst h2
  show bindL kindOf ((p,w)::P.zip vs) m p=_
  unfold bindL
  rw [Gc λv hv=>(VE.mp nd).1 (V_ hv).1,if_pos hk]
  simp
 | p::P,w::vs,i+1,m,nd,h1,h2,hk=>by
  show bindL kindOf ((p,w)::P.zip vs) m x=_
  unfold bindL
  exact Gd (i:=i) (VE.mp nd).2 (by simpa using h1) (by simpa using h2) hk
theorem Gg{kindOf:Str->Option NameKind}{x:Str}{v:Value}:∀{P:List Str} {vs:List Value} {i:Nat} {m:Str->Option Value},P.Nodup->P[i]?=some x->vs[i]?=some v->kindOf x≠some .local ->
  bindC kindOf (P.zip vs) m x=some v
 | [],_,_,_,_,h,_,_=>by simp at h
 | _::_,[],_,_,_,_,h,_=>by simp at h
 | p::P,w::vs,0,m,nd,h1,h2,hk=>by
  simp at h1 h2; subst h1; subst h2
  show bindC kindOf ((p,w)::P.zip vs) m p=_
  unfold bindC
  rw [Ge λv hv=>(VE.mp nd).1 (V_ hv).1,if_neg hk]
  simp
 | p::P,w::vs,i+1,m,nd,h1,h2,hk=>by
  show bindC kindOf ((p,w)::P.zip vs) m x=_
  unfold bindC
  exact Gg (i:=i) (VE.mp nd).2 (by simpa using h1) (by simpa using h2) hk
noncomputable def start(N:List Str)(vs:List V):St:=vs.map some++Is (N.length - vs.length) none
noncomputable def Cr(CX:MC)(P:Program)(w:World)(K:Frag)(mg:Str->Option Value)(base:Heap)(N:List Str)(qual:Str)(scope:Scope)(f:Addr)(cd:Value)(A:Around)(outer:List Env)(s:Shared)(H:Hp)(E:XK):Cx where
 prog:=P
 w:=w
 K:=K
 mg:=mg
 base:=base
 A:=A.deeper (envOfC qual scope s.heap.objs.size f cd)
 N:=N
 s₀:=s
 H₀:=H
 env:=envOfC qual scope s.heap.objs.size f cd
 outer:=outer
 stack:=envOfC qual scope s.heap.objs.size f cd::outer
 ex:=[]
 calm:=true
 fn:=λ_=>true
 pn:=[]
 xe:=λe s'=>wpAny (model P w) (A.deeper (envOfC qual scope s.heap.objs.size f cd)) (leaving (envOfC qual scope s.heap.objs.size f cd) e) (λ_ s''=>CX outer H s E e s'') (λe' s''=>CX outer H s E e' s'') s'
theorem Iy{sc:Scope}{n:Nat}{x:Str}(h:sc.names.lookup x=some .cell):∃c,(cellsFrom n sc.names []).lookup x=some c:=by
 have q:=PySem.W.cellsFrom_some sc.names n [] (.inl h)
 exact Option.isSome_iff_exists.mp q
theorem GQ{CX:MC}{P:Program}{w:World}{K:Frag}{mg:Str->Option Value}{base:Heap}{N ps:List Str}{qual:Str}{scope:Scope}{f:Addr}{cd:Value}{A:Around}{outer:List Env}{s s1:Shared}{H:Hp}{E:XK}{us:List Value}{vs:List V}
  (S:AT N ps scope) (hd:A.handled=none) (e0:Env0 P w K mg base A outer s H) (hl:vs.length=ps.length) (r:Vals vs us)
  (x:InCallC s s.heap.objs.size (bindL (envOfC qual scope s.heap.objs.size f cd).kindOf (ps.zip us) λ_=>none) (cellsFrom (s.heap.objs.size+1) scope.names []) (bindC (envOfC qual scope s.heap.objs.size f cd).kindOf (ps.zip us) λ_=>none) s1) :
  Inv (Cr CX P w K mg base N qual scope f cd A outer s H E) [] (start N vs) H s1:=by
 have hpl:ps.length<=N.length:=by have:=congrArg WN S.pre; rw [Uu] at this; omega
 obtain⟨h1,tk,rfl,hk⟩:=x.done
 have noA:∀b:Addr,b∉(Cr CX P w K mg base N qual scope f cd A outer s H E).ex:=λb z=>absurd (show b∈([]:List Addr) from z) (by simp)
 refine⟨⟨e0.mod,S.kind,rfl,rfl,Go _,λy z c h1 h2=>?_,λy hy=>?_,λy c _ h=>?_,λ_=>hd,W4 e0.frames,.inr ⟨rfl,rfl⟩,λb z=>absurd z (noA b),e0.bs,e0.bsz,λb _ _=>noA b,λb z=>absurd z (noA b),e0.funs,e0.frf⟩,
  rfl,e0.bare,Un.kept hk,⟨_,x.toInCall.ns,λi y v h1 h2 h3=>?_⟩,λy c h=>⟨_,x.cell y c h⟩,e0.hok.fresh (Go _),λy c h=>?_,λp hp=>absurd (show p∈([]:List (Addr×Obj)) from hp) (by simp),e0.hok.kept hk,?_⟩
 ·exact name_of_addr x.apart (PySem.mem_of_lookup h1) (PySem.mem_of_lookup h2)
 ·have hy:scope.names.lookup y=some .cell\/scope.names.lookup y=some .free:=hy
  rcases hy with hy | hy
  ·exact Iy hy
  ·exact absurd rfl (S.nofree _ (PySem.mem_of_lookup hy))
 ·exact Wi (x.above y c (PySem.mem_of_lookup h))
 ·have hi:i<vs.length:=by
   unfold start at h2
   by_cases hi:i<vs.length
   ·exact hi
   ·rw [UY (by simpa using hi)] at h2
    rw [Vr] at h2
    split at h2 <;> cases h2
  have ha:vs[i]?=some v:=by
   unfold start at h2
   rw [U8 (by simpa using hi),UF] at h2
   cases e:vs[i]? with
   | none=>rw [e] at h2; cases h2
   | some a=>rw [e] at h2; cases h2; rfl
  obtain⟨u,hu,rv⟩:=r.get ha
  have hp:ps[i]?=some y:=by
   rw [← S.pre,List.getElem?_take_of_lt (by omega)]; exact h1
  have ndP:ps.Nodup:=by rw [← S.pre]; exact S.nd.sublist (List.take_sublist _ _)
  refine⟨u,rv,?_⟩
  rcases S.par y (Uh hp) with k | k
  ·exact .inl ⟨k,Gd ndP hp hu k⟩
  ·obtain⟨c,e⟩:=Iy (n:=s.heap.objs.size+1) k
   refine .inr ⟨.inl k,c,e,?_⟩
   have q:=x.cell y c e
   rw [Gg ndP hp hu (by show scope.names.lookup y≠_; rw [k]; decide)] at q
   exact q
 ·exact e0.hok.fresh (Wi (x.above y c (PySem.mem_of_lookup h)))
 ·unfold start
  show _=N.length
  rw [Tz,Ev,VS]
  omega
theorem PN{CX:MC}{P:Program}{w:World}{K:Frag}{mg:Str->Option Value}{base:Heap}{k:Nat}{f:Addr}{name qual:Str}{params:Arguments}{body:List Stmt}{scope:Scope}{dV kV doc pm cdv ct oc:Value}{an od:Option Addr}
  {osl:Array (Option Value)} {N ps:List Str} {sp:Sp} (lk:K.lookup f=some ⟨oc,od,.func (fnOf name qual params body scope dV kV doc pm an cdv ct),osl⟩) (hcd:codeIn K cdv qual=true) (S:AT N ps scope)
  (len:∀vs H Q E,sp vs H Q E->vs.length=ps.length)
  (hbody:∀(A:Around) (outer:List Env) (s:Shared) (H:Hp) (vs:List V) (Q:VK) (E:XK),Room k (A.deeper (envOfC qual scope s.heap.objs.size f cdv))->sp vs H Q E ->
   ∃t,PSs (Cr CX P w K mg base N qual scope f cdv A outer s H E) body t/\t { nx:=λ_ H'=>Q .non H',rt:=Q } (start N vs) H) :
  A1 P w K mg base CX (k+1) f (fnOf name qual params body scope dV kV doc pm an cdv ct) ps sp:=by
 refine⟨len,λA outer s H args us vs Q E hr e0 hb r hsp=>?_⟩
 have hl:=len _ _ _ _ hsp
 have KX:K.In s.heap:=e0.mod.kin.keeps λb o e=>(e0.bs b o e).1
 have lim:s.heap.NoLimit:=e0.mod.nolimit.keeps λb o e=>(e0.bs b o e).1
 have hkind:∀y∈ps.zip us,scope.names.lookup y.1=some .local\/(scope.names.lookup y.1=some .cell/\((cellsFrom (s.heap.objs.size+1) scope.names []).lookup y.1).isSome=true):=fun⟨n,v⟩ hy=>by
  rcases S.par n (V_ hy).1 with q | q
  ·exact .inl q
  ·exact .inr ⟨q,PySem.W.cellsFrom_some _ _ _ (.inl q)⟩
 refine codeAny_call_function hr.depth (KX _ _ lk) rfl S.co S.gen rfl (PySem.W.codeRec_of KX hcd) (hb _ _ _ _ ?_)
 refine WU S.kind hkind λenv he s1 x=>?_
 subst he
 refine⟨lim.keeps x.toInCall.keep,codeAny_func ?_⟩
 obtain⟨t,ht,hq⟩:=hbody A outer s H vs Q E (hr.deeper _) hsp
 have I:Inv (Cr CX P w K mg base N qual scope f cdv A outer s H E) [] (start N vs) H s1:=GQ S hr.hd e0 hl r x
 refine UC (ht [] s1 (start N vs) H _ I hq) (λfl s' hs=>?_) λe s' hs=>hs
 have fin:∀{σ':St} {H':Hp} {v:V} {u:Value},Inv (Cr CX P w K mg base N qual scope f cdv A outer s H E) [] σ' H' s'->RelV v u->Q v H'->CE outer P w H s Q u s' :=
  λ{σ' H' v u} J rv q=>⟨v,H',J.os,J.bare,J.base,J.hok,rv,q⟩
 cases fl with
 | ret u =>
  obtain⟨v,σ',H',J,rv,q⟩:=hs
  exact fin J rv q
 | next =>
  obtain⟨σ',H',J,q⟩:=hs
  exact fin (v:=V.non) (u:=T9) J rfl q
 | brk =>
  obtain⟨_,_,_,q⟩:=hs
  exact T5 q
 | cont =>
  obtain⟨_,_,_,q⟩:=hs
  exact T5 q
section
variable {X:Cx}{x:Str}{p pos:Pos}{e:Expr}{es:List Expr}{t:TA}{id T:String}{r:List V->Hp->VK->Prop}
noncomputable def SN(r:List V->Hp->VK->Prop)(t:TA):TE:=λσ H Q=>t σ H λvs H1=>r vs H1 Q
theorem B5(hc:CK X (.builtin id) r)(hg:Gl X x)(hm:X.mg x=none)(hv:bootBuiltins x=some (.builtin id))(ha:PA X (e::es) t)(hn:autoParam (x ≠ "__name__") zau1._auto_1)(hdb:autoParam ((x==("__debug__" : Str))=false) zau1._auto_1)
  (he:autoParam (starEach (e::es) X.env=(false,eval e X.env)::starEach es X.env) zau3._auto_1) (hpl:autoParam ((backTo pos (starEach es X.env)).any (·.1)=false) zau3._auto_1):PE X (.Call (.Name x p) (e::es) [] pos) (SN r t):=by
 intro pins s σ H Q I h
 refine Uf (CW I hg hm hv ?_ hn hdb)
 exact PyProof.Rows.callWith_builtin1 (A3 (ha pos pins s σ H _ I h) λus s1 ⟨vs,H1,I1,r1,q1⟩=>hc pins s1 σ H1 vs us Q I1 r1 q1) he hpl
theorem GK(hc:CK X (.type T) r)(hg:Gl X x)(hm:X.mg x=none)(hv:bootBuiltins x=some (.type T))(ha:PA X (e::es) t)(hn:autoParam (x ≠ "__name__") zau1._auto_1)(hdb:autoParam ((x==("__debug__" : Str))=false) zau1._auto_1)
  (he:autoParam (starEach (e::es) X.env=(false,eval e X.env)::starEach es X.env) zau3._auto_1) (hpl:autoParam ((backTo pos (starEach es X.env)).any (·.1)=false) zau3._auto_1):PE X (.Call (.Name x p) (e::es) [] pos) (SN r t):=by
 intro pins s σ H Q I h
 refine Uf (CW I hg hm hv ?_ hn hdb)
 exact Ul (A3 (ha pos pins s σ H _ I h) λus s1 ⟨vs,H1,I1,r1,q1⟩=>hc pins s1 σ H1 vs us Q I1 r1 q1) he hpl
end
end L2
namespace HT
open PySem PyProof.Rows
section
open PySem.SeqAt
open PySem.AutoSeq1 (wpAny_loadPart')
open PySem.MeetsSeq PySem.MeetsSeq2 PySem.MeetsSeq3
end
section
variable {prog:Program}{w:World}{A:Around}{E:Value->Shared->Prop}{s:Shared}
theorem cat_tup{t b:Addr}{vs ws:List Value}{Q:Value->Shared->Prop}(ht:IsTup s.heap t vs.toArray)(hb:IsTup s.heap b ws.toArray)(hv:vs≠[])
  (h1:ws=[]->Q (.ref t) s) (h2:ws≠[]->Q (.ref s.heap.objs.size) { s with heap:=s.heap.push { cls:=.type "tuple",data:=.seq (vs++ws).toArray } })
  (hsz:vs.length+ws.length<=sizeLine):wpAny (model prog w) A (binaryOp .Add (.ref t) (.ref b)) Q E s:=by
 obtain⟨⟨cls,dd,data,sl⟩,ho,hc,n,hd⟩:=id ht
 obtain⟨⟨cls2,dd2,data2,sl2⟩,ho2,hc2,n2,hd2⟩:=id hb
 simp only at hc hd hc2 hd2
 subst hc hd hc2 hd2
 have e:vs.toArray++ws.toArray=(vs++ws).toArray:=by simp
 by_cases hw:ws=[]
 ·exact concat_meets ⟨_,ho,rfl⟩ ⟨_,ho2,rfl⟩ Wj seq_tuple_add PySem.F.slot_tuple_add PySem.F.entry_tuple_add (PySem.F.args_tuple_add_2 _ _)
   (tuple_addW1 t b vs.toArray ws.toArray n n2 dd dd2 sl sl2 (by simpa using hv) (by simp [hw])) ⟨ho,ho2,h1 hw⟩
 ·refine concat_meets ⟨_,ho,rfl⟩ ⟨_,ho2,rfl⟩ Wj seq_tuple_add PySem.F.slot_tuple_add PySem.F.entry_tuple_add (PySem.F.args_tuple_add_2 _ _)
   (tuple_addW2 t b vs.toArray ws.toArray n n2 dd dd2 sl sl2 (by simpa using hv) (by simpa using hw) (by rw [Re,Re]; exact hsz)) ⟨ho,ho2,?_⟩
  rw [e]
  exact h2 hw
noncomputable def sIx(n d:Nat):Option Int->Nat
 | none=>d
 | some v=>if v<0 then (v+(n:Int)).toNat else min v.toNat n
theorem sIx_none(n d:Nat):sIx n d none=d:=rfl
theorem sIx_nat(n d k:Nat):sIx n d (some (k:Int))=min k n:=by
 show (if (k:Int)<0 then ((k:Int)+(n:Int)).toNat else min (k:Int).toNat n)=min k n
 rw [if_neg (by omega),VN]
theorem Pz(n d:Nat)(hd:d<=n)(o:Option Int):sIx n d o<=n:=by
 cases o with
 | none=>exact hd
 | some v =>
  show (if v<0 then (v+(n:Int)).toNat else min v.toNat n)<=n
  by_cases hv:v<0
  ·rw [if_pos hv]; omega
  ·rw [if_neg hv]; exact Wk _ _
theorem K1(v:Int)(n d:Nat):(if v<0 then max (v+(n:Int)) 0 else min v (n:Int))=((sIx n d (some v):Nat):Int):=by
 show (if v<0 then max (v+(n:Int)) 0 else min v (n:Int))=(((if v<0 then (v+(n:Int)).toNat else min v.toNat n):Nat):Int)
 by_cases hv:v<0
 ·simp only [if_pos hv]; omega
 ·simp only [if_neg hv]; omega
theorem KI(lo hi:Option Int)(n:Nat):Vf lo hi 1 (n:Int)=(((sIx n 0 lo:Nat):Int),((sIx n n hi:Nat):Int)):=by
 have h1:¬((1:Int)<0):=by omega
 unfold Vf
 simp only [h1,if_false]
 refine Prod.ext ?_ ?_
 ·cases lo with
  | none=>rfl
  | some v=>exact K1 v n 0
 ·cases hi with
  | none=>rfl
  | some v=>exact K1 v n n
theorem Jm(i j:Nat):U9 (i:Int) (j:Int) 1=j - i:=by
 unfold U9
 have h1:(1:Int) > 0:=by omega
 simp only [h1,if_true,Int.ediv_one]
 split <;> omega
theorem E9{v:Value}{o:Option Int}{Q:Option Int->Shared->Prop}(p:IsPart v o)(h:Q o s):wpAny (model prog w) A (Builtin.Slice.slicePartIndex v) Q E s:=by
 cases p with
 | none=>exact slicePart_none h
 | int i t=>exact slicePart_int h
theorem sliceApplied_gen{sl:Addr}{vl vu:Value}{lo hi:Option Int}{n:Nat}{Q:Int×Int×Nat->Shared->Prop}(hs:s.heap.IsSliceOf sl vl vu .none)(pl:IsPart vl lo)(pu:IsPart vu hi)
  (h:Q (((sIx n 0 lo:Nat):Int),1,sIx n n hi - sIx n 0 lo) s):wpAny (model prog w) A (WV (.ref sl) (pure (n:Int))) Q E s:=by
 obtain⟨os,hos,hcs,hds⟩:=id hs
 unfold WV Builtin.Slice.sliceFields
 refine Ch (Ch (UE hos hds (x:=vl) rfl (Ch (UE hos hds (x:=vu) rfl (Ch (UE hos hds (x:=.none) rfl (Db ?_)))))))
 refine Ch (slicePart_none ?_)
 show wpAny _ _ (if ((1:Int)==0)=true then _ else _) _ _ s
 rw [if_neg (by decide)]
 refine Ch (E9 pl (Ch (E9 pu (Ch (Db ?_)))))
 show wpAny _ _ (match Vf lo hi 1 (n:Int) with | (lo,hi)=>pure (lo,(1:Int),U9 lo hi 1)) _ _ s
 rw [KI lo hi n]
 show wpAny _ _ (pure (((sIx n 0 lo:Nat):Int),(1:Int),U9 ((sIx n 0 lo:Nat):Int) ((sIx n n hi:Nat):Int) 1)) _ _ s
 rw [Jm]
 exact Db h
theorem Mf(xs:Array Value)(i k:Nat):((T_ k).filterMap fun(m:Nat)=>xs[((i:Int)+(m:Int)*1).toNat]?).toArray=((xs.toList.drop i).take k).toArray:=by
 have e:(fun(m:Nat)=>xs[((i:Int)+(m:Int)*1).toNat]?)=λm=>xs[i+m]?:=by
  funext m
  have:((i:Int)+(m:Int)*1).toNat=i+m:=by omega
  rw [this]
 rw [e]
 have:=pick_run xs i k
 rw [List.filterMap_map] at this
 have e2:((λx=>xs[x]?)∘λx=>i+x)=λm=>xs[i+m]?:=rfl
 rw [e2] at this
 rw [this]
theorem getItem_tuple_cut{t sl:Addr}{items:Array Value}{vl vu:Value}{lo hi:Option Int}{Q:Value->Shared->Prop}(ht:IsTup s.heap t items)(hs:s.heap.IsSliceOf sl vl vu .none)(pl:IsPart vl lo)(pu:IsPart vu hi)
  (hw:¬(sIx items.size 0 lo=0/\sIx items.size items.size hi=items.size))
  (h:Q (.ref s.heap.objs.size) { s with heap:=s.heap.push { cls:=.type "tuple",data:=.seq ((items.toList.drop (sIx items.size 0 lo)).take (sIx items.size items.size hi - sIx items.size 0 lo)).toArray } })
  (hsz:items.size<=sizeLine):wpAny (model prog w) A (getItem (.ref t) (.ref sl)) Q E s:=by
 have htake:sizeOk (.seq ((items.toList.drop (sIx items.size 0 lo)).take (sIx items.size items.size hi - sIx items.size 0 lo)).toArray):=by
  show ((items.toList.drop (sIx items.size 0 lo)).take (sIx items.size items.size hi - sIx items.size 0 lo)).toArray.size<=sizeLine
  rw [Re,Uu,V1,Ua]
  omega
 have hj:sIx items.size items.size hi<=items.size:=Pz _ _ (Go _) hi
 obtain⟨os,hos,hcs,hds⟩:=id hs
 have hTs:s.TypeIs (.ref sl) "slice":=⟨os,hos,hcs⟩
 unfold getItem
 try with_reducible refine UR ?_
 first | refine Ch (Db ?_) | skip
 refine Ch (wpAny_sequenceKey ht.typeIs (by decide) ?_)
 refine Ch (UW (name:=UM "__getitem__") ht.typeIs UN
  (Uv UN ht.typeIs entry_tuple_getitem ?_ (args_tuple_getitem _ _)))
 show wpAny _ _ (WW (.ref t) >>= _) _ _ s
 refine Ch (tupleItemsOf_ ht ?_)
 refine Ch (Wl hTs ?_)
 rw [if_pos (by decide)]
 refine Ch (sliceApplied_gen hs pl pu ?_)
 have hno:¬((((sIx items.size 0 lo:Nat):Int)==0&&(1:Int)==1&&(sIx items.size items.size hi - sIx items.size 0 lo)==items.size)=true):=by
  intro q
  rw [Tu,Tu] at q
  have q1:((sIx items.size 0 lo:Nat):Int)=0:=eq_of_beq q.1.1
  have q2:sIx items.size items.size hi - sIx items.size 0 lo=items.size:=eq_of_beq q.2
  exact hw ⟨by omega,by omega⟩
 show wpAny _ _ (if (((sIx items.size 0 lo:Nat):Int)==0&&(1:Int)==1&&(sIx items.size items.size hi - sIx items.size 0 lo)==items.size)=true then _ else _) _ _ s
 rw [if_neg hno,Mf]
 first
  | exact Ch (m:=Us _) (UO (Db ⟨_,rfl,Db h⟩) htake)
  | exact Ch (m:=Us _) (UO (Ch (Db (Db ⟨_,rfl,Db h⟩))) htake)
  | exact Ch (Ch (m:=Us _) (UO (Db (Db ⟨_,rfl,Db h⟩)) htake))
  | exact Ch (Ch (m:=Us _) (UO (Db ⟨_,rfl,Db h⟩) htake))
end
end HT
namespace L2
open PySem PySem.Spec PyProof.Rows
noncomputable abbrev TO:=St->Hp->(Option Int->Hp->Prop)->Prop
noncomputable def PO(X:Cx)(e:Option Expr)(t:TO):Prop :=
 ∀(pins:List (Addr×Obj)) (s:Shared) (σ:St) (H:Hp) (Q:Option Int->Hp->Prop),Inv X pins σ H s->t σ H Q ->
  wpAny (model X.prog X.w) X.A (evalPart e X.env) (λu s'=>∃o H',Inv X pins σ H' s'/\IsPart u o/\Q o H') X.xe s
noncomputable def Ny:TO:=λ_ H Q=>Q none H
noncomputable def RJ(t:TE):TO:=λσ H Q=>t σ H λx H1=>∃i,x=.int i/\Q (some i) H1
section
variable {X:Cx}{e:Expr}{te:TE}{lo hi:Option Expr}{tl th:TO}{pos p2:Pos}
theorem Ka:PO X none Ny:=by
 intro pins s σ H Q I h
 rw [evalPart_none]
 exact Db ⟨none,H,I,.none,h⟩
theorem KZ(h:PE X e te):PO X (some e) (RJ te):=by
 intro pins s σ H Q I hw
 rw [evalPart_some]
 refine A3 (h pins s σ H _ I hw) λu s1 ⟨x,H1,I1,r1,q1⟩=>?_
 obtain⟨i,rfl,q⟩:=q1
 obtain⟨t,rfl⟩:=r1
 exact⟨some i,H1,I1,.int i t,q⟩
noncomputable def SlR(X:Cx)(r:V->Option Int->Option Int->Hp->VK->Prop):Prop :=
 ∀(pins:List (Addr×Obj)) (s:Shared) (σ:St) (H:Hp) (x:V) (v vl vu:Value) (lo hi:Option Int) (sl:Addr) (Q:VK),Inv X pins σ H s->RelV x v->s.heap.IsSliceOf sl vl vu .none->IsPart vl lo->IsPart vu hi->r x lo hi H Q ->
  ∃T id,typeLookup (.type T) "__getitem__"=pure (some (.builtin id))/\s.TypeIs v T/\wpAny (model X.prog X.w) X.A (getItem v (.ref sl)) (EP X pins σ Q) X.xe s
theorem SlR.or{r r':V->Option Int->Option Int->Hp->VK->Prop}(h:SlR X r)(h':SlR X r'):SlR X (λx lo hi H Q=>r x lo hi H Q\/r' x lo hi H Q):=by
 intro pins s σ H x v vl vu lo hi sl Q I rx hs pl pu q
 rcases q with q | q
 ·exact h pins s σ H x v vl vu lo hi sl Q I rx hs pl pu q
 ·exact h' pins s σ H x v vl vu lo hi sl Q I rx hs pl pu q
noncomputable def Te(r:V->Option Int->Option Int->Hp->VK->Prop)(te:TE)(tl th:TO):TE:=λσ H Q=>te σ H λx H1=>tl σ H1 λl H2=>th σ H2 λu H3=>r x l u H3 Q
theorem IL{r:V->Option Int->Option Int->Hp->VK->Prop}(hr:SlR X r)(he:PE X e te)(hl:PO X lo tl)(hu:PO X hi th):PE X (.Subscript e (.Slice lo hi none p2) pos) (Te r te tl th):=by
 intro pins s σ H Q I h
 refine Subscript_ (A3 (he pins s σ H _ I h) λv s1 ⟨x,H1,I1,r1,q1⟩=>?_)
 refine wpAny_Slice (A3 (hl pins s1 σ H1 _ I1 q1) λvl s2 ⟨l,H2,I2,pl,q2⟩=>A3 (hu pins s2 σ H2 _ I2 q2) λvu s3 ⟨u,H3,I3,pu,q3⟩=>?_)
 rw [evalPart_none]
 refine Db ?_
 have I4:Inv X pins σ H3 { s3 with heap:=s3.heap.push { cls:=.type "slice",data:=.fields #[vl,vu,.none] } }:=I3.kept (t':=s3.toks) λb ob q=>Cn _ q
 obtain⟨T,id,hT,ht,hg⟩:=hr pins { s3 with heap:=s3.heap.push { cls:=.type "slice",data:=.fields #[vl,vu,.none] } } σ H3 x v vl vu l u s3.heap.objs.size Q I4 r1 (Heap.IsSliceOf.new ..) pl pu q3
 show wpAny (model X.prog X.w) X.A (subscriptTail e (.Slice lo hi none p2) v (.ref s3.heap.objs.size)) (EP X pins σ Q) X.xe { s3 with heap:=s3.heap.push { cls:=.type "slice",data:=.fields #[vl,vu,.none] } }
 exact tail_any (ops:=[.ref s3.heap.objs.size,v]) ht hT hg (by with_unfolding_all rfl)
noncomputable def F_(xs:List V)(lo hi:Option Int):List V:=(xs.drop (HT.sIx xs.length 0 lo)).take (HT.sIx xs.length xs.length hi - HT.sIx xs.length 0 lo)
theorem EY(xs:List V)(lo hi:Option Int):(F_ xs lo hi).length<=xs.length:=by
 unfold F_
 rw [Uu,V1]
 omega
noncomputable def RU(K:Frag):V->Option Int->Option Int->Hp->VK->Prop:=λx lo hi H Q=>∃a xs,x=.ref a/\Du K H a xs /\
 ¬(HT.sIx xs.length 0 lo=0/\HT.sIx xs.length xs.length hi=xs.length)/\∀p,H p=none->Q (.ref p) (Ac H p (.tup (F_ xs lo hi)))
theorem sl_tup:SlR X (RU X.K):=by
 intro pins s σ H x v vl vu lo hi sl Q I rx hs pl pu h
 obtain⟨a,xs,rfl,hx,hw,q⟩:=h
 cases rx
 obtain⟨its,r,ht,hz⟩:=I.tuple hx
 have hlen:its.toArray.size=xs.length:=by rw [Re]; exact r.length.symm
 refine⟨"tuple",_,UN.lookup,ht.typeIs,?_⟩
 refine HT.getItem_tuple_cut ht hs pl pu (by rw [hlen]; exact hw) ?_ (by rw [hlen]; exact hz)
 rw [hlen]
 refine⟨.ref s.heap.objs.size,_,I.laid (t':=s.toks) (o:=.tup (F_ xs lo hi)) (λb ob q=>Cn _ q) (Go _) ?_,rfl,q _ (I.hok.fresh (Go _))⟩
 exact⟨T6 (EY xs lo hi) hz,_,(r.drop (HT.sIx xs.length 0 lo)).take (HT.sIx xs.length xs.length hi - HT.sIx xs.length 0 lo),IsTupN.new _ _⟩
noncomputable def MZ(K:Frag):R2:=λx y H Q=>∃a b xs ys,x=.ref a/\y=.ref b/\Du K H a xs/\Du K H b ys/\xs≠[]/\xs.length+ys.length<=sizeLine /\
 (ys=[]->Q (.ref a) H)/\(ys≠[]->∀p,H p=none->Q (.ref p) (Ac H p (.tup (xs++ys))))
theorem Vals.nil_iff{xs:List V}{us:List Value}(r:Vals xs us):us=[]↔xs=[]:=by
 cases r with
 | nil=>simp
 | cons _ _=>simp
theorem op_catT:OpR X (binaryOp .Add) (MZ X.K):=by
 intro pins s σ H x y v u Q I rx ry h
 obtain⟨a,b,xs,ys,rfl,rfl,ha,hb,hx,hz,q1,q2⟩:=h
 cases rx
 cases ry
 obtain⟨its,r1,p1,_⟩:=I.tuple ha
 obtain⟨its2,r2,p2,_⟩:=I.tuple hb
 refine HT.cat_tup p1 p2 (λz=>hx (r1.nil_iff.mp z)) (λz=>⟨.ref a,H,I,rfl,q1 (r2.nil_iff.mp z)⟩) (λz=>?_) (by rw [← r1.length,← r2.length]; exact hz)
 refine⟨.ref s.heap.objs.size,_,I.laid (t':=s.toks) (o:=.tup (xs++ys)) (λb ob q=>Cn _ q) (Go _) ?_,rfl,q2 (λw=>z (r2.nil_iff.mpr w)) _ (I.hok.fresh (Go _))⟩
 exact⟨by rw [Tz]; exact hz,_,r1.append r2,IsTupN.new _ _⟩
end
noncomputable def PJ(n:Nat)(i:Int):Option Nat:=if 0<=i then (if i<n then some i.toNat else none) else if -(n:Int)<=i then some (i+n).toNat else none
noncomputable def atI{α:Type}(xs:List α)(i:Int):Option α:=(PJ xs.length i).bind λj=>xs[j]?
theorem Kk{n:Nat}{i:Int}{j:Nat}(h:PJ n i=some j):seqIndex? i n=some j/\j<n/\-(n:Int)<=i/\i<n:=by
 unfold PJ at h
 by_cases h0:0<=i
 ·rw [if_pos h0] at h
  by_cases h1:i<n
  ·rw [if_pos h1] at h
   have e:i.toNat=j:=Rs h
   exact⟨by rw [seqIndex_of h0 h1,e],by omega,by omega,h1⟩
  ·rw [if_neg h1] at h; cases h
 ·rw [if_neg h0] at h
  by_cases h1:-(n:Int)<=i
  ·rw [if_pos h1] at h
   have e:(i+n).toNat=j:=Rs h
   exact⟨by rw [seqIndex_neg (by omega) h1,e],by omega,h1,by omega⟩
  ·rw [if_neg h1] at h; cases h
theorem HY{α:Type}{xs:List α}{i:Int}{v:α}(h:atI xs i=some v):∃j,seqIndex? i xs.length=some j/\xs[j]?=some v/\j<xs.length/\-(xs.length:Int)<=i/\i<xs.length:=by
 unfold atI at h
 cases e:PJ xs.length i with
 | none=>rw [e] at h; cases h
 | some j =>
  rw [e] at h
  obtain⟨h1,h2,h3,h4⟩:=Kk e
  exact⟨j,h1,h,h2,h3,h4⟩
theorem AY{α:Type}{xs:List α}{j:Nat}{v:α}(h:xs[j]?=some v):atI xs (j:Int)=some v:=by
 have hj:j<xs.length:=(T0.mp h).1
 have e:PJ xs.length (j:Int)=some j:=by
  unfold PJ
  rw [if_pos (by omega),if_pos (by omega)]; simp
 unfold atI; rw [e]; exact h
noncomputable def LF(b:Expr):Prop:=∀o i,subscripted b false o i=operate [o,i] (getItem o i)
noncomputable def IxR(X:Cx)(r:R2):Prop :=
 ∀(value slice:Expr) (pins:List (Addr×Obj)) (s:Shared) (σ:St) (H:Hp) (x y:V) (v u:Value) (Q:VK),Inv X pins σ H s->RelV x v->RelV y u->r x y H Q ->
  subscripted slice false v u=operate [v,u] (getItem v u)->wpAny (model X.prog X.w) X.A (subscriptTail value slice v u) (EP X pins σ Q) X.xe s
noncomputable def SY(X:Cx)(id:String)(r:V->List V->Hp->VK->Prop):Prop :=
 ∀(pins:List (Addr×Obj)) (s:Shared) (σ:St) (H:Hp) (x:V) (xs:List V) (v:Value) (us:List Value) (Q:VK),Inv X pins σ H s->RelV x v->Vals xs us->r x xs H Q ->
  wpAny (model X.prog X.w) X.A (call (.builtin id) (v::us)) (EP X pins σ Q) X.xe s
section
variable {X:Cx}{a b:Expr}{ta tb:TE}{pos:Pos}
theorem IxR.or{r r':R2}(h:IxR X r)(h':IxR X r'):IxR X (λx y H Q=>r x y H Q\/r' x y H Q):=by
 intro value slice pins s σ H x y v u Q I rx ry q hs
 rcases q with q | q
 ·exact h value slice pins s σ H x y v u Q I rx ry q hs
 ·exact h' value slice pins s σ H x y v u Q I rx ry q hs
theorem Cu{r:R2}(hr:IxR X r)(ha:PE X a ta)(hb:PE X b tb)(hs:LF b):PE X (.Subscript a b pos) (B3 r ta tb):=by
 intro pins s σ H Q I h
 exact Subscript_ (Qp ha hb I h λv u s2 x y H2 I2 rx ry q=>hr a b pins s2 σ H2 x y v u Q I2 rx ry q (hs _ _))
noncomputable def P5(K:Frag):R2:=λx y H Q=>∃p xs i v,x=.ref p/\y=.int i/\SqL K H p xs/\atI xs i=some v/\Q v H
noncomputable def Rb(K:Frag):R2:=λx y H Q=>∃p xs i v,x=.ref p/\y=.int i/\Du K H p xs/\atI xs i=some v/\Q v H
noncomputable def Rc:R2:=λx y H Q=>∃z i c,x=.str z/\y=.int i/\z.length<=sizeLine/\atI z.cps.toList i=some c/\Q (.str ⟨#[c]⟩) H
theorem ix_list:IxR X (P5 X.K):=by
 intro value slice pins s σ H x y v u Q I rx ry h hs
 obtain⟨p,xs,i,z,rfl,rfl,hq,he,q⟩:=h
 cases rx
 obtain⟨t,rfl⟩:=ry
 obtain⟨its,r,pl,hz⟩:=I.list hq
 obtain⟨j,h1,h2,h3,h4,h5⟩:=HY he
 obtain⟨w,ew,rw'⟩:=r.get h2
 have hl:=r.length
 have hn:=FW
 have fin:EP X pins σ Q w s:=⟨z,H,I,rw',q⟩
 by_cases h0:0<=i
 ·have hj:i.toNat=j:=by
   rw [seqIndex_of h0 h5] at h1
   exact Rs h1
  exact item_listR pl.isList h0 (by omega) (by rw [hj]; simpa using ew) fin hs
 ·have hj:(i+(its.toArray.size:Int)).toNat=j:=by
   rw [seqIndex_neg (by omega) h4] at h1
   rw [Re,← hl]
   exact Rs h1
  exact subscriptTail_builtinR (x:=w) pl.isList.typeIs slot_list_getitem.lookup
   (wpAny_getItem_list_neg (Q:=λr s'=>r=w/\EP X pins σ Q r s') pl.isList (by omega) (by rw [Re] <;> omega) (by omega) (by rw [hj]; simpa using ew) ⟨rfl,fin⟩) hs
theorem ix_tup:IxR X (Rb X.K):=by
 intro value slice pins s σ H x y v u Q I rx ry h hs
 obtain⟨p,xs,i,z,rfl,rfl,hq,he,q⟩:=h
 cases rx
 obtain⟨t,rfl⟩:=ry
 obtain⟨its,r,pl,hz⟩:=I.tuple hq
 obtain⟨j,h1,h2,h3,h4,h5⟩:=HY he
 obtain⟨w,ew,rw'⟩:=r.get h2
 have hl:=r.length
 have hn:=FW
 have fin:EP X pins σ Q w s:=⟨z,H,I,rw',q⟩
 exact subscriptTail_builtinR (x:=w) pl.typeIs UN.lookup
  (getItem_tuple (j:=j) (Q:=λr s'=>r=w/\EP X pins σ Q r s') pl (by omega) (by omega) (by rw [Re,← hl]; exact h1) (by simpa using ew) ⟨rfl,fin⟩) hs
theorem QY:IxR X Rc:=by
 intro value slice pins s σ H x y v u Q I rx ry h hs
 obtain⟨z,i,c,rfl,rfl,hz,he,q⟩:=h
 obtain⟨t,rfl⟩:=rx
 obtain⟨t',rfl⟩:=ry
 obtain⟨j,h1,h2,h3,h4,h5⟩:=HY he
 have hl:z.cps.toList.length=z.length:=by simp [Str.length]
 rw [hl] at h1 h4 h5
 have hn:=FW
 exact tail_any (typeIs_str s z t) slot_str_getitem.lookup (getItem_str (c:=c) (by
  have e1:decide (i < -(2 ^ 63:Int))=false:=decide_eq_false (by omega)
  have e2:decide (i≥2 ^ 63)=false:=decide_eq_false (by omega)
  rw [e1,e2,Bool.or_false]) (by rw [h1]; simpa using h2) ⟨.str ⟨#[c]⟩,H,I.tok _,⟨_,rfl⟩,q⟩) hs
noncomputable def TN(K:Frag):R2:=λx y H Q=>P5 K x y H Q\/Rb K x y H Q\/Rc x y H Q
theorem Am:IxR X (TN X.K):=ix_list.or (ix_tup.or QY)
theorem Jw(its:List Value)(n j:Nat)(u:Value):US (·.setIfInBounds j u) { cls:=.type "list",data:=.seq its.toArray n }={ cls:=.type "list",data:=.seq (its.set j u).toArray n }:=by
 simp [US]
theorem Inv.lst{pins:List (Addr×Obj)}{σ:St}{H:Hp}{s:Shared}{p:Addr}{xs:List V}(I:Inv X pins σ H s)(h:H p=some (.lst xs)) :
  ∃(its:List Value) (n:Nat),Vals xs its/\s.heap.get? p=some { cls:=.type "list",data:=.seq its.toArray n }/\xs.length<=sizeLine:=by
 obtain⟨z,its,n,r,e⟩:=I.hok p _ h
 exact⟨its,n,r,e,z⟩
theorem Inv.lstUpd{pins:List (Addr×Obj)}{σ:St}{H:Hp}{s:Shared}{p:Addr}{xs ys:List V}{its its':List Value}{n n':Nat}{f:Obj->Obj}(I:Inv X pins σ H s)(h:H p=some (.lst xs))
  (ho:s.heap.get? p=some { cls:=.type "list",data:=.seq its.toArray n }) (hf:f { cls:=.type "list",data:=.seq its.toArray n }={ cls:=.type "list",data:=.seq its'.toArray n' }) (r:Vals ys its') (hz:ys.length<=sizeLine) (t:Nat) :
  Inv X pins σ (Ac H p (.lst ys)) { s with heap:=s.heap.update p f,toks:=t }:=by
 have e:(s.heap.update p f).get? p=some { cls:=.type "list",data:=.seq its'.toArray n' }:=by
  rw [Ue f ho (by rw [hf] <;> rfl),hf]
 refine I.write (x:=p) (e:=p) (by rw [h]; trivial) (.inl rfl) (λb u hb q=>(T3 _ _ (Ug hb)).trans q) ⟨_,e⟩ ?_
 exact⟨hz,its',n',r,e⟩
noncomputable def O0:V->V->V->Hp->(Hp->Prop)->Prop:=λo i v H Q=>∃p xs k j,o=.ref p/\i=.int k/\H p=some (.lst xs)/\PJ xs.length k=some j/\Q (Ac H p (.lst (xs.set j v)))
theorem set_list:R_ X O0:=by
 intro pins s σ H o i v ov iv u Q I ro ri rv h
 obtain⟨p,xs,k,j,rfl,rfl,hp,hj,q⟩:=h
 cases ro
 obtain⟨t,rfl⟩:=ri
 obtain⟨its,n,r,ho,hz⟩:=I.lst hp
 obtain⟨h1,h2,h3,h4⟩:=Kk hj
 have hl:=r.length
 have hn:=FW
 have I':Inv X pins σ (Ac H p (.lst (xs.set j v))) { s with heap:=s.heap.update p (US (·.setIfInBounds j u)) } :=
  I.lstUpd hp ho (Jw its n j u) (r.set rv j) (by rw [Ut]; exact hz) s.toks
 by_cases h0:0<=k
 ·have hk:k.toNat=j:=by
   rw [seqIndex_of h0 h4] at h1
   exact Rs h1
  exact PySem.W.ki_setAt ho h0 (by omega) (by rw [Re,← hl]; exact h4) (by rw [hk]; exact⟨_,I',q⟩)
 ·have hk:(k+(its.toArray.size:Int)).toNat=j:=by
   rw [seqIndex_neg (by omega) h3] at h1
   rw [Re,← hl]
   exact Rs h1
  exact PySem.W.ki_setBack ho (by omega) (by rw [Re,← hl]; exact h3) (by omega) (by rw [hk]; exact⟨_,I',q⟩)
theorem Gv(lo hi:Option Int)(n:Nat):(sliceBounds lo hi none n).1=((HT.sIx n 0 lo:Nat):Int)/\(sliceBounds lo hi none n).2.1=((HT.sIx n n hi:Nat):Int)/\(sliceBounds lo hi none n).2.2=1:=by
 refine⟨?_,?_,rfl⟩
 ·cases lo with
  | none=>simp [sliceBounds,HT.sIx]
  | some i =>
   simp only [sliceBounds,HT.sIx,Option.getD_none,show (1:Int) > 0 by decide,if_true]
   by_cases h:i<0
   ·simp only [h,if_true] <;> omega
   ·simp only [h,if_false] <;> omega
 ·cases hi with
  | none=>simp [sliceBounds,HT.sIx]
  | some i =>
   simp only [sliceBounds,HT.sIx,Option.getD_none,show (1:Int) > 0 by decide,if_true]
   by_cases h:i<0
   ·simp only [h,if_true] <;> omega
   ·simp only [h,if_false] <;> omega
theorem F4(its:List Value)(lo hi:Option Int):slicePick its.toArray lo hi none=((its.drop (HT.sIx its.length 0 lo)).take (HT.sIx its.length its.length hi - HT.sIx its.length 0 lo)).toArray:=by
 obtain⟨h1,h2,h3⟩:=Gv lo hi its.toArray.size
 unfold slicePick
 rw [h1,h2,h3]
 simp only [sliceRange_one,pick_run,Re] <;> rfl
noncomputable def RW(K:Frag):V->Option Int->Option Int->Hp->VK->Prop:=λx lo hi H Q=>∃a xs,x=.ref a/\SqL K H a xs/\∀p,H p=none->Q (.ref p) (Ac H p (.lst (F_ xs lo hi)))
theorem sl_list:SlR X (RW X.K):=by
 intro pins s σ H x v vl vu lo hi sl Q I rx hs pl pu h
 obtain⟨a,xs,rfl,hx,q⟩:=h
 cases rx
 obtain⟨its,r,ht,hz⟩:=I.list hx
 have hlen:=r.length
 refine⟨"list",_,slot_list_getitem.lookup,ht.isList.typeIs,?_⟩
 refine wpAny_getItem_list_slice ht.isList hs pl pu .none (by simp) ?_ (by rw [Re] <;> omega)
 rw [F4,← hlen]
 refine⟨.ref s.heap.objs.size,_,I.laid (t':=s.toks) (o:=.lst (F_ xs lo hi)) (λb ob q=>Cn _ q) (Go _) ?_,rfl,q _ (I.hok.fresh (Go _))⟩
 exact⟨T6 (EY xs lo hi) hz,_,0,(r.drop (HT.sIx xs.length 0 lo)).take (HT.sIx xs.length xs.length hi - HT.sIx xs.length 0 lo),On _ rfl⟩
noncomputable def PP:V->Bool
 | .non=>true
 | .bl _=>true
 | .int _=>true
 | .str _=>true
 | _=>false
noncomputable def Rw:V->V->Bool
 | .non,.non=>true
 | .bl a,.bl b=>a==b
 | .bl a,.int b=>(if a then 1 else 0)==b
 | .int a,.bl b=>a==(if b then 1 else 0)
 | .int a,.int b=>a==b
 | .str a,.str b=>a==b
 | _,_=>false
theorem HL{A:Around}{s:Shared}{y x:V}{u v:Value}(ry:RelV y u)(rx:RelV x v)(fy:PP y=true)(fx:PP x=true):SeqAt.EqAt A s u v (Rw y x):=by
 cases y with
 | non =>
  cases ry
  cases x with
  | non=>cases rx; exact SeqAt.EqAt.same _
  | bl b=>cases rx; exact SeqAt.EqAt.none_bool b
  | int b=>obtain⟨t,rfl⟩:=rx; exact SeqAt.EqAt.none_int b t
  | str b=>obtain⟨t,rfl⟩:=rx; exact SeqAt.EqAt.none_str b t
  | _=>exact absurd (show false=true from fx) TW
 | bl a =>
  cases ry
  cases x with
  | non=>cases rx; exact SeqAt.EqAt.bool_none a
  | bl b=>cases rx; exact SeqAt.EqAt.bool_bool a b
  | int b=>obtain⟨t,rfl⟩:=rx; exact SeqAt.EqAt.bool_int a b t
  | str b=>obtain⟨t,rfl⟩:=rx; exact SeqAt.EqAt.bool_str a b t
  | _=>exact absurd (show false=true from fx) TW
 | int a =>
  obtain⟨t',rfl⟩:=ry
  cases x with
  | non=>cases rx; exact SeqAt.EqAt.int_none a t'
  | bl b=>cases rx; exact SeqAt.EqAt.int_bool a t' b
  | int b=>obtain⟨t,rfl⟩:=rx; exact SeqAt.EqAt.int_int a t' b t
  | str b=>obtain⟨t,rfl⟩:=rx; exact XG a t' b t
  | _=>exact absurd (show false=true from fx) TW
 | str a =>
  obtain⟨t',rfl⟩:=ry
  cases x with
  | non=>cases rx; exact SeqAt.EqAt.str_none a t'
  | bl b=>cases rx; exact SeqAt.EqAt.str_bool a t' b
  | int b=>obtain⟨t,rfl⟩:=rx; exact XH a t' b t
  | str b=>obtain⟨t,rfl⟩:=rx; exact SeqAt.EqAt.str_str a t' b t
  | _=>exact absurd (show false=true from fx) TW
 | _=>exact absurd (show false=true from fy) TW
theorem HW:CK X (.type "list") (λxs H Q=>∃p ys,xs=[.ref p]/\(SqL X.K H p ys\/Du X.K H p ys)/\∀l,H l=none->Q (.ref l) (Ac H l (.lst ys))):=by
 intro pins s σ H xs us Q I r h
 obtain⟨p,ys,rfl,hq,q⟩:=h
 obtain⟨u,rfl,rx⟩:=vals1 r
 cases rx
 have fin:∀(its:List Value),Vals ys its->ys.length<=sizeLine->∀(h':Heap) (c':Nat),(∀b o',s.heap.get? b=some o'->h'.get? b=some o') ->
   h'.get? s.heap.objs.size=some { cls:=.type "list",dict:=none,data:=.seq its.toArray c',slots:=#[] }->EP X pins σ Q (.ref s.heap.objs.size) { s with heap:=h' }:=λits r' hz h' c' kp e =>
  ⟨.ref s.heap.objs.size,_,I.laid (t':=s.toks) kp (Go _) (show ObjOk X.prog X.w _ h' _ (.lst ys) from⟨hz,its,c',r',e⟩),rfl,q _ (I.hok.fresh (Go _))⟩
 rcases hq with hq | hq
 ·obtain⟨its,r',pl,hz⟩:=I.list hq
  have hlen:=r'.length
  obtain⟨o,ho,hc,n,hd⟩:=pl.isList
  exact call_list_seq p (.inl rfl) ho hc hd (λh' c' kp e=>fin its r' hz h' c' kp e) (by simp only [Re] <;> omega)
 ·obtain⟨its,r',pl,hz⟩:=I.tuple hq
  have hlen:=r'.length
  obtain⟨o,ho,hc,n,hd⟩:=pl
  exact call_list_seq p (.inr rfl) ho hc hd (λh' c' kp e=>fin its r' hz h' c' kp e) (by simp only [Re] <;> omega)
theorem Cv:CK X (.type "tuple") (λxs H Q=>∃p ys,xs=[.ref p]/\((SqL X.K H p ys/\∀l,H l=none->Q (.ref l) (Ac H l (.tup ys)))\/(Du X.K H p ys/\Q (.ref p) H))):=by
 intro pins s σ H xs us Q I r h
 obtain⟨p,ys,rfl,h⟩:=h
 obtain⟨u,rfl,rx⟩:=vals1 r
 cases rx
 rcases h with ⟨hq,q⟩ | ⟨hq,q⟩
 ·obtain⟨its,r',pl,hz⟩:=I.list hq
  have hlen:=r'.length
  refine call_tuple_list pl.isList (λh' kp=>?_) (by simp only [Re] <;> omega)
  have I1:Inv X pins σ H { s with heap:=h' }:=I.kept (t':=s.toks) kp
  have I2:Inv X pins σ (Ac H h'.objs.size (.tup ys)) { s with heap:=h'.push { cls:=.type "tuple",data:=.seq its.toArray } } :=
   I1.laid (t':=s.toks) (λb o e=>Cn _ e) (Go _) (show ObjOk X.prog X.w _ _ _ (.tup ys) from⟨hz,its,r',IsTupN.new _ _⟩)
  exact⟨.ref h'.objs.size,_,I2,rfl,q _ (I1.hok.fresh (Go _))⟩
 ·obtain⟨its,r',pl,hz⟩:=I.tuple hq
  exact call_tuple_same pl ⟨.ref p,H,I,rfl,q⟩
noncomputable def Si(K:Frag)(T:String)(x:V)(H:Hp):Prop:=match x with
 | .str _=>T = "str"
 | .int _=>T = "int"
 | .ref p=>(T = "list"/\∃xs,SqL K H p xs)\/(T = "tuple"/\∃o,K.lookup p=some o/\o.cls=.type "tuple"/\o.dict=none) \/
   (T = "dict"/\((∃kvs,H p=some (.dK kvs))\/∃kvs,H p=some (.dT kvs)))\/(T = "set"/\∃S n,H p=some (.set S n))
 | _=>False
theorem Po{pins:List (Addr×Obj)}{σ:St}{H:Hp}{s:Shared}{T:String}{x:V}{v:Value}(I:Inv X pins σ H s)(r:RelV x v)(ty:Si X.K T x H) :
  s.TypeIs v T/\∀a,v=.ref a->∃ob,s.heap.get? a=some ob/\ob.dict=none:=by
 cases x with
 | str z =>
  obtain⟨t,rfl⟩:=r
  cases (show T = "str" from ty)
  exact⟨typeIs_str s z t,λ_ e=>nomatch e⟩
 | int i =>
  obtain⟨t,rfl⟩:=r
  cases (show T = "int" from ty)
  exact⟨typeIs_int s i t,λ_ e=>nomatch e⟩
 | ref p =>
  cases r
  rcases ty with ⟨rfl,xs,hq⟩ | ⟨rfl,o,hk,hc,hd⟩ | ⟨rfl,hk⟩ | ⟨rfl,S,n,hk⟩
  ·obtain⟨its,_,pl,_⟩:=I.list hq
   refine⟨pl.isList.typeIs,λa e=>?_⟩
   cases e
   obtain⟨o,n,e,c,hd,_⟩:=pl
   exact⟨o,e,hd⟩
  ·refine⟨⟨o,I.kIn p o hk,hc⟩,λa e=>?_⟩
   cases e
   exact⟨o,I.kIn _ o hk,hd⟩
  ·have z:∃o,s.heap.get? p=some o/\o.ExactDict:=by
    rcases hk with ⟨kvs,hk⟩ | ⟨kvs,hk⟩
    ·obtain⟨_,_,_,_,o,_,_,e,ex,_⟩:=I.hok p _ hk
     exact⟨o,e,ex⟩
    ·obtain⟨_,_,_,_,o,_,_,e,ex,_⟩:=I.hok p _ hk
     exact⟨o,e,ex⟩
   obtain⟨o,e,ex⟩:=z
   refine⟨⟨o,e,ex.1⟩,λa e2=>?_⟩
   cases e2
   exact⟨o,e,ex.2.1⟩
  ·obtain⟨o,_,_,_,e,ex,_⟩:=I.hok p _ hk
   refine⟨⟨o,e,ex.1⟩,λa e2=>?_⟩
   cases e2
   exact⟨o,e,ex.2.1⟩
 | _=>exact T5 ty
noncomputable def Th(K:Frag)(T:String)(r:V->List V->Hp->VK->Prop)(to:TE)(t:TA):TE:=λσ H Q=>to σ H λx H1=>Si K T x H1/\t σ H1 λxs H2=>r x xs H2 Q
variable {o e:Expr}{es:List Expr}{to:TE}{t:TA}{name:Str}{apos cpos:Pos}{T id:String}{r:V->List V->Hp->VK->Prop}
theorem PB(pa:PlainAttrs T)(slot:Slot T name id)(hty:typeOf (.builtin id)=pure (.type "method_descriptor"))(hm:SY X id r)(ho:PE X o to)(ha:PA X (e::es) t)
  (hbase:autoParam (attributeBase o name X.env (eval o X.env)=eval o X.env) zau3._auto_1)
  (hfew:autoParam (((backTo cpos (starEach (e::es) X.env)).all (λx=>!x.1)&&(backToKw cpos (keywordEach [] X.env)).all (λx=>x.1.isSome)
   && decide ((e::es).length+([]:List Keyword).length+(if ([]:List Keyword).isEmpty then 0 else 1)<30))=true) zau3._auto_1)
  (hline:autoParam ((apos.endLine==cpos.line)=true) zau3._auto_1) (hs:autoParam (starEach (e::es) X.env=(false,eval e X.env)::starEach es X.env) zau3._auto_1) (hplain:autoParam ((backTo cpos (starEach es X.env)).any (·.1)=false) zau3._auto_1) :
  PE X (.Call (.Attribute o name apos) (e::es) [] cpos) (Th X.K T r to t):=by
 intro pins s σ H Q I h
 refine wpAny_Call_method_late hbase hfew hline rfl (A3 (ho pins s σ H _ I h) λv s1 ⟨x,H1,I1,r1,ty,q1⟩=>?_)
 obtain⟨h1,h2⟩:=Po I1 r1 ty
 refine⟨T,id,pa,slot,hty,h1,h2,?_⟩
 have hA:=ha cpos pins s1 σ H1 _ I1 q1
 rw [hs] at hA ⊢
 refine Calls.callWith_builtin (by show (false||(backTo cpos (starEach es X.env)).any (·.1))=false; rw [hplain] <;> rfl) (Calls.evalArgs_plain ?_)
 exact A3 hA λus s2 ⟨vs,H2,I2,r2,q2⟩=>hm pins s2 σ H2 x vs v us Q I2 r1 r2 q2
end
noncomputable def Tq(X:Cx)(id:String)(r:V->List V->Hp->VK->Prop):Prop :=
 ∀(pins:List (Addr×Obj)) (s:Shared) (σ:St) (H:Hp) (x:V) (xs:List V) (v:Value) (us:List Value) (Q:VK),Inv X pins σ H s->RelV x v->Vals xs us->r x xs H Q ->
  wpAny (model X.prog X.w) X.A (call (.builtin id) (v::us)) (EP X pins σ Q) X.xe s
theorem Vals.one:∀{x:V} {us:List Value},Vals [x] us->∃u,us=[u]/\RelV x u
 | _,_,.cons r .nil=>⟨_,rfl,r⟩
section
variable {X:Cx}{pins:List (Addr×Obj)}{σ:St}{H:Hp}{s:Shared}{l b:Addr}{xs ys zs:List V}
theorem Inv.lset{its its':List Value}{n:Nat}{f:Array Value->Array Value}{t':Nat}(I:Inv X pins σ H s)(hH:H l=some (.lst xs))
  (e:s.heap.get? l=some { cls:=.type "list",data:=.seq its.toArray n }) (hf:f its.toArray=its'.toArray) (hv:Vals ys its') (hz:ys.length<=sizeLine) :
  Inv X pins σ (Ac H l (.lst ys)) { s with heap:=s.heap.update l (US f),toks:=t' }:=by
 have q:=PySem.IsL.update e f
 rw [hf] at q
 refine I.write (x:=l) (e:=l) (by rw [hH]; exact trivial) (.inl rfl) (λb' u hb hu=>(T3 s.heap (US f) (Ug hb)).trans hu) ⟨_,q⟩ ?_
 exact⟨hz,its',_,hv,q⟩
theorem Inv.lnew{its:List Value}{t':Nat}(I:Inv X pins σ H s)(hv:Vals ys its)(hz:ys.length<=sizeLine) :
  Inv X pins σ (Ac H s.heap.objs.size (.lst ys)) { s with heap:=s.heap.push { cls:=.type "list",data:=.seq its.toArray },toks:=t' } :=
 I.laid (λ_ _ q=>Cn _ q) (Go _) ⟨hz,its,0,hv,On _ rfl⟩
theorem Inv.fresh(I:Inv X pins σ H s):H s.heap.objs.size=none:=I.hok.fresh (Go _)
theorem Inv.lstM(I:Inv X pins σ H s)(hH:H l=some (.lst xs)):xs.length<=sizeLine/\∃(its:List Value) (n:Nat),Vals xs its/\xs.length=its.length/\s.heap.get? l=some { cls:=.type "list",data:=.seq its.toArray n }:=by
 obtain⟨z,its,n,r,e⟩:=I.hok l _ hH
 exact⟨z,its,n,r,r.length,e⟩
end
section
variable {X:Cx}
noncomputable def KU:V->List V->Hp->VK->Prop:=λx vs H Q=>∃l xs y,x=.ref l/\vs=[y]/\H l=some (.lst xs)/\xs.length<sizeLine/\Q .non (Ac H l (.lst (xs++[y])))
theorem Cg:Tq X "list.append" KU:=by
 intro pins s σ H x vs v us Q I rx rv h
 obtain⟨l,xs,y,rfl,rfl,hH,hz,q⟩:=h
 cases rx
 obtain⟨u,rfl,ru⟩:=rv.one
 obtain⟨z,its,n,r,hl,e⟩:=I.lstM hH
 refine call_meets F.slot_list_append ⟨_,e,rfl⟩ F.entry_list_append (F.args_list_append_2 _ _) (PySem.list_append l its.toArray n u (by rw [Re]; omega)) ⟨e,?_⟩
 refine⟨.non,_,I.lset (its':=its++[u]) hH e (by simp) (r.append (.cons ru .nil)) ?_,rfl,q⟩
 rw [Tz,UB]
 omega
end
section
variable {prog:Program}{w:World}{A:Around}{E:Value->Shared->Prop}{s:Shared}
end
section
variable {X:Cx}
end
end L2
namespace Att
open PySem PySem.W PySem.Calls PyProof.Rows
theorem Ek{P:Params}{h:Heap}:∀(ns:List Int) (vs:List Value),WellAll P h vs (ns.map WData.int)->IntsAre vs ns:=by
 intro ns
 induction ns with
 | nil =>
  intro vs w
  rw [WA] at w
  cases w
  exact .nil
 | cons n ns ih =>
  intro vs w
  rw [UG] at w
  cases w with
  | cons a b =>
   cases a
   exact .cons _ _ (ih _ b)
theorem LQ{l:OpenLaw}{n:Nat}(hn:l.most=some n){P:Params}{h:Heap}{args:List WData}{vals:List Value}
  (hpre:l.row.toRowW.claim.pre args=true) (hwl:WellAll P h vals args) :
  ∃a vs ns,vals=[Sc a]/\args=[WData.list (ns.map WData.int)]/\h.get? a=some { cls:=.type "list",data:=.seq vs.toArray }/\IntsAre vs ns/\ns.length<=n:=by
 have hsh:WShape.hasAll [] args [.list .int]=true:=(pre_splitW hpre).1
 have hc:l.pre.holds [] { args:=args }=true:=(pre_splitW hpre).2
 obtain⟨d,r,rfl,h1,h2⟩:=hasAllW_cons hsh
 obtain rfl:=hasAllW_nil h2
 obtain⟨xs,rfl,h3⟩:=hasW_list h1
 obtain⟨ns,rfl⟩:=items_int h3
 have hlen:ns.length<=n:=by
  unfold OpenLaw.pre at hc
  have h4:(WTm.not (.lt (.lit (.int (n:Int))) (.len (.arg 0)))).holds [] { args:=[.list (ns.map .int)] }=true:=by
   have h4:=(holds_andW hc).1
   rw [hn] at h4
   exact h4
  have h5:=condW_of h4 (w_not (w_lt w_lit (w_len_list (w_arg rfl))))
  rw [Ev] at h5
  refine Nat.le_of_not_lt λq=>?_
  have q':(n:Int)<((ns.length:Nat):Int):=by omega
  first
   | (rw [decide_eq_true q'] at h5; exact absurd h5 (by decide))
   | (simp at h5; omega)
 cases hwl with
 | cons w1 w2 =>
  cases w2
  cases w1 with
  | list ho hall=>exact⟨_,_,ns,rfl,rfl,ho,Ek ns _ hall,hlen⟩
theorem LZ(l:OpenLaw)(args:List WData):l.row.toRowW.claim.post args (.bool true) args=true :=
 postW_of (r:=l.row.toRowW) (X:=(true==true))
  (show WShape.has [] (.bool true) .bool=true by first | rfl | decide | simp [WShape.has,WShape.arms,WShape.armsAll])
  (show (WTm.eq .res (.lit (.bool true))).value [] { args:=args,res:=some (.bool true),after:=args }=some (.bool (true==true)) from w_eq_bool (w_res rfl) w_lit) rfl
theorem attach_call{l:OpenLaw}{n:Nat}{q:Program}{loose:List Str}{XP:(Str->Option Value)->Heap->Prop}{YP:World->Heap->Prop}{d:DefRec}
  (hn:l.most=some n) (hdf:d.params.defaults=[])
  (call:∀(w:World) (s₀ s₁:Shared) (mg mb:Str->Option Value) (fa:Addr) (o:Obj) (pm cd doc:Value) (a:Addr) (vs:List Value) (ns:List Int),
   Ground q loose [] XP w s₀ mg mb s₁.heap->YP w s₁.heap ->
   s₁.heap.get? fa=some o->o.data=.func (docDef d.name d.params d.body d.scope pm cd doc)->s₁.heap.CodeRec cd d.name->mg d.name=some (.ref fa) ->
   s₁.heap.get? a=some { cls:=.type "list",data:=.seq vs.toArray }->IntsAre vs ns->ns.length<=n->s₁.gens=#[] ->
   codeAny (model l.prog w) callerA (.call (.ref fa) ⟨[.ref a],[]⟩) (λr s'=>r=.ok (.ret (.bool true))/\OldK s₁.heap s'.heap/\s'.os=s₁.os/\AllBare s'.gens) s₁) :
  WalkO q loose XP YP l.row.toRowW d [] (λf vs=>PySem.call f vs):=by
 intro w s₀ s₁ mg mb G Y fa o pm cd doc dV kV ho hd hcd hD hmg hg args vals as hpre hlay hrd hwl hlo
 obtain rfl:dV=.none:=Dflts.none hD hdf
 obtain rfl:kV=.none:=Dflts.noKw hD
 obtain⟨a,vs,ns,rfl,rfl,hobj,hints,hlen⟩:=LQ hn hpre hwl
 refine enter_call (U_ (call w s₀ s₁ mg mb fa o pm cd doc a vs ns G Y ho (fd_plain hd) hcd hmg hobj hints hlen hg) λr s' hq=>?_)
 obtain⟨rfl,h2,h3,h4⟩:=hq
 exact⟨.inl ⟨.bool true,.bool true,[],rfl,λ_=>rfl,.bool true,LZ l _,λ_=>⟨Wc,λ_ hm=>(nomatch hm)⟩⟩,h2,h3,h4⟩
section
variable {prog:Program}{w:World}{A:Around}{E:Value->Shared->Prop}{s:Shared}{K:Frag}
end
end Att
namespace L2
open PySem PySem.Spec PyProof.Rows
theorem GB:∀{vs:List Value} {ns:List Int},IntsAre vs ns->Vals (ns.map V.int) vs
 | _,_,.nil=>.nil
 | _,_,.cons n t h=>.cons ⟨t,rfl⟩ (GB h)
noncomputable def Q1(H:Hp):Prop:=∀b,H b=none\/∃o xs,H b=some (.frz o (.lst xs))
theorem Mw{P:Program}{w:World}{K:Frag}{mg mb:Str->Option Value}{CX:MC}{k:Nat}{fa a:Addr}{fd:FuncData}{x:Str}{sp:Sp}{s₁:Shared}{vs:List Value}{ns:List Int}
  (KX:K.In s₁.heap) (hns:s₁.heap.Ns mainGlobals mg) (hb:s₁.heap.Ns builtinsNs mb) (hbb:∀x:Str,x ≠ "__name__"->mb x=bootBuiltins x) (hlim:s₁.heap.NoLimit) (hg:s₁.gens=#[])
  (ha:s₁.heap.get? a=some { cls:=.type "list",data:=.seq vs.toArray }) (hi:IntsAre vs ns) (hl:ns.length<=sizeLine) (hr:Room k callerA)
  (F:∀base:Heap,K.In base->base.Ns mainGlobals mg->A1 P w K mg base CX k fa fd [x] sp) (hbind:∀(s:Shared) (u:Value),BindsTo s fd ⟨[u],[]⟩ [(x,u)])
  (hsp:∀H:Hp,Q1 H->SqL K H a (ns.map V.int)->sp [.ref a] H (λv _=>v=.bl true) λ_ _ _=>False)
  (hCX:∀H e s',CX [] H s₁ (λ_ _ _=>False) e s'->False) :
  codeAny (model P w) callerA (.call (.ref fa) ⟨[.ref a],[]⟩) (λr s'=>r=.ok (.ret (.bool true))/\OldK s₁.heap s'.heap/\s'.os=s₁.os/\AllBare s'.gens) s₁:=by
 have rv:=GB hi
 have lenV:=hi.length
 have core:∀H:Hp,Q1 H->SqL K H a (ns.map V.int)->HOk P w H s₁.heap->(∀b,H b≠none->b=a)->(H a≠none->K.lookup a=none) ->
   codeAny (model P w) callerA (.call (.ref fa) ⟨[.ref a],[]⟩) (λr s'=>r=.ok (.ret (.bool true))/\OldK s₁.heap s'.heap/\s'.os=s₁.os/\AllBare s'.gens) s₁:=by
  intro H hO hS hok hA hK
  have base_of:∀{b:Addr} {o:Obj},s₁.heap.get? b=some o->H b=none->(HG s₁.heap H).get? b=some o:=λe n=>NC e n
  have noA:∀{b:Addr} {o:Obj} {es:Array DictEntry} {ep:Nat},s₁.heap.get? b=some o->o.data=.dict es ep->H b=none:=λ{b o es ep} e d=>by
   cases q:H b with
   | none=>rfl
   | some u =>
    have e':b=a:=hA b (by rw [q]; simp)
    subst e'
    rw [ha] at e; cases e
    have d':Data.seq vs.toArray _=Data.dict es ep:=d
    cases d'
  have nsK:∀{b:Addr} {m:Str->Option Value},s₁.heap.Ns b m->(HG s₁.heap H).Ns b m:=λ{b m} ⟨o,es,ep,e,d,r⟩=>⟨o,es,ep,base_of e (noA e d),d,r⟩
  have hKb:K.In (HG s₁.heap H):=λb o e=>base_of (KX b o e) (by
   cases q:H b with
   | none=>rfl
   | some u =>
    have e':b=a:=hA b (by rw [q]; simp)
    subst e'
    rw [hK (by rw [q]; simp)] at e; cases e)
  have hM:Mod K mg (HG s₁.heap H):=⟨hKb,nsK hns,⟨mb,nsK hb,hbb⟩,let ⟨mc,h1,h2⟩:=hlim; ⟨mc,nsK h1,h2⟩⟩
  have e0:Env0 P w K mg (HG s₁.heap H) callerA [] s₁ H:=⟨rfl,hM,λb o e=>OJ e,Nat.le_of_eq (Lw _ _),trivial,λb hb=>absurd (show b∈([]:List Addr) from hb) (by simp),hok,.of_eq hg⟩
  refine U_ ((F _ hKb (nsK hns)).run callerA [] s₁ H ⟨[.ref a],[]⟩ [.ref a] [.ref a] _ _ hr e0 (hbind s₁ (.ref a)) (.cons rfl .nil) (hsp H hO hS)) λr s' h=>?_
  cases r with
  | error e=>exact(hCX H e s' h).elim
  | ok fl =>
   cases fl with
   | next=>exact T5 h
   | brk=>exact T5 h
   | cont=>exact T5 h
   | ret u =>
    obtain⟨v,H',os,bare,un,hok',r',q⟩:=h
    have q':v=.bl true:=q
    subst q'
    obtain rfl:u=Vp true:=r'
    refine⟨rfl,OldK.of_keep λb o e=>?_,os,bare⟩
    cases q:H b with
    | none=>exact un.keep b o e q (by intro z; exact absurd (show b∈([]:List Addr) from z) (by simp)) (by simp)
    | some u =>
     rcases hO b with z | ⟨ob,xs,z⟩
     ·rw [q] at z; cases z
     ·have z2:=un.frzs b ob _ z
      obtain⟨e1,_⟩:=hok b _ z
      obtain⟨e2,_⟩:=hok' b _ z2
      rw [e] at e1; cases e1
      exact e2
 cases hk:K.lookup a with
 | some o =>
  have e:=KX a o hk
  rw [ha] at e
  cases e
  refine core (λ_=>none) (λ_=>.inl rfl) (.inr ⟨_,vs.toArray,_,hk,rfl,rfl,rfl,by rw [Re,lenV]; exact hl,by simpa using rv⟩) (λb u z=>by have z':(none:Option HO)=some u:=z; cases z') (λb z=>absurd rfl z) λz=>absurd rfl z
 | none =>
  refine core (λb=>if b=a then some (.frz { cls:=.type "list",data:=.seq vs.toArray } (.lst (ns.map V.int))) else none) (λb=>?_) (.inl (.inr ⟨{ cls:=.type "list",data:=.seq vs.toArray },if_pos rfl⟩)) (λb u z=>?_) (λb z=>?_) λ_=>hk
  ·by_cases hb:b=a
   ·exact .inr ⟨_,_,if_pos hb⟩
   ·exact .inl (if_neg hb)
  ·by_cases hb:b=a
   ·have z':=(if_pos hb).symm.trans z
    cases z'
    subst hb
    exact⟨ha,by rw [Ev]; exact hl,vs,_,rv,ha⟩
   ·have z':=(if_neg hb).symm.trans z
    cases z'
  ·by_cases hb:b=a
   ·exact hb
   ·exact absurd (if_neg hb) z
theorem KO{l:PySem.W.OpenLaw}{n k:Nat}{q:Program}{loose:List Str}{XP:(Str->Option Value)->Heap->Prop}{YP:World->Heap->Prop}{d:DefRec}{K:Params->Frag}{CX:World->MC}{sp:World->Sp}{x:Str}
  (hn:l.most=some n) (hn2:n<=sizeLine) (hdf:d.params.defaults=[]) (hr:Room k callerA)
  (hY:∀(w:World) (h:Heap),YP w h->(K w.params).In h)
  (F:∀(w:World) (mg:Str->Option Value) (fa:Addr) (h:Heap),(K w.params).In h->h.Ns mainGlobals mg->mg d.name=some (.ref fa) ->
   ∃fd:FuncData,(∀(s:Shared) (u:Value),BindsTo s fd ⟨[u],[]⟩ [(x,u)]) /\
    ∀base:Heap,(K w.params).In base->base.Ns mainGlobals mg->A1 l.prog w (K w.params) mg base (CX w) k fa fd [x] (sp w))
  (hsp:∀(w:World) (H:Hp) (a:Addr) (ns:List Int),ns.length<=n->Q1 H->SqL (K w.params) H a (ns.map V.int)->sp w [.ref a] H (λv _=>v=.bl true) λ_ _ _=>False)
  (hCX:∀(w:World) (H:Hp) (s:Shared) (e:Value) (s':Shared),CX w [] H s (λ_ _ _=>False) e s'->False) :
  PySem.W.WalkO q loose XP YP l.row.toRowW d [] (λf vs=>PySem.call f vs):=by
 refine Att.attach_call hn hdf λw s₀ s₁ mg mb fa o pm cd doc a vs ns G Y ho hd hcd hmg hobj hints hlen hg=>?_
 have KX:=hY w _ Y
 obtain⟨fd,hb,hF⟩:=F w mg fa _ KX G.T.g hmg
 exact Mw KX G.T.g G.T.b G.T.builtins G.T.nolimit hg hobj hints (T6 hlen hn2) hr hF hb (λH hO hS=>hsp w H a ns hlen hO hS) λH e s'=>hCX w H s₁ e s'
end L2
/- THE LAST THEOREM (shape; LID, My.* are yours):
   My.Adr: a structure of the addresses that your layer names (classes, functions); My.Txt K t: a structure (Prop) of the equations over K;
   My.txt_mk : {K} {implicit addresses ..} (e1 : nsIn K mainGlobals "law" = some (some (.ref f))) (e2 : K.lookup f = some ⟨oc, od, .func (fnOf "law" "law" params body scope dV kV doc pm an cdv ct), sl⟩) (e3 : codeIn K cdv "law" = true) .. : ∃ t, My.Txt K t
set_option maxRecDepth 100000 in
set_option maxHeartbeats 0 in
theorem PySem.Challenge.cw_LID_holds : PySem.Challenge.rw_LID.Holds := by
 w_on; o_law; k_head; (case hw=>w_witness2)
 k_fill
 refine L2.KO (l:=PySem.Challenge.rw_LID) (n:=63) (k:=40) (x := "script") (CX:=λw=>..) (sp:=λ_=>My.sp_law) rfl (by decide) rfl ⟨rfl,by decide,by decide⟩ (λw h Y=>PySem.W.kIn_of Y) ?F ?S ?C
 case F =>
  intro w mg fa h KX G hmg
  have T:∃t,My.Txt (L2.KOf KX) t:=by
   dsimp only [L2.KOf]                          -- K must stand as «<heap const> w.params» for k_is
   refine' My.txt_mk ?e1 ?e2 ?e3 ..
   (case e1=>PySem.W.k_is)                    -- in the order: a name -> its address -> its object -> its parts
   (case e2=>PySem.W.k_is)
   ..
  obtain⟨t,T⟩:=T
  have e0:=hmg.symm.trans (mg_of KX G T.law)
  cases e0                                       -- fa is the law's own address
  exact⟨_,λs u=>.of_eq rfl,λbase kb nb=>My.law_fn T kb nb⟩     -- if «.of_eq rfl» comes too early: refine' ⟨_,?b,λbase kb nb=>My.law_fn T kb nb⟩; exact λs u=>.of_eq rfl
 case S=>exact λw H a ns hl hO hS=>..
 case C=>exact ..
(the tactic k_is has no namespace: write k_is) -/
namespace L2
open PySem PySem.Spec PyProof.Rows
noncomputable def BI(s:Stmt):Arguments:=match s with
 | .FunctionDef _ a _ _ _ _ _ _ _ _=>a
 | _=>{ posonlyargs:=[],args:=[],vararg:=none,kwonlyargs:=[],kw_defaults:=[],kwarg:=none,defaults:=[] }
noncomputable def Av(s:Stmt):List Stmt:=match s with
 | .FunctionDef _ _ b _ _ _ _ _ _ _=>b
 | _=>[]
noncomputable def AD(s:Stmt):Scope:=match s with
 | .FunctionDef _ _ _ _ _ _ sc _ _ _=>sc
 | _=>{ kind:=.function,names:=[],isGenerator:=false,isCoroutine:=false }
noncomputable abbrev Bn:MC:=λ_ _ _ _ _ _=>False
noncomputable abbrev E0:XK:=λ_ _ _=>False
theorem PC{X:Cx}:EK Bn X E0:=λ_ _ _ _ _ _ _ h=>h.elim
structure Fun (K:Frag) (x qual:Str) (st:Stmt) (f:Addr) (fd:FuncData):Prop where
 ex:∃(oc:Value) (od:Option Addr) (kV doc pm:Value) (an:Option Addr) (cdv ct:Value) (osl:Array (Option Value)),
  fd=fnOf x qual (BI st) (Av st) (AD st) .none kV doc pm an cdv ct/\K.lookup f=some ⟨oc,od,.func fd,osl⟩/\codeIn K cdv qual=true
 kp:keepIn K (.ref f)=true
section
variable {P:Program}{w:World}{K:Frag}{mg:Str->Option Value}{base:Heap}
theorem Fun.ok{x qual:Str}{st:Stmt}{f:Addr}{fd:FuncData}{N ps:List Str}{k:Nat}{sp:Sp}(F:Fun K x qual st f fd)(S:AT N ps (AD st))(len:∀vs H Q E,sp vs H Q E->vs.length=ps.length)
  (hbody:∀(cdv:Value) (A:Around) (outer:List Env) (s:Shared) (H:Hp) (vs:List V) (Q:VK) (E:XK),Room k (A.deeper (envOfC qual (AD st) s.heap.objs.size f cdv))->sp vs H Q E ->
   ∃t,PSs (Cr Bn P w K mg base N qual (AD st) f cdv A outer s H E).nox (Av st) t/\t { nx:=λ_ H'=>Q .non H',rt:=Q } (start N vs) H):A1 P w K mg base Bn (k+1) f fd ps sp:=by
 obtain⟨oc,od,kV,doc,pm,an,cdv,ct,osl,rfl,lk,hcd⟩:=F.ex
 refine PN lk hcd S len λA outer s H vs Q E hr hsp=>?_
 obtain⟨t,h,q⟩:=hbody cdv A outer s H vs Q E hr hsp
 exact⟨t,h.nox,q⟩
theorem Fun.binds{x qual:Str}{st:Stmt}{f:Addr}{fd:FuncData}{ps:List Str}(F:Fun K x qual st f fd)
  (h:∀(kV doc pm:Value) (an:Option Addr) (cdv ct:Value) (us:List Value),us.length=ps.length->bindArgs (fnOf x qual (BI st) (Av st) (AD st) .none kV doc pm an cdv ct) ⟨us,[]⟩=pure (ps.zip us)):Binds K fd ps []:=by
 obtain⟨oc,od,kV,doc,pm,an,cdv,ct,osl,rfl,lk,hcd⟩:=F.ex
 exact .all (h kV doc pm an cdv ct)
theorem HI{x qual:Str}{st:Stmt}{f:Addr}{oc:Value}{od an:Option Addr}{osl:Array (Option Value)}{kV doc pm cdv ct:Value}(l:K.lookup f=some ⟨oc,od,.func (fnOf x qual (BI st) (Av st) (AD st) .none kV doc pm an cdv ct),osl⟩)
  (c:codeIn K cdv qual=true) (k:keepIn K (.ref f)=true):Fun K x qual st f (fnOf x qual (BI st) (Av st) (AD st) .none kV doc pm an cdv ct):=⟨⟨oc,od,kV,doc,pm,an,cdv,ct,osl,rfl,l,c⟩,k⟩
end
section
variable {X:Cx}
theorem pv(i:Nat){x:Str}{pos:Pos}(hN:autoParam (X.N[i]?=some x) zau3._auto_1)(hv:autoParam (Nd X.env.scope x) zau4._auto_1)(hd:autoParam ((x==("__debug__" : Str))=false) zau1._auto_1)
  (hcd:autoParam ((x==("__classdict__" : Str))=false) zau1._auto_1):PE X (.Name x pos) (BP i):=CU hN hv hd hcd
end
theorem M5{A B:Prop}(h:B):if false=true then A else B:=by
 rw [if_neg TW]
 exact h
theorem Qa{A B:Prop}(h:A):if true=true then A else B:=by
 rw [if_pos rfl]
 exact h
theorem CL{c A B:Prop}[Decidable c](h1:c->A)(h2:¬c->B):if c then A else B:=by
 by_cases h:c
 ·rw [if_pos h]
  exact h1 h
 ·rw [if_neg h]
  exact h2 h
section
variable {κ:Type}[DecidableEq κ]
end
section
variable {P:Program}{w:World}{H:Hp}{h:Heap}{a:Addr}
end
section
variable {X:Cx}{pins:List (Addr×Obj)}{σ:St}{H:Hp}{s:Shared}{a:Addr}{y v:V}{u r:Value}{o:Option V}{A:Around}{E:Value->Shared->Prop}
end
section
variable {X:Cx}{pins:List (Addr×Obj)}{σ:St}{H:Hp}{s:Shared}{a:Addr}{kvs:List (Key×V)}{k:Key}{u:Value}{A:Around}{E:Value->Shared->Prop}
end
section
variable {X:Cx}{o i e value:Expr}{pos pos' tpos:Pos}{td ty tv:TE}
end
section
variable {X:Cx}{pos:Pos}
end
structure M1 (X:Cx) (o:Expr) (m:Str) (apos:Pos) (e:Expr) (cpos:Pos):Prop where
 base:attributeBase o m X.env (eval o X.env)=eval o X.env
 few:((backTo cpos (starEach [e] X.env)).all (λx=>!x.1)&&(backToKw cpos (keywordEach [] X.env)).all (λx=>x.1.isSome)
  && decide (([e]:List Expr).length+([]:List Keyword).length+(if ([]:List Keyword).isEmpty then 0 else 1)<30))=true
 line:(apos.endLine==cpos.line)=true
 trees:backTo cpos (starEach [e] X.env)=[(false,eval e X.env)]
structure M2 (X:Cx) (o:Expr) (m:Str) (apos:Pos) (e f:Expr) (cpos:Pos):Prop where
 base:attributeBase o m X.env (eval o X.env)=eval o X.env
 few:((backTo cpos (starEach [e,f] X.env)).all (λx=>!x.1)&&(backToKw cpos (keywordEach [] X.env)).all (λx=>x.1.isSome)
  && decide (([e,f]:List Expr).length+([]:List Keyword).length+(if ([]:List Keyword).isEmpty then 0 else 1)<30))=true
 line:(apos.endLine==cpos.line)=true
 trees:backTo cpos (starEach [e,f] X.env)=[(false,eval e X.env),(false,eval f X.env)]
section
variable {X:Cx}{pins:List (Addr×Obj)}{σ:St}{H:Hp}{s:Shared}{a:Addr}{y d:V}{u r:Value}{o:Option V}{A:Around}{E:Value->Shared->Prop}
end
section
variable {X:Cx}{o e f:Expr}{apos cpos:Pos}{td ty tx:TE}
end
section
variable {X:Cx}{pins:List (Addr×Obj)}{σ:St}{H:Hp}{s:Shared}{a:Addr}{kvs:List (Key×V)}{A:Around}{E:Value->Shared->Prop}
end
section
variable {X:Cx}{pins:List (Addr×Obj)}{σ:St}{H:Hp}{s:Shared}{a:Addr}{y:V}{u:Value}{A:Around}{E:Value->Shared->Prop}
end
end L2
set_option maxHeartbeats 4000000
namespace L2
open PySem PySem.Spec PyProof.Rows
section
theorem KC{env:Env}:∀(names:List (Str×NameKind)) (cs:List (Str×Addr)),(∀x,(x,UD)∈names->∃c,env.cells.lookup x=some c)->(∀x c,cs.lookup x=some c->env.cells.lookup x=some c) ->
  ∃cl,(forIn names cs fun(x:Str×NameKind) (r:List (Str×Addr))=>(if (x.2==UD)=true then do let a ← cellOf env x.1; pure (VF ((x.1,a)::r)) else pure (VF r):Sem (ForInStep (List (Str×Addr)))))=(pure cl:Sem _) /\
   (∀x c,cl.lookup x=some c->env.cells.lookup x=some c)/\(∀x,((x,UD)∈names\/∃c,cs.lookup x=some c)->∃c,cl.lookup x=some c):=by
 intro names
 induction names with
 | nil =>
  intro cs _ h2
  exact⟨cs,rfl,h2,λx hx=>hx.elim (λz=>absurd z (by simp)) λz=>z⟩
 | cons p r ih =>
  intro cs h1 h2
  obtain⟨n,k⟩:=p
  by_cases hk:k=UD
  ·subst hk
   obtain⟨c,hc⟩:=h1 n Tv
   have hcell:cellOf env n=pure c:=by simp only [cellOf,hc]
   obtain⟨cl,e,a,b⟩:=ih ((n,c)::cs) (λx hx=>h1 x (Op _ hx)) (λx c' hx=>by
    rw [Uq] at hx
    cases hb:x==n with
    | true =>
     rw [hb] at hx
     have hx':some c=some c':=hx
     cases hx'
     have:x=n:=by simpa using hb
     rw [this]; exact hc
    | false=>rw [hb] at hx; exact h2 x c' hx)
   refine⟨cl,?_,a,λx hx=>b x ?_⟩
   ·rw [WB]
    simp only [beq_self_eq_true,if_true,hcell,pure_bind]
    exact e
   ·by_cases hxn:x=n
    ·subst hxn
     exact .inr ⟨c,by simp [Uq]⟩
    ·rcases hx with hx | ⟨c',hx⟩
     ·rcases TM.mp hx with hx | hx
      ·cases hx; exact absurd rfl hxn
      ·exact .inl hx
     ·refine .inr ⟨c',?_⟩
      have:(x==n)=false:=by simpa using hxn
      rw [Uq,this]
      exact hx
  ·have hk':(k==UD)=false:=by simpa using hk
   obtain⟨cl,e,a,b⟩:=ih cs (λx hx=>h1 x (Op _ hx)) h2
   refine⟨cl,?_,a,λx hx=>b x ?_⟩
   ·rw [WB]
    simp only [hk',Vj,if_false,pure_bind]
    exact e
   ·rcases hx with hx | hx
    ·rcases TM.mp hx with hx | hx
     ·cases hx; exact absurd rfl hk
     ·exact .inl hx
    ·exact .inr hx
theorem Fl{scope:Scope}{env:Env}(h:∀x,(x,UD)∈scope.names->∃c,env.cells.lookup x=some c) :
  ∃cl,closureFor scope env=pure cl/\(∀x c,cl.lookup x=some c->env.cells.lookup x=some c)/\(∀x,(x,UD)∈scope.names->∃c,cl.lookup x=some c):=by
 obtain⟨cl,e,a,b⟩:=KC scope.names [] h (λx c hx=>by simp at hx)
 refine⟨cl,?_,a,λx hx=>b x (.inl hx)⟩
 simp only [closureFor]
 rw [e,pure_bind]
variable {prog:Program}{w:World}{A:Around}{E:Value->Shared->Prop}{R:Result->Shared->Prop}{s:Shared}
theorem Dn{elt target iter:Expr}{ifs:List Expr}{scope:Scope}{pos:Pos}{it acc:Value}{env:Env}(I:Nat->Shared->Prop)
  (turn:∀n s,I n s->wpAny (model prog w) A (pyNext it) (λr s₁=>match r with
   | none=>R (.ok .next) s₁
   | some v=>wpAny (model prog w) A (letOwnedTupleGo target it v) (λ_ s₁'=>wpAny (model prog w) A (assign target env v) (λ_ s₂ =>
     wpAny (model prog w) A (forIn ifs true λc r=>if r=true then do let ok ← isTrue c env (eval c env); pure (VF ok) else pure (VF r)) (λok s₃ =>
      if ok=true then wpAny (model prog w) A (eval elt env) (λx s₄ =>
       wpAny (model prog w) A (call (.builtin "list.append") [acc,x]) (λ_ s₅=>∃m,m<n/\I m s₅) (λ_ _=>False) s₄) (λ_ _=>False) s₃
      else ∃m,m<n/\I m s₃) (λ_ _=>False) s₂) (λ_ _=>False) s₁') (λ_ _=>False) s₁) (λ_ _=>False) s)
  (n:Nat) (h:I n s) :
  codeAny (model prog w) A (.compLoop (.ListComp elt [⟨target,iter,ifs,0⟩] scope pos) 0 it acc env) R s:=by
 refine codeAny_loop rfl I (λn s hI=>?_) n h
 show wpAny _ A ((compTurn (.ListComp elt [⟨target,iter,ifs,0⟩] scope pos) 0 it acc env).onRaise (λx=>do noteFrame x env; theTreesLotGoes x)) _ _ s
 refine wpAny_noted ?_
 rw [compTurn_list]
 refine Ch (VZ (Ch (UC (turn n s hI) (λr s₁ h₁=>?_) λ_ _ h'=>h'.elim)))
 cases r with
 | none=>exact Db h₁
 | some v =>
  refine Ch (UC h₁ (λ_ s₁' h₁'=>?_) λ_ _ h'=>h'.elim)
  refine Ch (UC h₁' (λ_ s₂ h₂=>Ch (UC h₂ (λok s₃ h₃=>?_) λ_ _ h'=>h'.elim)) λ_ _ h'=>h'.elim)
  cases ok with
  | false=>exact Db ⟨rfl,h₃⟩
  | true =>
   exact Ch (Ch (UC h₃ (λx s₄ h₄=>Ch (UC h₄ (λ_ s₅ h₅=>Db (Db ⟨rfl,h₅⟩)) λ_ _ h'=>h'.elim)) λ_ _ h'=>h'.elim))
end
noncomputable def Au(X:Cx)(sc:Scope)(N':List Str)(cl:List (Str×Addr))(C:Addr)(s:Shared)(H:Hp)(ex:List Addr):Cx where
 prog:=X.prog
 w:=X.w
 K:=X.K
 mg:=X.mg
 base:=X.base
 A:=X.A
 N:=N'
 s₀:=s
 H₀:=H
 env:=compEnvC sc cl C X.env
 outer:=X.stack
 stack:=X.stack
 ex:=ex
 fn:=λ_=>false
 calm:=true
 pn:=[]
 xe:=λ_ _=>False
noncomputable def BK(js:List (Option Nat))(σ:St):St:=js.map λo=>match o with
 | some i=>(σ[i]?).getD none
 | none=>none
noncomputable def OS(o:Option NameKind):Bool:=match o with
 | some .cell=>true
 | some .free=>true
 | _=>false
theorem Km{o:Option NameKind}(h:OS o=true):o=some .cell\/o=some .free:=by
 unfold OS at h
 split at h
 ·exact .inl rfl
 ·exact .inr rfl
 ·cases h
noncomputable def isFree(o:Option NameKind):Bool:=match o with
 | some .free=>true
 | _=>false
theorem Lu{o:Option NameKind}(h:isFree o=true):o=some .free:=by
 unfold isFree at h
 split at h
 ·rfl
 ·cases h
noncomputable def M9(o:Option NameKind):Bool:=match o with
 | some .local=>true
 | _=>false
theorem M8{o:Option NameKind}(h:M9 o=true):o=some .local:=by
 unfold M9 at h
 split at h
 ·rfl
 ·cases h
noncomputable def NA(k:ScopeKind):Bool:=match k with
 | .function=>true
 | _=>false
theorem M_{k:ScopeKind}(h:NA k=true):k=.function:=by
 unfold NA at h
 split at h
 ·rfl
 ·cases h
noncomputable def Su(sc esc:Scope)(p:Str×NameKind):Bool:=match p.2 with
 | .cell=>false
 | .free=>OS (esc.names.lookup p.1)
 | .local=>M9 (sc.names.lookup p.1)
 | _=>true
noncomputable def S6(x:Option Str)(y:Str):Bool:=match x with
 | some z=>z==y
 | none=>false
theorem Qh{x:Option Str}{y:Str}(h:S6 x y=true):x=some y:=by
 unfold S6 at h
 split at h
 ·exact congrArg some (by simpa using h)
 ·cases h
noncomputable def Do(sc esc:Scope)(N:List Str):List Str->List (Option Nat)->Bool
 | [],[]=>true
 | x::xs,some j::js=>isFree (sc.names.lookup x)&&S6 (N[j]?) x&&OS (esc.names.lookup x)&&Do sc esc N xs js
 | _::xs,none::js=>Do sc esc N xs js
 | _,_=>false
noncomputable def Gb(sc esc:Scope)(N N':List Str)(js:List (Option Nat)):Bool:=NA sc.kind&&sc.names.all (Su sc esc)&&Do sc esc N N' js
theorem Cb{sc esc:Scope}{N:List Str}:∀{N':List Str} {js:List (Option Nat)},Do sc esc N N' js=true->js.length=N'.length
 | [],[],_=>rfl
 | x::xs,some j::js,h=>by
  unfold Do at h
  rw [Tu] at h
  rw [Tk,Tk,Cb h.2]
 | x::xs,none::js,h=>by
  unfold Do at h
  rw [Tk,Tk,Cb h]
 | [],some _::_,h=>by unfold Do at h; cases h
 | [],none::_,h=>by unfold Do at h; cases h
 | _::_,[],h=>by unfold Do at h; cases h
theorem HU{sc esc:Scope}{N:List Str}:∀{N':List Str} {js:List (Option Nat)},Do sc esc N N' js=true->∀{k:Nat} {x:Str} {j:Nat},N'[k]?=some x->js[k]?=some (some j) ->
  sc.names.lookup x=some .free/\N[j]?=some x/\(esc.names.lookup x=some .cell\/esc.names.lookup x=some .free)
 | [],_,_,k,x,j,h1,_=>by simp at h1
 | _::_,[],h,_,_,_,_,_=>by unfold Do at h; cases h
 | y::ys,some i::js,h,k,x,j,h1,h2=>by
  unfold Do at h
  rw [Tu,Tu,Tu] at h
  cases k with
  | zero =>
   simp at h1 h2
   subst h1 h2
   exact⟨Lu h.1.1.1,Qh h.1.1.2,Km h.1.2⟩
  | succ k=>exact HU h.2 (k:=k) (by simpa using h1) (by simpa using h2)
 | y::ys,none::js,h,k,x,j,h1,h2=>by
  unfold Do at h
  cases k with
  | zero=>simp at h2
  | succ k=>exact HU h (k:=k) (by simpa using h1) (by simpa using h2)
theorem Ln{js:List (Option Nat)}{σ:St}{k:Nat}{v:V}(h:(BK js σ)[k]?=some (some v)):∃j,js[k]?=some (some j)/\σ[j]?=some (some v):=by
 unfold BK at h
 rw [UF] at h
 cases e:js[k]? with
 | none=>rw [e] at h; cases h
 | some o =>
  rw [e] at h
  cases o with
  | none=>cases h
  | some j =>
   refine⟨j,rfl,?_⟩
   have h':some ((σ[j]?).getD none)=some (some v):=h
   have h2:=Rs h'
   cases q:σ[j]? with
   | none=>rw [q] at h2; cases h2
   | some w=>rw [q] at h2; exact congrArg some h2
theorem Bf{env:Env}:∀{names:List (Str×NameKind)} {x:Str},names.lookup x=some .free ->
  (names.map fun(n,k)=>if (k==UD&&env.scope.kind==.function&&env.kindOf n==some .cell) then (n,Va) else (n,k)).lookup x=some .cell \/
  (names.map fun(n,k)=>if (k==UD&&env.scope.kind==.function&&env.kindOf n==some .cell) then (n,Va) else (n,k)).lookup x=some .free
 | [],_,h=>by simp at h
 | (n,k)::r,x,h=>by
  have ih:=@Bf env r x
  show UU x ((if (k==UD&&env.scope.kind==.function&&env.kindOf n==some .cell)=true then (n,Va) else (n,k))::_)=_\/UU x ((if (k==UD&&env.scope.kind==.function&&env.kindOf n==some .cell)=true then (n,Va) else (n,k))::_)=_
  by_cases hc:(k==UD&&env.scope.kind==.function&&env.kindOf n==some .cell)=true
  ·rw [if_pos hc]
   cases hx:x==n with
   | true=>exact .inl (by simp only [Uq,hx])
   | false =>
    simp only [Uq,hx] at h ⊢
    exact ih h
  ·rw [if_neg hc]
   cases hx:x==n with
   | true =>
    simp only [Uq,hx] at h ⊢
    exact .inr h
   | false =>
    simp only [Uq,hx] at h ⊢
    exact ih h
theorem Jd{env:Env}{sc:Scope}(hcell:∀y∈sc.names,y.2≠.cell){x:Str}(h:(relabel sc env).names.lookup x=some .cell\/(relabel sc env).names.lookup x=some .free):(x,UD)∈sc.names:=by
 have hm:(x,Va)∈(relabel sc env).names\/(x,UD)∈(relabel sc env).names:=h.elim (λz=>.inl (PySem.mem_of_lookup z)) λz=>.inr (PySem.mem_of_lookup z)
 have go:∀k:NameKind,(k=.cell\/k=.free)->(x,k)∈(relabel sc env).names->(x,UD)∈sc.names:=by
  intro k hk hmem
  unfold relabel at hmem
  obtain⟨⟨n,k0⟩,hn,e⟩:=T2.mp hmem
  by_cases hc:(k0==UD&&env.scope.kind==.function&&env.kindOf n==some .cell)=true
  ·have e':(n,Va)=(x,k):=by
    have:=e
    simp only [hc,if_true] at this
    exact this
   have hk0:k0=.free:=by
    rw [Tu,Tu] at hc
    simpa using hc.1.1
   cases e'
   subst hk0
   exact hn
  ·have e':(n,k0)=(x,k):=by
    have:=e
    simp only [hc,if_false] at this
    exact this
   cases e'
   rcases hk with rfl | rfl
   ·exact absurd rfl (hcell _ hn)
   ·exact hn
 exact hm.elim (go _ (.inl rfl)) (go _ (.inr rfl))
section
variable {X:Cx}{pins:List (Addr×Obj)}{σ:St}{H:Hp}{s:Shared}
structure CompOk (X:Cx) (sc:Scope) (N':List Str) (js:List (Option Nat)):Prop where
 kind:sc.kind=.function
 cell:∀y∈sc.names,y.2≠.cell
 free:∀x,(x,UD)∈sc.names->X.env.scope.names.lookup x=some .cell\/X.env.scope.names.lookup x=some .free
 names:∀y∈sc.names,y.2=.local->sc.names.lookup y.1=some .local
 cap:Do sc X.env.scope X.N N' js=true
theorem CompOk.of{sc:Scope}{N':List Str}{js:List (Option Nat)}(h:Gb sc X.env.scope X.N N' js=true):CompOk X sc N' js:=by
 unfold Gb at h
 rw [Tu,Tu,VV] at h
 obtain⟨⟨h1,h2⟩,h3⟩:=h
 refine⟨M_ h1,λy hy e=>?_,λx hx=>?_,λy hy e=>?_,h3⟩
 ·have q:=h2 y hy
  unfold Su at q
  rw [e] at q
  cases q
 ·have q:=h2 _ hx
  exact Km q
 ·have q:=h2 y hy
  unfold Su at q
  rw [e] at q
  exact M8 q
theorem Ic{sc:Scope}{N':List Str}{js:List (Option Nat)}{cl:List (Str×Addr)}{fp:List Addr}{h₁:Heap}{tk:Nat}(I:Inv X pins σ H s)(hc:X.calm=true)(O:CompOk X sc N' js)
  (hcl:∀x c,cl.lookup x=some c->X.env.cells.lookup x=some c) (hcl2:∀x,(x,UD)∈sc.names->∃c,cl.lookup x=some c)
  (hf:∀b∈fp,B_ X pins H b) (ho:∀b∈fp,∃o,s.heap.get? b=some o)
  (hns:h₁.Ns (s.heap.objs.size+1) (λ_=>none)) (hk:∀b o,s.heap.get? b=some o->h₁.get? b=some o) (hD:∃n,h₁.get? s.heap.objs.size=some { cls:=.type "list",data:=.seq #[] n }) :
  Inv (Au X sc N' cl (s.heap.objs.size+1) s H fp) [] (BK js σ) (Ac H s.heap.objs.size (.lst [])) { s with heap:=h₁,toks:=tk }:=by
 have fr:∀a,s.heap.objs.size<=a->H a=none:=λa ha=>I.hok.fresh ha
 have cellLt:∀x c,cl.lookup x=some c->c<s.heap.objs.size:=λx c e=>by
  obtain⟨v,q⟩:=I.cell x c (hcl x c e)
  exact q.lt
 have ok:(Au X sc N' cl (s.heap.objs.size+1) s H fp).Ok:=by
  refine⟨I.ok.mod,O.kind,I.ok.glob,I.ok.blt,UV _,λx y c h1 h2=>I.ok.inj x y c (hcl x c h1) (hcl y c h2),λx hx=>?_,λx c hx=>?_,λ_=>I.ok.hd hc,I.ok.frames,.inl rfl,λb hb=>⟨?_,λx c e=>?_⟩,I.bs,T6 I.ok.bsz I.sz,λb o e hb=>?_,λb hb hb2=>?_,I.stack,I.stkFree⟩
  ·exact hcl2 x (Jd (env:=X.env) O.cell hx)
  ·exact absurd (show false=true from hx) TW
  ·obtain⟨o,e⟩:=ho b hb
   exact T1 (Uj (FM e))
  ·exact(hf b hb).2.2.2.2.1 x c (hcl x c e)
  ·rcases (hf b hb).2.2.2.1 with z | z
   ·exact I.ok.noex b o e z
   ·have h1:b<X.base.objs.size:=FM e
    exact absurd (Tx h1 (T6 I.ok.bsz z)) (UX _)
  ·rcases TM.mp (I.stkSub b hb2) with z | z
   ·exact(hf b hb).2.1 z
   ·exact(hf b hb).2.2.1 z
 refine⟨ok,rfl,I.bare,?_,⟨_,hns,λi x v h1 h2 h3=>?_⟩,λx c e=>?_,?_,λx c e=>?_,λp hp=>absurd (show p∈([]:List (Addr×Obj)) from hp) (by simp),?_,?_⟩
 ·exact Un.laid hk (Go _) (fr _ (Go _))
 ·obtain⟨j,e1,e2⟩:=Ln h2
  obtain⟨c1,c2,c3⟩:=HU O.cap h1 e1
  obtain⟨m,_,hl⟩:=I.loc
  obtain⟨u,r,l⟩:=hl j x v c2 e2 (.inr c3)
  refine⟨u,r,.inr ⟨Bf c1,?_⟩⟩
  rcases l with ⟨l1,_⟩ | ⟨_,c,l2,l3⟩
  ·have l1':X.env.scope.names.lookup x=some .local:=l1
   rcases c3 with c3 | c3 <;> (rw [l1'] at c3; cases c3)
  ·obtain⟨c',e'⟩:=hcl2 x (PySem.mem_of_lookup c1)
   have:c'=c:=Rs ((hcl x c' e').symm.trans l2)
   subst this
   obtain⟨oc,hoc,hocd⟩:=id l3
   exact⟨c',e',oc,hk _ _ hoc,hocd⟩
 ·obtain⟨v,oc,hoc,hocd⟩:=I.cell x c (hcl x c e)
  exact⟨v,oc,hk _ _ hoc,hocd⟩
 ·show Ac H s.heap.objs.size (.lst []) (s.heap.objs.size+1)=none
  rw [AH (Nat.succ_ne_self _)]
  exact fr _ (UV _)
 ·show Ac H s.heap.objs.size (.lst []) c=none
  rw [AH (T1 (cellLt x c e))]
  exact I.freeC x c (hcl x c e)
 ·refine I.hok.laid hk (Go _) ?_
  obtain⟨n,e⟩:=hD
  exact⟨UI _,[],n,.nil,e⟩
 ·unfold BK
  show (js.map _).length=N'.length
  rw [Ev]
  exact Cb O.cap
theorem Un.but{fs ex:List Addr}{H H1:Hp}{h h1 h':Heap}{C:Addr}(u:Un fs ex H H1 h h1)(hC:h.get? C=none)(hs:∀b,b≠C->h'.get? b=h1.get? b):Un fs ex H H1 h h':=by
 have ne:∀{b:Addr} {o:Obj},h.get? b=some o->b≠C:=λ{b o} e z=>by rw [z,hC] at e; cases e
 refine⟨λb o e n h1 h2=>(hs b (ne e)).trans (u.keep b o e n h1 h2),λb o e n h1 h2=>?_,u.free,λb o e h1=>?_,u.tups,u.frzs,u.tbls⟩
 ·obtain⟨sl,q⟩:=u.slot b o e n h1 h2
  exact⟨sl,(hs b (ne e)).trans q⟩
 ·obtain⟨o',q⟩:=u.there b o e h1
  exact⟨o',(hs b (ne e)).trans q⟩
theorem J1{sc:Scope}{N':List Str}{cl:List (Str×Addr)}{C:Addr}{fp:List Addr}{pins':List (Addr×Obj)}{σ':St}{H':Hp}{s':Shared}{h':Heap}(I:Inv X pins σ H s)(hf:∀b∈fp,B_ X pins H b)(hC:s.heap.objs.size<=C)
  (J:Inv (Au X sc N' cl C s H fp) pins' σ' H' s') (hs:∀b,b≠C->h'.get? b=s'.heap.get? b):Inv X pins σ H' { s' with heap:=h' }:=by
 have nC:s.heap.get? C=none:=by
  cases e:s.heap.get? C with
  | none=>rfl
  | some o=>exact absurd (FM e) (Vq.mpr hC)
 have hC':H' C=none:=J.free
 refine I.call' (s':={ s' with heap:=h' }) (ch:=fp) J.os (Un.but J.base nC hs) (λa o e=>?_) J.bare λb hb=>?_
 ·exact(J.hok a o e).stay (λb u hb q=>(hs b (λz=>by
   rw [z] at hb
   rcases hb with z2 | z2
   ·rw [← z2,hC'] at e; cases e
   ·rw [hC'] at z2; cases z2)).trans q) (λ_ q=>q) λ_ _ q=>q
 ·obtain⟨f0,f1,f2,f3,f4,f5⟩:=hf b hb
  exact⟨f3,f1,f4,f5⟩
end
noncomputable def Q0(X:Cx)(ifs:List Expr)(t:TT):Prop :=
 ∀(pins:List (Addr×Obj)) (s:Shared) (σ:St) (H:Hp) (Q:Bool->Hp->Prop),Inv X pins σ H s->t σ H Q ->
  wpAny (model X.prog X.w) X.A (forIn ifs true λc r=>if r=true then do let ok ← isTrue c X.env (eval c X.env); pure (VF ok) else pure (VF r)) (TP X pins σ Q) X.xe s
noncomputable def Sk:TT:=λ_ H Q=>Q true H
theorem N6{X:Cx}:Q0 X [] Sk:=λpins s σ H Q I h=>wpAny_tests_nil ⟨H,I,h⟩
theorem N5{X:Cx}{c:Expr}{t:TT}(h:PT X c t):Q0 X [c] t:=λpins s σ H Q I q=>wpAny_tests_one (h pins s σ H Q I q)
noncomputable def RO(X:Cx)(sc:Scope)(N':List Str)(js:List (Option Nat))(tg elt:Expr)(ifs:List Expr)(wi:TI):TE:=λσ H Q=>wi σ H λJ H1=>∀l,H1 l=none->X.K.lookup l=none->∀cl C s H0 fp,∃(g:TG) (tt:TT) (te:TE) (W:Nat->Nat->St->Hp->Prop),
 PG (Au X sc N' cl C s H0 fp) tg g/\Q0 (Au X sc N' cl C s H0 fp) ifs tt/\PE (Au X sc N' cl C s H0 fp) elt te/\(∃m,W 0 m (BK js σ) (Ac H1 l (.lst [])))/\∀i m σ' H',W i m σ' H' ->
 (J.stop i H'/\Q (.ref l) H')\/(J.go i H'/\∀x H2,J.yld i H' x H2->g x σ' H2 λσ3 H3=>tt σ3 H3 λb H4=>if b=true then te σ3 H4 λy H5=>∃ys,H5 l=some (.lst ys)/\ys.length<sizeLine/\∃m',m'<m/\W (i+1) m' σ3 (Ac H5 l (.lst (ys++[y]))) else ∃m',m'<m/\W (i+1) m' σ3 H4)
section
variable {X:Cx}{tg elt iter:Expr}{ifs:List Expr}{sc:Scope}{pos:Pos}{N':List Str}{js:List (Option Nat)}{wi:TI}{g:TG}{tt:TT}{te:TE}
theorem L6{pins:List (Addr×Obj)}{σ:St}{H:Hp}{s:Shared}{cl:List (Str×Addr)}{C l it:Addr}{fp:List Addr}{tn:Nat->Heap->Prop}{J:It}{s3:Shared}{Q:VK}{R:Result->Shared->Prop}{W:Nat->Nat->St->Hp->Prop}{m0:Nat}{σ0:St}{H0:Hp}
  (I:Inv X pins σ H s) (hf:∀b∈fp,B_ X pins H b) (hlt:∀b∈fp,b<s.heap.objs.size) (hC:s.heap.objs.size<=C)
  (T:Turn X.prog X.w X.K tg J fp it tn)
  (hg:PG (Au X sc N' cl C s H fp) tg g) (ht:Q0 (Au X sc N' cl C s H fp) ifs tt) (he:PE (Au X sc N' cl C s H fp) elt te)
  (hW:∀i m σ' H',W i m σ' H' ->
   (J.stop i H'/\Q (.ref l) H')\/(J.go i H'/\∀x H2,J.yld i H' x H2->g x σ' H2 λσ3 H3=>tt σ3 H3 λb H4=>if b=true then te σ3 H4 λy H5=>∃ys,H5 l=some (.lst ys)/\ys.length<sizeLine/\∃m',m'<m/\W (i+1) m' σ3 (Ac H5 l (.lst (ys++[y]))) else ∃m',m'<m/\W (i+1) m' σ3 H4))
  (hR:∀σ' H' s',Inv (Au X sc N' cl C s H fp) [] σ' H' s'->Q (.ref l) H'->R (.ok .next) s')
  (I3:Inv (Au X sc N' cl C s H fp) [] σ0 H0 s3) (t3:tn 0 s3.heap) (f3:∀b∈fp,H0 b=none) (w0:W 0 m0 σ0 H0) :
  codeAny (model X.prog X.w) X.A (.compLoop (.ListComp elt [⟨tg,iter,ifs,0⟩] sc pos) 0 (.ref it) (.ref l) (compEnvC sc cl C X.env)) R s3:=by
 have stat:∀{H':Hp},(∀b∈fp,H' b=none)->∀b∈fp,B_ (Au X sc N' cl C s H fp) [] H' b:=λhn b hb=>by
  have q:=I3.ok.exf b hb
  refine⟨hn b hb,q.1,I3.ok.exfs b hb,.inl hb,q.2,λp hp=>absurd (show p∈([]:List (Addr×Obj)) from hp) (by simp)⟩
 refine Dn (λn s'=>∃i σ' H',Inv (Au X sc N' cl C s H fp) [] σ' H' s'/\tn i s'.heap/\(∀b∈fp,H' b=none)/\W i n σ' H') ?_ m0 ⟨0,σ0,H0,I3,t3,f3,w0⟩
 rintro n s4 ⟨i,σ4,H4,I4,st4,fr4,w4⟩
 rcases hW i n σ4 H4 w4 with ⟨stop,qn⟩ | ⟨go,step⟩
 ·refine A3 (T.done (Au X sc N' cl C s H fp) rfl rfl rfl rfl i [] s4 σ4 H4 (λ_ _=>False) I4 (stat fr4) st4 stop) λr s5 ⟨hr,I5⟩=>?_
  subst hr
  exact hR σ4 H4 s5 I5 qn
 ·refine A3 (T.item (Au X sc N' cl C s H fp) rfl rfl rfl rfl i [] s4 σ4 H4 (λ_ _=>False) I4 (stat fr4) st4 go) λr s5 ⟨u,hr,h5⟩=>?_
  subst hr
  refine A3 h5 λ_ s6 ⟨x,H6,I6,r6,y6,st6,fr6⟩=>?_
  have I6':=I6.pinned (stat fr6) (T.obj _ _ st6)
  refine A3 (hg _ s6 σ4 H6 x u _ I6' r6 (step x H6 y6)) λ_ s7 ⟨σ7,H7,I7,q7⟩=>?_
  have again:∀{σ9:St} {H9:Hp} {s9:Shared} {m':Nat},Inv (Au X sc N' cl C s H fp) ([]++D3 fp s6.heap) σ9 H9 s9->m'<n->W (i+1) m' σ9 H9->∃m,m<n/\∃i σ' H',Inv (Au X sc N' cl C s H fp) [] σ' H' s9/\tn i s9.heap/\(∀b∈fp,H' b=none)/\W i m σ' H':=λ{σ9 H9 s9 m'} I9 hm w9=>by
   refine⟨m',hm,i+1,σ9,H9,I9.unpinned,T.keep _ _ _ st6 λb hb o e=>(I9.pin (b,o) (T4 _ (T4 _ (BV hb e)))).1,λb hb=>?_,w9⟩
   obtain⟨o,e,d⟩:=T.obj _ _ st6 b hb
   exact(I9.pin (b,o) (T4 _ (T4 _ (BV hb e)))).2.1
  refine A3 (ht _ s7 σ7 H7 _ I7 q7) λok s8 ⟨H8,I8,q8⟩=>?_
  cases ok with
  | false =>
   have q8':∃m',m'<n/\W (i+1) m' σ7 H8:=q8
   obtain⟨m',hm,w8⟩:=q8'
   show ∃m,m<n/\_
   exact again I8 hm w8
  | true =>
   refine A3 (he _ s8 σ7 H8 _ I8 q8) λy s9 ⟨yv,H9,I9,ry,q9⟩=>?_
   obtain⟨ys,hl,hz,m',hm,w9⟩:=q9
   refine A3 (Cg (X:=Au X sc N' cl C s H fp) _ s9 σ7 H9 (.ref l) [yv] (.ref l) [y] (λv H'=>v=.non/\H'=Ac H9 l (.lst (ys++[yv]))) I9 rfl (.cons ry .nil) ⟨l,ys,yv,rfl,rfl,hl,hz,rfl,rfl⟩) λ_ sa ⟨v,Ha,Ia,_,_,eH⟩=>?_
   subst eH
   exact again Ia hm w9
theorem OA(hc:X.calm=true)(N':List Str)(js:List (Option Nat))(hi:PI X tg iter wi)
  (hB:Gb sc X.env.scope X.N N' js=true)
  (hs:autoParam (∀x,foldedSetIterable iter X.env x=pure x) zau2._auto_1) :
  PE X (.ListComp elt [⟨tg,iter,ifs,0⟩] sc pos) (RO X sc N' js tg elt ifs wi):=by
 intro pins s σ H Q I h
 have O:CompOk X sc N' js:=CompOk.of hB
 obtain⟨cl,hclos,hcl,hcl2⟩:=Fl (scope:=sc) (env:=X.env) λx hx=>I.ok.has x (O.free x hx)
 rw [eval_ListComp]
 refine wpAny_comprehension_free (use:=none) rfl hs hclos O.kind O.names (A3 (hi pins s σ H _ I h) λv s1 h1=>A3 h1 λitv s2 h2=>?_)
 obtain⟨it,fp,tn,J,H2,e,I2,T,st2,f2,hq⟩:=h2
 subst e
 have kfree:X.K.lookup s2.heap.objs.size=none:=by
  cases q:X.K.lookup s2.heap.objs.size with
  | none=>rfl
  | some o=>exact absurd (FM (I2.kIn _ _ q)) (UX _)
 obtain⟨g,tt,te,W,hg,ht,he,⟨m0,w0⟩,hW⟩:=hq s2.heap.objs.size (I2.hok.fresh (Go _)) kfree cl (s2.heap.objs.size+1) s2 H2 fp
 refine UO (wpAny_newFunctionEnv O.cell (by intro y hy; simp at hy) (λh₁ hns₁ hsb₁=>?_) O.kind)
 dsimp only at hns₁ hsb₁ ⊢
 generalize hH2:s2.heap.push { cls:=.type "list",dict:=none,data:=.seq ([]:List Value).toArray }=Hh at hns₁ hsb₁ ⊢
 have hCe:Hh.objs.size=s2.heap.objs.size+1:=by rw [← hH2,UZ]
 have hlt:∀b∈fp,b<s2.heap.objs.size:=λb hb=>by
  obtain⟨o,e,_⟩:=T.obj _ _ st2 b hb
  exact FM e
 have old:∀b o,s2.heap.get? b=some o->h₁.get? b=some o:=λb o e=>hsb₁.extBut b o (by rw [hCe]; exact T1 (Uj (FM e))) (Cn _ (hH2▸Cn _ e))
 have hD:∃n,h₁.get? s2.heap.objs.size=some { cls:=.type "list",data:=.seq #[] n }:=⟨_,hsb₁.extBut _ _ (by rw [hCe]; exact T1 (Wm _)) (Cn _ (hH2▸On _ rfl))⟩
 have I3:∀tk,Inv (Au X sc N' cl (s2.heap.objs.size+1) s2 H2 fp) [] (BK js σ) (Ac H2 s2.heap.objs.size (.lst [])) { s2 with heap:=h₁,toks:=tk }:=λtk =>
  Ic I2 hc O hcl hcl2 f2 (λb hb=>let ⟨o,e,_⟩:=T.obj _ _ st2 b hb; ⟨o,e⟩) (by rw [← hCe]; exact hns₁) old hD
 have st3:tn 0 h₁:=T.keep _ _ _ st2 λb hb o e=>old b o e
 have fr3:∀b∈fp,Ac H2 s2.heap.objs.size (.lst []) b=none:=λb hb=>by
  rw [AH (T1 (hlt b hb))]
  exact(f2 b hb).1
 have loop:∀tk,codeAny (model X.prog X.w) X.A (.compLoop (.ListComp elt [⟨tg,iter,ifs,0⟩] sc pos) 0 (.ref it) (.ref s2.heap.objs.size) (compEnvC sc cl (s2.heap.objs.size+1) X.env))
   (compPost (model X.prog X.w) X.A X.xe none (EP X pins σ Q) (.ref s2.heap.objs.size) (s2.heap.objs.size+1)) { s2 with heap:=h₁,toks:=tk }:=λtk=>by
  refine L6 (W:=W) (m0:=m0) (Q:=Q) I2 f2 hlt (UV _) T hg ht he hW (λσ' H' s' J' q'=>?_) (I3 tk) st3 fr3 w0
  obtain⟨m,hn,_⟩:=J'.loc
  exact⟨m,hn,λh' hs'=>⟨.ref _,H',J1 I2 f2 (UV _) J' λb hb=>hs'.2 b hb,rfl,q'⟩⟩
 rw [show (newEnv sc Hh.objs.size X.env.globals cl X.env.qual none .none (some X.env) builtinsNs).locals=s2.heap.objs.size+1 from hCe]
 show codeAny (model X.prog X.w) X.A (.compStart (.ListComp elt [⟨tg,iter,ifs,0⟩] sc pos) 0 (.ref it) (.ref s2.heap.objs.size) (compEnvC sc cl (s2.heap.objs.size+1) X.env)) _ _
 exact codeAny_compStart_list (loop _) (T.self _ 0 _ _ _ st3 (loop _))
end
end L2
namespace L2
open PySem
structure Fly (B:Heap) (l:List Env) (a C:Addr) (dx:Option Addr) (h:Heap):Prop where
 stays:B.StaysIn h
 new:B.get? a=none
 frames:h.FunFrames B l
 obj:∃vs sl tb,h.get? a=some ⟨.ref C,dx,.fields vs,sl⟩/\vs[2]?=some .none/\vs[1]?=some tb/\(tb=.none\/∃T oT ts,tb=.ref T/\B.get? T=none/\T≠a/\h.get? T=some oT/\oT.data=.fields ts/\3<ts.size)
section
variable {M:Model}{A:Around}{E:Value->Shared->Prop}{s:Shared}{B:Heap}{env:Env}{outer l:List Env}{L a C:Addr}{dx:Option Addr}{Q:Unit->Shared->Prop}
theorem size_of{vs:Array Value}{i:Nat}{x:Value}(h:vs[i]?=some x):i<vs.size:=(Array.getElem?_eq_some_iff.mp h).1
theorem GU{vs:Array Value}{sl:Array (Option Value)}{head tb:Value}{nx:Bool}(hfr:A.frames=some (env::outer))(hf:env.frame=some L)(hl:s.heap.FunFrames B (env::outer))(hs:B.StaysIn s.heap)(hn:B.get? a=none)
  (he:s.heap.get? a=some ⟨.ref C,dx,.fields vs,sl⟩) (h1:vs[1]?=some tb) (h2:vs[2]?=some .none)
  (h:∀h',Fly B (env::outer) a C dx h'->s.heap.UpToSlots h'->Q () { s with heap:=h' }) :
  wpAny M A (do let f ← frameOf env; let pl ← entryPlaceOf L nx; let b ← W8 head f .none (rawInt L) .none pl; setField (.ref a) 1 b) Q E s:=by
 have z1:=size_of h1
 have z2:=size_of h2
 have na:a∉(env::outer).filterMap (·.frame):=λq=>by
  obtain⟨_,o,ho,hnf⟩:=hl.mem q
  rw [he] at ho
  cases ho
  exact hnf vs rfl
 refine Ch (wpAny_frameOf_fun hfr hl hf λk hk=>?_)
 refine Ch (wpAny_entryPlaceOf λpl hpl=>?_)
 unfold W8 newFields
 refine Ch (UO ?_ (hpl.sizeOk5 _ _ _ _ _))
 have ka:k.get? a=some ⟨.ref C,dx,.fields vs,sl⟩:=(hk.2.1 a na).trans he
 have kB:B.StaysIn k:=λb o q=>(hk.2.1 b λz=>by rw [(hl.mem z).1] at q; cases q).trans (hs b o q)
 generalize hob:({ cls:=.type "traceback",dict:=none,data:=.fields ([head,.ref L,.none,rawInt L,.none]++(if pl.isEmpty then Is 6 T9 else pl)).toArray }:Obj)=ob
 have pa:(k.push ob).get? a=some ⟨.ref C,dx,.fields vs,sl⟩:=Cn _ ka
 refine VT pa rfl z1 ?_
 have ne:k.objs.size≠a:=Uy (FM ka)
 have ga:=Ue (Up (·.setIfInBounds 1 (Sc k.objs.size))) pa rfl
 have gT:((k.push ob).update a (Up (·.setIfInBounds 1 (Sc k.objs.size)))).get? k.objs.size=some ob:=by
  rw [T3 _ _ (Ug ne)]
  exact On k (by subst hob; rfl)
 have kp:∀b o,b≠a->k.get? b=some o->((k.push ob).update a (Up (·.setIfInBounds 1 (Sc k.objs.size)))).get? b=some o:=λb o nb q=>by
  rw [T3 _ _ (Ug nb)]
  exact Cn _ q
 have nf:∀b o,s.heap.get? b=some o->(∀vs,o.data≠.fields vs)->b≠a:=λb o q hnf z=>by
  rw [z,he] at q
  cases q
  exact hnf vs rfl
 refine h _ ⟨λb o q=>kp b o (λz=>by rw [z,hn] at q; cases q) (kB b o q),hn,hl.of_keeps λb o q hnf=>?_,_,_,_,ga,?_,?_,.inr ⟨k.objs.size,ob,_,rfl,kB.fresh,ne,gT,by subst hob; rfl,?_⟩⟩ λb o q hnf=>?_
 ·obtain⟨sl',e⟩:=hk.2.2 b o q
  exact⟨_,kp b _ (nf b o q hnf) e,rfl⟩
 ·rw [Array.getElem?_setIfInBounds_ne (by decide)]; exact h2
 ·simp [z1]
 ·simp only [Re,Tz,Tk,Ub]; omega
 ·obtain⟨sl',e⟩:=hk.2.2 b o q
  exact⟨sl',kp b _ (nf b o q hnf) e⟩
theorem Fly.mark{T:Addr}{oT:Obj}{ts vs:Array Value}{x:Value}{sl:Array (Option Value)}(F:Fly B l a C dx s.heap)(he:s.heap.get? a=some ⟨.ref C,dx,.fields vs,sl⟩)(h1:vs[1]?=some (.ref T))(h2:vs[2]?=some .none)(nT:B.get? T=none)(ne:T≠a)(hT:s.heap.get? T=some oT)
  (hd:oT.data=.fields ts) (hz:3<ts.size):Fly B l a C dx (s.heap.update T (Up (·.setIfInBounds 3 x)))/\s.heap.UpToSlots (s.heap.update T (Up (·.setIfInBounds 3 x)))/\(s.heap.update T (Up (·.setIfInBounds 3 x))).get? a=some ⟨.ref C,dx,.fields vs,sl⟩:=by
 have ot:∀b,b≠T->(s.heap.update T (Up (·.setIfInBounds 3 x))).get? b=s.heap.get? b:=λb nb=>T3 _ _ (Ug nb)
 have nf:∀b o,s.heap.get? b=some o->(∀vs,o.data≠.fields vs)->b≠T:=λb o q hnf z=>by
  rw [z,hT] at q
  cases q
  exact hnf ts hd
 have ga:=(ot a (Ug ne)).trans he
 refine⟨⟨λb o q=>(ot b λz=>by rw [z,nT] at q; cases q).trans (F.stays b o q),F.new,F.frames.of_keeps λb o q hnf=>⟨o,(ot b (nf b o q hnf)).trans q,rfl⟩,vs,sl,_,ga,h2,h1,.inr ⟨T,_,_,rfl,nT,ne,Ue _ hT (Obj.isFreed_of_fields (Vk hd _)),Vk hd _,by simpa using hz⟩⟩,λb o q hnf=>⟨o.slots,(ot b (nf b o q hnf)).trans q⟩,ga⟩
theorem DJ(F:Fly B l a C dx s.heap)(h:∀h',Fly B l a C dx h'->s.heap.UpToSlots h'->Q () { s with heap:=h' }):wpAny M A (setFlight (.ref a) none) Q E s:=by
 obtain⟨vs,sl,tb,he,h2,h1,hT⟩:=F.obj
 unfold setFlight
 refine Ch (UE he rfl h1 ?_)
 rcases hT with rfl | ⟨T,oT,ts,rfl,nT,ne,gT,hd,hz⟩
 ·rw [if_neg (by decide)]
  exact Db (h _ F (W9 _))
 ·rw [if_pos (show (Sc T != T9)=true by simp)]
  obtain⟨f1,f2,_⟩:=F.mark (x:=(none:Option Addr).elim T9 λf=>rawInt f) he h1 h2 nT ne gT hd hz
  exact VT gT hd hz (h _ f1 f2)
theorem Ig(hfr:A.frames=some (env::outer))(hf:env.frame=some L)(F:Fly B (env::outer) a C dx s.heap)
  (h:∀h',Fly B (env::outer) a C dx h'->s.heap.UpToSlots h'->Q () { s with heap:=h' }):wpAny M A (noteFrame (.ref a) env) Q E s:=by
 obtain⟨vs,sl,tb,he,h2,h1,hT⟩:=F.obj
 unfold noteFrame
 simp only [hf]
 refine Ch (UE he rfl h1 ?_)
 rcases hT with rfl | ⟨T,oT,ts,rfl,nT,ne,gT,hd,hz⟩
 ·rw [if_neg (by decide)]
  exact GU hfr hf F.frames F.stays F.new he h1 h2 h
 ·rw [if_pos (show (Sc T != T9)=true by simp)]
  obtain⟨x,hx⟩:∃x,ts[3]?=some x:=⟨_,Array.getElem?_eq_getElem hz⟩
  refine Ch (UE gT hd hx ?_)
  by_cases e:(x==rawInt L)=true
  ·rw [if_pos e]
   exact Db (h _ F (W9 _))
  ·rw [if_neg e]
   obtain⟨f1,f2,f3⟩:=F.mark (x:=T9) he h1 h2 nT ne gT hd hz
   refine Ch (VT gT hd hz ?_)
   exact GU hfr hf f1.frames f1.stays f1.new f3 h1 h2 λh' g1 g2=>h h' g1 (f2.trans g2)
theorem Lz(hfr:A.frames=some (env::outer))(hf:env.frame=some L)(F:Fly B (env::outer) a C dx s.heap)
  (h:∀h',Fly B (env::outer) a C dx h'->s.heap.UpToSlots h'->Q () { s with heap:=h' }):wpAny M A (leaving env (.ref a)) Q E s:=by
 unfold leaving
 exact Ch (Ig hfr hf F λh' f1 u1=>DJ (s:={ s with heap:=h' }) f1 λh2 f2 u2=>h h2 f2 (u1.trans u2))
theorem Fly.tail(F:Fly B (env::outer) a C dx s.heap):Fly B outer a C dx s.heap:=⟨F.stays,F.new,F.frames.2.2,F.obj⟩
end
section
variable {prog:Program}{w:World}{A:Around}{E:Value->Shared->Prop}{R:Result->Shared->Prop}{h:Heap}{g:Array GenState}{d:Drawn}{t:Nat}{os:OsState}
variable {nm q:Str}{C N f:Addr}{bs bm bmB:List Value}{hdct:Bool}{sn:List Str}{sub:List Value}{ab:Bool}{col:Option Bool}{dd:Option Addr}{k0 k1 k2 k3 k5:Option Value}{B newId initId:String}{of:Obj}
noncomputable def A8(C t:Addr):Obj:={ cls:=.ref C,data:=.fields #[.ref t,.none,.none,.none,.bool false,.none] }
noncomputable def SH(x:Addr)(R:Result->Shared->Prop)(r:Result)(s':Shared):Prop:=match r with
 | .ok (.ret v)=>v=.none/\R (.ok (.ret (.ref x))) s'
 | .ok _=>False
 | .error e=>R (.error e) s'
theorem FI{s:Shared}{env:Env}{x:Sem Value}{Q:Flow->Shared->Prop}{M:Model}(hbase:bm.contains (.type "BaseException")=true)(hh:A.handled=none)
  (hx:wpAny M A x (λv s₁=>∃e dx vs sl,v=.ref e/\s₁.heap.get? C=some (excClassObj nm q C N bs bm hdct sn sub ab col dd k0 k1 k2 k3 k5 newId) /\
   s₁.heap.get? e=some ⟨.ref C,dx,.fields vs,sl⟩/\vs[1]?=some .none/\E (.ref e) s₁) E s) :
  wpAny M A (raiseStmt env (some x) none) Q E s:=by
 have hcB:(Sc C::bm).contains (.type "BaseException")=true:=by rw [WQ,hbase,Bool.or_true]
 unfold raiseStmt
 refine Ch (UC hx (λv s₁ h₁=>?_) λ_ _ x=>x)
 obtain⟨e,dx,vs,sl,rfl,hC,he,h1,hE⟩:=h₁
 obtain⟨hp,g,d,tk,os⟩:=s₁
 repeat (first | with_reducible refine T8 he ?_ | with_reducible refine T8 hC ?_ | (with_reducible refine UT hC ?_; rw [hcB]) | wp_step)
 rw [h1]
 refine Db ?_
 rw [if_neg (by decide)]
 exact Db (wpAny_raiseNew_none hh hE)
theorem L1{M:Model}{e D N':Addr}{oe:Obj}{nm' q':Str}{bs' bmD:List Value}{hdct':Bool}{sn':List Str}{sub':List Value}{ab':Bool}{col':Option Bool}{dd':Option Addr}{l0 l1 l2 l3 l5:Option Value}{newId':String}{Q:Bool->Shared->Prop}
  (hC:h.get? C=some (excClassObj nm q C N bs bm hdct sn sub ab col dd k0 k1 k2 k3 k5 newId)) (hD:h.get? D=some (excClassObj nm' q' D N' bs' bmD hdct' sn' sub' ab' col' dd' l0 l1 l2 l3 l5 newId')) (hbase:bmD.contains (.type "BaseException")=true)
  (he:h.get? e=some oe) (hcls:oe.cls=.ref C) (hq:Q ((Sc C::bm).contains (.ref D)) ⟨h,g,d,t,os⟩):wpAny M A (excMatches (.ref e) (.ref D)) Q E ⟨h,g,d,t,os⟩:=by
 have hcB:(Sc D::bmD).contains (.type "BaseException")=true:=by rw [WQ,hbase,Bool.or_true]
 have f:=tc_notTuple
 generalize hb:(Sc C::bm).contains (.ref D)=b at hq
 unfold excMatches
 repeat (first | (with_reducible refine T8 he ?_; rw [hcls]) | with_reducible refine T8 hD ?_ | (with_reducible refine UT hD ?_; rw [hcB]) | wp_step)
 refine UT hC ?_
 rw [hb]
 cases b <;> (wp_walk; exact hq)
end
noncomputable def BY:List Value:=[.type "ValueError",.type "Exception",.type "BaseException",.type "object"]
structure XC (K:Frag) (nm:Str) (C U:Addr):Prop where
 obj:∃q N bs sn sub ab col dd k0 k1 k2 k3 k5,K.lookup C=some (excClassObj nm q C N bs (.ref U::BY) true sn sub ab col dd k0 k1 k2 k3 k5 "ValueError.__new__")
 up:∃q N bs sn sub ab col dd k0 k1 k2 k3 k5 hd,K.lookup U=some (excClassObj "ThinError" q U N bs BY hd sn sub ab col dd k0 k1 k2 k3 k5 "ValueError.__new__")
 kp:keepIn K (.ref C)=true
 ga:PySem.W.findIn K (.ref C) "__getattribute__"=some (some (.builtin "BaseException.__getattribute__"))
 gt:PySem.W.findIn K (.ref C) "__getattr__"=some none
 sa:PySem.W.findIn K (.ref C) "__setattr__"=some (some (.builtin "object.__setattr__"))
 at_:nsIn K mainGlobals nm=some (some (.ref C))
 atU:nsIn K mainGlobals "ThinError"=some (some (.ref U))
 ca:PySem.W.findIn K (.ref C) "__class__"=some (some (.builtin "object.__class__"))
 nw:PySem.W.findIn K (.ref C) "word"=some none
 nn:PySem.W.findIn K (.ref C) "number"=some none
 nr:PySem.W.findIn K (.ref C) "row"=some none
section
variable {prog:Program}{w:World}{A:Around}{E:Value->Shared->Prop}{s:Shared}{K:Frag}{nm name:Str}{x C U:Addr}{v:Value}{R:Result->Shared->Prop}
theorem XC.cls(c:XC K nm C U):∃cd,PySem.W.clsIn K C=some cd/\cd.mro=.ref C::.ref U::BY/\cd.hasDict=true/\cd.name=nm:=by
 obtain⟨q,N,bs,sn,sub,ab,col,dd,k0,k1,k2,k3,k5,e⟩:=c.obj
 refine⟨_,by unfold PySem.W.clsIn; rw [e],rfl,rfl,rfl⟩
theorem Ke{ox:Obj}{od:Option Obj}{tk:Tok}(X:K.In s.heap)(c:XC K nm C U)(I:PySem.W.InstAt s.heap x ox C od)(ht:PySem.W.findIn K (.ref C) name=some none)
  (h:∀b,wpAny (model prog w) A.in1 (Builtin.ObjectAttr.storeInOwnDict (.ref x) (.ref C) (.str name tk) name v b)
   (λfin s'=>match fin with | .done f=>R (.ok f) s' | .again c'=>c'.quiet=true/\codeAny (model prog w) A c' R s') (λe s'=>R (.error e) s') s) :
  codeAny (model prog w) A (.call (.builtin "object.__setattr__") ⟨[.ref x,.str name tk,v],[]⟩) R s:=by
 have SF:=PySem.F.store_ValueError
 obtain⟨cd,hc,hm,_⟩:=c.cls
 have sub:PySem.W.Looks (model prog w) s.heap (isInstance (.ref x) (.type "object")) true:=I.type.andThen (PySem.W.looks_mroIn X (by unfold PySem.W.mroIn; rw [hc,V2,hm]; rfl))
 refine WC SF.slot.plain SF.entry (@PySem.W.check_slot (model prog w) _ _ s "object.__setattr__" "object" "__setattr__" (.ref x) [.str name tk,v] [] _ SF.kind SF.split sub (SF.args (.ref x) (.str name tk) v) ?_)
 have hm':PySem.W.Looks (model prog w) s.heap (mroOf (.ref C)) cd.mro:=(PySem.W.looks_clsIn X hc).andThen .now
 rw [PySem.W.osa_eq,refuse_eq]
 refine Ch (Ch (I.type.here (Ch (hm'.here ?_))))
 rw [hm,refuseLoop_ref,refuseLoop_ref,show refuseLoop (.ref x) "__setattr__" BY=pure () from SF.passes _]
 exact Db (Ch (I.type.here (Ch ((PySem.W.looks_findIn X ht).here (Ch (Db (h _)))))))
theorem MT{vs:Array Value}{sl:Array (Option Value)}{Q:Unit->Shared->Prop}(X:K.In s.heap)(c:XC K nm C U)(hx:s.heap.get? x=some ⟨.ref C,none,.fields vs,sl⟩)(ht:PySem.W.findIn K (.ref C) name=some none)
  (h:∀h' t',h'.get? x=some ⟨.ref C,some s.heap.objs.size,.fields vs,sl⟩->h'.Ns1 s.heap.objs.size (λy=>if y=name then some v else none)->(∀b o,b≠x->s.heap.get? b=some o->h'.get? b=some o)->Q () { s with heap:=h',toks:=t' }) :
  wpAny (model prog w) A (setAttr (.ref x) name v) Q E s:=by
 obtain⟨cd,hc,hm,hd,_⟩:=c.cls
 have J:PySem.W.InstAt s.heap x ⟨.ref C,none,.fields vs,sl⟩ C none:=⟨hx,rfl,rfl,trivial⟩
 refine PySem.W.set_plain X J c.sa (Ke (s:={ s with toks:=s.toks+1 }) X c J ht λb=>?_)
 refine Ch (Db (Ch (Ch (wpAny_loadPart hx (Ch (PySem.W.Looks.here (s:={ s with toks:=s.toks+1 }) (PySem.W.looks_clsIn X hc) ?_))))))
 rw [hd]
 have hx1:(s.heap.push { cls:=.type "dict",data:=.dict #[] }).get? x=some ⟨.ref C,none,.fields vs,sl⟩:=Cn _ hx
 have nx:x≠s.heap.objs.size:=T1 (FM hx)
 show wpAny _ _ (alloc _ >>= _) _ _ _
 refine Ch (wpAny_alloc (Ch (wpAny_update hx1 (Db ?_))))
 generalize hhd:((s.heap.push { cls:=.type "dict",data:=.dict #[] }).update x λo=>{ cls:=o.cls,dict:=some s.heap.objs.size,data:=o.data,slots:=o.slots })=hh
 have gd:hh.get? s.heap.objs.size=some { cls:=.type "dict",data:=.dict #[] }:=by
  rw [← hhd,Heap.get?_update_ne _ _ _ _ nx.symm]
  exact On _ rfl
 have gx:hh.get? x=some ⟨.ref C,some s.heap.objs.size,.fields vs,sl⟩:=by
  rw [← hhd]
  exact Ue _ hx1 rfl
 have kb:∀b o,b≠x->s.heap.get? b=some o->hh.get? b=some o:=λb o nb e=>by
  rw [← hhd,Heap.get?_update_ne _ _ _ _ nb]
  exact Cn _ e
 have nd:hh.Ns s.heap.objs.size (λ_=>none):=⟨_,#[],_,gd,rfl,λe he=>absurd he (by simp),λ_=>rfl⟩
 show wpAny _ _ (WD s.heap.objs.size _ name v) _ _ _
 unfold WD Builtin.ObjectAttr.newKeyGuard
 refine Ch (Db (Ch (wpAny_nsSet1 (Heap.Ns1.of_empty nd) λh' hn hs=>?_)))
 obtain⟨oD,esD,epD,hoD,hdD,hcD⟩:=hn.count (PySem.Within.cons name v PySem.Within.nil)
 refine Ch (wpAny_lookBehind hoD (by rw [hdD]; exact pastItsLine_dict (T6 hcD (by rw [Tk,Ub,UQ]; omega))) ?_)
 refine Db (h h' _ ((hs.2 x nx).trans gx) hn λb o nb e=>(hs.2 b (T1 (FM e))).trans (kb b o nb e))
theorem MS{vs:Array Value}{sl:Array (Option Value)}{d:Addr}{mA:Str->Option Value}{ns:List Str}{Q:Unit->Shared->Prop}(X:K.In s.heap)(c:XC K nm C U)(hx:s.heap.get? x=some ⟨.ref C,some d,.fields vs,sl⟩)(nd:s.heap.Ns1 d mA)(hw:PySem.Within mA ns)(hsz:ns.length<=sizeLine)(ht:PySem.W.findIn K (.ref C) name=some none)
  (h:∀h' t',h'.Ns1 d (λy=>if y=name then some v else mA y)->V6 d s.heap h'->Q () { s with heap:=h',toks:=t' }) :
  wpAny (model prog w) A (setAttr (.ref x) name v) Q E s:=by
 obtain⟨cd,hc,hm,hd,_⟩:=c.cls
 obtain⟨o,_,_,ho,_⟩:=id nd
 have J:PySem.W.InstAt s.heap x ⟨.ref C,some d,.fields vs,sl⟩ C (some o):=⟨hx,rfl,rfl,ho⟩
 refine PySem.W.set_plain X J c.sa (Ke (s:={ s with toks:=s.toks+1 }) X c J ht λb=>?_)
 refine Ch (Db (Ch (Ch (wpAny_loadPart hx (Ch (PySem.W.Looks.here (s:={ s with toks:=s.toks+1 }) (PySem.W.looks_clsIn X hc) ?_))))))
 rw [hd]
 refine Db (a:=some d) (Ch (Db (Ch ?_)))
 refine wpAny_nsSet1 (s:={ s with toks:=s.toks+1 }) nd λh' hn hs=>?_
 obtain⟨oD,esD,epD,hoD,hdD,hcD⟩:=hn.count (PySem.Within.cons name v hw)
 refine Ch (wpAny_lookBehind hoD (by rw [hdD]; exact pastItsLine_dict (T6 hcD (by rw [Tk]; omega))) ?_)
 exact Db (h _ _ hn hs)
end
section
variable {M:Model}{prog:Program}{w:World}{A:Around}{E:Value->Shared->Prop}{R:Result->Shared->Prop}{h:Heap}{g:Array GenState}{d:Drawn}{t:Nat}{os:OsState}
variable {K:Frag}{nm q:Str}{C U N f:Addr}{bs:List Value}{sn:List Str}{sub:List Value}{ab:Bool}{col:Option Bool}{dd:Option Addr}{k0 k1 k2 k3 k5:Option Value}{rest:List Value}
theorem K2{Q:Unit->Shared->Prop}(hC:h.get? C=some (excClassObj nm q C N bs (.ref U::BY) true sn sub ab col dd k0 k1 k2 k3 k5 "ValueError.__new__"))
  (hq:Q () ⟨h,g,d,t,os⟩):wpAny M A (checkBuiltinCall "ValueError.__new__" ⟨.ref C::rest,[]⟩) Q E ⟨h,g,d,t,os⟩:=by
 have F:=PySem.F.excBase_ValueError
 have hcont:(Sc C::.ref U::BY).contains (.type "ValueError")=true:=by simp [BY]
 have hstar:=F.noStar
 simp only [checkBuiltinCall,F.newKind,F.newSplit,F.newRow]
 repeat (first | refine T8 hC ?_ | (refine UT hC ?_; rw [hcont]) | refine wpAny_staticBase_exc hC ?_ | refine Wn hC ?_ | simp only [bne_self_eq_false,Vj,if_false] | wp_step)
 exact hq
theorem Kq(hC:h.get? C=some (excClassObj nm q C N bs (.ref U::BY) true sn sub ab col dd k0 k1 k2 k3 k5 "ValueError.__new__"))
  (hq:R (.ok (.ret (.ref (h.objs.size+1)))) ⟨(h.push { cls:=.type "tuple",data:=.seq rest.toArray }).push (A8 C h.objs.size),g,d,t,os⟩) (hrest:rest.length<=sizeLine) :
  codeAny (model prog w) A (.builtin "ValueError.__new__" ⟨.ref C::rest,[]⟩) R ⟨h,g,d,t,os⟩:=by
 have F:=PySem.F.excBase_ValueError
 have hends:=F.ends
 have hcB:(Sc C::.ref U::BY).contains (.type "ValueError")=true:=by simp [BY]
 have hcA:(Sc C::.ref U::BY).contains (.type "AttributeError")=false:=by simp [BY]
 have hcN:(Sc C::.ref U::BY).contains (.type "NameError")=false:=by simp [BY]
 refine codeAny_builtinAt F.entry ?_
 unfold Builtin.«BaseException.__new__»
 refine wpAt_bind ?_
 show wpAt _ _ _ (stack >>= _) _ _ _
 refine wpAt_bind (wpAt_stack λp below=>wpAt_of_wpAny ?_)
 wp_walk
 refine wpAt_of_wpAny ?_
 rw [F.owner]
 repeat (first | with_reducible refine wpAny_madeHere_exc F.canon hC ?_ | with_reducible refine T8 hC ?_ | (with_reducible refine UT hC ?_; first | rw [hcB] | rw [hcA] | rw [hcN]) | wp_step)
 show R _ _
 rw [UZ]
 exact hq
theorem NV{e:Addr}{oe:Obj}{Q:Unit->Shared->Prop}(hC:h.get? C=some (excClassObj nm q C N bs (.ref U::BY) true sn sub ab col dd k0 k1 k2 k3 k5 "ValueError.__new__"))(he:h.get? e=some oe)(hcls:oe.cls=.ref C)(hq:Q () ⟨h,g,d,t,os⟩) :
  wpAny M A (checkBuiltinCall "ValueError.__init__" ⟨.ref e::rest,[]⟩) Q E ⟨h,g,d,t,os⟩:=by
 have F:=PySem.F.excBase_ValueError
 have hcB:(Sc C::.ref U::BY).contains (.type "ValueError")=true:=by simp [BY]
 have hshort:=F.noStar
 simp only [checkBuiltinCall,F.initKind,F.initSplit,F.initRow]
 repeat (first | (with_reducible refine T8 he ?_; rw [hcls]) | with_reducible refine T8 hC ?_ | (with_reducible refine UT hC ?_; rw [hcB]) | wp_step)
 refine Vy ?_
 rw [show ∀(a b:String) (n:Nat),Bind.check ⟨.positional,"*","ValueError",.self,[⟨"args",.varPos,false⟩]⟩ a b n (Wo (λx=>x.fst) ({ pos:=Sc e::rest }:Args).kw)=pure () from
  λa b n=>check_star_args _ _ _ _ _ _]
 exact Db hq
theorem NJ(X:K.In h)(c:XC K nm C U)(hi:PySem.W.findIn K (.ref C) "__init__"=some (some (.ref f)))(hf:PySem.W.typeIn K (.ref f)=some (.type "function"))(hrest:rest.length<=sizeLine)
  (hq:codeAny (model prog w) (A.under (.builtin "type.__call__" ⟨.ref C::rest,[]⟩)) (.call (.ref f) ⟨.ref (h.objs.size+1)::rest,[]⟩) (SH (h.objs.size+1) R) ⟨(h.push { cls:=.type "tuple",data:=.seq rest.toArray }).push (A8 C h.objs.size),g,d,t,os⟩) :
  codeAny (model prog w) A (.call (.ref C) ⟨rest,[]⟩) R ⟨h,g,d,t,os⟩:=by
 have F:=PySem.F.excBase_ValueError
 obtain⟨q,N,bs,sn,sub,ab,col,dd,k0,k1,k2,k3,k5,eC⟩:=c.obj
 have hC:=X _ _ eC
 have f1:=tc_lookup
 have f2:=tc_bind (.ref C)
 have hT:(⟨h,g,d,t,os⟩:Shared).TypeIs (.ref C) "type":=⟨_,hC,rfl⟩
 refine codeAny_of_tree ?_
 show wpAny _ _ (callAny (.ref C) _) _ _ _
 repeat (any_goals (first | assumption | with_reducible refine T8 hC ?_ | wp_step))
 refine⟨rfl,?_⟩
 refine codeAny_call_builtin_at (VG _ (by decide +kernel)) entry_typeCall (wpAny_check_type_call_sub hC ?_)
 repeat (first | with_reducible refine T8 hC ?_ | with_reducible refine Wn hC ?_ | wp_step)
 refine codeAny_call_builtin_code (VG _ F.quiet) (K2 hC ?_)
 refine Kq hC ?_ hrest
 show wpAny _ _ _ _ _ _
 have kk:∀b o,h.get? b=some o->((h.push { cls:=.type "tuple",data:=.seq rest.toArray }).push (A8 C h.objs.size)).get? b=some o:=λb o e=>Cn _ (Cn _ e)
 have hC₁:=kk _ _ hC
 have hget:((h.push { cls:=.type "tuple",data:=.seq rest.toArray }).push (A8 C h.objs.size)).get? (h.objs.size+1)=some (A8 C h.objs.size):=by unfold A8; heap_get
 have hcC:(Sc C::Sc U::BY).contains (.ref C)=true:=by simp
 unfold isInstance
 unfold A8 at *
 repeat (first | with_reducible refine T8 hget ?_ | (with_reducible refine UT hC₁ ?_; rw [hcC]) | wp_step)
 show wpAny _ _ (isSubtype (.ref C) (.ref C)) _ _ _
 refine UT hC₁ ?_
 rw [hcC,if_neg (by decide)]
 refine Ch (UR ?_)
 unfold callSpecial? specialOf
 repeat (first | with_reducible refine T8 hget ?_ | wp_step)
 show wpAny _ _ (typeLookup (.ref C) _) _ _ _
 refine(PySem.W.looks_findIn (X.keeps kk) hi).here ?_
 refine UR (Ch ((PySem.W.bind_fn (X.keeps kk) _ hf).here ?_))
 refine Ch (U7 (U_ hq λr s' z=>?_))
 rcases r with e | (v | _ | _ | _) <;> first | exact z | exact z.elim | skip
 obtain⟨rfl,z⟩:=z
 exact Db (Db z)
theorem L3(X:K.In h)(c:XC K nm C U)(hi:PySem.W.findIn K (.ref C) "__init__"=some (some (.builtin "ValueError.__init__")))(hrest:rest.length<=sizeLine)
  (hq:∀h',(∀b o,h.get? b=some o->h'.get? b=some o)->h'.get? (h.objs.size+1)=some (A8 C (h.objs.size+2))->R (.ok (.ret (.ref (h.objs.size+1)))) ⟨h',g,d,t,os⟩) :
  codeAny (model prog w) A (.call (.ref C) ⟨rest,[]⟩) R ⟨h,g,d,t,os⟩:=by
 have F:=PySem.F.excBase_ValueError
 obtain⟨q,N,bs,sn,sub,ab,col,dd,k0,k1,k2,k3,k5,eC⟩:=c.obj
 have hC:=X _ _ eC
 have f1:=tc_lookup
 have f2:=tc_bind (.ref C)
 have hT:(⟨h,g,d,t,os⟩:Shared).TypeIs (.ref C) "type":=⟨_,hC,rfl⟩
 refine codeAny_of_tree ?_
 show wpAny _ _ (callAny (.ref C) _) _ _ _
 repeat (any_goals (first | assumption | with_reducible refine T8 hC ?_ | wp_step))
 refine⟨rfl,?_⟩
 refine codeAny_call_builtin_at (VG _ (by decide +kernel)) entry_typeCall (wpAny_check_type_call_sub hC ?_)
 repeat (first | with_reducible refine T8 hC ?_ | with_reducible refine Wn hC ?_ | wp_step)
 refine codeAny_call_builtin_code (VG _ F.quiet) (K2 hC ?_)
 refine Kq hC ?_ hrest
 show wpAny _ _ _ _ _ _
 have kk:∀b o,h.get? b=some o->((h.push { cls:=.type "tuple",data:=.seq rest.toArray }).push (A8 C h.objs.size)).get? b=some o:=λb o e=>Cn _ (Cn _ e)
 have hC₁:=kk _ _ hC
 have hget:((h.push { cls:=.type "tuple",data:=.seq rest.toArray }).push (A8 C h.objs.size)).get? (h.objs.size+1)=some (A8 C h.objs.size):=by unfold A8; heap_get
 have hcC:(Sc C::Sc U::BY).contains (.ref C)=true:=by simp
 unfold isInstance
 unfold A8 at *
 repeat (first | with_reducible refine T8 hget ?_ | (with_reducible refine UT hC₁ ?_; rw [hcC]) | wp_step)
 show wpAny _ _ (isSubtype (.ref C) (.ref C)) _ _ _
 refine UT hC₁ ?_
 rw [hcC,if_neg (by decide)]
 refine Ch (UR ?_)
 unfold callSpecial? specialOf
 repeat (first | with_reducible refine T8 hget ?_ | wp_step)
 show wpAny _ _ (typeLookup (.ref C) _) _ _ _
 refine(PySem.W.looks_findIn (X.keeps kk) hi).here ?_
 refine UR (Ch (wpAny_of_eq (F.init.bind _) ?_))
 refine Ch (U7 (WC F.init.plain F.initEntry (NV hC₁ hget rfl ?_)))
 wp_walk
 refine hq _ (λb o e=>?_) ?_
 ·rw [T3 _ _ (Uy (Uj (FM e)))]
  exact Cn _ (kk b o e)
 ·refine(Ue (Up (·.setIfInBounds 0 (Sc _))) (Cn _ hget) rfl).trans ?_
  simp only [UZ]
  rfl
end
section
variable {prog:Program}{w:World}{A:Around}{E:Value->Shared->Prop}{s:Shared}
theorem Ji{α:Type}{e c:Addr}{oe oc:Obj}{vs ws:Array Value}{Q:α->Shared->Prop}(hh:A.handled=some (.ref c))(he:s.heap.get? e=some oe)(hd:oe.data=.fields vs)(h2:2<vs.size)(hc:s.heap.get? c=some oc)(hcd:oc.data=.fields ws)(hc2:ws[2]?=some .none)(ne:c≠e)
  (h:E (.ref e) { s with heap:=s.heap.update e (Up (·.setIfInBounds 2 (.ref c))) }):wpAny (model prog w) A (raiseNew (.ref e):Sem α) Q E s:=by
 unfold raiseNew
 refine Ch (wpAny_handled ?_)
 rw [hh]
 dsimp only
 rw [if_pos (show (Sc c != Sc e)=true by simp [ne])]
 refine Ch (UR (wpAny_runValue (Wu (b:=Builtin.«proto.unchain») (entryFor_of_tree (by kernel_rfl)) ?_)))
 unfold Builtin.«proto.unchain»
 dsimp only
 refine Ch (UE hc hcd hc2 ?_)
 rw [if_pos (by decide)]
 exact Db (Ch (show wpAny _ _ (setField (.ref e) 2 (.ref c)) _ _ _ from VT he hd h2 (wpAny_throw h)))
theorem Jh{it c:Addr}{oc:Obj}{ws:Array Value}{x left step:Int}{Q:Option Value->Shared->Prop}(hh:A.handled=some (.ref c))(hc:s.heap.get? c=some oc)(hcd:oc.data=.fields ws)(hc2:ws[2]?=some .none)(hit:IsRangeIter s.heap it x left step)(hleft:left<=0)
  (hQ:∀h',(∀b o,s.heap.get? b=some o->h'.get? b=some o)->Q none { s with heap:=h' }):wpAny (model prog w) A (pyNext (.ref it)) Q E s:=by
 have hT:s.TypeIs (.ref it) "range_iterator":=⟨_,hit,rfl⟩
 unfold pyNext
 refine Ch (Vb (UW (name:=UM "__next__") hT WY
  (Uv WY hT F.entry_range_iterator_next ?_ (F.args_range_iterator_next_1 _))))
 show wpAny _ _ (field (.ref it) 0 >>= _) _ _ s
 refine Ch (UE hit rfl (x:=rawInt x) rfl ?_)
 show wpAny _ _ (field (.ref it) 1 >>= _) _ _ s
 refine Ch (UE hit rfl (x:=rawInt left) rfl ?_)
 show wpAny _ _ (field (.ref it) 2 >>= _) _ _ s
 refine Ch (UE hit rfl (x:=rawInt step) rfl ?_)
 show wpAny _ _ (if left<=0 then _ else _) _ _ s
 rw [if_pos hleft]
 refine Ch (VW (Ch ?_))
 show wpAny _ _ (newExc (.type "StopIteration") [] >>= _) _ _ _
 refine Ch ?_
 simp only [newExc,newTuple]
 refine Ch (UO ?_ (by size_fits))
 refine Ch (m:=firstArgMember _ _) (wpAny_of_eq (a:=T9) (by first | rfl | (simp only [firstArgMember]; rfl)) ?_)
 refine UO ?_ (by size_fits)
 have k1:∀b o,s.heap.get? b=some o->((s.heap.push { cls:=Ux "tuple",data:=.seq ([]:List Value).toArray }).push { cls:=.type "StopIteration",data:=.fields (#[.ref s.heap.objs.size,.none,.none,.none,.bool false,.none]++ownMembersOf (.type "StopIteration") []) }).get? b=some o:=λb o e=>Cn _ (Cn _ e)
 have lc:=FM hc
 refine Ji (c:=c) hh (On _ rfl) rfl (by simp [ownMembersOf]) (k1 c oc hc) hcd hc2 (by rw [UZ]; exact T1 (Uj lc)) ?_
 have ge:=Ue (Up (·.setIfInBounds 2 (Sc c))) (On (s.heap.push { cls:=Ux "tuple",data:=.seq ([]:List Value).toArray }) (o:={ cls:=.type "StopIteration",data:=.fields (#[.ref s.heap.objs.size,.none,.none,.none,.bool false,.none]++ownMembersOf (.type "StopIteration") []) }) rfl) rfl
 refine Ch (wpAny_isInstance (T := "StopIteration") (b:=true) ⟨_,ge,rfl⟩ isSubtype_stop (Db (hQ _ λb o e=>?_)))
 rw [T3 _ _ (by rw [UZ]; exact Uy (Uj (FM e)))]
 exact k1 b o e
end
end L2
namespace L2
open PySem PySem.Spec PyProof.Rows
structure CXD (P:Program) (w:World) (outer:List Env) (H:Hp) (s:Shared) (a C:Addr) (dx:Option Addr) (B:Heap) (H':Hp) (s':Shared):Prop where
 os:s'.os=s.os
 bare:AllBare s'.gens
 un:Un (GS outer) [] H H' s.heap s'.heap
 hok:HOk P w H' B
 all:∀b o o',s.heap.get? b=some o->b∉GS outer->s'.heap.get? b=some o'->B.get? b=some o'
 fly:Fly B outer a C dx s'.heap
 new:s.heap.objs.size<=a
 free:H' a=none
noncomputable def MD(P:Program)(w:World):MC:=λouter H s E e s'=>∃a C dx B H',e=.ref a/\CXD P w outer H s a C dx B H' s'/\E (.ref C) dx H'
section
variable {P:Program}{w:World}{outer:List Env}{H H':Hp}{s s':Shared}{a C:Addr}{dx:Option Addr}{B h':Heap}
theorem CXD.step(x:CXD P w outer H s a C dx B H' s')(F:Fly B outer a C dx h')(u:s'.heap.UpToSlots h'):CXD P w outer H s a C dx B H' { s' with heap:=h' }:=by
 have fr:∀b∈GS outer,∃o,s'.heap.get? b=some o/\∀vs,o.data≠.fields vs:=λb hb=>(x.fly.frames.mem hb).2
 refine⟨x.os,x.bare,⟨λb o e n hb hx=>F.stays _ _ (x.all b o o e hb (x.un.keep b o e n hb hx)),λb o e n hb hx=>?_,x.un.free,λb o e hx=>?_,x.un.tups,x.un.frzs,x.un.tbls⟩,x.hok,λb o o' e hb q=>?_,F,x.new,x.free⟩
 ·obtain⟨sl,q⟩:=x.un.slot b o e n hb hx
  obtain⟨o',q',nf⟩:=fr b hb
  rw [q] at q'
  cases q'
  obtain⟨sl',q2⟩:=u b _ q nf
  exact⟨sl',q2⟩
 ·obtain⟨o1,q⟩:=x.un.there b o e hx
  by_cases hb:b∈GS outer
  ·obtain⟨o',q',nf⟩:=fr b hb
   obtain⟨sl',q2⟩:=u b _ q' nf
   exact⟨_,q2⟩
  ·exact⟨o1,F.stays _ _ (x.all b o o1 e hb q)⟩
 ·obtain⟨o1,q1⟩:=x.un.there b o e (by simp)
  have z:=x.all b o o1 e hb q1
  rw [F.stays _ _ z] at q
  cases q
  exact z
end
section
variable {X:Cx}{pins:List (Addr×Obj)}{σ:St}{H H':Hp}{s s':Shared}{a C:Addr}{dx:Option Addr}{B h':Heap}
theorem CXD.inv(x:CXD X.prog X.w X.stack H s a C dx B H' s')(I:Inv X pins σ H s):Inv X pins σ H' s' :=
 I.call' x.os x.un (x.hok.kept x.fly.stays) x.bare λb z=>absurd z (by simp)
theorem CXD.leave(x:CXD X.prog X.w X.stack H s a C dx B H' s')(I:Inv X pins σ H s)(hst:X.stack=X.env::X.outer)(hex:X.ex=[]):CXD X.prog X.w X.outer X.H₀ X.s₀ a C dx B H' s':=by
 have J:=x.inv I
 have fl:=x.fly
 rw [hst] at fl
 refine⟨J.os,J.bare,by have z:=J.base; rw [hex] at z; exact z,x.hok,λb o o' e hb q=>?_,fl.tail,T6 I.sz x.new,x.free⟩
 obtain⟨o1,e1⟩:=I.base.there b o e (by rw [hex]; simp)
 refine x.all b o1 o' e1 (λz=>?_) q
 rcases TM.mp (I.stkSub b z) with z | z
 ·exact absurd (FM e) (by rw [z]; exact Vq.mpr I.ok.above)
 ·exact hb z
theorem IN{P:Program}{w:World}{K:Frag}{mg:Str->Option Value}{base:Heap}{N:List Str}{qual:Str}{scope:Scope}{f:Addr}{cd:Value}{A:Around}{outer:List Env}{s₀:Shared}{H₀:Hp}{E:XK} :
  EK (MD P w) (Cr (MD P w) P w K mg base N qual scope f cd A outer s₀ H₀ E) E:=by
 intro pins σ H s e s' I ⟨a,C,dx,B,H',he,x,q⟩
 subst he
 have hf:(envOfC qual scope s₀.heap.objs.size f cd).frame=some s₀.heap.objs.size:=rfl
 refine Lz I.ok.frames hf x.fly λh' f' u=>?_
 exact⟨a,C,dx,B,H',rfl,(x.step f' u).leave I rfl rfl,q⟩
end
noncomputable def XO(a C:Addr)(dx:Option Addr)(h:Heap):Prop:=∃vs sl,h.get? a=some ⟨.ref C,dx,.fields vs,sl⟩/\vs[2]?=some .none/\vs[1]?=some .none
noncomputable def XF(d:Addr)(fs:List (Str×V))(h:Heap):Prop:=∃mA,h.Ns1 d mA/\(∀f,RelO (fs.lookup f) (mA f))/\PySem.Within mA (fs.map (·.1))/\fs.length<=1000
theorem XO.ok{P:Program}{w:World}{H:Hp}{a C:Addr}{dx:Option Addr}{h:Heap}(x:XO a C dx h):ObjOk P w H h a (.ext (XO a C dx)):=by
 refine⟨x,?_,λh1 h2 ⟨vs,sl,e,r⟩ k=>⟨vs,sl,k _ e,r⟩⟩
 obtain⟨vs,sl,e,_⟩:=x
 exact⟨_,e⟩
theorem XF.ok{P:Program}{w:World}{H:Hp}{d:Addr}{fs:List (Str×V)}{h:Heap}(x:XF d fs h):ObjOk P w H h d (.ext (XF d fs)):=by
 refine⟨x,?_,λh1 h2 ⟨mA,e,r⟩ k=>⟨mA,e.at k,r⟩⟩
 obtain⟨mA,⟨o,_,_,e,_⟩,_⟩:=x
 exact⟨_,e⟩
section
variable {X:Cx}{pins:List (Addr×Obj)}{σ:St}{H:Hp}{s:Shared}{a C U:Addr}{nm f:Str}{A:Around}{E:Value->Shared->Prop}
theorem MR{y:V}{u:Value}{Q:Unit->Shared->Prop}(I:Inv X pins σ H s)(e:H a=some (.ext (XO a C none)))(c:XC X.K nm C U)(n:DP X.K C f)(ry:RelV y u)
  (h:∀d s',H d=none->d≠a->Inv X pins σ (Ac (Ac H d (.ext (XF d [(f,y)]))) a (.ext (XO a C (some d)))) s'->Q () s'):wpAny (model X.prog X.w) A (setAttr (.ref a) f u) Q E s:=by
 obtain⟨⟨vs,sl,hx,h2,h1⟩,_⟩:=(show ObjOk X.prog X.w H s.heap a _ from I.hok a _ e)
 refine MT I.kIn c hx n λh' t' gx gd kb=>?_
 have nd:H s.heap.objs.size=none:=I.hok.fresh (Go _)
 have ne:s.heap.objs.size≠a:=Uy (FM hx)
 have lt:∀{b:Addr} {o:Obj},s.heap.get? b=some o->b≠s.heap.objs.size:=λ{b o} q=>T1 (FM q)
 have na:∀{b:Addr},H b=none->b≠a:=λ{b} q z=>by rw [z,e] at q; cases q
 have of:∀{b:Addr} {u:HO},H b=some u->(∀φ,u≠.ext φ)->Ac (Ac H s.heap.objs.size (.ext (XF s.heap.objs.size [(f,y)]))) a (.ext (XO a C (some s.heap.objs.size))) b=some u:=λ{b u} q hu=>by
  rw [AH (λz=>by rw [z,e] at q; exact hu _ (Rs q).symm),AH (λz=>by rw [z,nd] at q; cases q)]; exact q
 refine h s.heap.objs.size _ nd ne (I.un (h':=h') (t':=t') ⟨λb o q n _ _=>kb b o (na n) q,λb o q n _ _=>⟨o.slots,kb b o (na n) q⟩,λb o q n _=>?_,λb o q _=>?_,λb xs q=>of q (by intro φ z; cases z),λb o xs q=>of q (by intro φ z; cases z),λb ps q=>⟨#[],by rw [of q (by intro φ z; cases z)]; simp⟩⟩ ?_)
 ·rw [AH (na n),AH (lt q)]; exact n
 ·by_cases z:b=a
  ·rw [z]; exact⟨_,gx⟩
  ·exact⟨o,kb b o z q⟩
 ·intro b o q
  by_cases z:b=a
  ·subst z
   rw [AJ] at q
   cases q
   exact XO.ok ⟨vs,sl,gx,h2,h1⟩
  ·rw [AH z] at q
   by_cases z2:b=s.heap.objs.size
   ·subst z2
    rw [AJ] at q
    cases q
    refine XF.ok ⟨_,gd,λg=>?_,λg hg=>?_,by simp⟩
    ·by_cases hgf:g=f
     ·rw [if_pos hgf]
      have hb:(g==f)=true:=beq_iff_eq.mpr hgf
      simp only [UU,hb]
      exact ry
     ·rw [if_neg hgf]
      have hb:(g==f)=false:=beq_eq_false_iff_ne.mpr hgf
      simp only [UU,hb]
      trivial
    ·by_cases hgf:g=f
     ·simp [hgf]
     ·exact absurd (if_neg hgf) hg
   ·rw [AH z2] at q
    refine(I.hok b o q).stay (λc2 v hc r=>kb c2 v ?_ r) (λc2 r=>of r (by intro φ z; cases z)) λc2 xs r=>of r (by intro φ z; cases z)
    rcases hc with rfl | hc
    ·exact z
    ·intro zz; rw [zz,e] at hc; cases hc
theorem MQ{d:Addr}{fs:List (Str×V)}{y:V}{u:Value}{Q:Unit->Shared->Prop}(I:Inv X pins σ H s)(e:H a=some (.ext (XO a C (some d))))(ed:H d=some (.ext (XF d fs)))(c:XC X.K nm C U)(n:DP X.K C f)(ry:RelV y u)(hl:fs.length<1000)
  (h:∀s',Inv X pins σ (Ac H d (.ext (XF d (B4 f y fs)))) s'->Q () s'):wpAny (model X.prog X.w) A (setAttr (.ref a) f u) Q E s:=by
 obtain⟨⟨vs,sl,hx,h2,h1⟩,_⟩:=(show ObjOk X.prog X.w H s.heap a _ from I.hok a _ e)
 obtain⟨⟨mA,nd,r,wi,_⟩,_⟩:=(show ObjOk X.prog X.w H s.heap d _ from I.hok d _ ed)
 refine MS I.kIn c hx nd wi (by rw [Ev,UQ]; omega) n λh' t' gd sb=>h _ ?_
 have hd:∃o,h'.get? d=some o:=let ⟨o,_,_,e',_⟩:=gd; ⟨o,e'⟩
 refine I.write (x:=d) (e:=d) (by rw [ed]; exact V8) (.inl rfl) (λb q hb z=>(sb.2 b hb).trans z) hd (XF.ok ⟨_,gd,λg=>?_,λg hg=>?_,?_⟩)
 ·show RelO ((B4 f y fs).lookup g) (if g=f then some u else mA g)
  rw [ES]
  by_cases q:g=f
  ·rw [if_pos q,if_pos q]; exact ry
  ·rw [if_neg q,if_neg q]; exact r g
 ·by_cases q:g=f
  ·rw [q]; exact(D9 f y fs).1
  ·refine(D9 f y fs).2 g (wi g λz=>hg ?_)
   show (if g=f then some u else mA g)=none
   rw [if_neg q]; exact z
 ·have:=EU f y fs; omega
end
noncomputable def Tj(C:Addr)(ta tv:TE)(f:Str):TS:=λD σ H=>tv σ H λy H1=>ta σ H1 λx H2=>∃a,x=.ref a/\H2 a=some (.ext (XO a C none))/\∀d,H2 d=none->d≠a->D.nx σ (Ac (Ac H2 d (.ext (XF d [(f,y)]))) a (.ext (XO a C (some d))))
noncomputable def Ti(C:Addr)(ta tv:TE)(f:Str):TS:=λD σ H=>tv σ H λy H1=>ta σ H1 λx H2=>∃a d fs,x=.ref a/\H2 a=some (.ext (XO a C (some d)))/\H2 d=some (.ext (XF d fs))/\fs.length<1000/\D.nx σ (Ac H2 d (.ext (XF d (B4 f y fs))))
section
variable {X:Cx}{o value:Expr}{nm f:Str}{C U:Addr}{pos pos':Pos}{ta tv:TE}
theorem O_(c:XC X.K nm C U)(n:DP X.K C f)(ha:PE X o ta)(hv:PE X value tv)(hs:swapsWith value (some (.Attribute o f pos')) pos.line X.env=pure false):PS X (.Assign [.Attribute o f pos'] value pos) (Tj C ta tv f):=by
 intro pins s σ H D I h
 refine V5 (A3 (hv pins s σ H _ I h) λu s1 ⟨y,H1,I1,ry,q⟩=>A3 (ha pins s1 σ H1 _ I1 q) λov s2 ⟨x,H2,I2,rx,a,ex,ea,q2⟩=>?_) hs
 subst ex
 obtain rfl:ov=Sc a:=rx
 exact MR I2 ea c n ry λd s3 hd hne I3=>⟨σ,_,I3,q2 d hd hne⟩
theorem O9(c:XC X.K nm C U)(n:DP X.K C f)(ha:PE X o ta)(hv:PE X value tv)(hs:swapsWith value (some (.Attribute o f pos')) pos.line X.env=pure false):PS X (.Assign [.Attribute o f pos'] value pos) (Ti C ta tv f):=by
 intro pins s σ H D I h
 refine V5 (A3 (hv pins s σ H _ I h) λu s1 ⟨y,H1,I1,ry,q⟩=>A3 (ha pins s1 σ H1 _ I1 q) λov s2 ⟨x,H2,I2,rx,a,d,fs,ex,ea,ed,l,q2⟩=>?_) hs
 subst ex
 obtain rfl:ov=Sc a:=rx
 exact MQ I2 ea ed c n ry l λs3 I3=>⟨σ,_,I3,q2⟩
end
noncomputable def del(H:Hp)(a:Addr):Hp:=λb=>if b=a then none else H b
theorem Fi{H:Hp}{a b:Addr}(h:b≠a):del H a b=H b:=if_neg h
theorem CZ{H:Hp}{a:Addr}:del H a a=none:=if_pos rfl
section
variable {X:Cx}{pins:List (Addr×Obj)}{σ:St}{H H1:Hp}{s s1:Shared}{a C U:Addr}{dx:Option Addr}{nm:Str}
theorem Rt(I:Inv X pins σ H s)(os:s1.os=s.os)(bare:AllBare s1.gens)(u:Un (GS X.stack) [] H H1 s.heap s1.heap)(hok:HOk X.prog X.w H1 s1.heap)(ea:H1 a=some (.ext (XO a C dx)))(new:s.heap.objs.size<=a) :
  CXD X.prog X.w X.stack H s a C dx (PySem.W.hideAll s1.heap (a::GS X.stack)) (del H1 a) s1:=by
 have J:Inv X pins σ H1 s1:=I.call' os u hok bare λb z=>absurd z (by simp)
 have na:∀{b:Addr} {u:HO},H1 b=some u->(∀φ,u≠.ext φ)->b≠a:=λ{b u} q hu z=>by rw [z,ea] at q; exact hu _ (Rs q).symm
 have of:∀{b:Addr} {u:HO},H1 b=some u->(∀φ,u≠.ext φ)->del H1 a b=some u:=λq hu=>(Fi (na q hu)).trans q
 have nf:∀{b:Addr} {u:HO},H1 b=some u->b∉GS X.stack:=λ{b u} q z=>by rw [J.stkFree b z] at q; cases q
 obtain⟨⟨vs,sl,hx,h2,h1⟩,_⟩:=(show ObjOk X.prog X.w H1 s1.heap a _ from hok a _ ea)
 refine⟨os,bare,⟨u.keep,u.slot,λb o q n hx=>?_,u.there,λb xs q=>of (u.tups b xs q) (by intro φ z; cases z),λb o xs q=>of (u.frzs b o xs q) (by intro φ z; cases z),λb ps q=>?_⟩,λb o q=>?_,λb o o' q hb q'=>?_,⟨λb o q=>PySem.W.of_hideAll _ q,PySem.W.hideAll_none _ (by simp),PySem.W.funFrames_hide J.stack λenv he b hb=>?_,vs,sl,.none,hx,h2,h1,.inl rfl⟩,new,CZ⟩
 ·by_cases z:b=a
  ·rw [z]; exact CZ
  ·rw [Fi z]; exact u.free b o q n hx
 ·obtain⟨m,e⟩:=u.tbls b ps q
  exact⟨m,of e (by intro φ z; cases z)⟩
 ·have nb:b≠a:=λz=>by rw [z,CZ] at q; cases q
  rw [Fi nb] at q
  refine(hok b o q).stay (λc v hc r=>PySem.W.hideAll_get _ r λz=>?_) (λc r=>of r (by intro φ z; cases z)) λc xs r=>of r (by intro φ z; cases z)
  rcases TM.mp z with z | z
  ·rcases hc with hc | hc
   ·exact nb (hc.symm.trans z)
   ·rw [z,ea] at hc; cases hc
  ·rcases hc with hc | hc
   ·exact nf q (hc▸z)
   ·exact nf hc z
 ·refine PySem.W.hideAll_get _ q' λz=>?_
  rcases TM.mp z with z | z
  ·exact absurd (FM q) (by rw [z]; exact Vq.mpr new)
  ·exact hb z
 ·exact Op _ (WP.mpr ⟨env,he,hb⟩)
end
noncomputable def XS(X:Cx)(pins:List (Addr×Obj))(σ:St)(R:XK)(e:Value)(s':Shared):Prop:=∃H s,Inv X pins σ H s/\MD X.prog X.w X.stack H s R e s'
noncomputable def Made(X:Cx)(pins:List (Addr×Obj))(σ:St)(C:Addr)(R:XK)(v:Value)(s1:Shared):Prop:=∃a dx H s H1,v=.ref a/\Inv X pins σ H s/\s1.os=s.os/\AllBare s1.gens/\Un (GS X.stack) [] H H1 s.heap s1.heap/\HOk X.prog X.w H1 s1.heap/\H1 a=some (.ext (XO a C dx))/\s.heap.objs.size<=a/\R (.ref C) dx (del H1 a)
section
variable {X:Cx}{pins:List (Addr×Obj)}{σ:St}{H:Hp}{s:Shared}{C U:Addr}{nm:Str}{R:XK}
theorem GJ{e:Expr}{pos:Pos}{Q:Flow->Shared->Prop}{E':Value->Shared->Prop}(c:XC X.K nm C U)(hh:X.A.handled=none)(h:wpAny (model X.prog X.w) X.A (eval e X.env) (Made X pins σ C R) E' s)(hE:∀e s',XS X pins σ R e s'->E' e s') :
  wpAny (model X.prog X.w) X.A (exec (.Raise (some e) none pos) X.env) Q E' s:=by
 obtain⟨q,N,bs,sn,sub,ab,col,dd,k0,k1,k2,k3,k5,eC⟩:=c.obj
 have h':wpAny (model X.prog X.w) X.A (eval e X.env) (λv s₁=>∃e dx vs sl,v=.ref e/\s₁.heap.get? C=some (excClassObj nm q C N bs (.ref U::BY) true sn sub ab col dd k0 k1 k2 k3 k5 "ValueError.__new__") /\
   s₁.heap.get? e=some ⟨.ref C,dx,.fields vs,sl⟩/\vs[1]?=some .none/\E' (.ref e) s₁) E' s:=by
  refine A3 h λv s1 ⟨a,dx,H0,s0,H1,ev,I,os,bare,u,hok,ea,new,r⟩=>?_
  obtain⟨⟨vs,sl,hx,h2,h1⟩,_⟩:=(show ObjOk X.prog X.w H1 s1.heap a _ from hok a _ ea)
  have J:Inv X pins σ H1 s1:=I.call' os u hok bare λb z=>absurd z (by simp)
  exact⟨a,dx,vs,sl,ev,J.kIn _ _ eC,hx,h1,hE _ _ ⟨H0,s0,I,a,C,dx,_,_,rfl,Rt I os bare u hok ea new,r⟩⟩
 rw [arm_exec_Raise]
 first
  | exact Ch (VZ (FI rfl hh (Ch (UC h' (λv s₁ h₁=>Ch (VZ (Db h₁))) λ_ _ x=>x))))
  | (simp only [evalOpt,Option.map]; exact Ch (VZ (FI rfl hh (Ch (UC h' (λv s₁ h₁=>Ch (VZ (Db h₁))) λ_ _ x=>x)))))
end
noncomputable def Dx(C:Addr)(k1 k2:Str):Sp:=λvs H Q _=>∃a v1 v2,vs=[.ref a,v1,v2]/\H a=some (.ext (XO a C none)) /\
 ∀d,H d=none->d≠a->Q .non (Ac (Ac (Ac H d (.ext (XF d [(k1,v1)]))) a (.ext (XO a C (some d)))) d (.ext (XF d [(k1,v1),(k2,v2)])))
section
variable {X:Cx}{pins:List (Addr×Obj)}{σ:St}{H:Hp}{s:Shared}{C U f:Addr}{nm k1 k2 p0 p1 p2:Str}{R:XK}{E:Value->Shared->Prop}{k:Nat}{fd:FuncData}{us:List Value}{v1 v2:V}{vs:List V}
theorem OM(c:XC X.K nm C U)(hi:PySem.W.findIn X.K (.ref C) "__init__"=some (some (.ref f)))(hf:PySem.W.typeIn X.K (.ref f)=some (.type "function"))(F:A1 X.prog X.w X.K X.mg X.base Bn k f fd [p0,p1,p2] (Dx C k1 k2))(hb:Binds X.K fd [p0,p1,p2] [])
  (hr:Room (k+1) X.A) (I:Inv X pins σ H s) (r:Vals [v1,v2] us) (h:∀d,H d=none->R (.ref C) (some d) (Ac H d (.ext (XF d [(k1,v1),(k2,v2)])))):wpAny (model X.prog X.w) X.A (call (.ref C) us) (Made X pins σ C R) E s:=by
 obtain⟨hh,g,dr,t,os⟩:=s
 have hl:us.length=2:=r.length.symm
 have ge:((hh.push { cls:=.type "tuple",data:=.seq us.toArray }).push (A8 C hh.objs.size)).get? (hh.objs.size+1)=some (A8 C hh.objs.size):=by unfold A8; heap_get
 have kk:∀b o,hh.get? b=some o->((hh.push { cls:=.type "tuple",data:=.seq us.toArray }).push (A8 C hh.objs.size)).get? b=some o:=λb o e=>Cn _ (Cn _ e)
 have fa:H (hh.objs.size+1)=none:=I.hok.fresh (UV _)
 have I2:Inv X pins σ (Ac H (hh.objs.size+1) (.ext (XO (hh.objs.size+1) C none))) ⟨(hh.push { cls:=.type "tuple",data:=.seq us.toArray }).push (A8 C hh.objs.size),g,dr,t,os⟩:=I.laid (t':=t) kk (UV _) (XO.ok ⟨_,_,ge,rfl,rfl⟩)
 have hsp:Dx C k1 k2 [.ref (hh.objs.size+1),v1,v2] (Ac H (hh.objs.size+1) (.ext (XO (hh.objs.size+1) C none))) (λv H3=>v=.non/\∃d,H d=none/\d≠hh.objs.size+1 /\
   H3=Ac (Ac (Ac (Ac H (hh.objs.size+1) (.ext (XO (hh.objs.size+1) C none))) d (.ext (XF d [(k1,v1)]))) (hh.objs.size+1) (.ext (XO (hh.objs.size+1) C (some d)))) d (.ext (XF d [(k1,v1),(k2,v2)]))) E0 :=
  ⟨_,v1,v2,rfl,AJ,λd hd hne=>⟨rfl,d,by rw [AH hne] at hd; exact hd,hne,rfl⟩⟩
 have r2:Vals [V.ref (hh.objs.size+1),v1,v2] (Sc (hh.objs.size+1)::(us++[])):=by rw [UL]; exact .cons rfl r
 refine U7 (NJ (K:=X.K) (U:=U) (nm:=nm) I.kIn c hi hf (by rw [hl]; decide) (U_ (F.run _ X.stack _ _ ⟨Sc (hh.objs.size+1)::us,[]⟩ _ _ _ E0 (hr.make C us []) (I2.env0.make C us []) (hb _ (Sc (hh.objs.size+1)::us) I2.kIn (by simp [hl])) r2 hsp) λrr s' hq=>?_))
 rcases rr with e | (u | _ | _ | _) <;> first | exact T5 hq | skip
 obtain⟨v,H3,eos,bare,un,hok,rv,ev,d,hd,hne,eH⟩:=hq
 subst ev
 subst eH
 refine⟨rv,hh.objs.size+1,some d,H,_,_,rfl,I,eos,bare,(Un.laid kk (UV _) fa).trans un,hok,by rw [AH hne.symm,AJ],UV _,?_⟩
 have e:del (Ac (Ac (Ac (Ac H (hh.objs.size+1) (.ext (XO (hh.objs.size+1) C none))) d (.ext (XF d [(k1,v1)]))) (hh.objs.size+1) (.ext (XO (hh.objs.size+1) C (some d)))) d (.ext (XF d [(k1,v1),(k2,v2)]))) (hh.objs.size+1)=Ac H d (.ext (XF d [(k1,v1),(k2,v2)])):=by
  funext b
  by_cases z:b=hh.objs.size+1
  ·rw [z,CZ,AH hne.symm,fa]
  ·rw [Fi z]
   by_cases z2:b=d
   ·rw [z2,AJ,AJ]
   ·rw [AH z2,AH z,AH z2,AH z,AH z2]
 rw [e]
 exact h d hd
theorem ON(c:XC X.K nm C U)(hi:PySem.W.findIn X.K (.ref C) "__init__"=some (some (.builtin "ValueError.__init__")))(I:Inv X pins σ H s)(hl:us.length<=sizeLine)(h:R (.ref C) none H):wpAny (model X.prog X.w) X.A (call (.ref C) us) (Made X pins σ C R) E s:=by
 obtain⟨hh,g,dr,t,os⟩:=s
 have fa:H (hh.objs.size+1)=none:=I.hok.fresh (UV _)
 refine U7 (L3 (K:=X.K) (U:=U) (nm:=nm) I.kIn c hi hl λh' kk ge=>?_)
 have I2:Inv X pins σ (Ac H (hh.objs.size+1) (.ext (XO (hh.objs.size+1) C none))) ⟨h',g,dr,t,os⟩:=I.laid (t':=t) kk (UV _) (XO.ok ⟨_,_,ge,rfl,rfl⟩)
 refine⟨hh.objs.size+1,none,H,_,_,rfl,I,rfl,I.bare,Un.laid kk (UV _) fa,I2.hok,AJ,UV _,?_⟩
 have e:del (Ac H (hh.objs.size+1) (.ext (XO (hh.objs.size+1) C none))) (hh.objs.size+1)=H:=by
  funext b
  by_cases z:b=hh.objs.size+1
  ·rw [z,CZ,fa]
  ·rw [Fi z,AH z]
 rw [e]
 exact h
end
noncomputable abbrev MA:=Ends->XK->St->Hp->Prop
noncomputable abbrev SW:=XK->St->Hp->VK->Prop
noncomputable def XE(X:Cx)(pins:List (Addr×Obj))(σ:St)(R:XK)(e:Value)(s':Shared):Prop:=X.xe e s'\/XS X pins σ R e s'
noncomputable def Pf(X:Cx)(st:Stmt)(t:MA):Prop :=
 ∀(pins:List (Addr×Obj)) (s:Shared) (σ:St) (H:Hp) (D:Ends) (R:XK),Inv X pins σ H s->t D R σ H->wpAny (model X.prog X.w) X.A (exec st X.env) (SP X pins D) (XE X pins σ R) s
noncomputable def JG(X:Cx)(st:List Stmt)(t:MA):Prop :=
 ∀(pins:List (Addr×Obj)) (s:Shared) (σ:St) (H:Hp) (D:Ends) (R:XK),Inv X pins σ H s->t D R σ H->wpAny (model X.prog X.w) X.A (execs st X.env) (SP X pins D) (XE X pins σ R) s
noncomputable def TD(X:Cx)(e:Expr)(t:SW):Prop :=
 ∀(pins:List (Addr×Obj)) (s:Shared) (σ:St) (H:Hp) (Q:VK) (R:XK),Inv X pins σ H s->t R σ H Q->wpAny (model X.prog X.w) X.A (eval e X.env) (EP X pins σ Q) (XE X pins σ R) s
section
variable {X:Cx}{st:Stmt}{rest:List Stmt}{t u:MA}{te:SW}{e:Expr}{es:List Expr}{ta:TA}{x nm k1 k2 p0 p1 p2:Str}{p pos cpos:Pos}{C U f:Addr}{k:Nat}{fd:FuncData}{ps:List Str}{sp:Sp}
theorem RH{α:Type}{t:Sem α}{Q:α->Shared->Prop}{pins:List (Addr×Obj)}{σ:St}{R:XK}{s:Shared}(h:wpAny (model X.prog X.w) X.A t Q X.xe s):wpAny (model X.prog X.w) X.A t Q (XE X pins σ R) s:=UC h (λ_ _ z=>z) λ_ _ z=>.inl z
theorem N3{t:TS}(h:PSs X rest t):JG X rest (λD _=>t D):=λpins s σ H D R I q=>RH (h pins s σ H D I q)
theorem LY{R:XK}(hx:EK (MD X.prog X.w) X R)(h:Pf X st t):PS X st (λD=>t D R):=λpins s σ H D I q =>
 UC (h pins s σ H D R I q) (λ_ _ z=>z) λe s' z=>z.elim id fun⟨H,s,J,c⟩=>hx pins σ H s e s' J c
noncomputable def RI(t u:MA):MA:=λD R σ H=>t { D with nx:=λσ' H'=>σ'=σ/\u D R σ' H' } R σ H
theorem LW(h1:Pf X st t)(h2:JG X rest u):JG X (st::rest) (RI t u):=by
 intro pins s σ H D R I h
 refine V0 (UC (h1 pins s σ H _ R I h) (λf s1 q=>?_) λ_ _ z=>z)
 cases f with
 | next =>
  obtain⟨σ',H',J,es,q⟩:=q
  subst es
  exact h2 pins s1 _ H' D R J q
 | brk=>exact q
 | cont=>exact q
 | ret v=>exact q
theorem Me(h1:Pf X st t):JG X [st] t:=by
 intro pins s σ H D R I h
 refine V0 (UC (h1 pins s σ H D R I h) (λf s1 q=>?_) λ_ _ z=>z)
 cases f with
 | next =>
  obtain⟨σ',H',J,q⟩:=q
  exact Vd ⟨σ',H',J,q⟩
 | brk=>exact q
 | cont=>exact q
 | ret v=>exact q
noncomputable def Sr(c:TT)(t u:MA):MA:=λD R σ H=>c σ H λb H1=>if b=true then t D R σ H1 else u D R σ H1
theorem Mc{c:Expr}{a b:List Stmt}{tc:TT}(hc:PT X c tc)(ha:JG X a t)(hb:JG X b u):Pf X (.If c a b pos) (Sr tc t u):=by
 intro pins s σ H D R I h
 refine wpAny_If (A3 (RH (hc pins s σ H _ I h)) λv s1 ⟨H1,I1,q⟩=>?_)
 cases v with
 | true=>exact ha pins s1 σ H1 D R I1 q
 | false=>exact hb pins s1 σ H1 D R I1 q
noncomputable def Nw(C:Addr)(k1 k2:Str)(ta:TA):MA:=λ_ R σ H=>ta σ H λvs H1=>∃v1 v2,vs=[v1,v2]/\∀d,H1 d=none->R (.ref C) (some d) (Ac H1 d (.ext (XF d [(k1,v1),(k2,v2)])))
noncomputable def Nx(C:Addr)(ta:TA):MA:=λ_ R σ H=>ta σ H λvs H1=>vs.length<=sizeLine/\R (.ref C) none H1
theorem Jj(c:XC X.K nm C U)(hi:PySem.W.findIn X.K (.ref C) "__init__"=some (some (.ref f)))(hf:PySem.W.typeIn X.K (.ref f)=some (.type "function"))(F:A1 X.prog X.w X.K X.mg X.base Bn k f fd [p0,p1,p2] (Dx C k1 k2))(hb:Binds X.K fd [p0,p1,p2] [])
  (hr:Room (k+1) X.A) (hg:Gl X x) (hm:X.mg x=some (.ref C)) (ha:PA X (e::es) ta) (hdb:autoParam ((x==("__debug__" : Str))=false) zau1._auto_1) (he:autoParam (starEach (e::es) X.env=(false,eval e X.env)::starEach es X.env) zau3._auto_1) (hpl:autoParam ((backTo cpos (starEach es X.env)).any (·.1)=false) zau3._auto_1) :
  Pf X (.Raise (some (.Call (.Name x p) (e::es) [] cpos)) none pos) (Nw C k1 k2 ta):=by
 intro pins s σ H D R I h
 refine GJ (R:=R) c hr.hd ?_ λ_ _ z=>.inr z
 refine Uf (Bq I hg hm ?_ hdb)
 refine PySem.W.callWith_K (h₀:=X.base) I.ok.mod.kin c.kp (A3 (RH (ha cpos pins s σ H _ I h)) λus s1 ⟨vs,H1,I1,r,v1,v2,ev,q⟩=>⟨I1.kIn,?_⟩) he hpl
 subst ev
 exact OM c hi hf F hb hr I1 r q
theorem Jk(c:XC X.K nm C U)(hi:PySem.W.findIn X.K (.ref C) "__init__"=some (some (.builtin "ValueError.__init__")))(hh:X.A.handled=none)(hg:Gl X x)(hm:X.mg x=some (.ref C))(ha:PA X (e::es) ta)(hdb:autoParam ((x==("__debug__" : Str))=false) zau1._auto_1)(he:autoParam (starEach (e::es) X.env=(false,eval e X.env)::starEach es X.env) zau3._auto_1)(hpl:autoParam ((backTo cpos (starEach es X.env)).any (·.1)=false) zau3._auto_1) :
  Pf X (.Raise (some (.Call (.Name x p) (e::es) [] cpos)) none pos) (Nx C ta):=by
 intro pins s σ H D R I h
 refine GJ (R:=R) c hh ?_ λ_ _ z=>.inr z
 refine Uf (Bq I hg hm ?_ hdb)
 refine PySem.W.callWith_K (h₀:=X.base) I.ok.mod.kin c.kp (A3 (RH (ha cpos pins s σ H _ I h)) λus s1 ⟨vs,H1,I1,r,hl,q⟩=>⟨I1.kIn,?_⟩) he hpl
 exact ON c hi I1 (by rw [U3,← r.length]; exact hl) q
noncomputable def Pw(sp:Sp)(ta:TA):SW:=λR σ H Q=>ta σ H λvs H1=>sp vs H1 Q R
theorem Mh(F:A1 X.prog X.w X.K X.mg X.base (MD X.prog X.w) k f fd ps sp)(hr:Room k X.A)(hg:Gl X x)(hm:X.mg x=some (.ref f))(hk:keepIn X.K (.ref f)=true)(hb:Binds X.K fd ps [])
  (ha:PA X (e::es) ta) (hdb:autoParam ((x==("__debug__" : Str))=false) zau1._auto_1) (he:autoParam (starEach (e::es) X.env=(false,eval e X.env)::starEach es X.env) zau3._auto_1) (hpl:autoParam ((backTo pos (starEach es X.env)).any (·.1)=false) zau3._auto_1) :
  TD X (.Call (.Name x p) (e::es) [] pos) (Pw sp ta):=by
 intro pins s σ H Q R I h
 refine Uf (Bq I hg hm ?_ hdb)
 refine PySem.W.callWith_K (h₀:=X.base) I.ok.mod.kin hk (A3 (RH (ha pos pins s σ H _ I h)) λus s1 ⟨vs,H1,I1,r,q⟩=>⟨I1.kIn,?_⟩) he hpl
 have hl:(us++[]).length=ps.length:=by rw [UL,← r.length]; exact F.len _ _ _ _ q
 have r2:Vals vs (us++[]):=by rw [UL]; exact r
 refine U7 (U_ (F.run X.A X.stack s1 H1 ⟨us,[]⟩ (us++[]) vs Q R hr I1.env0 (hb s1 us I1.kIn hl) r2 q) λr s' hq=>?_)
 cases r with
 | error e=>exact .inr ⟨H1,s1,I1,hq⟩
 | ok fl =>
  cases fl with
  | ret u=>exact I1.after hq
  | next=>exact T5 hq
  | brk=>exact T5 hq
  | cont=>exact T5 hq
noncomputable def Pt(te:SW):MA:=λD R σ H=>te R σ H λ_ H1=>D.nx σ H1
theorem Md(he:TD X e te)(hs:autoParam (swapsWith e none pos.line X.env=pure false) zau3._auto_1):Pf X (.Expr e pos) (Pt te):=by
 intro pins s σ H D R I h
 exact wpAny_Expr_any (A3 (he pins s σ H _ R I h) λu s1 ⟨v,H1,I1,_,q⟩=>⟨σ,H1,I1,q⟩) I.quiet hs
end
noncomputable def Cx.hush(X:Cx)(A:Around):Cx:={ X with A:=A,calm:=false,xe:=λ_ _=>False }
section
variable {X:Cx}{A:Around}{pins:List (Addr×Obj)}{σ:St}{H:Hp}{s:Shared}
theorem Inv.hush(I:Inv X pins σ H s)(hf:A.frames=some X.stack):Inv (X.hush A) pins σ H s :=
 ⟨⟨I.ok.mod,I.ok.kind,I.ok.glob,I.ok.blt,I.ok.above,I.ok.inj,I.ok.has,I.ok.cab,λz=>absurd (show false=true from z) TW,hf,I.ok.stk,I.ok.exf,I.ok.bs,I.ok.bsz,I.ok.noex,I.ok.exfs,I.ok.funs,I.ok.frf⟩,I.os,I.bare,I.base,I.loc,I.cell,I.free,I.freeC,I.pin,I.hok,I.len⟩
theorem Inv.unhush(I:Inv (X.hush A) pins σ H s)(ok:X.Ok):Inv X pins σ H s:=⟨ok,I.os,I.bare,I.base,I.loc,I.cell,I.free,I.freeC,I.pin,I.hok,I.len⟩
theorem Inv.track{a:Addr}{o:HO}(I:Inv X pins σ H s)(n:H a=none)(h1:X.s₀.heap.objs.size<=a)(h2:a≠X.env.locals)(h3:∀x c,X.env.cells.lookup x=some c->c≠a)(h4:∀p∈X.pn++pins,p.1≠a)(new:ObjOk X.prog X.w (Ac H a o) s.heap a o) :
  Inv X pins σ (Ac H a o) s:=by
 have of:∀{b:Addr} {u:HO},H b=some u->Ac H a o b=some u:=λ{b u} q=>by rw [AH (λz=>by rw [z,n] at q; cases q)]; exact q
 refine I.step (g':=s.gens) (d':=s.drawn) (t':=s.toks) (h':=s.heap) (ch:=[a]) (λb hb=>?_) (λb o _ _ _ e _=>e) (λb o _ _ _ e _=>⟨o.slots,e⟩) (λb o hc _ m=>?_) (λb o _ e=>⟨o,e⟩) (λb xs e=>of e) (λb o xs e=>of e) (λb ps e=>⟨#[],by rw [of e]; simp⟩) (λm hm=>hm) (λb u e=>?_) I.bare
 ·have e:b=a:=by simpa using hb
  subst e
  exact⟨.inr h1,h2,h3,h4⟩
 ·rw [AH (λz=>hc (by simp [z]))]; exact m
 ·by_cases z:b=a
  ·subst z
   rw [AJ] at e
   cases e
   exact new
  ·rw [AH z] at e
   exact(I.hok b u e).stay (λ_ _ _ q=>q) (λ_ q=>of q) λ_ _ q=>of q
theorem Inv.gone{i:Nat}{x:Str}{v:Option Value}{m:Str->Option Value}{h':Heap}{t':Nat}(I:Inv X pins σ H s)(hN:X.N.Nodup)(hi:X.N[i]?=some x)
  (hl:∀(i:Nat) (x:Str) (v:V),X.N[i]?=some x->σ[i]?=some (some v)->Nd X.env.scope x->∃u,RelV v u/\Look X.env s.heap m x u)
  (hn:h'.Ns X.env.locals (λy=>if y=x then v else m y)) (hs:V6 X.env.locals s.heap h'):Inv X pins (σ.set i none) H { s with heap:=h',toks:=t' }:=by
 have ne:∀{b:Addr} {o:Obj},X.s₀.heap.get? b=some o->b≠X.env.locals:=λ{b o} e=>T1 (Tx (FM e) I.ok.above)
 refine⟨I.ok,I.os,I.bare,⟨λb o e n hb hx=>(hs.2 b (ne e)).trans (I.base.keep b o e n hb hx),λb o e n hb hx=>?_,I.base.free,λb o e hx=>?_,I.base.tups,I.base.frzs,I.base.tbls⟩,⟨_,hn,λj y v' e1 e2 e3=>?_⟩,λy c e=>?_,I.free,I.freeC,λp hp=>?_,λb o e=>?_,by simpa using I.len⟩
 ·obtain⟨sl,e1⟩:=I.base.slot b o e n hb hx
  exact⟨sl,(hs.2 b (ne e)).trans e1⟩
 ·obtain⟨o',e1⟩:=I.base.there b o e hx
  exact⟨o',(hs.2 b (ne e)).trans e1⟩
 ·by_cases hj:j=i
  ·subst hj
   rw [Vt] at e2
   split at e2
   ·split at e2 <;> cases e2
   ·rename_i z; exact absurd rfl z
  ·rw [V7 (Ug hj)] at e2
   obtain⟨u',r',q⟩:=hl j y v' e1 e2 e3
   refine⟨u',r',?_⟩
   rcases q with ⟨k,e⟩ | ⟨k,c,e,z⟩
   ·refine .inl ⟨k,?_⟩
    have:y≠x:=λe=>hj (FU hN e1 (e▸hi))
    simp [this,e]
   ·exact .inr ⟨k,c,e,z.sameBut hs (I.cne y c e)⟩
 ·obtain⟨w',z⟩:=I.cell y c e
  exact⟨w',z.sameBut hs (I.cne y c e)⟩
 ·obtain⟨e,n,ne,nf,d⟩:=I.pin p hp
  exact⟨(hs.2 p.1 ne).trans e,n,ne,nf,d⟩
 ·refine(I.hok b o e).stay (λc w' hc q=>(hs.2 c ?_).trans q) (λ_ q=>q) λ_ _ q=>q
  rintro rfl
  rcases hc with rfl | hc
  ·rw [I.free] at e; cases e
  ·rw [I.free] at hc; cases hc
end
noncomputable def XT(C:Addr)(dx:Option Addr)(a:Addr)(u:HO):Prop:=∃vs sl,u=.frz ⟨.ref C,dx,.fields vs,sl⟩ (.own a)/\vs[2]?=some .none
noncomputable abbrev TH:=Ends->Addr->Option Addr->St->Hp->Prop
noncomputable def PH(X:Cx)(hs:List ExceptHandler)(t:TH):Prop :=
 ∀(pins:List (Addr×Obj)) (σ:St) (D:Ends) (a C:Addr) (dx:Option Addr) (B:Heap) (H0:Hp) (s0:Shared) (H:Hp) (s:Shared),Inv X pins σ H0 s0->CXD X.prog X.w X.stack H0 s0 a C dx B H s->t D C dx σ H ->
  wpAny (model X.prog X.w) X.A (handleBy (.ref a) X.env hs) (SP X pins D) X.xe s
section
variable {X:Cx}{i:Nat}{n x:Str}{np pos:Pos}{b₀:Stmt}{suite body:List Stmt}{rest:List ExceptHandler}{Dc U:Addr}{nm:Str}{th:TH}{ts:Addr->TS}{tb:MA}
noncomputable def RM(K:Frag)(Dc:Addr)(i:Nat)(ts:Addr->TS)(th:TH):TH:=λD C dx σ H=>∃nm U,XC K nm C U/\((C=Dc\/U=Dc)/\(∀a u,H a=none->XT C dx a u->ts a { nx:=λσ' H'=>D.nx (σ'.set i none) H',rt:=D.rt,bk:=λσ' H'=>D.bk (σ'.set i none) H',ct:=λσ' H'=>D.ct (σ'.set i none) H' } (σ.set i (some (.ref a))) (Ac H a u))\/C≠Dc/\U≠Dc/\th D C dx σ H)
noncomputable def Q_(K:Frag)(D:Addr):Prop:=∃nm q N bs bm hd sn sub ab col dd k0 k1 k2 k3 k5,K.lookup D=some (excClassObj nm q D N bs bm hd sn sub ab col dd k0 k1 k2 k3 k5 "ValueError.__new__")/\bm.contains (.type "BaseException")=true
theorem XC.isX{K:Frag}{C:Addr}(c:XC K nm C U):Q_ K C:=by
 obtain⟨q,N,bs,sn,sub,ab,col,dd,k0,k1,k2,k3,k5,e⟩:=c.obj
 exact⟨nm,q,N,bs,_,_,sn,sub,ab,col,dd,k0,k1,k2,k3,k5,e,by simp [BY]⟩
theorem XC.isU{K:Frag}{C:Addr}(c:XC K nm C U):Q_ K U:=by
 obtain⟨q,N,bs,sn,sub,ab,col,dd,k0,k1,k2,k3,k5,hd,e⟩:=c.up
 exact⟨_,q,N,bs,_,_,sn,sub,ab,col,dd,k0,k1,k2,k3,k5,e,by simp [BY]⟩
theorem EZ{C U D:Addr}:(Sc C::Sc U::BY).contains (.ref D)=(decide (C=D)||decide (U=D)):=by
 simp only [WQ,BY,List.contains_nil]
 have e1:∀(a b:Addr),(Sc a==Sc b)=decide (b=a):=λa b=>by
  by_cases h:b=a
  ·subst h; simp
  ·have h':¬a=b:=λz=>h z.symm
   simp [h,h']
 have e2:∀T:String,(Sc D==Ux T)=false:=λT=>rfl
 rw [e1,e1,e2,e2,e2,e2]
 simp
theorem N7(hN:X.N.Nodup)(hi:X.N[i]?=some n)(hl:X.env.scope.names.lookup n=some .local)(hg:Gl X x)(hm:X.mg x=some (.ref Dc))(hD:Q_ X.K Dc)(hst:X.stack=X.env::X.outer)(hfr:X.env.frame=some X.env.locals)
  (hs:∀a,PSs (X.hush (X.A.mark (some (.ref a)))) (b₀::suite) (ts a)) (hrest:PH X rest th) (hd:autoParam ((x==("__debug__" : Str))=false) zau1._auto_1) :
  PH X (.ExceptHandler (some (.Name x np)) (some n) (b₀::suite) pos::rest) (RM X.K Dc i ts th):=by
 intro pins σ D a C dx B H0 s0 H s I c h
 obtain⟨nm,U,xc,h⟩:=h
 have J:=c.inv I
 have hfm:(X.A.mark (some (.ref a))).frames=some X.stack:=I.ok.frames
 have J':=J.hush hfm
 refine wpAny_handleBy_cons (codeAny_handlers_test ?_) (by intro q; cases q)
 refine Bq (X:=X.hush (X.A.mark (some (.ref a)))) J' hg hm ?_ hd
 obtain⟨nm',q',N',bs',bmD,hd',sn',sub',ab',col',dd',l0,l1,l2,l3,l5,eD,hB⟩:=hD
 obtain⟨q,N,bs,sn,sub,ab,col,dd,k0,k1,k2,k3,k5,eC⟩:=xc.obj
 obtain⟨vs,sl,tb,hx,h2,h1,hT⟩:=c.fly.obj
 obtain⟨hh,g,dr,tk,os⟩:=s
 refine L1 (J.kIn _ _ eC) (J.kIn _ _ eD) hB hx rfl ?_
 rw [EZ]
 rcases h with ⟨hCD,h⟩ | ⟨n1,n2,h⟩
 ·have e:(decide (C=Dc)||decide (U=Dc))=true:=by rcases hCD with z | z <;> simp [z]
  rw [e]
  refine codeAny_handlers_suite_as ?_
  refine DJ (s:=⟨hh,g,dr,tk,os⟩) c.fly λh' f' u'=>?_
  have c2:=c.step f' u'
  have J2:=c2.inv I
  obtain⟨vs2,sl2,tb2,hx2,h22,_⟩:=f'.obj
  have J3:Inv X pins σ (Ac H a (.frz ⟨.ref C,dx,.fields vs2,sl2⟩ (.own a))) ⟨h',g,dr,tk,os⟩:=by
   refine J2.track c.free (T6 I.sz c.new) (Uy (Tx I.lt c.new)) (λy c' e z=>?_) (λp hp z=>?_) ⟨hx2,_,hx2⟩
   ·obtain⟨v,q⟩:=I.cell y c' e
    exact absurd (Tx q.lt c.new) (by rw [z]; exact UX _)
   ·exact absurd (Tx (FM (I.pin p hp).1) c.new) (by rw [z]; exact UX _)
  refine E8 J3 hN hi (.inl hl) (v:=.ref a) (u:=.ref a) rfl (λs4 J4=>?_) (.inr hl)
  have hsu:=hs a pins s4 _ _ _ (J4.hush hfm) (h a _ c.free ⟨vs2,sl2,rfl,h22⟩)
  refine UC hsu (λf s5 q5=>?_) λe s5 z=>z.elim
  have fin:∀{σ':St} {H':Hp} {P:St->Hp->Prop} {Q:Shared->Prop},Inv (X.hush (X.A.mark (some (.ref a)))) pins σ' H' s5->P (σ'.set i none) H'->(∀s6,Inv X pins (σ'.set i none) H' s6->Q s6) ->
    wpAny (model X.prog X.w) X.A (do bindName X.env n .none; unbindBehindTheSuite X.env n pos) (λ_ s6=>Q s6) X.xe s5:=λ{σ' H' P Q} K5 _ kq=>by
   obtain⟨m,hn,hlk⟩:=K5.loc
   refine wpAny_nameGoes_keeps (M:=model X.prog X.w) hl hn (by show (X.env.scope.kind==.class||(X.env.scope.kind==.module&&X.env.locals != X.env.globals))=false; rw [I.ok.kind]; rfl) λh6 v hn6 hs6=>?_
   exact kq _ ((K5.unhush I.ok).gone hN hi hlk hn6 hs6)
  cases f with
  | next =>
   obtain⟨σ',H',K5,q⟩:=q5
   exact fin (P:=D.nx) K5 q λs6 J6=>⟨_,H',J6,q⟩
  | brk =>
   obtain⟨σ',H',K5,q⟩:=q5
   exact fin (P:=D.bk) K5 q λs6 J6=>⟨_,H',J6,q⟩
  | cont =>
   obtain⟨σ',H',K5,q⟩:=q5
   exact fin (P:=D.ct) K5 q λs6 J6=>⟨_,H',J6,q⟩
  | ret u =>
   obtain⟨v,σ',H',K5,rv,q⟩:=q5
   exact fin (P:=λ_ H'=>D.rt v H') K5 q λs6 J6=>⟨v,_,H',J6,rv,q⟩
 ·have e:(decide (C=Dc)||decide (U=Dc))=false:=by simp [n1,n2]
  rw [e]
  exact hrest pins σ D a C dx B H0 s0 H _ I c h
noncomputable def Ps:TH:=λ_ _ _ _ _=>False
theorem QD:PH X [] Ps:=λ_ _ _ _ _ _ _ _ _ _ _ _ _ h=>h.elim
noncomputable def Sm(tb:MA)(th:TH):TS:=λD σ H=>tb D (λC dx H'=>∃Ca,C=.ref Ca/\th D Ca dx σ H') σ H
theorem P_{h₀:ExceptHandler}(hst:X.stack=X.env::X.outer)(hfr:X.env.frame=some X.env.locals)(hx:∀e s,X.xe e s->False)(hb:JG X body tb)(hh:PH X (h₀::rest) th):PS X (.Try body (h₀::rest) [] [] pos) (Sm tb th):=by
 intro pins s σ H D I h
 refine wpAny_Try_except (UC (hb pins s σ H D _ I h) (λf s1 q=>?_) λe s1 q=>?_)
 ·cases f with
  | next=>exact Vd q
  | _=>exact q
 ·rcases q with q | ⟨H0,s0,I0,a,C,dx,B,H',rfl,c,Ca,eC,hth⟩
  ·exact(hx e s1 q).elim
  ·cases eC
   have fl:=c.fly
   rw [hst] at fl
   have fr:=I.ok.frames
   rw [hst] at fr
   refine Ig fr hfr fl λh1 f1 u1=>?_
   have c1:=c.step (by rw [hst]; exact f1) u1
   refine DJ (s:={ s1 with heap:=h1 }) f1 λh2 f2 u2=>?_
   have c2:=c1.step (by rw [hst]; exact f2) u2
   exact hh pins σ D a C dx B H0 s0 H' _ I0 c2 hth
end
end L2
namespace Dp
open PySem PySem.Spec PyProof.Rows L2
inductive D where
 | non | bl (b:Bool) | int (i:Int) | str (x:Str) | tup (xs:List D) | lst (xs:List D) | dic (ks:List Key) (xs:List D) | fdi (ks:List Key) (xs:List D) | dit (ks:List (List Key)) (xs:List D)
 deriving Inhabited
noncomputable def NdT(M:Addr->Prop)(H:Hp)(a:Addr)(vs:List V):Prop:=H a=some (.tup vs)
noncomputable def NdL(M:Addr->Prop)(H:Hp)(a:Addr)(vs:List V):Prop:=¬M a/\H a=some (.lst vs)
noncomputable def NdD(M:Addr->Prop)(H:Hp)(a:Addr)(ks:List Key)(vs:List V):Prop:=¬M a/\H a=some (.dK (ks.zip vs))
noncomputable def NdF(M:Addr->Prop)(H:Hp)(a:Addr)(ks:List Key)(vs:List V):Prop:=∃o,¬M a/\H a=some (.frz o (.dK (ks.zip vs)))
noncomputable def NdU(M:Addr->Prop)(H:Hp)(a:Addr)(ks:List (List Key))(vs:List V):Prop:=¬M a/\H a=some (.dT (ks.zip vs))
mutual
noncomputable def At(K:Frag)(M:Addr->Prop)(H:Hp):D->V->Prop
 | .non,v=>v=.non
 | .bl b,v=>v=.bl b
 | .int i,v=>v=.int i
 | .str x,v=>v=.str x/\x.length<=sizeLine
 | .tup ds,v=>∃a vs,v=.ref a/\NdT M H a vs/\Ats K M H ds vs
 | .lst ds,v=>∃a vs,v=.ref a/\NdL M H a vs/\Ats K M H ds vs
 | .dic ks ds,v=>∃a vs,v=.ref a/\NdD M H a ks vs/\ks.length=ds.length/\Ats K M H ds vs
 | .fdi ks ds,v=>∃a vs,v=.ref a/\NdF M H a ks vs/\ks.length=ds.length/\Ats K M H ds vs
 | .dit ks ds,v=>∃a vs,v=.ref a/\NdU M H a ks vs/\ks.length=ds.length/\Ats K M H ds vs
noncomputable def Ats(K:Frag)(M:Addr->Prop)(H:Hp):List D->List V->Prop
 | [],vs=>vs=[]
 | d::ds,vs=>∃v r,vs=v::r/\At K M H d v/\Ats K M H ds r
end
section
variable {K:Frag}{M M':Addr->Prop}{H H':Hp}{a:Addr}{vs:List V}{ks:List Key}
theorem NdT.sq(h:NdT M H a vs):Du K H a vs:=.inl (.inl h)
noncomputable def Pres(M:Addr->Prop)(H:Hp)(M':Addr->Prop)(H':Hp):Prop:=(∀b o,H b=some o->¬M b->H' b=some o)/\(∀b,M' b->M b\/H b=none)/\∀b vs,H b=some (.tup vs)->H' b=some (.tup vs)
theorem Pres.nd{u:HO}(p:Pres M H M' H')(n:¬M a)(h:H a=some u):¬M' a/\H' a=some u:=by
 refine⟨λz=>?_,p.1 _ _ h n⟩
 rcases p.2.1 a z with z | z
 ·exact n z
 ·rw [z] at h; cases h
theorem NdT.pres(p:Pres M H M' H')(h:NdT M H a vs):NdT M' H' a vs:=p.2.2 _ _ h
theorem NdL.pres(p:Pres M H M' H')(h:NdL M H a vs):NdL M' H' a vs:=p.nd h.1 h.2
theorem NdD.pres(p:Pres M H M' H')(h:NdD M H a ks vs):NdD M' H' a ks vs:=p.nd h.1 h.2
theorem NdU.pres{ks:List (List Key)}(p:Pres M H M' H')(h:NdU M H a ks vs):NdU M' H' a ks vs:=p.nd h.1 h.2
theorem NdF.pres(p:Pres M H M' H')(h:NdF M H a ks vs):NdF M' H' a ks vs:=let ⟨o,h1,h2⟩:=h; ⟨o,p.nd h1 h2⟩
mutual
theorem At.pres(p:Pres M H M' H'):∀{d:D} {v:V},At K M H d v->At K M' H' d v
 | .non,v,h=>h
 | .bl b,v,h=>h
 | .int i,v,h=>h
 | .str x,v,h=>h
 | .tup ds,v,h=>by
  obtain⟨a,vs,e,hn,hs⟩:=h
  exact⟨a,vs,e,hn.pres p,Ats.pres p hs⟩
 | .lst ds,v,h=>by
  obtain⟨a,vs,e,hn,hs⟩:=h
  exact⟨a,vs,e,hn.pres p,Ats.pres p hs⟩
 | .dic ks ds,v,h=>by
  obtain⟨a,vs,e,hn,hl,hs⟩:=h
  exact⟨a,vs,e,hn.pres p,hl,Ats.pres p hs⟩
 | .fdi ks ds,v,h=>by
  obtain⟨a,vs,e,hn,hl,hs⟩:=h
  exact⟨a,vs,e,hn.pres p,hl,Ats.pres p hs⟩
 | .dit ks ds,v,h=>by
  obtain⟨a,vs,e,hn,hl,hs⟩:=h
  exact⟨a,vs,e,hn.pres p,hl,Ats.pres p hs⟩
theorem Ats.pres(p:Pres M H M' H'):∀{ds:List D} {vs:List V},Ats K M H ds vs->Ats K M' H' ds vs
 | [],vs,h=>h
 | d::ds,vs,h=>by
  obtain⟨v,r,e,h1,h2⟩:=h
  exact⟨v,r,e,At.pres p h1,Ats.pres p h2⟩
end
theorem Pres.trans{M1 M2 M3:Addr->Prop}{H1 H2 H3:Hp}(p:Pres M1 H1 M2 H2)(q:Pres M2 H2 M3 H3):Pres M1 H1 M3 H3:=by
 refine⟨λb o e n=>?_,λb z=>?_,λb vs e=>q.2.2 b vs (p.2.2 b vs e)⟩
 ·refine q.1 b o (p.1 b o e n) λz=>?_
  rcases p.2.1 b z with z | z
  ·exact n z
  ·rw [z] at e; cases e
 ·rcases q.2.1 b z with z | z
  ·exact p.2.1 b z
  ·cases e:H1 b with
   | none=>exact .inr rfl
   | some o =>
    by_cases n:M1 b
    ·exact .inl n
    ·rw [p.1 b o e n] at z; cases z
theorem Pres.refl(M:Addr->Prop)(H:Hp):Pres M H M H:=⟨λ_ _ e _=>e,λ_ z=>.inl z,λ_ _ e=>e⟩
theorem Pres.less(h:∀b,M' b->M b):Pres M H M' H:=⟨λ_ _ e _=>e,λb z=>.inl (h b z),λ_ _ e=>e⟩
theorem Ats.length:∀{ds:List D} {vs:List V},Ats K M H ds vs->vs.length=ds.length
 | [],vs,h=>by cases h; rfl
 | d::ds,vs,h=>by
  obtain⟨v,r,e,h1,h2⟩:=h
  subst e
  rw [Tk,Tk,Ats.length h2]
theorem Ats.get:∀{ds:List D} {vs:List V} {i:Nat} {d:D},Ats K M H ds vs->ds[i]?=some d->∃v,vs[i]?=some v/\At K M H d v
 | [],vs,i,d,h,e=>by simp at e
 | d0::ds,vs,0,d,h,e=>by
  obtain⟨v,r,e1,h1,h2⟩:=h
  simp at e
  subst e e1
  exact⟨v,rfl,h1⟩
 | d0::ds,vs,i+1,d,h,e=>by
  obtain⟨v,r,e1,h1,h2⟩:=h
  subst e1
  obtain⟨u,e2,h3⟩:=Ats.get (i:=i) (d:=d) h2 (by simpa using e)
  exact⟨u,by simpa using e2,h3⟩
theorem Ats.append:∀{ds es:List D} {vs us:List V},Ats K M H ds vs->Ats K M H es us->Ats K M H (ds++es) (vs++us)
 | [],es,vs,us,h,g=>by cases h; exact g
 | d::ds,es,vs,us,h,g=>by
  obtain⟨v,r,e,h1,h2⟩:=h
  subst e
  exact⟨v,r++us,rfl,h1,Ats.append h2 g⟩
theorem Ats.drop:∀{ds:List D} {vs:List V} (n:Nat),Ats K M H ds vs->Ats K M H (ds.drop n) (vs.drop n)
 | ds,vs,0,h=>h
 | [],vs,n+1,h=>by cases h; exact rfl
 | d::ds,vs,n+1,h=>by
  obtain⟨v,r,e,h1,h2⟩:=h
  subst e
  exact Ats.drop n h2
theorem Ats.take:∀{ds:List D} {vs:List V} (n:Nat),Ats K M H ds vs->Ats K M H (ds.take n) (vs.take n)
 | ds,vs,0,h=>rfl
 | [],vs,n+1,h=>by cases h; exact rfl
 | d::ds,vs,n+1,h=>by
  obtain⟨v,r,e,h1,h2⟩:=h
  subst e
  exact⟨v,r.take n,rfl,h1,Ats.take n h2⟩
theorem Ats.one{d:D}{v:V}(h:At K M H d v):Ats K M H [d] [v]:=⟨v,[],rfl,h,rfl⟩
end
inductive Kd where
 | sh | tp | fr
noncomputable def Tops(K:Frag)(M:Addr->Prop)(H:Hp)(a:Addr):D->Prop
 | .lst ds=>∃vs,H a=some (.lst vs)/\Ats K M H ds vs
 | .dic ks ds=>∃vs,H a=some (.dK (ks.zip vs))/\ks.length=ds.length/\Ats K M H ds vs
 | .dit ks ds=>∃vs,H a=some (.dT (ks.zip vs))/\ks.length=ds.length/\Ats K M H ds vs
 | _=>False
theorem Tops.notT{K:Frag}{M:Addr->Prop}{H:Hp}{a:Addr}{d:D}(h:Tops K M H a d){vs:List V}:H a≠some (.tup vs):=λq=>by
 cases d with
 | lst ds=>obtain⟨us,e,_⟩:=h; rw [e] at q; cases q
 | dic ks ds=>obtain⟨us,e,_⟩:=h; rw [e] at q; cases q
 | dit ks ds=>obtain⟨us,e,_⟩:=h; rw [e] at q; cases q
 | _=>exact h.elim
theorem Tops.pres{K:Frag}{M M':Addr->Prop}{H H':Hp}{a:Addr}{d:D}(h:Tops K M H a d)(p:Pres M H M' H')(e:∀o,H a=some o->H' a=some o):Tops K M' H' a d:=by
 cases d with
 | lst ds=>obtain⟨vs,h1,h2⟩:=h; exact⟨vs,e _ h1,h2.pres p⟩
 | dic ks ds=>obtain⟨vs,h1,h2,h3⟩:=h; exact⟨vs,e _ h1,h2,h3.pres p⟩
 | dit ks ds=>obtain⟨vs,h1,h2,h3⟩:=h; exact⟨vs,e _ h1,h2,h3.pres p⟩
 | _=>exact(show False from h).elim
theorem Tops.at{K:Frag}{M:Addr->Prop}{H:Hp}{a:Addr}{d:D}(h:Tops K M H a d)(n:¬M a):At K M H d (.ref a):=by
 cases d with
 | lst ds=>obtain⟨vs,h1,h2⟩:=h; exact⟨a,vs,rfl,⟨n,h1⟩,h2⟩
 | dic ks ds=>obtain⟨vs,h1,h2,h3⟩:=h; exact⟨a,vs,rfl,⟨n,h1⟩,h2,h3⟩
 | dit ks ds=>obtain⟨vs,h1,h2,h3⟩:=h; exact⟨a,vs,rfl,⟨n,h1⟩,h2,h3⟩
 | _=>exact(show False from h).elim
noncomputable def AtT(K:Frag)(U:Addr->Prop)(M:Addr->Prop)(H:Hp):D->V->Prop
 | .lst ds,v=>∃a vs,v=.ref a/\¬U a/\Rd H a (.lst vs)/\Ats K M H ds vs
 | .dic ks ds,v=>∃a vs,v=.ref a/\¬U a/\H a=some (.dK (ks.zip vs))/\ks.length=ds.length/\Ats K M H ds vs
 | .dit ks ds,v=>∃a vs,v=.ref a/\¬U a/\H a=some (.dT (ks.zip vs))/\ks.length=ds.length/\Ats K M H ds vs
 | d,v=>At K M H d v
theorem Tops.att{K:Frag}{U M:Addr->Prop}{H:Hp}{a:Addr}{d:D}(h:Tops K M H a d)(n:¬U a):AtT K U M H d (.ref a):=by
 cases d with
 | lst ds=>obtain⟨vs,h1,h2⟩:=h; exact⟨a,vs,rfl,n,.inl h1,h2⟩
 | dic ks ds=>obtain⟨vs,h1,h2,h3⟩:=h; exact⟨a,vs,rfl,n,h1,h2,h3⟩
 | dit ks ds=>obtain⟨vs,h1,h2,h3⟩:=h; exact⟨a,vs,rfl,n,h1,h2,h3⟩
 | _=>exact(show False from h).elim
noncomputable def VR(K:Frag)(U:Addr->Prop)(M:Addr->Prop)(H H':Hp):Kd->V->D->Prop
 | .sh,v,d=>At K M H' d v
 | .tp,v,d=>AtT K U M H' d v
 | .fr,v,d=>∃a,v=.ref a/\H a=none/\Tops K (λb=>M b\/b=a) H' a d
noncomputable def FeedOk(K:Frag)(M:Addr->Prop)(H:Hp)(f:Addr×Addr)(n:Nat):Prop :=
 ∃(at_ rest:Int) (cells:List Int),H f.1=some (.lst [.ref f.2,.int at_,.int rest])/\f.2≠f.1/\NdL M H f.2 (cells.map V.int)/\cells.length<=63/\0<=at_/\at_+n<=2 ^ 60
noncomputable def FeedC(K:Frag)(F:Option (Addr×Addr))(M:Addr->Prop)(H:Hp)(n:Nat):Prop:=∀f,F=some f->FeedOk K M H f n
noncomputable def Ext(U:Addr->Prop)(H H':Hp):Prop:=∀b o,H b=some o->∃o',H' b=some o'/\(¬U b->o'=o)/\∀vs,o=.tup vs->o'=o
theorem Ext.keep{U:Addr->Prop}{H H':Hp}(p:Ext U H H'){b:Addr}{o:HO}(e:H b=some o)(n:¬U b):H' b=some o:=by
 obtain⟨o',q,r,_⟩:=p b o e
 rw [q,r n]
theorem Ext.tup{U:Addr->Prop}{H H':Hp}(p:Ext U H H'){b:Addr}{vs:List V}(e:H b=some (.tup vs)):H' b=some (.tup vs):=by
 obtain⟨o',q,_,r⟩:=p b _ e
 rw [q,r vs rfl]
theorem Ext.free{U:Addr->Prop}{H H':Hp}(p:Ext U H H'){b:Addr}(e:H' b=none):H b=none:=by
 cases q:H b with
 | none=>rfl
 | some o =>
  obtain⟨o',z,_⟩:=p b o q
  rw [e] at z; cases z
theorem Ext.refl(U:Addr->Prop)(H:Hp):Ext U H H:=λ_ o e=>⟨o,e,λ_=>rfl,λ_ _=>rfl⟩
theorem Ext.trans{U:Addr->Prop}{H1 H2 H3:Hp}(p:Ext U H1 H2)(q:Ext U H2 H3):Ext U H1 H3:=λb o e=>by
 obtain⟨o',e1,r1,t1⟩:=p b o e
 obtain⟨o2,e2,r2,t2⟩:=q b o' e1
 exact⟨o2,e2,λn=>(r2 n).trans (r1 n),λvs z=>(t2 vs ((t1 vs z).trans z)).trans (t1 vs z)⟩
noncomputable def Grow(H H':Hp):Prop:=H'=H\/∃p o,H p=none/\H'=Ac H p o
theorem Grow.all{H H':Hp}(g:Grow H H'):∀b o,H b=some o->H' b=some o:=by
 intro b o e
 rcases g with rfl | ⟨p,u,n,rfl⟩
 ·exact e
 ·rw [AH (AU e n)]; exact e
theorem Grow.refl{H:Hp}:Grow H H:=.inl rfl
theorem Grow.ext{U:Addr->Prop}{H H':Hp}(g:Grow H H'):Ext U H H':=λb o e=>⟨o,g.all b o e,λ_=>rfl,λ_ _=>rfl⟩
theorem Grow.pres{M:Addr->Prop}{H H':Hp}(g:Grow H H'):Pres M H M H':=⟨λb o e _=>g.all b o e,λ_ z=>.inl z,λb vs e=>g.all b _ e⟩
theorem FeedOk.pres{K:Frag}{M M':Addr->Prop}{H H':Hp}{f:Addr×Addr}{n:Nat}(h:FeedOk K M H f n)(p:Pres M H M' H')(e:∀o,H f.1=some o->H' f.1=some o):FeedOk K M' H' f n:=by
 obtain⟨a,r,cs,h1,h2,h3,h4⟩:=h
 exact⟨a,r,cs,e _ h1,h2,h3.pres p,h4⟩
theorem FeedC.pres{K:Frag}{F:Option (Addr×Addr)}{M M':Addr->Prop}{H H':Hp}{n:Nat}(h:FeedC K F M H n)(p:Pres M H M' H')(e:∀f o,F=some f->H f.1=some o->H' f.1=some o):FeedC K F M' H' n:=λf hf=>(h f hf).pres p λo q=>e f o hf q
theorem FeedC.grow{K:Frag}{F:Option (Addr×Addr)}{M:Addr->Prop}{H H':Hp}{n:Nat}(h:FeedC K F M H n)(g:Grow H H'):FeedC K F M H' n:=h.pres g.pres λf o _ e=>g.all f.1 o e
theorem FeedC.more{K:Frag}{F:Option (Addr×Addr)}{M:Addr->Prop}{H:Hp}{n:Nat}(h:FeedC K F M H n)(a:Addr)(ha:∀f,F=some f->f.2≠a):FeedC K F (λb=>M b\/b=a) H n:=λf hf=>by
 obtain⟨x,r,cs,h1,h2,h3,h4⟩:=h f hf
 exact⟨x,r,cs,h1,h2,⟨λz=>z.elim h3.1 (ha f hf),h3.2⟩,h4⟩
noncomputable def AtX(K:Frag)(M:Addr->Prop)(H:Hp)(a:Addr)(nm:Str)(ks:List Str)(ds:List D):Prop:=∃C U dx u vs,XC K nm C U/\(¬M a/\H a=some u)/\XT C dx a u/\(dx=none/\ks=[]/\vs=[]\/∃d,dx=some d/\¬M d/\H d=some (.ext (XF d (ks.zip vs))))/\ks.length=ds.length/\Ats K M H ds vs
theorem AtX.pres{K:Frag}{M M':Addr->Prop}{H H':Hp}{a:Addr}{nm:Str}{ks:List Str}{ds:List D}(h:AtX K M H a nm ks ds)(p:Pres M H M' H'):AtX K M' H' a nm ks ds:=by
 obtain⟨C,U,dx,u,vs,c,⟨n,ha⟩,x,hd,hl,hs⟩:=h
 refine⟨C,U,dx,u,vs,c,p.nd n ha,x,?_,hl,hs.pres p⟩
 rcases hd with z | ⟨d,e1,n1,h1⟩
 ·exact .inl z
 ·exact .inr ⟨d,e1,p.nd n1 h1⟩
inductive Slot where
 | no | sh (d:D) | br (d:D) | fd | ow (d:D) | lt (a:Addr) (d:D) | ex (a:Addr) (nm:Str) (ks:List Str) (ds:List D)
noncomputable def Slot.owns:Slot->Bool
 | .ow _=>true
 | .lt _ _=>true
 | _=>false
noncomputable def SlotOk(K:Frag)(F:Option (Addr×Addr))(U:Addr->Prop)(M:Addr->Prop)(H:Hp):Slot->Option V->Prop
 | .no,_=>True
 | .sh d,o=>∃v,o=some v/\At K M H d v
 | .br d,o=>∃v,o=some v/\AtT K U M H d v
 | .fd,o=>∃f,o=some (.ref f.1)/\F=some f
 | .ow d,o=>∃a,o=some (.ref a)/\M a/\¬U a/\Tops K M H a d
 | .lt a d,o=>o=some (.ref a)/\M a/\¬U a/\Tops K M H a d
 | .ex a nm ks ds,o=>o=some (.ref a)/\AtX K M H a nm ks ds
structure Fm where
 M0:Addr->Prop
 F:Option (Addr×Addr)
 U:Addr->Prop
 V:Addr->Prop
 H0:Hp
 pins:List ((Addr->Prop)×Hp)
 kp:List (Addr×HO)
noncomputable def Apart(ρ:List Slot)(σ:L2.St):Prop:=∀(i j:Nat) (s t:Slot) (a:Addr),ρ[i]?=some s->s.owns=true->ρ[j]?=some t->t.owns=true->(σ[i]?).getD none=some (.ref a)->(σ[j]?).getD none=some (.ref a)->i=j
structure Rel (K:Frag) (C:Fm) (M:Addr->Prop) (H:Hp) (n:Nat) (ρ:List Slot) (σ:L2.St):Prop where
 len:ρ.length=σ.length
 sub:∀a,C.M0 a->M a
 dom:∀a,M a->∃o,H a=some o
 ext:Ext C.U C.H0 H
 fU:∀f,C.F=some f->C.U f.1
 uV:∀a,C.U a->C.V a
 vM:∀a,C.V a->M a
 feed:FeedC K C.F M H n
 sl:∀(i:Nat) (s:Slot),ρ[i]?=some s->SlotOk K C.F C.V M H s ((σ[i]?).getD none)
 pin:∀p∈C.pins,Pres p.1 p.2 M H
 br0:∀(i:Nat) (d:D) (a:Addr),ρ[i]?=some (.br d)->(σ[i]?).getD none=some (.ref a)->∃o,C.H0 a=some o
 new:∀(i:Nat) (s:Slot) (a:Addr),ρ[i]?=some s->s.owns=true->(σ[i]?).getD none=some (.ref a)->¬C.M0 a/\C.H0 a=none
 two:Apart ρ σ
 kept:∀p∈C.kp,H p.1=some p.2/\M p.1/\¬C.V p.1/\∀(i:Nat) (d:D),ρ[i]?=some (.ow d)->(σ[i]?).getD none≠some (.ref p.1)
section
variable {K:Frag}{C:Fm}{M:Addr->Prop}{H H':Hp}{n n':Nat}{ρ:List Slot}{σ:L2.St}{d:D}{v:V}{κ:Kd}
theorem Rel.pres(R:Rel K C M H n ρ σ)(e:Ext C.U H H'):Pres M H M H':=⟨λb o q nb=>e.keep q λz=>nb (R.vM b (R.uV b z)),λ_ z=>.inl z,λb vs q=>e.tup q⟩
theorem AtT.pres{U V':Addr->Prop}{M':Addr->Prop}(h:AtT K V' M H d v)(p:Pres M H M' H')(e:Ext U H H')(uV:∀a,U a->V' a):AtT K V' M' H' d v:=by
 cases d with
 | lst ds =>
  obtain⟨a,vs,e1,n1,hq,hs⟩:=h
  refine⟨a,vs,e1,n1,?_,hs.pres p⟩
  rcases hq with hq | ⟨o,hq⟩
  ·exact .inl (e.keep hq λz=>n1 (uV a z))
  ·exact .inr ⟨o,e.keep hq λz=>n1 (uV a z)⟩
 | dic ks ds =>
  obtain⟨a,vs,e1,n1,hq,hl,hs⟩:=h
  exact⟨a,vs,e1,n1,e.keep hq λz=>n1 (uV a z),hl,hs.pres p⟩
 | dit ks ds =>
  obtain⟨a,vs,e1,n1,hq,hl,hs⟩:=h
  exact⟨a,vs,e1,n1,e.keep hq λz=>n1 (uV a z),hl,hs.pres p⟩
 | non=>exact At.pres (K:=K) p (d:=.non) h
 | bl b=>exact At.pres (K:=K) p (d:=.bl b) h
 | int i=>exact At.pres (K:=K) p (d:=.int i) h
 | str x=>exact At.pres (K:=K) p (d:=.str x) h
 | tup ds=>exact At.pres (K:=K) p (d:=.tup ds) h
 | fdi ks ds=>exact At.pres (K:=K) p (d:=.fdi ks ds) h
theorem AtT.same{U V':Addr->Prop}{M':Addr->Prop}(h:AtT K U M H d v)(p:Pres M H M' H')(e:∀a o,v=.ref a->H a=some o->H' a=some o)(nv:∀a,v=.ref a->¬U a->¬V' a):AtT K V' M' H' d v:=by
 cases d with
 | lst ds =>
  obtain⟨a,vs,e1,n1,hq,hs⟩:=h
  refine⟨a,vs,e1,nv a e1 n1,?_,hs.pres p⟩
  rcases hq with hq | ⟨o,hq⟩
  ·exact .inl (e a _ e1 hq)
  ·exact .inr ⟨o,e a _ e1 hq⟩
 | dic ks ds =>
  obtain⟨a,vs,e1,n1,hq,hl,hs⟩:=h
  exact⟨a,vs,e1,nv a e1 n1,e a _ e1 hq,hl,hs.pres p⟩
 | dit ks ds =>
  obtain⟨a,vs,e1,n1,hq,hl,hs⟩:=h
  exact⟨a,vs,e1,nv a e1 n1,e a _ e1 hq,hl,hs.pres p⟩
 | non=>exact At.pres (K:=K) p (d:=.non) h
 | bl b=>exact At.pres (K:=K) p (d:=.bl b) h
 | int i=>exact At.pres (K:=K) p (d:=.int i) h
 | str x=>exact At.pres (K:=K) p (d:=.str x) h
 | tup ds=>exact At.pres (K:=K) p (d:=.tup ds) h
 | fdi ks ds=>exact At.pres (K:=K) p (d:=.fdi ks ds) h
theorem AtT.lies{U:Addr->Prop}{a:Addr}(h:AtT K U M H d (.ref a)):∃o,H a=some o:=by
 cases d with
 | lst ds =>
  obtain⟨b,vs,e,_,hq,_⟩:=h
  cases e
  rcases hq with hq | ⟨o,hq⟩
  ·exact⟨_,hq⟩
  ·exact⟨_,hq⟩
 | dic ks ds =>
  obtain⟨b,vs,e,_,hq,_⟩:=h
  cases e
  exact⟨_,hq⟩
 | dit ks ds =>
  obtain⟨b,vs,e,_,hq,_⟩:=h
  cases e
  exact⟨_,hq⟩
 | non=>cases (show V.ref a=.non from h)
 | bl b=>cases (show V.ref a=.bl b from h)
 | int i=>cases (show V.ref a=.int i from h)
 | str x=>cases (show V.ref a=.str x/\_ from h).1
 | tup ds =>
  obtain⟨b,vs,e,hq,_⟩:=h
  cases e
  exact⟨_,hq⟩
 | fdi ks ds =>
  obtain⟨b,vs,e,⟨o,_,hq⟩,_⟩:=h
  cases e
  exact⟨_,hq⟩
theorem SlotOk.pres{F:Option (Addr×Addr)}{U V' M':Addr->Prop}{s:Slot}{o:Option V}(h:SlotOk K F V' M H s o)(p:Pres M H M' H')(m:∀a,M a->M' a)(e:Ext U H H')(uV:∀a,U a->V' a):SlotOk K F V' M' H' s o:=by
 cases s with
 | no=>trivial
 | sh d=>obtain⟨v,e1,h1⟩:=h; exact⟨v,e1,h1.pres p⟩
 | ex a nm ks ds=>obtain⟨e1,h1⟩:=h; exact⟨e1,h1.pres p⟩
 | br d=>obtain⟨v,e1,h1⟩:=h; exact⟨v,e1,h1.pres p e uV⟩
 | fd=>exact h
 | ow d=>obtain⟨a,e1,h1,h2,h3⟩:=h; exact⟨a,e1,m a h1,h2,h3.pres p λo q=>e.keep q λz=>h2 (uV a z)⟩
 | lt a d=>obtain⟨e1,h1,h2,h3⟩:=h; exact⟨e1,m a h1,h2,h3.pres p λo q=>e.keep q λz=>h2 (uV a z)⟩
theorem Rel.step(R:Rel K C M H n ρ σ)(e:Ext C.U H H')(f:FeedC K C.F M H' n'):Rel K C M H' n' ρ σ:=by
 have p:=R.pres e
 refine⟨R.len,R.sub,λa z=>?_,R.ext.trans e,R.fU,R.uV,R.vM,f,λi s q=>(R.sl i s q).pres p (λ_ z=>z) e R.uV,λq hq=>(R.pin q hq).trans p,R.br0,R.new,R.two,λq hq=>?_⟩
 ·obtain⟨o,h1⟩:=R.dom a z
  obtain⟨o',h2,_⟩:=e a o h1
  exact⟨o',h2⟩
 ·obtain⟨h1,h2,h3,h4⟩:=R.kept q hq
  exact⟨e.keep h1 λz=>h3 (R.uV _ z),h2,h3,h4⟩
theorem Rel.udom(R:Rel K C M H n ρ σ):∀a,C.U a->∃o,H a=some o:=λa z=>R.dom a (R.vM a (R.uV a z))
theorem At.tp{U:Addr->Prop}(uM:∀a,U a->M a)(h:At K M H d v):AtT K U M H d v:=by
 cases d with
 | lst ds =>
  obtain⟨a,vs,e,hn,hs⟩:=h
  exact⟨a,vs,e,λz=>hn.1 (uM a z),.inl hn.2,hs⟩
 | dic ks ds =>
  obtain⟨a,vs,e,hn,hl,hs⟩:=h
  exact⟨a,vs,e,λz=>hn.1 (uM a z),hn.2,hl,hs⟩
 | dit ks ds =>
  obtain⟨a,vs,e,hn,hl,hs⟩:=h
  exact⟨a,vs,e,λz=>hn.1 (uM a z),hn.2,hl,hs⟩
 | non=>exact h
 | bl b=>exact h
 | int i=>exact h
 | str x=>exact h
 | tup ds=>exact h
 | fdi ks ds=>exact h
theorem VR.back{U V':Addr->Prop}{H1:Hp}(e:Ext U H H1)(h:VR K V' M H1 H' κ v d):VR K V' M H H' κ v d:=by
 cases κ with
 | sh=>exact h
 | tp=>exact h
 | fr =>
  obtain⟨a,e1,h1,h2⟩:=h
  exact⟨a,e1,e.free h1,h2⟩
theorem VR.shOf{U:Addr->Prop}(dom:∀a,M a->∃o,H a=some o)(h:VR K U M H H' κ v d)(hk:κ≠.tp):At K M H' d v:=by
 cases κ with
 | sh=>exact h
 | tp=>exact absurd rfl hk
 | fr =>
  obtain⟨a,rfl,h1,h2⟩:=h
  refine(h2.pres (Pres.less (M':=M) λ_ z=>.inl z) λ_ z=>z).at λz=>?_
  obtain⟨o,q⟩:=dom a z
  rw [h1] at q; cases q
theorem VR.tpOf{U:Addr->Prop}(dom:∀a,M a->∃o,H a=some o)(uM:∀a,U a->M a)(h:VR K U M H H' κ v d):AtT K U M H' d v:=by
 cases κ with
 | sh=>exact At.tp uM h
 | tp=>exact h
 | fr=>exact At.tp uM (VR.shOf dom h (by intro z; cases z))
theorem CO{α:Type}{l:List α}{i j:Nat}{x y:α}(h:(l.set i x)[j]?=some y):(j=i/\i<l.length/\y=x)\/(j≠i/\l[j]?=some y):=by
 rw [Vt] at h
 by_cases e:i=j
 ·rw [if_pos e] at h
  by_cases hl:i<l.length
  ·rw [if_pos hl] at h
   exact .inl ⟨e.symm,hl,(Rs h).symm⟩
  ·rw [if_neg hl] at h; cases h
 ·rw [if_neg e] at h
  exact .inr ⟨λz=>e z.symm,h⟩
theorem C5{l:L2.St}{i j:Nat}{x:Option V}(h:j≠i):((l.set i x)[j]?).getD none=(l[j]?).getD none:=by
 rw [Vt,if_neg (λz=>h z.symm)]
theorem JX{l:L2.St}{i:Nat}{x:Option V}(h:i<l.length):((l.set i x)[i]?).getD none=x:=by
 rw [Vt,if_pos rfl,if_pos h]
 rfl
theorem Rel.set(R:Rel K C M H n ρ σ){i:Nat}(h:At K M H d v):Rel K C M H n (ρ.set i (.sh d)) (σ.set i (some v)):=by
 have two:∀(j:Nat) (s:Slot),(ρ.set i (.sh d))[j]?=some s->s.owns=true->ρ[j]?=some s/\((σ.set i (some v))[j]?).getD none=(σ[j]?).getD none:=λj s q o=>by
  rcases CO q with ⟨_,_,rfl⟩ | ⟨hj,q⟩
  ·cases o
  ·exact⟨q,C5 hj⟩
 refine⟨by rw [Ut,Ut]; exact R.len,R.sub,R.dom,R.ext,R.fU,R.uV,R.vM,R.feed,λj s q=>?_,R.pin,λj e a q q2=>?_,λj s a q o q2=>?_,λj k s t a q1 o1 q2 o2 z1 z2=>?_,λp hp=>?_⟩
 ·rcases CO q with ⟨rfl,hl,rfl⟩ | ⟨hj,q⟩
  ·rw [JX (by rw [← R.len]; exact hl)]
   exact⟨v,rfl,h⟩
  ·rw [C5 hj]
   exact R.sl j s q
 ·rcases CO q with ⟨_,_,e⟩ | ⟨hj,q⟩
  ·cases e
  ·rw [C5 hj] at q2
   exact R.br0 j e a q q2
 ·obtain⟨q1,e⟩:=two j s q o
  rw [e] at q2
  exact R.new j s a q1 o q2
 ·obtain⟨p1,e1⟩:=two j s q1 o1
  obtain⟨p2,e2⟩:=two k t q2 o2
  rw [e1] at z1
  rw [e2] at z2
  exact R.two j k s t a p1 o1 p2 o2 z1 z2
 ·obtain⟨h1,h2,h3,h4⟩:=R.kept p hp
  refine⟨h1,h2,h3,λj e q=>?_⟩
  obtain⟨q1,e2⟩:=two j _ q rfl
  rw [e2]
  exact h4 j e q1
theorem Rel.owner(R:Rel K C M H n ρ σ){i:Nat}{s:Slot}(h:ρ[i]?=some s)(o:s.owns=true):∃a e,(σ[i]?).getD none=some (.ref a)/\M a/\¬C.V a/\Tops K M H a e/\¬C.M0 a/\C.H0 a=none:=by
 have q:=R.sl i s h
 cases s with
 | ow d=>obtain⟨a,e1,h1,h2,h3⟩:=q; exact⟨a,d,e1,h1,h2,h3,R.new i _ a h o e1⟩
 | lt a d=>obtain⟨e1,h1,h2,h3⟩:=q; exact⟨a,d,e1,h1,h2,h3,R.new i _ a h o e1⟩
 | _=>cases o
theorem Rel.setOw(R:Rel K C M H n ρ σ){i:Nat}{a:Addr}(e:Ext C.U H H')(f:FeedC K C.F M H' n')(ha:H a=none)(h:Tops K (λb=>M b\/b=a) H' a d) :
  Rel K C (λb=>M b\/b=a) H' n' (ρ.set i (.ow d)) (σ.set i (some (.ref a))):=by
 have R1:=R.step e f
 have ne:∀b,M b->b≠a:=λb z q=>by
  obtain⟨o,w⟩:=R.dom b z
  rw [q,ha] at w; cases w
 have a0:¬C.M0 a/\C.H0 a=none:=⟨λz=>ne a (R.sub a z) rfl,R.ext.free ha⟩
 have pr:Pres M H (λb=>M b\/b=a) H':=⟨λb o q nb=>e.keep q λz=>nb (R.vM b (R.uV b z)),λb z=>z.elim .inl λz=>.inr (by rw [z]; exact ha),λb vs q=>e.tup q⟩
 have two:∀(j:Nat) (s:Slot),(ρ.set i (.ow d))[j]?=some s->(j=i/\s=.ow d/\((σ.set i (some (.ref a)))[j]?).getD none=some (.ref a))\/(j≠i/\ρ[j]?=some s/\((σ.set i (some (.ref a)))[j]?).getD none=(σ[j]?).getD none):=λj s q=>by
  rcases CO q with ⟨rfl,hl,rfl⟩ | ⟨hj,q⟩
  ·exact .inl ⟨rfl,rfl,JX (by rw [← R.len]; exact hl)⟩
  ·exact .inr ⟨hj,q,C5 hj⟩
 have old:∀(j:Nat) (s:Slot) (b:Addr),ρ[j]?=some s->s.owns=true->(σ[j]?).getD none=some (.ref b)->b≠a:=λj s b q o z=>by
  obtain⟨c,_,e1,m,_⟩:=R.owner q o
  rw [e1] at z
  cases z
  exact ne _ m
 have hd:∃o,H' a=some o:=by
  cases d with
  | lst ds=>obtain⟨vs,q,_⟩:=h; exact⟨_,q⟩
  | dic ks ds=>obtain⟨vs,q,_⟩:=h; exact⟨_,q⟩
  | dit ks ds=>obtain⟨vs,q,_⟩:=h; exact⟨_,q⟩
  | _=>exact(show False from h).elim
 refine⟨by rw [Ut,Ut]; exact R.len,λb z=>.inl (R.sub b z),λb z=>?_,R1.ext,R.fU,R.uV,λb z=>.inl (R.vM b z),f.more a λg hg q=>?_,λj s q=>?_,λq hq=>(R.pin q hq).trans pr,λj e2 b q q2=>?_,λj s b q o q2=>?_,λj k s t b q1 o1 q2 o2 z1 z2=>?_,λp hp=>?_⟩
 ·rcases z with z | z
  ·exact R1.dom b z
  ·rw [z]; exact hd
 ·obtain⟨_,_,_,_,_,h3,_⟩:=R.feed g hg
  have:=h3.2
  rw [q,ha] at this; cases this
 ·rcases two j s q with ⟨rfl,rfl,e1⟩ | ⟨hj,q1,e1⟩
  ·rw [e1]
   exact⟨a,rfl,.inr rfl,λz=>ne a (R.vM a z) rfl,h⟩
  ·rw [e1]
   exact(R.sl j s q1).pres pr (λ_ z=>.inl z) e R.uV
 ·rcases two j _ q with ⟨_,e1,_⟩ | ⟨hj,q1,e1⟩
  ·cases e1
  ·rw [e1] at q2
   exact R.br0 j e2 b q1 q2
 ·rcases two j s q with ⟨_,_,e1⟩ | ⟨hj,q1,e1⟩
  ·rw [e1] at q2
   cases q2
   exact a0
  ·rw [e1] at q2
   exact R.new j s b q1 o q2
 ·rcases two j s q1 with ⟨rfl,_,e1⟩ | ⟨hj,p1,e1⟩
  ·rw [e1] at z1
   cases z1
   rcases two k t q2 with ⟨rfl,_,_⟩ | ⟨hk,p2,e2⟩
   ·rfl
   ·rw [e2] at z2
    exact absurd rfl (old k t a p2 o2 z2)
  ·rw [e1] at z1
   rcases two k t q2 with ⟨rfl,_,e2⟩ | ⟨hk,p2,e2⟩
   ·rw [e2] at z2
    cases z2
    exact absurd rfl (old j s a p1 o1 z1)
   ·rw [e2] at z2
    exact R.two j k s t b p1 o1 p2 o2 z1 z2
 ·obtain⟨h1,h2,h3,h4⟩:=R1.kept p hp
  refine⟨h1,.inl h2,h3,λj e2 q=>?_⟩
  rcases two j _ q with ⟨_,_,e1⟩ | ⟨hj,q1,e1⟩
  ·rw [e1]
   intro z
   cases z
   exact ne _ h2 rfl
  ·rw [e1]
   exact h4 j e2 q1
theorem Rel.mut(R:Rel K C M H n ρ σ){i:Nat}{a:Addr}{e:D}{o:HO}(hi:ρ[i]?=some (.ow d))(ha:(σ[i]?).getD none=some (.ref a))(h:Tops K M (Ac H a o) a e) :
  Rel K C M (Ac H a o) n (ρ.set i (.ow e)) σ:=by
 obtain⟨b,_,e1,m,nv,t,n0,h0⟩:=R.owner hi rfl
 rw [ha] at e1
 cases e1
 have pr:Pres M H M (Ac H a o):=⟨λb o' q nb=>by rw [AH (λz=>nb (by rw [z]; exact m))]; exact q,λ_ z=>.inl z,λb vs q=>by rw [AH (λz=>t.notT (by rw [← z]; exact q))]; exact q⟩
 have old:∀(j:Nat) (s:Slot),(ρ.set i (.ow e))[j]?=some s->(j=i/\s=.ow e)\/(j≠i/\ρ[j]?=some s):=λj s q=>by
  rcases CO q with ⟨rfl,hl,rfl⟩ | ⟨hj,q⟩
  ·exact .inl ⟨rfl,rfl⟩
  ·exact .inr ⟨hj,q⟩
 have far:∀(j:Nat) (s:Slot) (b:Addr),j≠i->ρ[j]?=some s->s.owns=true->(σ[j]?).getD none=some (.ref b)->b≠a:=λj s b hj q o z w=>by
  subst w
  exact hj (R.two j i s _ b q o hi rfl z ha)
 refine⟨by rw [Ut]; exact R.len,R.sub,λb z=>?_,λb o' q=>?_,R.fU,R.uV,R.vM,R.feed.pres pr λf o' hf q=>?_,λj s q=>?_,λq hq=>(R.pin q hq).trans pr,λj e2 b q q2=>?_,λj s b q o2 q2=>?_,λj k s t b q1 o1 q2 o2 z1 z2=>?_,λp hp=>?_⟩
 ·by_cases hb:b=a
  ·exact⟨o,by rw [hb,AJ]⟩
  ·obtain⟨o',q⟩:=R.dom b z
   exact⟨o',by rw [AH hb]; exact q⟩
 ·obtain⟨o2,q2,r⟩:=R.ext b o' q
  have hb:b≠a:=λz=>by rw [z,h0] at q; cases q
  exact⟨o2,by rw [AH hb]; exact q2,r⟩
 ·have hb:f.1≠a:=λz=>nv (by rw [← z]; exact R.uV _ (R.fU f hf))
  rw [AH hb]; exact q
 ·rcases old j s q with ⟨rfl,rfl⟩ | ⟨hj,q1⟩
  ·rw [ha]
   exact⟨a,rfl,m,nv,h⟩
  ·have q2:=R.sl j s q1
   cases s with
   | no=>trivial
   | sh d=>obtain⟨v,e1,h1⟩:=q2; exact⟨v,e1,h1.pres pr⟩
   | ex a nm ks ds=>obtain⟨e1,h1⟩:=q2; exact⟨e1,h1.pres pr⟩
   | br d =>
    obtain⟨v,e1,h1⟩:=q2
    refine⟨v,e1,h1.same pr (λb o' z q=>?_) λ_ _ z=>z⟩
    subst z
    obtain⟨o3,w⟩:=R.br0 j d b q1 e1
    rw [AH (λz=>by rw [z,h0] at w; cases w)]
    exact q
   | fd=>exact q2
   | ow d =>
    obtain⟨b,e1,h1,h2,h3⟩:=q2
    exact⟨b,e1,h1,h2,h3.pres pr λo' w=>by rw [AH (far j _ b hj q1 rfl e1)]; exact w⟩
   | lt b d =>
    obtain⟨e1,h1,h2,h3⟩:=q2
    exact⟨e1,h1,h2,h3.pres pr λo' w=>by rw [AH (far j _ b hj q1 rfl e1)]; exact w⟩
 ·rcases old j _ q with ⟨_,e1⟩ | ⟨hj,q1⟩
  ·cases e1
  ·exact R.br0 j e2 b q1 q2
 ·rcases old j s q with ⟨rfl,_⟩ | ⟨hj,q1⟩
  ·exact R.new j _ b hi rfl q2
  ·exact R.new j s b q1 o2 q2
 ·rcases old j s q1 with ⟨rfl,rfl⟩ | ⟨hj,p1⟩
  ·rcases old k t q2 with ⟨rfl,_⟩ | ⟨hk,p2⟩
   ·rfl
   ·exact R.two j k _ t b hi rfl p2 o2 z1 z2
  ·rcases old k t q2 with ⟨rfl,rfl⟩ | ⟨hk,p2⟩
   ·exact R.two j k s _ b p1 o1 hi rfl z1 z2
   ·exact R.two j k s t b p1 o1 p2 o2 z1 z2
 ·obtain⟨h1,h2,h3,h4⟩:=R.kept p hp
  have hb:p.1≠a:=λz=>h4 i d hi (by rw [ha,z])
  refine⟨by rw [AH hb]; exact h1,h2,h3,λj e2 q=>?_⟩
  rcases old j _ q with ⟨rfl,_⟩ | ⟨hj,q1⟩
  ·exact h4 j d hi
  ·exact h4 j e2 q1
end
noncomputable abbrev DW:=Nat->List Slot->(D->Nat->Prop)->Prop
noncomputable abbrev EM:=Nat->List Slot->(Bool->Nat->Prop)->Prop
noncomputable abbrev Cf:=Nat->List Slot->(List D->Nat->Prop)->Prop
noncomputable abbrev Nh:=Nat->List Slot->(List Slot->Nat->Prop)->Prop
section
variable (X:Cx)
noncomputable def DE(e:Expr)(κ:Kd)(w:DW):Prop:=∃t,PE X e t/\∀(C:Fm) (M:Addr->Prop) (H:Hp) (n:Nat) (ρ:List Slot) (σ:L2.St) (P:D->Nat->Prop) (Q:VK),Rel X.K C M H n ρ σ->w n ρ P ->
 (∀v H' d n',Ext C.U H H'->FeedC X.K C.F M H' n'->VR X.K C.V M H H' κ v d->P d n'->Q v H')->t σ H Q
noncomputable def DT(e:Expr)(w:EM):Prop:=∃t,PT X e t/\∀(C:Fm) (M:Addr->Prop) (H:Hp) (n:Nat) (ρ:List Slot) (σ:L2.St) (P:Bool->Nat->Prop) (Q:Bool->Hp->Prop),Rel X.K C M H n ρ σ->w n ρ P ->
 (∀b H' n',Ext C.U H H'->FeedC X.K C.F M H' n'->P b n'->Q b H')->t σ H Q
noncomputable def DTW(e:Expr)(w:EM):Prop:=∃t,PW X e t/\∀(C:Fm) (M:Addr->Prop) (H:Hp) (n:Nat) (ρ:List Slot) (σ:L2.St) (P:Bool->Nat->Prop) (Q:Bool->Hp->Prop),Rel X.K C M H n ρ σ->w n ρ P ->
 (∀b H' n',Ext C.U H H'->FeedC X.K C.F M H' n'->P b n'->Q b H')->t σ H Q
noncomputable def Nk(es:List Expr)(w:Cf):Prop:=∃t,PA X es t/\∀(C:Fm) (M:Addr->Prop) (H:Hp) (n:Nat) (ρ:List Slot) (σ:L2.St) (P:List D->Nat->Prop) (Q:List V->Hp->Prop),Rel X.K C M H n ρ σ->w n ρ P ->
 (∀vs H' ds n',Ext C.U H H'->FeedC X.K C.F M H' n'->Paired (λv d=>AtT X.K C.V M H' d v) vs ds->P ds n'->Q vs H')->t σ H Q
noncomputable def Q7(es:List Expr)(w:Cf):Prop:=∃t,PA X es t/\∀(C:Fm) (M:Addr->Prop) (H:Hp) (n:Nat) (ρ:List Slot) (σ:L2.St) (P:List D->Nat->Prop) (Q:List V->Hp->Prop),Rel X.K C M H n ρ σ->w n ρ P ->
 (∀vs H' ds n',Ext C.U H H'->FeedC X.K C.F M H' n'->Ats X.K M H' ds vs->P ds n'->Q vs H')->t σ H Q
noncomputable def Gn(K:Frag)(F:Option (Addr×Addr))(V' M:Addr->Prop)(H:Hp)(v:V)(s:Slot):Prop:=SlotOk K F V' M H s (some v)/\s.owns=false
noncomputable def Sf(e:Expr)(w:Nat->List Slot->(Slot->Nat->Prop)->Prop):Prop:=∃t,PE X e t/\∀(C:Fm) (M:Addr->Prop) (H:Hp) (n:Nat) (ρ:List Slot) (σ:L2.St) (P:Slot->Nat->Prop) (Q:VK),Rel X.K C M H n ρ σ->w n ρ P ->
 (∀v H' s n',Ext C.U H H'->FeedC X.K C.F M H' n'->Gn X.K C.F C.V M H' v s->P s n'->Q v H')->t σ H Q
noncomputable def Q6(es:List Expr)(w:Nh):Prop:=∃t,PA X es t/\∀(C:Fm) (M:Addr->Prop) (H:Hp) (n:Nat) (ρ:List Slot) (σ:L2.St) (P:List Slot->Nat->Prop) (Q:List V->Hp->Prop),Rel X.K C M H n ρ σ->w n ρ P ->
 (∀vs H' ss n',Ext C.U H H'->FeedC X.K C.F M H' n'->Paired (Gn X.K C.F C.V M H') vs ss->P ss n'->Q vs H')->t σ H Q
end
noncomputable def AG(i:Nat):DW:=λn ρ P=>match ρ[i]? with
 | some (.sh d)=>P d n
 | _=>False
noncomputable def EN(i:Nat):DW:=λn ρ P=>match ρ[i]? with
 | some (.sh d)=>P d n
 | some (.br d)=>P d n
 | some (.ow d)=>P d n
 | some (.lt _ d)=>P d n
 | _=>False
noncomputable def wC(d:D):DW:=λn _ P=>P d n
section
variable {X:Cx}{a b c e:Expr}{κ κa κb:Kd}{wa wb wc:DW}{pos:Pos}
theorem getD_some{σ:L2.St}{i:Nat}{v:V}(h:(σ[i]?).getD none=some v):σ[i]?=some (some v):=by
 cases q:σ[i]? with
 | none=>rw [q] at h; cases h
 | some o=>rw [q] at h; exact congrArg some h
theorem Oc{i:Nat}(h:PE X e (BP i)):DE X e .sh (AG i):=by
 refine⟨_,h,λC M H n ρ σ P Q R w q=>?_⟩
 unfold AG at w
 split at w
 ·rename_i d hd
  obtain⟨v,e1,h1⟩:=R.sl i _ hd
  exact⟨v,getD_some e1,q v H d n (Ext.refl _ _) R.feed h1 w⟩
 ·exact w.elim
theorem NR{i:Nat}(h:PE X e (BP i)):DE X e .tp (EN i):=by
 refine⟨_,h,λC M H n ρ σ P Q R w q=>?_⟩
 unfold EN at w
 split at w
 ·rename_i d hd
  obtain⟨v,e1,h1⟩:=R.sl i _ hd
  exact⟨v,getD_some e1,q v H d n (Ext.refl _ _) R.feed (At.tp R.vM h1) w⟩
 ·rename_i d hd
  obtain⟨v,e1,h1⟩:=R.sl i _ hd
  exact⟨v,getD_some e1,q v H d n (Ext.refl _ _) R.feed h1 w⟩
 ·rename_i d hd
  obtain⟨a,e1,_,h2,h3⟩:=R.sl i _ hd
  exact⟨.ref a,getD_some e1,q _ H d n (Ext.refl _ _) R.feed (h3.att h2) w⟩
 ·rename_i a d hd
  obtain⟨e1,_,h2,h3⟩:=R.sl i _ hd
  exact⟨.ref a,getD_some e1,q _ H d n (Ext.refl _ _) R.feed (h3.att h2) w⟩
 ·exact w.elim
theorem dv(i:Nat){x:Str}{pos:Pos}(hN:autoParam (X.N[i]?=some x) zau3._auto_1)(hv:autoParam (Nd X.env.scope x) zau4._auto_1)(hd:autoParam ((x==("__debug__" : Str))=false) zau1._auto_1)
  (hcd:autoParam ((x==("__classdict__" : Str))=false) zau1._auto_1):DE X (.Name x pos) .sh (AG i):=Oc (CU hN hv hd hcd)
theorem S7(i:Nat){x:Str}{pos:Pos}(hN:autoParam (X.N[i]?=some x) zau3._auto_1)(hv:autoParam (Nd X.env.scope x) zau4._auto_1)(hd:autoParam ((x==("__debug__" : Str))=false) zau1._auto_1)
  (hcd:autoParam ((x==("__classdict__" : Str))=false) zau1._auto_1):DE X (.Name x pos) .tp (EN i):=NR (CU hN hv hd hcd)
theorem Dl{d:D}{v:V}(h:PE X e (tC v))(hd:∀M H,At X.K M H d v):DE X e .sh (wC d) :=
 ⟨_,h,λC M H n ρ σ P Q R w q=>q v H d n (Ext.refl _ _) R.feed (hd M H) w⟩
theorem AE{i:Int}{j pos}:DE X (.Constant (.int i) j pos) .sh (wC (.int i)):=Dl Ab λ_ _=>rfl
theorem Ky{b:Bool}{j pos}:DE X (.Constant (.bool b) j pos) .sh (wC (.bl b)):=Dl Ri λ_ _=>rfl
theorem By{j pos}:DE X (.Constant .none j pos) .sh (wC .non):=Dl QJ λ_ _=>rfl
theorem Ao{x:Str}{j pos}(hx:autoParam (decide (x.length<=1000)=true) zau3._auto_1):DE X (.Constant (.str x) j pos) .sh (wC (.str x)) :=
 Dl QG λ_ _=>⟨rfl,T6 (of_decide_eq_true hx) (by rw [UQ]; decide)⟩
theorem DE.sh(h:DE X e κ wa)(hk:autoParam (κ≠.tp) zau5._auto_1):DE X e .sh wa:=by
 obtain⟨t,h1,h2⟩:=h
 exact⟨t,h1,λC M H n ρ σ P Q R w q=>h2 C M H n ρ σ P Q R w λv H' d n' e f r p=>q v H' d n' e f (r.shOf R.dom hk) p⟩
noncomputable def El(K:Frag)(κ:Kd)(r:R2)(f:D->D->(D->Prop)->Prop):Prop:=∀(U:Addr->Prop) (M:Addr->Prop) (H:Hp) (d e:D) (x y:V) (P:D->Prop) (Q:VK),(∀a,M a->∃o,H a=some o)->(∀a,U a->M a) ->
 AtT K U M H d x->AtT K U M H e y->f d e P->(∀v H' z,Grow H H'->VR K U M H H' κ v z->P z->Q v H')->r x y H Q
noncomputable def Ag(f:D->D->(D->Prop)->Prop)(wa wb:DW):DW:=λn ρ P=>wa n ρ λx n1=>wb n1 ρ λy n2=>f x y λz=>P z n2
theorem DM{r:R2}{f:D->D->(D->Prop)->Prop}(hA:El X.K κ r f){ta tb:TE}(ha:∀(C:Fm) (M:Addr->Prop) (H:Hp) (n:Nat) (ρ:List Slot) (σ:L2.St) (P:D->Nat->Prop) (Q:VK),Rel X.K C M H n ρ σ->wa n ρ P ->
   (∀v H' d n',Ext C.U H H'->FeedC X.K C.F M H' n'->VR X.K C.V M H H' κa v d->P d n'->Q v H')->ta σ H Q)
  (hb:∀(C:Fm) (M:Addr->Prop) (H:Hp) (n:Nat) (ρ:List Slot) (σ:L2.St) (P:D->Nat->Prop) (Q:VK),Rel X.K C M H n ρ σ->wb n ρ P ->
   (∀v H' d n',Ext C.U H H'->FeedC X.K C.F M H' n'->VR X.K C.V M H H' κb v d->P d n'->Q v H')->tb σ H Q)
  (C:Fm) (M:Addr->Prop) (H:Hp) (n:Nat) (ρ:List Slot) (σ:L2.St) (P:D->Nat->Prop) (Q:VK) (R:Rel X.K C M H n ρ σ) (w:Ag f wa wb n ρ P)
  (q:∀v H' d n',Ext C.U H H'->FeedC X.K C.F M H' n'->VR X.K C.V M H H' κ v d->P d n'->Q v H'):B3 r ta tb σ H Q:=by
 refine ha C M H n ρ σ _ _ R w λx H1 d n1 e1 f1 r1 w1=>?_
 have R1:=R.step e1 f1
 refine hb C M H1 n1 ρ σ _ _ R1 w1 λy H2 e n2 e2 f2 r2 w2=>?_
 have R2':=R1.step e2 f2
 refine hA C.V M H2 d e x y _ _ R2'.dom R2'.vM ((r1.tpOf R.dom R.vM).pres (R1.pres e2) e2 R.uV) (r2.tpOf R1.dom R1.vM) w2 λv H3 z g vr p=>?_
 exact q v H3 z n2 ((e1.trans e2).trans g.ext) (f2.grow g) (VR.back (e1.trans e2) vr) p
theorem Ar{op:Operator}{r:R2}{f:D->D->(D->Prop)->Prop}(ho:OpR X (binaryOp op) r)(hA:El X.K κ r f)(ha:DE X a κa wa)(hb:DE X b κb wb):DE X (.BinOp a op b pos) κ (Ag f wa wb):=by
 obtain⟨ta,ha1,ha2⟩:=ha
 obtain⟨tb,hb1,hb2⟩:=hb
 exact⟨_,BB ho ha1 hb1,λC M H n ρ σ P Q R w q=>DM hA ha2 hb2 C M H n ρ σ P Q R w q⟩
theorem A_{r:R2}{f:D->D->(D->Prop)->Prop}(ho:IxR X r)(hA:El X.K κ r f)(ha:DE X a κa wa)(hb:DE X b κb wb)(hs:autoParam (LF b) zau6._auto_1):DE X (.Subscript a b pos) κ (Ag f wa wb):=by
 obtain⟨ta,ha1,ha2⟩:=ha
 obtain⟨tb,hb1,hb2⟩:=hb
 exact⟨_,Cu ho ha1 hb1 hs,λC M H n ρ σ P Q R w q=>DM hA ha2 hb2 C M H n ρ σ P Q R w q⟩
theorem HS{op:CmpOp}{r:R2}{f:D->D->(D->Prop)->Prop}(ho:OpR X (compareOp op) r)(hA:El X.K .sh r f)(ha:DE X a κa wa)(hb:DE X b κb wb)(hm:behindInMarks op b=false):DE X (.Compare a [op] [b] pos) .sh (Ag f wa wb):=by
 obtain⟨ta,ha1,ha2⟩:=ha
 obtain⟨tb,hb1,hb2⟩:=hb
 exact⟨_,OB ho ha1 hb1 hm,λC M H n ρ σ P Q R w q=>DM hA ha2 hb2 C M H n ρ σ P Q R w q⟩
noncomputable def Ap(w:DW):EM:=λn ρ P=>w n ρ λd n1=>match d with
 | .bl b=>P b n1
 | _=>False
theorem Em{U:Addr->Prop}{K:Frag}{M:Addr->Prop}{H H':Hp}{v:V}{b:Bool}(h:VR K U M H H' κ v (.bl b)):v=.bl b:=by
 cases κ with
 | sh=>exact h
 | tp=>exact h
 | fr=>obtain⟨a,_,_,t⟩:=h; exact(show False from t).elim
theorem A2{op:CmpOp}{r:R2}{f:D->D->(D->Prop)->Prop}(ho:OpR X (compareOp op) r)(hA:El X.K .sh r f)(ha:DE X a κa wa)(hb:DE X b κb wb)(hm:behindInMarks op b=false):DT X (.Compare a [op] [b] pos) (Ap (Ag f wa wb)):=by
 obtain⟨ta,ha1,ha2⟩:=ha
 obtain⟨tb,hb1,hb2⟩:=hb
 refine⟨_,DX ho ha1 hb1 hm,λC M H n ρ σ P Q R w q=>?_⟩
 refine DM hA ha2 hb2 C M H n ρ σ _ _ R w λv H' d n' e f r p=>?_
 cases d with
 | bl b=>exact⟨b,Em r,q b H' n' e f p⟩
 | _=>exact p.elim
theorem CY(h:DE X e κ wa)(he:autoParam (∀whole,isTrue e X.env whole=(do let v ← whole; standAt e.pos; holding [v] (truthy v))) zau2._auto_1):DT X e (Ap wa):=by
 obtain⟨t,h1,h2⟩:=h
 refine⟨_,P8 h1 he,λC M H n ρ σ P Q R w q=>?_⟩
 refine h2 C M H n ρ σ _ _ R w λv H' d n' e f r p=>?_
 cases d with
 | bl b=>exact⟨b,Em r,q b H' n' e f p⟩
 | _=>exact p.elim
noncomputable def Hm(u v:EM):EM:=λn ρ P=>u n ρ λc n1=>if c=true then v n1 ρ P else P false n1
noncomputable def Nn(u v:EM):EM:=λn ρ P=>u n ρ λc n1=>if c=true then P true n1 else v n1 ρ P
noncomputable def E3(u:EM):EM:=λn ρ P=>u n ρ λc n1=>P (!c) n1
variable {wA wB:EM}{rest:List Expr}
theorem HM(h:DT X a wA):DTW X (.BoolOp .And [a] pos) wA:=by
 obtain⟨t,h1,h2⟩:=h
 exact⟨t,KW h1,h2⟩
theorem J7(h:DT X a wA):DTW X (.BoolOp .Or [a] pos) wA:=by
 obtain⟨t,h1,h2⟩:=h
 exact⟨t,P7 h1,h2⟩
theorem J8(ha:DT X a wA)(hb:DTW X (.BoolOp .And (b::rest) pos) wB):DTW X (.BoolOp .And (a::b::rest) pos) (Hm wA wB):=by
 obtain⟨t,h1,h2⟩:=ha
 obtain⟨u,g1,g2⟩:=hb
 refine⟨_,Mb h1 g1,λC M H n ρ σ P Q R w q=>?_⟩
 refine h2 C M H n ρ σ _ _ R w λc H1 n1 e1 f1 p=>?_
 cases c with
 | false=>exact q false H1 n1 e1 f1 p
 | true=>exact g2 C M H1 n1 ρ σ P Q (R.step e1 f1) p λb H2 n2 e2 f2 p2=>q b H2 n2 (e1.trans e2) f2 p2
theorem NM(ha:DT X a wA)(hb:DTW X (.BoolOp .Or (b::rest) pos) wB):DTW X (.BoolOp .Or (a::b::rest) pos) (Nn wA wB):=by
 obtain⟨t,h1,h2⟩:=ha
 obtain⟨u,g1,g2⟩:=hb
 refine⟨_,Rg h1 g1,λC M H n ρ σ P Q R w q=>?_⟩
 refine h2 C M H n ρ σ _ _ R w λc H1 n1 e1 f1 p=>?_
 cases c with
 | true=>exact q true H1 n1 e1 f1 p
 | false=>exact g2 C M H1 n1 ρ σ P Q (R.step e1 f1) p λb H2 n2 e2 f2 p2=>q b H2 n2 (e1.trans e2) f2 p2
theorem DTW.dt(h:DTW X e wA):DT X e wA:=by
 obtain⟨t,h1,h2⟩:=h
 exact⟨t,h1.pt,h2⟩
theorem ED(ha:DT X a wA):DT X (.UnaryOp .Not a pos) (E3 wA):=by
 obtain⟨t,h1,h2⟩:=ha
 refine⟨_,P9 h1,λC M H n ρ σ P Q R w q=>?_⟩
 exact h2 C M H n ρ σ _ _ R w λc H1 n1 e1 f1 p=>q (!c) H1 n1 e1 f1 p
noncomputable def LI(u v:DW):DW:=λn ρ P=>u n ρ λc n1=>match c with
 | .bl true=>v n1 ρ P
 | .bl false=>P (.bl false) n1
 | _=>False
noncomputable def RC(u:DW):DW:=λn ρ P=>u n ρ λc n1=>match c with
 | .bl b=>P (.bl (!b)) n1
 | _=>False
theorem HQ{op}(h:DE X a κ wa):DE X (.BoolOp op [a] pos) κ wa:=by
 obtain⟨t,h1,h2⟩:=h
 exact⟨t,QH h1,h2⟩
theorem Fj(ha:DE X a κa wa)(hb:DE X (.BoolOp .And (b::rest) pos) .sh wb):DE X (.BoolOp .And (a::b::rest) pos) .sh (LI wa wb):=by
 obtain⟨t,h1,h2⟩:=ha
 obtain⟨u,g1,g2⟩:=hb
 refine⟨_,QK h1 g1,λC M H n ρ σ P Q R w q=>?_⟩
 refine h2 C M H n ρ σ _ _ R w λc H1 d n1 e1 f1 r1 p=>?_
 cases d with
 | bl k =>
  refine⟨k,Em r1,?_⟩
  cases k with
  | false=>exact q _ H1 _ n1 e1 f1 (show VR X.K C.V M H H1 .sh (.bl false) (.bl false) from rfl) p
  | true =>
   show u σ H1 Q
   exact g2 C M H1 n1 ρ σ P Q (R.step e1 f1) p λv H2 d n2 e2 f2 r2 p2=>q v H2 d n2 (e1.trans e2) f2 r2 p2
 | _=>exact p.elim
theorem Ql(ha:DE X a κa wa):DE X (.UnaryOp .Not a pos) .sh (RC wa):=by
 obtain⟨t,h1,h2⟩:=ha
 refine⟨_,QI h1,λC M H n ρ σ P Q R w q=>?_⟩
 refine h2 C M H n ρ σ _ _ R w λc H1 d n1 e1 f1 r1 p=>?_
 cases d with
 | bl k=>exact⟨k,Em r1,q _ H1 _ n1 e1 f1 (show VR X.K C.V M H H1 .sh (.bl (!k)) (.bl (!k)) from rfl) p⟩
 | _=>exact p.elim
noncomputable def Sg(t:EM)(u v:DW):DW:=λn ρ P=>t n ρ λc n1=>if c=true then u n1 ρ P else v n1 ρ P
theorem PV(hc:DT X c wA)(ha:DE X a κ wa)(hb:DE X b κ wb):DE X (.IfExp c a b pos) κ (Sg wA wa wb):=by
 obtain⟨t,h1,h2⟩:=hc
 obtain⟨u,g1,g2⟩:=ha
 obtain⟨u',k1,k2⟩:=hb
 refine⟨_,IM h1 g1 k1,λC M H n ρ σ P Q R w q=>?_⟩
 refine h2 C M H n ρ σ _ _ R w λc H1 n1 e1 f1 p=>?_
 cases c with
 | true=>exact g2 C M H1 n1 ρ σ P Q (R.step e1 f1) p λv H2 d n2 e2 f2 r2 p2=>q v H2 d n2 (e1.trans e2) f2 (VR.back e1 r2) p2
 | false=>exact k2 C M H1 n1 ρ σ P Q (R.step e1 f1) p λv H2 d n2 e2 f2 r2 p2=>q v H2 d n2 (e1.trans e2) f2 (VR.back e1 r2) p2
noncomputable def AO:Cf:=λn _ P=>P [] n
noncomputable def AC(w:DW)(ws:Cf):Cf:=λn ρ P=>w n ρ λd n1=>ws n1 ρ λds n2=>P (d::ds) n2
variable {es:List Expr}{ws:Cf}
theorem AV:Nk X [] AO:=⟨_,BU,λC M H n ρ σ P Q R w q=>q [] H [] n (Ext.refl _ _) R.feed .nil w⟩
theorem AI:Q7 X [] AO:=⟨_,BU,λC M H n ρ σ P Q R w q=>q [] H [] n (Ext.refl _ _) R.feed rfl w⟩
theorem AN(ha:DE X e κ wa)(hr:Nk X es ws)(hs:autoParam (starEach (e::es) X.env=(false,eval e X.env)::starEach es X.env) zau3._auto_1):Nk X (e::es) (AC wa ws):=by
 obtain⟨t,h1,h2⟩:=ha
 obtain⟨u,g1,g2⟩:=hr
 refine⟨_,Az h1 g1 hs,λC M H n ρ σ P Q R w q=>?_⟩
 refine h2 C M H n ρ σ _ _ R w λv H1 d n1 e1 f1 r1 p=>?_
 have R1:=R.step e1 f1
 refine g2 C M H1 n1 ρ σ _ _ R1 p λvs H2 ds n2 e2 f2 r2 p2=>?_
 exact q (v::vs) H2 (d::ds) n2 (e1.trans e2) f2 (.cons ((r1.tpOf R.dom R.vM).pres (R1.pres e2) e2 R.uV) r2) p2
theorem AA(ha:DE X e κ wa)(hr:Q7 X es ws)(hk:autoParam (κ≠.tp) zau5._auto_1)(hs:autoParam (starEach (e::es) X.env=(false,eval e X.env)::starEach es X.env) zau3._auto_1):Q7 X (e::es) (AC wa ws):=by
 obtain⟨t,h1,h2⟩:=ha
 obtain⟨u,g1,g2⟩:=hr
 refine⟨_,Az h1 g1 hs,λC M H n ρ σ P Q R w q=>?_⟩
 refine h2 C M H n ρ σ _ _ R w λv H1 d n1 e1 f1 r1 p=>?_
 have R1:=R.step e1 f1
 refine g2 C M H1 n1 ρ σ _ _ R1 p λvs H2 ds n2 e2 f2 r2 p2=>?_
 exact q (v::vs) H2 (d::ds) n2 (e1.trans e2) f2 ⟨v,vs,rfl,(r1.shOf R.dom hk).pres (R1.pres e2),r2⟩ p2
noncomputable def BN(ws:Cf):DW:=λn ρ P=>ws n ρ λds n1=>ds.length<=sizeLine/\P (.tup ds) n1
noncomputable def Cq(ws:Cf):DW:=λn ρ P=>ws n ρ λds n1=>ds.length<=sizeLine/\P (.lst ds) n1
theorem Fa{M:Addr->Prop}{H:Hp}{p:Addr}{o:HO}(h:H p=none):Pres M H (λb=>M b\/b=p) (Ac H p o):=⟨λb u e _=>by rw [AH (AU e h)]; exact e,λb z=>z.elim .inl λz=>.inr (by rw [z]; exact h),λb vs e=>by rw [AH (AU e h)]; exact e⟩
theorem Aj{H:Hp}{p:Addr}{o:HO}(h:H p=none):Grow H (Ac H p o):=.inr ⟨p,o,h,rfl⟩
theorem Ai{x1}(h:Q7 X es ws):DE X (.Tuple es x1 pos) .sh (BN ws):=by
 obtain⟨t,h1,h2⟩:=h
 refine⟨_,QF h1,λC M H n ρ σ P Q R w q=>?_⟩
 refine h2 C M H n ρ σ _ _ R w λvs H1 ds n1 e1 f1 r1 p=>?_
 refine⟨by rw [r1.length]; exact p.1,λa ha=>?_⟩
 have g:Grow H1 (Ac H1 a (.tup vs)):=Aj ha
 refine q _ _ (.tup ds) n1 (e1.trans g.ext) (f1.grow g) ⟨a,vs,rfl,AJ,r1.pres g.pres⟩ p.2
theorem BX(h:Q7 X es ws):DE X (.List es pos) .fr (Cq ws):=by
 obtain⟨t,h1,h2⟩:=h
 refine⟨_,Jp h1,λC M H n ρ σ P Q R w q=>?_⟩
 refine h2 C M H n ρ σ _ _ R w λvs H1 ds n1 e1 f1 r1 p=>?_
 refine⟨by rw [r1.length]; exact p.1,λa ha=>?_⟩
 have g:Grow H1 (Ac H1 a (.lst vs)):=Aj ha
 exact q _ _ (.lst ds) n1 (e1.trans g.ext) (f1.grow g) (VR.back e1 ⟨a,rfl,ha,vs,AJ,r1.pres (Fa ha)⟩) p.2
noncomputable def Ee(K:Frag)(κ:Kd)(r:List V->Hp->VK->Prop)(f:List D->(D->Prop)->Prop):Prop:=∀(U:Addr->Prop) (M:Addr->Prop) (H:Hp) (ds:List D) (vs:List V) (P:D->Prop) (Q:VK),(∀a,M a->∃o,H a=some o)->(∀a,U a->M a) ->
 Paired (λv d=>AtT K U M H d v) vs ds->f ds P->(∀v H' z,Grow H H'->VR K U M H H' κ v z->P z->Q v H')->r vs H Q
noncomputable def F2(f:List D->(D->Prop)->Prop)(ws:Cf):DW:=λn ρ P=>ws n ρ λds n1=>f ds λz=>P z n1
theorem PZ{r:List V->Hp->VK->Prop}{f:List D->(D->Prop)->Prop}{t:TA}(hA:Ee X.K κ r f)(h2:∀(C:Fm) (M:Addr->Prop) (H:Hp) (n:Nat) (ρ:List Slot) (σ:L2.St) (P:List D->Nat->Prop) (Q:List V->Hp->Prop),Rel X.K C M H n ρ σ->ws n ρ P ->
   (∀vs H' ds n',Ext C.U H H'->FeedC X.K C.F M H' n'->Paired (λv d=>AtT X.K C.V M H' d v) vs ds->P ds n'->Q vs H')->t σ H Q)
  (C:Fm) (M:Addr->Prop) (H:Hp) (n:Nat) (ρ:List Slot) (σ:L2.St) (P:D->Nat->Prop) (Q:VK) (R:Rel X.K C M H n ρ σ) (w:F2 f ws n ρ P)
  (q:∀v H' d n',Ext C.U H H'->FeedC X.K C.F M H' n'->VR X.K C.V M H H' κ v d->P d n'->Q v H'):SN r t σ H Q:=by
 refine h2 C M H n ρ σ _ _ R w λvs H1 ds n1 e1 f1 r1 p=>?_
 have R1:=R.step e1 f1
 refine hA C.V M H1 ds vs _ _ R1.dom R1.vM r1 p λv H2 z g vr pz=>?_
 exact q v H2 z n1 (e1.trans g.ext) (f1.grow g) (VR.back e1 vr) pz
theorem As{x:Str}{id:String}{p:Pos}{r:List V->Hp->VK->Prop}{f:List D->(D->Prop)->Prop}(hc:CK X (.builtin id) r)(hA:Ee X.K κ r f)(hg:Gl X x)(hm:X.mg x=none)(hv:bootBuiltins x=some (.builtin id))(ha:Nk X (e::es) ws)
  (hn:autoParam (x ≠ "__name__") zau1._auto_1) (hdb:autoParam ((x==("__debug__" : Str))=false) zau1._auto_1)
  (he:autoParam (starEach (e::es) X.env=(false,eval e X.env)::starEach es X.env) zau3._auto_1) (hpl:autoParam ((backTo pos (starEach es X.env)).any (·.1)=false) zau3._auto_1):DE X (.Call (.Name x p) (e::es) [] pos) κ (F2 f ws):=by
 obtain⟨t,h1,h2⟩:=ha
 exact⟨_,B5 hc hg hm hv h1 hn hdb he hpl,λC M H n ρ σ P Q R w q=>PZ hA h2 C M H n ρ σ P Q R w q⟩
theorem Ga{x:Str}{T:String}{p:Pos}{r:List V->Hp->VK->Prop}{f:List D->(D->Prop)->Prop}(hc:CK X (.type T) r)(hA:Ee X.K κ r f)(hg:Gl X x)(hm:X.mg x=none)(hv:bootBuiltins x=some (.type T))(ha:Nk X (e::es) ws)
  (hn:autoParam (x ≠ "__name__") zau1._auto_1) (hdb:autoParam ((x==("__debug__" : Str))=false) zau1._auto_1)
  (he:autoParam (starEach (e::es) X.env=(false,eval e X.env)::starEach es X.env) zau3._auto_1) (hpl:autoParam ((backTo pos (starEach es X.env)).any (·.1)=false) zau3._auto_1):DE X (.Call (.Name x p) (e::es) [] pos) κ (F2 f ws):=by
 obtain⟨t,h1,h2⟩:=ha
 exact⟨_,GK hc hg hm hv h1 hn hdb he hpl,λC M H n ρ σ P Q R w q=>PZ hA h2 C M H n ρ σ P Q R w q⟩
end
end Dp
namespace L2
open PySem PySem.Spec PyProof.Rows
noncomputable def TK(z:Str):It:=⟨λi _=>i<z.cps.size,λi H x H'=>H'=H/\∃c,z.cps[i]?=some c/\x=.str ⟨#[c]⟩,λi _=>z.cps.size<=i⟩
theorem Hr{P:Program}{w:World}{K:Frag}{tg:Expr}(it:Addr)(z:Str)(t:Tok)(ty:String)(hty:ty = "str_ascii_iterator"\/ty = "str_iterator")
  (W:∀A':Around,A'.handled=none->Walks P w A' it [it] [it] z.cps.size (SignAt z) (λi h=>h.IsStrIter it ty z t i)):Turn P w K tg (TK z) [it] it (λi h=>h.IsStrIter it ty z t i) where
 mem:=by simp
 obj:=λi h st b hb=>by
  have e:b=it:=by simpa using hb
  subst e
  obtain⟨o,e,c,d⟩:=st
  exact⟨o,e,λv z=>by rw [d] at z; cases z⟩
 keep:=λi h h' st k=>let ⟨o,ho,r⟩:=st; ⟨o,k it (by simp) o ho,r⟩
 item:=by
  intro X hP hw hK hc i pins s σ H E I hf st hg
  subst hP hw hK
  obtain⟨f0,f1,f2,f3,f4,f5⟩:=hf it (by simp)
  refine(W X.A (I.ok.hd hc)).item i s _ _ hg st λv h' tk hv st' kk=>?_
  obtain⟨c,u,hcu,rfl⟩:=hv
  have I1:Inv X pins σ H { s with heap:=h',toks:=tk }:=I.turned (λb o hb e=>kk b o (by simpa using hb) e) f0 f1 f3 f4 f5
  obtain⟨o,e,cc,d⟩:=id st'
  exact⟨_,rfl,Ie (s:={ s with heap:=h',toks:=tk }) e cc d (by rcases hty with rfl | rfl <;> decide) ⟨.str ⟨#[c]⟩,H,I1,⟨_,rfl⟩,⟨rfl,c,hcu,rfl⟩,st',λb hb=>(hf b hb).1⟩⟩
 done:=by
  intro X hP hw hK hc i pins s σ H E I hf st hg
  subst hP hw hK
  obtain⟨f0,f1,f2,f3,f4,f5⟩:=hf it (by simp)
  have hx:z.cps[i]?=none:=by
   have:z.cps.size<=i:=hg
   simp [this]
  rcases hty with rfl | rfl
  ·exact wpAny_pyNext_ascii_end (I.ok.hd hc) st hx λh' eb=>⟨rfl,I.turned (t':=s.toks) (λb o hb e=>eb b o hb e) f0 f1 f3 f4 f5⟩
  ·exact wpAny_pyNext_wide_end (I.ok.hd hc) st hx λh' eb=>⟨rfl,I.turned (t':=s.toks) (λb o hb e=>eb b o hb e) f0 f1 f3 f4 f5⟩
 self:=λA i s Q E st h=>by
  rcases hty with rfl | rfl
  ·exact wpAny_pyIter_striter_ascii st h
  ·exact wpAny_pyIter_striter_wide st h
section
variable {X:Cx}{tg:Expr}
noncomputable def S0(K:Frag)(tl:TE):TI:=λσ H R=>tl σ H λx H1 =>
 (∃a,x=.ref a/\(∃xs,SqL K H1 a xs)/\R (Tb K a) H1)\/(∃a,x=.ref a/\(∃xs,Du K H1 a xs)/\R (TJ K a) H1)\/∃z,x=.str z/\R (TK z) H1
theorem QC{l:Expr}{tl:TE}(hl:PE X l tl):PI X tg l (S0 X.K tl):=by
 intro pins s σ H R I h
 refine A3 (hl pins s σ H _ I h) λv s1 ⟨x,H1,I1,r1,q1⟩=>?_
 have hne:∀b,b∈[s1.heap.objs.size]->B_ X pins H1 b:=λb hb=>by
  have e:b=s1.heap.objs.size:=by simpa using hb
  subst e
  exact I1.fpOk (Go _) (I1.hok.fresh (Go _))
 rcases q1 with ⟨a,e,⟨xs,hq⟩,q⟩ | ⟨a,e,⟨xs,hq⟩,q⟩ | ⟨z,e,q⟩
 ·subst e
  cases r1
  obtain⟨its,rv,p,hz⟩:=I1.list hq
  refine U5 p.isList ?_
  exact⟨s1.heap.objs.size,[s1.heap.objs.size],_,_,H1,rfl,I1.kept (t':=s1.toks) λb o e=>Cn _ e,LJ a _,⟨_,On _ rfl,rfl,rfl⟩,hne,q⟩
 ·subst e
  cases r1
  obtain⟨its,rv,p,hz⟩:=I1.tuple hq
  refine VH (show s1.heap.IsTuple a its.toArray from p) ?_
  exact⟨s1.heap.objs.size,[s1.heap.objs.size],_,_,H1,rfl,I1.kept (t':=s1.toks) λb o e=>Cn _ e,JT a _,⟨_,On _ rfl,rfl,rfl⟩,hne,q⟩
 ·subst e
  obtain⟨t,rfl⟩:=r1
  cases ha:z.cps.all (·<128)
  ·refine wpAny_pyIter_wide ha ?_
   exact⟨s1.heap.objs.size,[s1.heap.objs.size],_,_,H1,rfl,I1.kept (t':=s1.toks) λb o e=>Cn _ e,Hr _ z t "str_iterator" (.inr rfl) (λA' hA=>Walks.strWide hA _ z t),⟨_,On _ rfl,rfl,rfl⟩,hne,q⟩
  ·refine wpAny_pyIter_ascii ha ?_
   exact⟨s1.heap.objs.size,[s1.heap.objs.size],_,_,H1,rfl,I1.kept (t':=s1.toks) λb o e=>Cn _ e,Hr _ z t "str_ascii_iterator" (.inl rfl) (λA' hA=>Walks.strAscii hA _ z t),⟨_,On _ rfl,rfl,rfl⟩,hne,q⟩
end
section
variable {X:Cx}
theorem F5(bs:List Bool):((T_ bs.length).all λi=>(bs[i]?).getD true)=bs.all id:=by
 induction bs with
 | nil=>rfl
 | cons b r ih =>
  rw [Tk,List.range_succ_eq_map,W6,XJ,W6]
  simp only [List.getElem?_cons_zero,Option.getD_some,id_eq]
  congr 1
theorem JA(hc:X.calm=true):CK X (.builtin "all") (λxs H Q=>∃(p:Addr) (bs:List Bool),xs=[.ref p]/\SqL X.K H p (bs.map V.bl)/\Q (.bl (bs.all id)) H):=by
 intro pins s σ H xs us Q I r h
 obtain⟨p,bs,rfl,hq,q⟩:=h
 obtain⟨u,rfl,rx⟩:=vals1 r
 cases rx
 obtain⟨its,r',pl,hz⟩:=I.list hq
 have hlen:=r'.length
 have hl:s.heap.IsList p its.toArray:=pl.isList
 have hlt:p<s.heap.objs.size:=by obtain⟨_,e,_⟩:=id hl; exact FM e
 refine call_all_walk (U5 hl ?_)
 refine⟨s.heap.objs.size,[s.heap.objs.size,p],[s.heap.objs.size],its.toArray.size,_,_,λi=>(bs[i]?).getD true,rfl,Walks.list (A:=X.A.in1) (I.ok.hd hc) _ p (T1 hlt) its.toArray,
  ⟨⟨_,On _ rfl,rfl,rfl⟩,hl.push _⟩,λi v s' Q' E' hP hQ=>?_,λh' tk hk=>?_⟩
 ·have hv:its[i]?=some v:=by simpa using hP
  have hb:∃b,bs[i]?=some b:=by
   have hi:i<its.length:=(T0.mp hv).1
   rw [Ev] at hlen
   exact⟨bs[i]'(by omega),No (by omega)⟩
  obtain⟨b,eb⟩:=hb
  obtain⟨u,eu,ru⟩:=r'.get (i:=i) (x:=.bl b) (by rw [UF,eb]; rfl)
  rw [hv] at eu
  cases eu
  cases ru
  simp only [eb,Option.getD_some] at hQ
  exact VM hQ
 ·have e:((T_ its.toArray.size).all λi=>(bs[i]?).getD true)=bs.all id:=by
   rw [Re,← hlen,Ev]; exact F5 bs
  rw [e]
  exact⟨.bl _,H,I.kept (t':=tk) λb x e=>hk b x (λhm=>by rw [Ur.mp hm] at e; exact UX _ (FM e)) (Cn _ e),rfl,q⟩
theorem I_:CK X (.builtin "isinstance") (λxs H Q=>∃x T t b,xs=[x,.ty T]/\DN X.K H x t/\PySem.W.kitOne X.K t (.type T)=some b/\Q (.bl b) H):=by
 intro pins s σ H xs us Q I r h
 obtain⟨x,T,t,b,rfl,ty,e,q⟩:=h
 obtain⟨u,w',rfl,rx,rt⟩:=vals2 r
 cases rt
 exact Ls I rx ty e λtk=>⟨.bl b,H,I.tok _,rfl,q⟩
theorem Lg:OpR X (compareOp .LtE) (λx y H Q=>∃i j,x=.str i/\y=.str j/\Q (.bl (!(j.cps.toList<i.cps.toList))) H):=by
 intro pins s σ H x y v u Q I rx ry h
 obtain⟨i,j,rfl,rfl,q⟩:=h
 obtain⟨t,rfl⟩:=rx
 obtain⟨t',rfl⟩:=ry
 exact PySem.P.le_str ⟨.bl _,H,I,rfl,q⟩
theorem E7{ys:List Str}:∀{us:List Value},Vals (ys.map V.str) us->StrsAre us ys:=by
 induction ys with
 | nil=>intro us r; rw [WA] at r; cases r; exact .nil
 | cons n ns ih =>
  intro us r
  rw [UG] at r
  cases r with
  | cons r1 r2 =>
   obtain⟨t,e⟩:=r1
   subst e
   exact .cons n t (ih r2)
theorem OL:SY X "str.join" (λx xs H Q=>∃(z:Str) (p:Addr) (ys:List Str),x=.str z/\xs=[.ref p]/\SqL X.K H p (ys.map V.str)/\(ys.map (·.length)).sum+ys.length*z.length<=16777216/\Q (.str (Txt.join z ys)) H):=by
 intro pins s σ H x xs v us Q I rx rv h
 obtain⟨z,p,ys,rfl,rfl,hq,hz,q⟩:=h
 obtain⟨t,rfl⟩:=rx
 obtain⟨u,rfl,ru⟩:=vals1 rv
 cases ru
 obtain⟨its,r',pl,_⟩:=I.list hq
 exact join_list pl.isList (E7 r') hz λt' k=>⟨.str _,H,I.tok _,⟨_,rfl⟩,q⟩
theorem Py:SlR X (λx lo hi H Q=>∃z,x=.str z/\z.length<=sizeLine/\Q (.str (Txt.slice z lo hi)) H):=by
 intro pins s σ H x v vl vu lo hi sl Q I rx hs pl pu h
 obtain⟨z,rfl,hz,q⟩:=h
 obtain⟨t,rfl⟩:=rx
 refine⟨"str",_,F.slot_str_getitem.lookup,typeIs_str _ _ _,?_⟩
 have fin:∀t' k,EP X pins σ Q (.str (Txt.slice z lo hi) t') { s with toks:=k }:=λt' k=>⟨.str _,H,I.tok _,⟨_,rfl⟩,q⟩
 cases pl with
 | none =>
  cases pu with
  | none=>exact VA (l:=none) (u:=none) (st:=none) hs rfl (WE ⟨T6 (Txt.slice_le z _ _) hz,λt' k=>fin t' k⟩)
  | int j tj=>exact VA (l:=none) (u:=some (j,tj)) (st:=none) hs rfl (WE ⟨T6 (Txt.slice_le z _ _) hz,λt' k=>fin t' k⟩)
 | int i ti =>
  cases pu with
  | none=>exact VA (l:=some (i,ti)) (u:=none) (st:=none) hs rfl (WE ⟨T6 (Txt.slice_le z _ _) hz,λt' k=>fin t' k⟩)
  | int j tj=>exact VA (l:=some (i,ti)) (u:=some (j,tj)) (st:=none) hs rfl (WE ⟨T6 (Txt.slice_le z _ _) hz,λt' k=>fin t' k⟩)
theorem Le(hu:X.A.units<cLine):OpR X (compareOp .NotEq) (λx y H Q=>∃a b xs,x=.ref a/\y=.ref b/\SqL X.K H a xs/\SqL X.K H b []/\Q (.bl (!xs.isEmpty)) H):=by
 intro pins s σ H x y v u Q I rx ry h
 obtain⟨a,b,xs,rfl,rfl,ha,hb,q⟩:=h
 cases rx
 cases ry
 obtain⟨its,r1,p1,_⟩:=I.list ha
 obtain⟨its2,r2,p2,_⟩:=I.list hb
 cases r2
 cases r1 with
 | nil=>exact SeqAt.RcNeAt.lists (e:=λ_=>true) p1.isList p2.isList rfl hu (λj h1 h2=>absurd h1 (by simp)) X.prog X.w X.xe _ ⟨.bl _,H,I,rfl,q⟩
 | cons r1 r2=>exact SeqAt.RcNeAt.lists_lengths p1.isList p2.isList (by simp) hu X.prog X.w X.xe _ ⟨.bl _,H,I,rfl,q⟩
end
end L2
namespace Dp
open PySem PySem.Spec PyProof.Rows L2
noncomputable def Qz(K:Frag)(F:Option (Addr×Addr))(U V' M:Addr->Prop)(H:Hp)(n:Nat)(ss:List Slot)(vs:List V):Prop :=
 (∀a,M a->∃o,H a=some o)/\(∀f,F=some f->U f.1)/\(∀a,U a->V' a)/\(∀a,V' a->M a)/\FeedC K F M H n/\Paired (Gn K F V' M H) vs ss
noncomputable abbrev W2:=List Slot->Nat->(D->Nat->Prop)->Prop
noncomputable def Ef(K:Frag)(κ:Kd)(W:W2)(np:Nat):Sp:=λvs H Q _=>vs.length=np/\∃(F:Option (Addr×Addr)) (U V' M:Addr->Prop) (n:Nat) (ss:List Slot) (P:D->Nat->Prop),Qz K F U V' M H n ss vs/\W ss n P /\
 ∀v H' d n',Ext U H H'->FeedC K F M H' n'->VR K V' M H H' κ v d->P d n'->Q v H'
noncomputable def AQ(w:DW):Nat->List Slot->(Slot->Nat->Prop)->Prop:=λn ρ P=>w n ρ λd n1=>P (.sh d) n1
noncomputable def Ax(i:Nat):Nat->List Slot->(Slot->Nat->Prop)->Prop:=λn ρ P=>match ρ[i]? with
 | some .fd=>P .fd n
 | _=>False
noncomputable def AX:Nh:=λn _ P=>P [] n
noncomputable def AF(w:Nat->List Slot->(Slot->Nat->Prop)->Prop)(ws:Nh):Nh:=λn ρ P=>w n ρ λs n1=>ws n1 ρ λss n2=>P (s::ss) n2
noncomputable def AZ(W:W2)(was:Nh):DW:=λn ρ P=>was n ρ λss n1=>W ss n1 P
section
variable {X:Cx}{a b c e:Expr}{es:List Expr}{κ κa κb:Kd}{wa wb wc:DW}{pos:Pos}{w1:Nat->List Slot->(Slot->Nat->Prop)->Prop}{was:Nh}{ws:Cf}
theorem AS(h:DE X e κ wa)(hk:autoParam (κ≠.tp) zau5._auto_1):Sf X e (AQ wa):=by
 obtain⟨t,h1,h2⟩:=h
 refine⟨t,h1,λC M H n ρ σ P Q R w q=>h2 C M H n ρ σ _ _ R w λv H' d n' e f r p=>?_⟩
 exact q v H' (.sh d) n' e f ⟨⟨v,rfl,r.shOf R.dom hk⟩,rfl⟩ p
theorem BE(i:Nat){x:Str}{pos:Pos}(hN:autoParam (X.N[i]?=some x) zau3._auto_1)(hv:autoParam (Nd X.env.scope x) zau4._auto_1)(hd:autoParam ((x==("__debug__" : Str))=false) zau1._auto_1)
  (hcd:autoParam ((x==("__classdict__" : Str))=false) zau1._auto_1):Sf X (.Name x pos) (Ax i):=by
 refine⟨_,CU hN hv hd hcd,λC M H n ρ σ P Q R w q=>?_⟩
 unfold Ax at w
 split at w
 ·rename_i hd
  obtain⟨f,e1,h1⟩:=R.sl i _ hd
  exact⟨.ref f.1,getD_some e1,q _ H .fd n (Ext.refl _ _) R.feed ⟨⟨f,rfl,h1⟩,rfl⟩ w⟩
 ·exact w.elim
theorem AM:Q6 X [] AX:=⟨_,BU,λC M H n ρ σ P Q R w q=>q [] H [] n (Ext.refl _ _) R.feed .nil w⟩
theorem AB(ha:Sf X e w1)(hr:Q6 X es was)(hs:autoParam (starEach (e::es) X.env=(false,eval e X.env)::starEach es X.env) zau3._auto_1):Q6 X (e::es) (AF w1 was):=by
 obtain⟨t,h1,h2⟩:=ha
 obtain⟨u,g1,g2⟩:=hr
 refine⟨_,Az h1 g1 hs,λC M H n ρ σ P Q R w q=>?_⟩
 refine h2 C M H n ρ σ _ _ R w λv H1 d n1 e1 f1 r1 p=>?_
 have R1:=R.step e1 f1
 refine g2 C M H1 n1 ρ σ _ _ R1 p λvs H2 ds n2 e2 f2 r2 p2=>?_
 exact q (v::vs) H2 (d::ds) n2 (e1.trans e2) f2 (.cons ⟨r1.1.pres (R1.pres e2) (λ_ z=>z) e2 R.uV,r1.2⟩ r2) p2
theorem Oe{k:Nat}{f:Addr}{fd:FuncData}{ps:List Str}{W:W2}{x:Str}{p:Pos}(G:A1 X.prog X.w X.K X.mg X.base Bn k f fd ps (Ef X.K κ W ps.length))(hW:∀ss n P,W ss n P->ss.length=ps.length)
  (hr:Room k X.A) (hg:Gl X x) (hm:X.mg x=some (.ref f)) (hk:keepIn X.K (.ref f)=true) (hb:Binds X.K fd ps []) (ha:Q6 X (e::es) was)
  (hdb:autoParam ((x==("__debug__" : Str))=false) zau1._auto_1) (he:autoParam (starEach (e::es) X.env=(false,eval e X.env)::starEach es X.env) zau3._auto_1) (hpl:autoParam ((backTo pos (starEach es X.env)).any (·.1)=false) zau3._auto_1) :
  DE X (.Call (.Name x p) (e::es) [] pos) κ (AZ W was):=by
 obtain⟨t,h1,h2⟩:=ha
 refine⟨_,Kb G hr hg hm hk hb .nil PC h1 hdb he hpl,λC M H n ρ σ P Q R w q=>?_⟩
 refine h2 C M H n ρ σ _ _ R w λvs H1 ss n1 e1 f1 r1 p=>?_
 have R1:=R.step e1 f1
 show Ef X.K κ W ps.length (vs++[]) H1 Q E0
 rw [UL]
 refine⟨(Paired.length r1).trans (hW _ _ _ p),C.F,C.U,C.V,M,n1,ss,P,⟨R1.dom,R1.fU,R1.uV,R1.vM,f1,r1⟩,p,λv H2 d n2 e2 f2 r2 p2=>?_⟩
 exact q v H2 d n2 (e1.trans e2) f2 (VR.back e1 r2) p2
noncomputable def Ta(K:Frag)(κ:Kd)(T:String)(r:V->List V->Hp->VK->Prop)(f:D->List D->(D->Prop)->Prop):Prop:=∀(U:Addr->Prop) (M:Addr->Prop) (H:Hp) (d:D) (ds:List D) (x:V) (vs:List V) (P:D->Prop) (Q:VK),(∀a,M a->∃o,H a=some o)->(∀a,U a->M a) ->
 AtT K U M H d x->Paired (λv d=>AtT K U M H d v) vs ds->f d ds P->(∀v H' z,Grow H H'->VR K U M H H' κ v z->P z->Q v H')->r x vs H Q
noncomputable def Sy(T:String)(d:D):Prop:=match d with
 | .str _=>T = "str"
 | .int _=>T = "int"
 | .lst _=>T = "list"
 | _=>False
noncomputable def Sh(T:String)(f:D->List D->(D->Prop)->Prop)(wo:DW)(ws:Cf):DW:=λn ρ P=>wo n ρ λd n1=>Sy T d/\ws n1 ρ λds n2=>f d ds λz=>P z n2
theorem M7{T:String}{K:Frag}{U:Addr->Prop}{M:Addr->Prop}{H:Hp}{d:D}{x:V}(h:Sy T d)(hx:AtT K U M H d x):Si K T x H:=by
 cases d with
 | str z=>obtain⟨e,_⟩:=hx; subst e; exact h
 | int i=>cases (show x=.int i from hx); exact h
 | lst ds=>obtain⟨a,vs,e,_,hq,_⟩:=hx; subst e; exact .inl ⟨h,vs,.inl hq⟩
 | _=>exact(show False from h).elim
theorem Ry{name:Str}{apos cpos:Pos}{T id:String}{r:V->List V->Hp->VK->Prop}{f:D->List D->(D->Prop)->Prop}(pa:PlainAttrs T)(slot:PySem.Slot T name id)(hty:typeOf (.builtin id)=pure (.type "method_descriptor"))(hm:SY X id r)
  (hA:Ta X.K κ T r f) (ho:DE X a κa wa) (ha:Nk X (e::es) ws)
  (hbase:autoParam (attributeBase a name X.env (eval a X.env)=eval a X.env) zau3._auto_1)
  (hfew:autoParam (((backTo cpos (starEach (e::es) X.env)).all (λx=>!x.1)&&(backToKw cpos (keywordEach [] X.env)).all (λx=>x.1.isSome)
   && decide ((e::es).length+([]:List Keyword).length+(if ([]:List Keyword).isEmpty then 0 else 1)<30))=true) zau3._auto_1)
  (hline:autoParam ((apos.endLine==cpos.line)=true) zau3._auto_1) (hs:autoParam (starEach (e::es) X.env=(false,eval e X.env)::starEach es X.env) zau3._auto_1) (hplain:autoParam ((backTo cpos (starEach es X.env)).any (·.1)=false) zau3._auto_1) :
  DE X (.Call (.Attribute a name apos) (e::es) [] cpos) κ (Sh T f wa ws):=by
 obtain⟨t,h1,h2⟩:=ho
 obtain⟨u,g1,g2⟩:=ha
 refine⟨_,PB pa slot hty hm h1 g1 hbase hfew hline hs hplain,λC M H n ρ σ P Q R w q=>?_⟩
 refine h2 C M H n ρ σ _ _ R w λx H1 d n1 e1 f1 r1 p=>?_
 have R1:=R.step e1 f1
 have tx:=r1.tpOf R.dom R.vM
 refine⟨M7 p.1 tx,?_⟩
 refine g2 C M H1 n1 ρ σ _ _ R1 p.2 λvs H2 ds n2 e2 f2 r2 p2=>?_
 have R2':=R1.step e2 f2
 refine hA C.V M H2 d ds x vs _ _ R2'.dom R2'.vM (tx.pres (R1.pres e2) e2 R.uV) r2 p2 λv H3 z g vr pz=>?_
 exact q v H3 z n2 ((e1.trans e2).trans g.ext) (f2.grow g) (VR.back (e1.trans e2) vr) pz
noncomputable def DO(X:Cx)(e:Option Expr)(w:Nat->List Slot->(Option Int->Nat->Prop)->Prop):Prop:=∃t,PO X e t/\∀(C:Fm) (M:Addr->Prop) (H:Hp) (n:Nat) (ρ:List Slot) (σ:L2.St) (P:Option Int->Nat->Prop) (Q:Option Int->Hp->Prop),Rel X.K C M H n ρ σ->w n ρ P ->
 (∀o H' n',Ext C.U H H'->FeedC X.K C.F M H' n'->P o n'->Q o H')->t σ H Q
noncomputable def CA:Nat->List Slot->(Option Int->Nat->Prop)->Prop:=λn _ P=>P none n
noncomputable def B1(w:DW):Nat->List Slot->(Option Int->Nat->Prop)->Prop:=λn ρ P=>w n ρ λd n1=>match d with
 | .int i=>P (some i) n1
 | _=>False
theorem HN:DO X none CA:=⟨_,Ka,λC M H n ρ σ P Q R w q=>q none H n (Ext.refl _ _) R.feed w⟩
theorem Qd{U:Addr->Prop}{K:Frag}{M:Addr->Prop}{H H':Hp}{v:V}{i:Int}(h:VR K U M H H' κ v (.int i)):v=.int i:=by
 cases κ with
 | sh=>exact h
 | tp=>exact h
 | fr=>obtain⟨a,_,_,t⟩:=h; exact(show False from t).elim
theorem Dj(h:DE X e κ wa):DO X (some e) (B1 wa):=by
 obtain⟨t,h1,h2⟩:=h
 refine⟨_,KZ h1,λC M H n ρ σ P Q R w q=>?_⟩
 refine h2 C M H n ρ σ _ _ R w λv H1 d n1 e1 f1 r1 p=>?_
 cases d with
 | int i=>exact⟨i,Qd r1,q _ H1 n1 e1 f1 p⟩
 | _=>exact p.elim
noncomputable def TY(K:Frag)(κ:Kd)(r:V->Option Int->Option Int->Hp->VK->Prop)(f:D->Option Int->Option Int->(D->Prop)->Prop):Prop:=∀(U:Addr->Prop) (M:Addr->Prop) (H:Hp) (d:D) (x:V) (lo hi:Option Int) (P:D->Prop) (Q:VK),(∀a,M a->∃o,H a=some o)->(∀a,U a->M a) ->
 AtT K U M H d x->f d lo hi P->(∀v H' z,Grow H H'->VR K U M H H' κ v z->P z->Q v H')->r x lo hi H Q
noncomputable def Nj(f:D->Option Int->Option Int->(D->Prop)->Prop)(w:DW)(wl wh:Nat->List Slot->(Option Int->Nat->Prop)->Prop):DW:=λn ρ P=>w n ρ λd n1=>wl n1 ρ λlo n2=>wh n2 ρ λhi n3=>f d lo hi λz=>P z n3
theorem Kx{lo hi:Option Expr}{p2:Pos}{r:V->Option Int->Option Int->Hp->VK->Prop}{f:D->Option Int->Option Int->(D->Prop)->Prop}{wl wh:Nat->List Slot->(Option Int->Nat->Prop)->Prop}(hr:SlR X r)(hA:TY X.K κ r f)(he:DE X e κa wa)(hl:DO X lo wl)(hh:DO X hi wh) :
  DE X (.Subscript e (.Slice lo hi none p2) pos) κ (Nj f wa wl wh):=by
 obtain⟨t,h1,h2⟩:=he
 obtain⟨u,g1,g2⟩:=hl
 obtain⟨u',k1,k2⟩:=hh
 refine⟨_,IL hr h1 g1 k1,λC M H n ρ σ P Q R w q=>?_⟩
 refine h2 C M H n ρ σ _ _ R w λv H1 d n1 e1 f1 r1 p=>?_
 have R1:=R.step e1 f1
 have tv:=r1.tpOf R.dom R.vM
 refine g2 C M H1 n1 ρ σ _ _ R1 p λlo H2 n2 e2 f2 p2=>?_
 have R2':=R1.step e2 f2
 refine k2 C M H2 n2 ρ σ _ _ R2' p2 λhi H3 n3 e3 f3 p3=>?_
 have R3:=R2'.step e3 f3
 refine hA C.V M H3 d v lo hi _ _ R3.dom R3.vM ((tv.pres (R1.pres e2) e2 R.uV).pres (R2'.pres e3) e3 R.uV) p3 λv H4 z g vr pz=>?_
 exact q v H4 z n3 (((e1.trans e2).trans e3).trans g.ext) (f3.grow g) (VR.back ((e1.trans e2).trans e3) vr) pz
end
structure E2 where
 nx:Nat->List Slot->Prop
 rt:D->Nat->Prop
 bk:Nat->List Slot->Prop:=λ_ _=>False
 ct:Nat->List Slot->Prop:=λ_ _=>False
noncomputable abbrev AW:=E2->Nat->List Slot->Prop
structure Dt (K:Frag) (C:Fm) (κ:Kd) (D2:E2) (E:Ends):Prop where
 nx:∀M H n ρ σ,Rel K C M H n ρ σ->D2.nx n ρ->E.nx σ H
 rt:∀v H d n,Ext C.U C.H0 H->FeedC K C.F C.M0 H n->VR K C.V C.M0 C.H0 H κ v d->D2.rt d n->E.rt v H
 bk:∀M H n ρ σ,Rel K C M H n ρ σ->D2.bk n ρ->E.bk σ H
 ct:∀M H n ρ σ,Rel K C M H n ρ σ->D2.ct n ρ->E.ct σ H
noncomputable def DS(X:Cx)(κ:Kd)(st:Stmt)(w:AW):Prop:=∃t,PS X st t/\∀(C:Fm) (M:Addr->Prop) (H:Hp) (n:Nat) (ρ:List Slot) (σ:L2.St) (D2:E2) (E:Ends),Rel X.K C M H n ρ σ->Dt X.K C κ D2 E->w D2 n ρ->t E σ H
noncomputable def MB(X:Cx)(κ:Kd)(st:List Stmt)(w:AW):Prop:=∃t,PSs X st t/\∀(C:Fm) (M:Addr->Prop) (H:Hp) (n:Nat) (ρ:List Slot) (σ:L2.St) (D2:E2) (E:Ends),Rel X.K C M H n ρ σ->Dt X.K C κ D2 E->w D2 n ρ->t E σ H
noncomputable def B2:AW:=λD2 n ρ=>D2.nx n ρ
noncomputable def Ae(u v:AW):AW:=λD2 n ρ=>u { D2 with nx:=v D2 } n ρ
noncomputable def BO(w:DW):AW:=λD2 n ρ=>w n ρ λd n1=>D2.rt d n1
noncomputable def DQ(t:EM)(u v:AW):AW:=λD2 n ρ=>t n ρ λc n1=>if c=true then u D2 n1 ρ else v D2 n1 ρ
noncomputable def A7(i:Nat)(w:DW):AW:=λD2 n ρ=>w n ρ λd n1=>D2.nx n1 (ρ.set i (.sh d))
section
variable {X:Cx}{κ κe:Kd}{st:Stmt}{rest:List Stmt}{u v:AW}{wa:DW}{wA:EM}{e c:Expr}{pos:Pos}
theorem BR:MB X κ [] B2:=⟨_,Eo,λC M H n ρ σ D2 E R L w=>L.nx M H n ρ σ R w⟩
theorem AK(h1:DS X κ st u)(h2:MB X κ rest v):MB X κ (st::rest) (Ae u v):=by
 obtain⟨t,a1,a2⟩:=h1
 obtain⟨t',b1,b2⟩:=h2
 refine⟨_,Ay a1 b1,λC M H n ρ σ D2 E R L w=>?_⟩
 exact a2 C M H n ρ σ { D2 with nx:=v D2 } { E with nx:=t' E } R ⟨λM H n ρ σ R w=>b2 C M H n ρ σ D2 E R L w,L.rt,L.bk,L.ct⟩ w
theorem AR(h1:DS X κ st u):MB X κ [st] u:=by
 obtain⟨t,a1,a2⟩:=h1
 exact⟨t,Bp a1,a2⟩
theorem P1{K:Frag}{C:Fm}{M:Addr->Prop}{H H':Hp}{n n':Nat}{ρ:List Slot}{σ:L2.St}{D2:E2}{E:Ends}{d:D}{v:V}(R:Rel K C M H n ρ σ)(L:Dt K C κ D2 E)(e:Ext C.U H H')(f:FeedC K C.F M H' n')(r:VR K C.V M H H' κ v d)(hk:κ≠.tp)(p:D2.rt d n'):E.rt v H':=by
 have less:Pres M H' C.M0 H':=Pres.less R.sub
 refine L.rt v H' d n' (R.ext.trans e) (f.pres less λ_ _ _ z=>z) ?_ p
 cases κ with
 | sh=>exact At.pres less r
 | tp=>exact absurd rfl hk
 | fr =>
  have r':=VR.back (κ:=.fr) R.ext r
  obtain⟨a,e1,h1,h2⟩:=r'
  exact⟨a,e1,h1,h2.pres (Pres.less λb z=>z.imp (R.sub b) id) λ_ z=>z⟩
theorem An(h:DE X e κ wa)(hk:autoParam (κ≠.tp) zau5._auto_1):DS X κ (.Return (some e) pos) (BO wa):=by
 obtain⟨t,a1,a2⟩:=h
 refine⟨_,FJ a1,λC M H n ρ σ D2 E R L w=>?_⟩
 exact a2 C M H n ρ σ _ _ R w λv H' d n' e1 f1 r1 p=>P1 R L e1 f1 r1 hk p
theorem Di{a b:List Stmt}(hc:DT X c wA)(ha:MB X κ a u)(hb:MB X κ b v):DS X κ (.If c a b pos) (DQ wA u v):=by
 obtain⟨t,a1,a2⟩:=hc
 obtain⟨t',b1,b2⟩:=ha
 obtain⟨t'',c1,c2⟩:=hb
 refine⟨_,KY a1 b1 c1,λC M H n ρ σ D2 E R L w=>?_⟩
 refine a2 C M H n ρ σ _ _ R w λb H1 n1 e1 f1 p=>?_
 cases b with
 | true=>exact b2 C M H1 n1 ρ σ D2 E (R.step e1 f1) L p
 | false=>exact c2 C M H1 n1 ρ σ D2 E (R.step e1 f1) L p
theorem Ad{i:Nat}{x:Str}{pos':Pos}(hN:X.N.Nodup)(hi:X.N[i]?=some x)(hx:Loc X.env.scope x)(he:DE X e κe wa)(hk:autoParam (κe≠.tp) zau5._auto_1)(hs:autoParam (swapsWith e (some (.Name x pos')) pos.line X.env=pure false) zau3._auto_1)
  (hf:autoParam (X.fn x=true\/X.env.scope.names.lookup x=some .local) zau0._auto_1):DS X κ (.Assign [.Name x pos'] e pos) (A7 i wa):=by
 obtain⟨t,a1,a2⟩:=he
 refine⟨_,DA hN hi hx a1 hs hf,λC M H n ρ σ D2 E R L w=>?_⟩
 refine a2 C M H n ρ σ _ _ R w λv H' d n' e1 f1 r1 p=>?_
 exact L.nx M H' n' _ _ ((R.step e1 f1).set (r1.shOf R.dom hk)) p
end
section
variable {X:Cx}{κ κe:Kd}{e:Expr}{wa:DW}{pos:Pos}
noncomputable def Hl(i:Nat)(w:DW):AW:=λD2 n ρ=>w n ρ λd n1=>D2.nx n1 (ρ.set i (.ow d))
theorem Kt{i:Nat}{x:Str}{pos':Pos}(hN:X.N.Nodup)(hi:X.N[i]?=some x)(hx:Loc X.env.scope x)(he:DE X e .fr wa)(hs:autoParam (swapsWith e (some (.Name x pos')) pos.line X.env=pure false) zau3._auto_1)
  (hf:autoParam (X.fn x=true\/X.env.scope.names.lookup x=some .local) zau0._auto_1):DS X κ (.Assign [.Name x pos'] e pos) (Hl i wa):=by
 obtain⟨t,a1,a2⟩:=he
 refine⟨_,DA hN hi hx a1 hs hf,λC M H n ρ σ D2 E R L w=>?_⟩
 refine a2 C M H n ρ σ _ _ R w λv H' d n' e1 f1 r1 p=>?_
 obtain⟨a,rfl,h1,h2⟩:=r1
 exact L.nx _ H' n' _ _ (R.setOw e1 f1 h1 h2) p
noncomputable def SG(K:Frag)(r:V->List V->Hp->VK->Prop)(f:D->List D->(D->D->Prop)->Prop):Prop:=∀(M:Addr->Prop) (H:Hp) (a:Addr) (d:D) (ds:List D) (vs:List V) (P:D->D->Prop) (Q:VK),M a->Tops K M H a d->Ats K M H ds vs->f d ds P ->
 (∀o e z v,Tops K M (Ac H a o) a e->At K M (Ac H a o) z v->P e z->Q v (Ac H a o))->r (.ref a) vs H Q
noncomputable def RB(i:Nat)(T:String)(f:D->List D->(D->D->Prop)->Prop)(ws:Cf):AW:=λD2 n ρ=>∃d,ρ[i]?=some (.ow d)/\Sy T d/\ws n ρ λds n1=>f d ds λe _=>D2.nx n1 (ρ.set i (.ow e))
theorem G9{M:Addr->Prop}{H:Hp}{a:Addr}{o u:HO}(m:M a)(e:H a=some u)(t:autoParam (∀vs,u≠.tup vs) zau7._auto_1):Pres M H M (Ac H a o):=⟨λb o' q nb=>by rw [AH (λz=>nb (by rw [z]; exact m))]; exact q,λ_ z=>.inl z,λb vs q=>by rw [AH (λz=>by rw [z,e] at q; exact t vs (Rs q))]; exact q⟩
theorem PU{x name:Str}{p apos cpos:Pos}{T id:String}{r:V->List V->Hp->VK->Prop}{f:D->List D->(D->D->Prop)->Prop}{es:List Expr}{ws:Cf}(i:Nat)(pa:PlainAttrs T)(slot:PySem.Slot T name id)(hty:typeOf (.builtin id)=pure (.type "method_descriptor"))
  (hm:SY X id r) (hA:SG X.K r f) (h:PE X (.Name x p) (BP i)) (ha:Q7 X (e::es) ws)
  (hbase:autoParam (attributeBase (.Name x p) name X.env (eval (.Name x p) X.env)=eval (.Name x p) X.env) zau3._auto_1)
  (hfew:autoParam (((backTo cpos (starEach (e::es) X.env)).all (λx=>!x.1)&&(backToKw cpos (keywordEach [] X.env)).all (λx=>x.1.isSome)
   && decide ((e::es).length+([]:List Keyword).length+(if ([]:List Keyword).isEmpty then 0 else 1)<30))=true) zau3._auto_1)
  (hline:autoParam ((apos.endLine==cpos.line)=true) zau3._auto_1) (hs:autoParam (starEach (e::es) X.env=(false,eval e X.env)::starEach es X.env) zau3._auto_1) (hplain:autoParam ((backTo cpos (starEach es X.env)).any (·.1)=false) zau3._auto_1)
  (hsw:autoParam (swapsWith (.Call (.Attribute (.Name x p) name apos) (e::es) [] cpos) none pos.line X.env=pure false) zau3._auto_1) :
  DS X κ (.Expr (.Call (.Attribute (.Name x p) name apos) (e::es) [] cpos) pos) (RB i T f ws):=by
 obtain⟨t,a1,a2⟩:=ha
 refine⟨_,N4 (PB pa slot hty hm h a1 hbase hfew hline hs hplain) hsw,λC M H n ρ σ D2 E R L ⟨d,hd,hT,hw⟩=>?_⟩
 obtain⟨a,e1,m,nv,tt⟩:=R.sl i _ hd
 refine⟨.ref a,getD_some e1,M7 hT (tt.att nv),?_⟩
 refine a2 C M H n ρ σ _ _ R hw λvs H1 ds n1 ee f1 r1 p=>?_
 have R1:=R.step ee f1
 obtain⟨a',e1',m',nv',tt'⟩:=R1.sl i _ hd
 rw [e1] at e1'
 cases e1'
 exact hA M H1 a d ds vs _ _ m' tt' r1 p λo d' z v t2 hz pp=>L.nx M _ n1 _ σ (R1.mut hd e1 t2) pp
noncomputable def NG(d:D)(ds:List D)(P:D->D->Prop):Prop:=∃xs y,d=.lst xs/\ds=[y]/\xs.length<sizeLine/\P (.lst (xs++[y])) .non
theorem Pc{K:Frag}:SG K KU NG:=by
 intro M H a d ds vs P Q m t hv w q
 obtain⟨xs,y,rfl,rfl,hl,w⟩:=w
 obtain⟨us,h1,h2⟩:=t
 obtain⟨u,r,rfl,hu,hr⟩:=hv
 cases (show r=[] from hr)
 refine⟨a,us,u,rfl,rfl,h1,by rw [h2.length]; exact hl,q _ (.lst (xs++[y])) .non _ ⟨us++[u],AJ,?_⟩ rfl w⟩
 exact(h2.append (Ats.one hu)).pres (G9 m h1)
end
noncomputable def Yields(K:Frag)(M:Addr->Prop)(H:Hp)(J:It)(ds:List D):Prop:=∀(i:Nat) (M':Addr->Prop) (H':Hp),Pres M H M' H'->(∀a,M' a->∃o,H' a=some o) ->
 (∀d,ds[i]?=some d->J.go i H'/\∀x H2,J.yld i H' x H2->Grow H' H2/\At K M' H2 d x)/\(ds.length<=i->J.stop i H')
noncomputable def He(K:Frag)(U M:Addr->Prop)(H:Hp)(J:It)(ds:List D):Prop:=∀(i:Nat) (M':Addr->Prop) (H':Hp),Pres M H M' H'->Ext U H H'->(∀a,M' a->∃o,H' a=some o) ->
 (∀d,ds[i]?=some d->J.go i H'/\∀x H2,J.yld i H' x H2->Grow H' H2/\At K M' H2 d x)/\(ds.length<=i->J.stop i H')
theorem Yields.e{K:Frag}{U M:Addr->Prop}{H:Hp}{J:It}{ds:List D}(h:Yields K M H J ds):He K U M H J ds:=λi M' H' p _ d=>h i M' H' p d
noncomputable def Sd(X:Cx)(tg iter:Expr)(w:Cf):Prop:=∃wi,PI X tg iter wi/\∀(C:Fm) (M:Addr->Prop) (H:Hp) (n:Nat) (ρ:List Slot) (σ:L2.St) (P:List D->Nat->Prop) (R:It->Hp->Prop),Rel X.K C M H n ρ σ->w n ρ P ->
 (∀J H' ds n',Ext C.U H H'->FeedC X.K C.F M H' n'->He X.K C.U M H' J ds->P ds n'->R J H')->wi σ H R
noncomputable def DI(X:Cx)(tg iter:Expr)(w:Cf):Prop:=∃wi,PI X tg iter wi/\∀(C:Fm) (M:Addr->Prop) (H:Hp) (n:Nat) (ρ:List Slot) (σ:L2.St) (P:List D->Nat->Prop) (R:It->Hp->Prop),Rel X.K C M H n ρ σ->w n ρ P ->
 (∀J H' ds n',Ext C.U H H'->FeedC X.K C.F M H' n'->Yields X.K M H' J ds->P ds n'->R J H')->wi σ H R
noncomputable def signs(x:Str):List D:=x.cps.toList.map λc=>.str ⟨#[c]⟩
noncomputable def JO(w:DW):Cf:=λn ρ P=>w n ρ λd n1=>match d with
 | .lst ds=>P ds n1
 | .tup ds=>P ds n1
 | .str x=>P (signs x) n1
 | _=>False
theorem JM{K:Frag}{M:Addr->Prop}{H:Hp}{a:Addr}{vs:List V}{ds:List D}(h:NdT M H a vs)(hs:Ats K M H ds vs):Yields K M H (TJ K a) ds:=by
 intro i M' H' p _
 have hq:Du K H' a vs:=(h.pres p).sq
 refine⟨λd hd=>?_,λhl=>⟨vs,hq,by rw [hs.length]; exact hl⟩⟩
 obtain⟨v,e,hv⟩:=(hs.pres p).get hd
 refine⟨⟨vs,v,hq,e⟩,λx H2 y=>?_⟩
 obtain⟨e2,y⟩:=y
 subst e2
 have:some v=some x:=e.symm.trans (y vs hq)
 cases this
 exact⟨.refl,hv⟩
theorem yields_str{K:Frag}{M:Addr->Prop}{H:Hp}{z:Str}:Yields K M H (TK z) (signs z):=by
 intro i M' H' p _
 refine⟨λd hd=>?_,λhl=>?_⟩
 ·unfold signs at hd
  rw [UF] at hd
  have hi:i<z.cps.size:=by
   cases q:z.cps.toList[i]? with
   | none=>rw [q] at hd; cases hd
   | some c=>simpa using (T0.mp q).1
  refine⟨hi,λx H2 y=>?_⟩
  obtain⟨e2,c,hc,rfl⟩:=y
  subst e2
  have:z.cps.toList[i]?=some c:=by simpa using hc
  rw [this] at hd
  have hd':D.str ⟨#[c]⟩=d:=Rs hd
  subst hd'
  exact⟨.refl,rfl,by rw [UQ]; show 1<=16777216; decide⟩
 ·show z.cps.size<=i
  unfold signs at hl
  simpa using hl
noncomputable def Bg(lo:Int)(n:Nat):List D:=(T_ n).map fun(i:Nat)=>.int (lo+(i:Int))
theorem yields_range{K:Frag}{M:Addr->Prop}{H:Hp}{lo:Int}{m:Nat}:Yields K M H (Q3 lo m) (Bg lo m):=by
 intro i M' H' p _
 refine⟨λd hd=>?_,λhl=>?_⟩
 ·unfold Bg at hd
  rw [UF] at hd
  have hi:i<m:=by
   cases q:(T_ m)[i]? with
   | none=>rw [q] at hd; cases hd
   | some c=>simpa using (T0.mp q).1
  rw [List.getElem?_range hi] at hd
  have hd':D.int (lo+i)=d:=Rs hd
  subst hd'
  refine⟨hi,λx H2 y=>?_⟩
  obtain⟨e2,e3⟩:=y
  subst e2
  exact⟨.refl,e3⟩
 ·show m<=i
  unfold Bg at hl
  simpa using hl
section
variable {X:Cx}{tg e e2:Expr}{es:List Expr}{κ:Kd}{wa:DW}{ws:Cf}{p pos:Pos}
noncomputable def Bj(ws:Cf):Cf:=λn ρ P=>ws n ρ λds n1=>∃j:Int,ds=[.int j]/\(-(2 ^ 62)<=j/\j<2 ^ 62)/\P (Bg 0 j.toNat) n1
theorem BL(hg:Gl X "range")(hm:X.mg "range"=none)(ha:Nk X [e] ws)(hs:autoParam (starEach [e] X.env=[(false,eval e X.env)]) zau3._auto_1):DI X tg (.Call (.Name "range" p) [e] [] pos) (Bj ws):=by
 obtain⟨t,a1,a2⟩:=ha
 refine⟨_,Lb hg hm a1 hs,λC M H n ρ σ P Rr R w q=>?_⟩
 refine a2 C M H n ρ σ _ _ R w λvs H1 ds n1 e1 f1 r1 p=>?_
 obtain⟨j,rfl,hj,p⟩:=p
 cases r1 with
 | cons r rr =>
  cases rr
  have hv:_=V.int j:=r
  exact⟨j,by rw [hv],hj.1,hj.2,q _ H1 _ n1 e1 f1 yields_range p⟩
theorem DI.c(h:DI X tg e ws):Sd X tg e ws:=by
 obtain⟨wi,a1,a2⟩:=h
 exact⟨wi,a1,λC M H n ρ σ P Rr R w q=>a2 C M H n ρ σ P Rr R w λJ H' ds n' e1 f1 y p=>q J H' ds n' e1 f1 y.e p⟩
theorem Kv(h:DE X e κ wa):Sd X tg e (JO wa):=by
 obtain⟨t,a1,a2⟩:=h
 refine⟨_,QC a1,λC M H n ρ σ P Rr R w q=>?_⟩
 refine a2 C M H n ρ σ _ _ R w λv H1 d n1 e1 f1 r1 p=>?_
 have hv:AtT X.K C.V M H1 d v:=r1.tpOf R.dom R.vM
 cases d with
 | lst ds =>
  obtain⟨a,vs,e,nv,hr,hs⟩:=hv
  refine .inl ⟨a,e,⟨vs,.inl hr⟩,q _ H1 ds n1 e1 f1 (λi M' H' pr ex _=>?_) p⟩
  have hq:SqL X.K H' a vs:=by
   rcases hr with hr | ⟨o,hr⟩
   ·exact .inl (.inl (ex.keep hr λz=>nv (R.uV a z)))
   ·exact .inl (.inr ⟨o,ex.keep hr λz=>nv (R.uV a z)⟩)
  refine⟨λd hd=>?_,λhl=>⟨vs,hq,by rw [hs.length]; exact hl⟩⟩
  obtain⟨v,e,hv⟩:=(hs.pres pr).get hd
  refine⟨⟨vs,v,hq,e⟩,λx H2 y=>?_⟩
  obtain⟨e2,y⟩:=y
  subst e2
  have:some v=some x:=e.symm.trans (y vs hq)
  cases this
  exact⟨.refl,hv⟩
 | tup ds =>
  obtain⟨a,vs,e,hn,hs⟩:=hv
  exact .inr (.inl ⟨a,e,⟨vs,hn.sq⟩,q _ H1 ds n1 e1 f1 (JM hn hs).e p⟩)
 | str z=>exact .inr (.inr ⟨z,hv.1,q _ H1 _ n1 e1 f1 yields_str.e p⟩)
 | _=>exact p.elim
end
noncomputable abbrev BW:=D->List Slot->(List Slot->Prop)->Prop
noncomputable def DG(X:Cx)(tg:Expr)(b:BW):Prop:=∃g,PG X tg g/\∀(C:Fm) (M:Addr->Prop) (H:Hp) (n:Nat) (ρ:List Slot) (σ:L2.St) (d:D) (v:V) (P:List Slot->Prop) (Q:L2.St->Hp->Prop),Rel X.K C M H n ρ σ->At X.K M H d v->b d ρ P ->
 (∀ρ' σ',Rel X.K C M H n ρ' σ'->P ρ'->Q σ' H)->g v σ H Q
noncomputable def BC(i:Nat):BW:=λd ρ P=>P (ρ.set i (.sh d))
theorem A9{X:Cx}{i:Nat}{x:Str}{pos:Pos}(hN:X.N.Nodup)(hi:X.N[i]?=some x)(hx:Loc X.env.scope x)(hf:autoParam (X.fn x=true\/X.env.scope.names.lookup x=some .local) zau0._auto_1):DG X (.Name x pos) (BC i) :=
 ⟨_,N9 hN hi hx hf,λC M H n ρ σ d v P Q R h w q=>q _ _ (R.set h) w⟩
noncomputable def CV(b:BW)(body:AW)(D2:E2):List D->Nat->List Slot->Prop
 | [],n,ρ=>D2.nx n ρ
 | d::ds,n,ρ=>b d ρ λρ1=>body { D2 with nx:=CV b body D2 ds,ct:=CV b body D2 ds,bk:=D2.nx } n ρ1
noncomputable def Gr(src:Cf)(b:BW)(body:AW):AW:=λD2 n ρ=>src n ρ λds n1=>CV b body D2 ds n1 ρ
theorem Rel.unpin{K:Frag}{C:Fm}{p:(Addr->Prop)×Hp}{M:Addr->Prop}{H:Hp}{n:Nat}{ρ:List Slot}{σ:L2.St}(R:Rel K { C with pins:=p::C.pins } M H n ρ σ):Rel K C M H n ρ σ :=
 ⟨R.len,R.sub,R.dom,R.ext,R.fU,R.uV,R.vM,R.feed,R.sl,λq hq=>R.pin q (Op _ hq),R.br0,R.new,R.two,R.kept⟩
theorem Rel.pinned{K:Frag}{C:Fm}{M:Addr->Prop}{H:Hp}{n:Nat}{ρ:List Slot}{σ:L2.St}(R:Rel K C M H n ρ σ):Rel K { C with pins:=(M,H)::C.pins } M H n ρ σ :=
 ⟨R.len,R.sub,R.dom,R.ext,R.fU,R.uV,R.vM,R.feed,R.sl,λq hq=>(TM.mp hq).elim (λe=>e▸Pres.refl M H) (R.pin q),R.br0,R.new,R.two,R.kept⟩
section
variable {X:Cx}{κ:Kd}{tg iter:Expr}{body:List Stmt}{src:Cf}{b:BW}{wb:AW}{pos:Pos}
theorem EG(hp:PassesOwn (model X.prog X.w) X.A X.env X.xe)(hc:X.calm=true)(hi:DI X tg iter src)(hg:DG X tg b)(hb:MB X κ body wb)
  (hs:autoParam (∀x,foldedSetIterable iter X.env x=pure x) zau2._auto_1):DS X κ (.For tg iter body [] pos) (Gr src b wb):=by
 obtain⟨wi,a1,a2⟩:=hi
 obtain⟨g,g1,g2⟩:=hg
 obtain⟨tb,b1,b2⟩:=hb
 refine⟨_,QA hp hc a1 g1 b1 hs,λC M H n ρ σ D2 E R L w=>?_⟩
 refine a2 C M H n ρ σ _ _ R w λJ H1 ds n1 e1 f1 y w1=>?_
 have R1:=R.step e1 f1
 refine⟨λi m σ' H'=>m=ds.length - i/\i<=ds.length/\∃M' n' ρ',Rel X.K { C with pins:=(M,H1)::C.pins } M' H' n' ρ' σ'/\CV b wb D2 (ds.drop i) n' ρ',⟨ds.length,by simp,UI _,M,n1,ρ,R1.pinned,w1⟩,?_⟩
 rintro i m σ' H' ⟨rfl,hi,M',n',ρ',R',w'⟩
 have pr:Pres M H1 M' H':=R'.pin (M,H1) Tv
 by_cases hlt:i<ds.length
 ·have ed:ds.drop i=ds[i]::ds.drop (i+1):=Vg hlt
  rw [ed] at w'
  obtain⟨go,yl⟩:=(y i M' H' pr R'.dom).1 ds[i] (No hlt)
  refine .inr ⟨go,λσ2 H2=>∃M2 n2 ρ2,Rel X.K { C with pins:=(M,H1)::C.pins } M2 H2 n2 ρ2 σ2/\CV b wb D2 (ds.drop (i+1)) n2 ρ2,λσ2 H2 ⟨M2,n2,ρ2,R2',w2⟩=>⟨ds.length - (i+1),by omega,rfl,hlt,M2,n2,ρ2,R2',w2⟩,λx H2 hy=>?_⟩
  obtain⟨gr,hx⟩:=yl x H2 hy
  have R2':=R'.step gr.ext (R'.feed.grow gr)
  refine g2 _ M' H2 n' ρ' σ' ds[i] x _ _ R2' hx w' λρ3 σ3 R3 w3=>?_
  refine b2 _ M' H2 n' ρ3 σ3 { D2 with nx:=CV b wb D2 (ds.drop (i+1)),ct:=CV b wb D2 (ds.drop (i+1)),bk:=D2.nx } _ R3 ⟨λM4 H4 n4 ρ4 σ4 R4 w4=>⟨M4,n4,ρ4,R4,w4⟩,L.rt,λM4 H4 n4 ρ4 σ4 R4 w4=>L.nx M4 H4 n4 ρ4 σ4 R4.unpin w4,λM4 H4 n4 ρ4 σ4 R4 w4=>⟨M4,n4,ρ4,R4,w4⟩⟩ w3
 ·have e:i=ds.length:=by omega
  subst e
  rw [Wp] at w'
  exact .inl ⟨(y _ M' H' pr R'.dom).2 (Go _),L.nx M' H' n' ρ' σ' R'.unpin w'⟩
end
noncomputable def Bl(b:BW)(tt:EM)(te:DW)(P:List D->Nat->Prop):List D->List D->Nat->List Slot->Prop
 | [],acc,n,_=>P acc n
 | d::ds,acc,n,ρ=>b d ρ λρ1=>tt n ρ1 λc n1=>if c=true then te n1 ρ1 λy n2=>Bl b tt te P ds (acc++[y]) n2 ρ1 else Bl b tt te P ds acc n1 ρ1
noncomputable def Lm:Slot->Slot
 | .ow d=>.br d
 | .lt _ d=>.br d
 | s=>s
theorem Ll(s:Slot):(Lm s).owns=false:=by cases s <;> rfl
theorem CF{js:List (Option Nat)}{ρ:List Slot}{i:Nat}{s:Slot}(h:(js.map λo=>match o with | some i=>Lm ((ρ[i]?).getD .no) | none=>Slot.no)[i]?=some s):s.owns=false:=by
 rw [UF] at h
 cases q:js[i]? with
 | none=>rw [q] at h; cases h
 | some o =>
  rw [q] at h
  cases o with
  | none =>
   have e:Slot.no=s:=Rs h
   rw [← e]; rfl
  | some j =>
   have e:Lm ((ρ[j]?).getD .no)=s:=Rs h
   rw [← e]; exact Ll _
noncomputable def DY(js:List (Option Nat))(ρ:List Slot):List Slot:=js.map λo=>match o with
 | some i=>Lm ((ρ[i]?).getD .no)
 | none=>.no
noncomputable def CM(js:List (Option Nat))(src:Cf)(b:BW)(tt:EM)(te:DW):DW:=λn ρ P=>src n ρ λds n1=>ds.length<=10000000/\Bl b tt te (λacc n2=>P (.lst acc) n2) ds [] n1 (DY js ρ)
noncomputable def Sb(X:Cx)(ifs:List Expr)(w:EM):Prop:=∃t,Q0 X ifs t/\∀(C:Fm) (M:Addr->Prop) (H:Hp) (n:Nat) (ρ:List Slot) (σ:L2.St) (P:Bool->Nat->Prop) (Q:Bool->Hp->Prop),Rel X.K C M H n ρ σ->w n ρ P ->
 (∀b H' n',Ext C.U H H'->FeedC X.K C.F M H' n'->P b n'->Q b H')->t σ H Q
noncomputable def C4:EM:=λn _ P=>P true n
theorem Dk{X:Cx}:Sb X [] C4:=⟨_,N6,λC M H n ρ σ P Q R w q=>q true H n (Ext.refl _ _) R.feed w⟩
theorem Ku{X:Cx}{c:Expr}{w:EM}(h:DT X c w):Sb X [c] w:=by
 obtain⟨t,h1,h2⟩:=h
 exact⟨t,N5 h1,h2⟩
theorem GO{js:List (Option Nat)}{ρ:List Slot}{σ:L2.St}{i:Nat}{s:Slot}(hs:(DY js ρ)[i]?=some s):s=.no\/∃(j:Nat) (s':Slot),ρ[j]?=some s'/\s=Lm s'/\((BK js σ)[i]?).getD none=(σ[j]?).getD none:=by
 unfold DY at hs
 unfold BK
 rw [UF] at hs ⊢
 cases q:js[i]? with
 | none=>rw [q] at hs; cases hs
 | some o =>
  rw [q] at hs
  cases o with
  | none=>exact .inl (Rs hs).symm
  | some j =>
   have e:Lm ((ρ[j]?).getD .no)=s:=Rs hs
   cases q2:ρ[j]? with
   | none=>rw [q2] at e; exact .inl e.symm
   | some s' =>
    rw [q2] at e
    exact .inr ⟨j,s',q2,e.symm,rfl⟩
theorem IV{K:Frag}{F:Option (Addr×Addr)}{U U' M M':Addr->Prop}{H H':Hp}{js:List (Option Nat)}{ρ:List Slot}{σ:L2.St}(hsl:∀(i:Nat) (s:Slot),ρ[i]?=some s->SlotOk K F U M H s ((σ[i]?).getD none))
  (pr:Pres M H M' H') (br:∀d v,AtT K U M H d v->AtT K U' M' H' d v):∀(i:Nat) (s:Slot),(DY js ρ)[i]?=some s->SlotOk K F U' M' H' s (((BK js σ)[i]?).getD none):=by
 intro i s hs
 rcases GO (σ:=σ) hs with rfl | ⟨j,s',q,rfl,e⟩
 ·trivial
 ·rw [e]
  have h1:=hsl j s' q
  cases s' with
  | no=>trivial
  | sh d=>obtain⟨v,e1,h2⟩:=h1; exact⟨v,e1,h2.pres pr⟩
  | ex a nm ks ds=>obtain⟨e1,h2⟩:=h1; exact⟨e1,h2.pres pr⟩
  | br d=>obtain⟨v,e1,h2⟩:=h1; exact⟨v,e1,br d v h2⟩
  | fd=>exact h1
  | ow d=>obtain⟨a,e1,_,nv,t⟩:=h1; exact⟨.ref a,e1,br d _ (t.att nv)⟩
  | lt a d=>obtain⟨e1,_,nv,t⟩:=h1; exact⟨.ref a,e1,br d _ (t.att nv)⟩
theorem Ki{K:Frag}{F:Option (Addr×Addr)}{U M:Addr->Prop}{H:Hp}{js:List (Option Nat)}{ρ:List Slot}{σ:L2.St}(hsl:∀(i:Nat) (s:Slot),ρ[i]?=some s->SlotOk K F U M H s ((σ[i]?).getD none)){i:Nat}{d:D}{a:Addr}
  (hs:(DY js ρ)[i]?=some (.br d)) (ha:((BK js σ)[i]?).getD none=some (.ref a)):∃o,H a=some o:=by
 rcases GO (σ:=σ) hs with z | ⟨j,s',q,z,e⟩
 ·cases z
 ·rw [e] at ha
  have h1:=hsl j s' q
  rw [ha] at h1
  cases s' with
  | br d=>obtain⟨v,e1,h2⟩:=h1; cases e1; exact h2.lies
  | ow d=>obtain⟨b,e1,_,nv,t⟩:=h1; cases e1; exact(t.att nv).lies
  | lt b d=>obtain⟨e1,_,nv,t⟩:=h1; cases e1; exact(t.att nv).lies
  | no=>cases z
  | sh d=>cases z
  | ex a nm ks ds=>cases z
  | fd=>cases z
section
variable {X:Cx}{κe:Kd}{tg elt iter:Expr}{ifs:List Expr}{sc:Scope}{pos:Pos}{src:Cf}{b:BW}{tt:EM}{te:DW}
theorem Co(hc:X.calm=true)(N':List Str)(js:List (Option Nat))(hi:Sd X tg iter src)(hg:∀cl C s H fp,DG (Au X sc N' cl C s H fp) tg b)(ht:∀cl C s H fp,Sb (Au X sc N' cl C s H fp) ifs tt)(he:∀cl C s H fp,DE (Au X sc N' cl C s H fp) elt κe te)
  (hB:Gb sc X.env.scope X.N N' js=true) (hk:autoParam (κe≠.tp) zau5._auto_1)
  (hs:autoParam (∀x,foldedSetIterable iter X.env x=pure x) zau2._auto_1):DE X (.ListComp elt [⟨tg,iter,ifs,0⟩] sc pos) .fr (CM js src b tt te):=by
 obtain⟨wi,a1,a2⟩:=hi
 refine⟨_,OA hc N' js a1 hB hs,λC M H n ρ σ P Q R w q=>?_⟩
 refine a2 C M H n ρ σ _ _ R w λJ H1 ds n1 e1 f1 y w1=>?_
 obtain⟨hlen,w1⟩:=w1
 have R1:=R.step e1 f1
 intro l hl hkl cl Ca s0 H0 fp
 obtain⟨g,g1,g2⟩:=hg cl Ca s0 H0 fp
 obtain⟨tc,c1,c2⟩:=ht cl Ca s0 H0 fp
 obtain⟨tx,x1,x2⟩:=he cl Ca s0 H0 fp
 have noU:¬C.U l:=λz=>by
  obtain⟨o,z⟩:=R1.udom l z
  rw [hl] at z; cases z
 generalize hM':(λb=>M b\/b=l)=M'
 have M'l:M' l:=by rw [← hM']; exact .inr rfl
 have M'of:∀b,M b->M' b:=λb z=>by rw [← hM']; exact .inl z
 have ofM':∀b,M' b->M b\/b=l:=λb z=>by rw [← hM'] at z; exact z
 have inV:∀b,C.V b\/b=l->M' b:=λb z=>z.elim (λz=>M'of b (R1.vM b z)) λz=>by rw [z]; exact M'l
 have lenj:js.length=N'.length:=Cb (CompOk.of hB).cap
 refine⟨g,tc,tx,λi m σ' H'=>m=ds.length - i/\i<=ds.length/\∃n' ρ' acc vs,Rel X.K ⟨M',C.F,C.U,λb=>C.V b\/b=l,H1,[],[]⟩ M' H' n' ρ' σ'/\H' l=some (.lst vs)/\Ats X.K M' H' acc vs/\acc.length<=i/\Pres M H1 M' H' /\
   Bl b tt te (λacc n2=>P (.lst acc) n2) (ds.drop i) acc n' ρ',g1,c1,x1,⟨ds.length,by simp,UI _,n1,DY js ρ,[],[],?_⟩,?_⟩
 ·have gr:Grow H1 (Ac H1 l (.lst [])):=Aj hl
  have pr:Pres M H1 M' (Ac H1 l (.lst [])):=⟨λb o e _=>gr.all b o e,λb z=>(ofM' b z).elim .inl λz=>.inr (by rw [z]; exact hl),λb vs e=>gr.all b _ e⟩
  refine⟨⟨?_,λa z=>z,λa z=>?_,gr.ext,R1.fU,λa z=>.inl (R1.uV a z),inV,f1.pres pr λf o _ e=>gr.all f.1 o e,?_,λp hp=>absurd hp (by simp),λi d a q z=>Ki R1.sl q z,λi s a q o _=>absurd o (by rw [CF q]; decide),λi j s t a q o _ _ _ _=>absurd o (by rw [CF q]; decide),λp hp=>absurd hp (by simp)⟩,AJ,rfl,UI _,pr,w1⟩
  ·unfold DY BK
   rw [Ev,Ev]
  ·rcases ofM' a z with z | z
   ·obtain⟨o,z⟩:=R1.dom a z
    exact⟨o,gr.all a o z⟩
   ·subst z
    exact⟨_,AJ⟩
  ·refine IV R1.sl pr λd v h=>h.same pr (λa o _ e=>gr.all a o e) λa e n1 z=>z.elim n1 λz=>?_
   subst e
   obtain⟨o,w⟩:=h.lies
   rw [z,hl] at w
   cases w
 ·rintro i m σ' H' ⟨rfl,hi,n',ρ',acc,vs,R',hlv,hac,hal,pr,w'⟩
  by_cases hlt:i<ds.length
  ·have ed:ds.drop i=ds[i]::ds.drop (i+1):=Vg hlt
   rw [ed] at w'
   obtain⟨go,yl⟩:=(y i M' H' pr R'.ext R'.dom).1 ds[i] (No hlt)
   refine .inr ⟨go,λx H2 hy=>?_⟩
   obtain⟨gr,hx⟩:=yl x H2 hy
   have R2':=R'.step gr.ext (R'.feed.grow gr)
   refine g2 _ M' H2 n' ρ' σ' ds[i] x _ _ R2' hx w' λρ3 σ3 R3 w3=>?_
   refine c2 _ M' H2 n' ρ3 σ3 _ _ R3 w3 λc H4 n4 e4 f4 w4=>?_
   have R4:=R3.step e4 f4
   have p4:Pres M' H' M' H4:=gr.pres.trans (R3.pres e4)
   have l4:H4 l=some (.lst vs):=e4.keep (gr.all _ _ hlv) noU
   cases c with
   | false=>exact⟨ds.length - (i+1),by omega,rfl,hlt,n4,ρ3,acc,vs,R4,l4,hac.pres p4,by omega,pr.trans p4,w4⟩
   | true =>
    refine x2 _ M' H4 n4 ρ3 σ3 _ _ R4 w4 λyv H5 d5 n5 e5 f5 r5 w5=>?_
    have R5:=R4.step e5 f5
    have p5:Pres M' H4 M' H5:=R4.pres e5
    have l5:H5 l=some (.lst vs):=e5.keep l4 noU
    have hy5:=r5.shOf R4.dom hk
    have a5:=(hac.pres p4).pres p5
    have pu:Pres M' H5 M' (Ac H5 l (.lst (vs++[yv]))):=G9 M'l l5
    have hvl:vs.length=acc.length:=hac.length
    refine⟨vs,l5,by rw [UQ]; omega,ds.length - (i+1),by omega,rfl,hlt,n5,ρ3,acc++[d5],vs++[yv],?_,AJ,(a5.append (Ats.one hy5)).pres pu,by rw [Tz,UB]; omega,(pr.trans p4).trans (p5.trans pu),w5⟩
    refine⟨R5.len,R5.sub,λa z=>?_,λb o e=>?_,R5.fU,R5.uV,R5.vM,?_,λj s hs=>?_,λp hp=>absurd hp (by simp),R5.br0,R5.new,R5.two,λp hp=>absurd hp (by simp)⟩
    ·by_cases ha:a=l
     ·subst ha; exact⟨_,AJ⟩
     ·rw [AH ha]; exact R5.dom a z
    ·obtain⟨o',q1,q2⟩:=R5.ext b o e
     by_cases hb:b=l
     ·subst hb
      have e':H1 b=some o:=e
      rw [hl] at e'; cases e'
     ·exact⟨o',by rw [AH hb]; exact q1,q2⟩
    ·refine f5.pres pu λf o hf e=>?_
     rw [AH (λz=>noU (by rw [← z]; exact R1.fU f hf))]
     exact e
    ·have hs5:=R5.sl j s hs
     cases s with
     | no=>trivial
     | sh d=>obtain⟨v,e1,h2⟩:=hs5; exact⟨v,e1,h2.pres pu⟩
     | ex a nm ks ds=>obtain⟨e1,h2⟩:=hs5; exact⟨e1,h2.pres pu⟩
     | br d =>
      obtain⟨v,e1,h2⟩:=hs5
      refine⟨v,e1,h2.same pu (λa o z e=>?_) λ_ _ z=>z⟩
      subst z
      obtain⟨o3,w⟩:=R5.br0 j d a hs e1
      have hal:a≠l:=λz=>by
       have w':H1 a=some o3:=w
       rw [z,hl] at w'; cases w'
      rw [AH hal]; exact e
     | ow d =>
      obtain⟨a,e1,h2,_⟩:=hs5
      exact absurd h2 (R5.new j _ a hs rfl e1).1
     | lt a d =>
      obtain⟨e1,h2,_⟩:=hs5
      exact absurd h2 (R5.new j _ a hs rfl e1).1
     | fd=>exact hs5
  ·have e:i=ds.length:=by omega
   subst e
   rw [Wp] at w'
   refine .inl ⟨(y _ M' H' pr R'.ext R'.dom).2 (Go _),?_⟩
   have eb:Ext C.U H1 H':=R'.ext
   have less:Pres M' H' M H':=Pres.less M'of
   refine q _ H' (.lst acc) n' (e1.trans eb) (R'.feed.pres less λ_ _ _ z=>z) (VR.back e1 ?_) w'
   exact⟨l,rfl,hl,vs,hlv,by rw [hM']; exact hac⟩
end
theorem D0{K:Frag}{F:Option (Addr×Addr)}{U V' M:Addr->Prop}{H:Hp}{n:Nat}{ss:List Slot}{vs:List V}{N:List Str}(h:Qz K F U V' M H n ss vs)(hl:vs.length<=N.length) :
  Rel K ⟨M,F,U,V',H,[],[]⟩ M H n (ss++Is (N.length - ss.length) .no) (L2.start N vs):=by
 obtain⟨dom,fU,uV,vM,fd,pa⟩:=h
 have el:vs.length=ss.length:=Paired.length pa
 have go:∀{vs:List V} {ss:List Slot} {i:Nat} {s:Slot},Paired (Gn K F V' M H) vs ss->ss[i]?=some s->∃v,vs[i]?=some v/\Gn K F V' M H v s:=by
  intro vs ss i s pa
  induction pa generalizing i with
  | nil=>intro e; simp at e
  | cons r t ih =>
   intro e
   cases i with
   | zero=>simp at e; subst e; exact⟨_,rfl,r⟩
   | succ i =>
    obtain⟨v,e1,h1⟩:=ih (i:=i) (by simpa using e)
    exact⟨v,by simpa using e1,h1⟩
 have at_:∀(i:Nat) (s:Slot),(ss++Is (N.length - ss.length) Slot.no)[i]?=some s->s=.no\/∃v,((L2.start N vs)[i]?).getD none=some v/\Gn K F V' M H v s:=by
  intro i s hs
  by_cases hi:i<ss.length
  ·rw [U8 hi] at hs
   obtain⟨v,e1,h1⟩:=go pa hs
   refine .inr ⟨v,?_,h1⟩
   unfold L2.start
   rw [U8 (by rw [Ev,el]; exact hi),UF,e1]
   rfl
  ·rw [UY (by omega),Vr] at hs
   split at hs
   ·exact .inl (Rs hs).symm
   ·cases hs
 refine⟨?_,λa z=>z,dom,Ext.refl _ _,fU,uV,vM,fd,λi s hs=>?_,λp hp=>absurd hp (by simp),λi d a hs ha=>?_,λi s a hs o _=>?_,λi j s t a hs o _ _ _ _=>?_,λp hp=>absurd hp (by simp)⟩
 ·unfold L2.start
  simp only [Tz,Ev,VS]
  omega
 ·rcases at_ i s hs with rfl | ⟨v,e,h⟩
  ·trivial
  ·rw [e]; exact h.1
 ·rcases at_ i _ hs with z | ⟨v,e,h⟩
  ·cases z
  ·rw [e] at ha
   cases ha
   obtain⟨v,e1,h1⟩:=h.1
   cases e1
   exact h1.lies
 ·rcases at_ i s hs with rfl | ⟨v,e,h⟩
  ·cases o
  ·rw [h.2] at o; cases o
 ·rcases at_ i s hs with rfl | ⟨v,e,h⟩
  ·cases o
  ·rw [h.2] at o; cases o
theorem Kn{P:Program}{w:World}{K:Frag}{mg:Str->Option Value}{base:Heap}{x qual:Str}{st:Stmt}{f:Addr}{fd:FuncData}{N ps:List Str}{k:Nat}{κ:Kd}{W:W2}{wb:AW}(F:Fun K x qual st f fd)(S:AT N ps (AD st))(hNp:ps.length<=N.length)
  (hb:∀(cdv:Value) (A:Around) (outer:List Env) (s:Shared) (H:Hp) (E:XK),Room k (A.deeper (envOfC qual (AD st) s.heap.objs.size f cdv))->MB (Cr Bn P w K mg base N qual (AD st) f cdv A outer s H E).nox κ (Av st) wb)
  (hW:∀ss n Pd,ss.length=ps.length->W ss n Pd->wb { nx:=λn _=>κ=.sh/\Pd .non n,rt:=Pd } n (ss++Is (N.length - ps.length) .no)) :
  A1 P w K mg base Bn (k+1) f fd ps (Ef K κ W ps.length):=by
 refine F.ok S (λvs H Q E h=>h.1) (λcdv A outer s H vs Q E hr h=>?_)
 obtain⟨hl,F0,U,V',M,n,ss,Pd,ra,hw,q⟩:=h
 obtain⟨t,t1,t2⟩:=hb cdv A outer s H E hr
 refine⟨t,t1,?_⟩
 have el:vs.length=ss.length:=Paired.length ra.2.2.2.2.2
 have R:=D0 (N:=N) ra (by omega)
 refine t2 ⟨M,F0,U,V',H,[],[]⟩ M H n _ _ { nx:=λn _=>κ=.sh/\Pd .non n,rt:=Pd } _ R ⟨λM1 H1 n1 ρ1 σ1 R1 p=>?_,λv H1 d n1 e1 f1 r1 p=>q v H1 d n1 e1 f1 r1 p,λ_ _ _ _ _ _ z=>z.elim,λ_ _ _ _ _ _ z=>z.elim⟩ ?_
 ·obtain⟨hk,p⟩:=p
  subst hk
  exact q .non H1 .non n1 R1.ext (R1.feed.pres (Pres.less R1.sub) λ_ _ _ z=>z) rfl p
 ·have e:ss.length=ps.length:=by omega
  have h1:=hW ss n Pd e hw
  rw [← e] at h1
  exact h1
end Dp
namespace L2
open PySem PySem.Spec PyProof.Rows
section
variable {X:Cx}
theorem Inv.rdl{pins:List (Addr×Obj)}{σ:L2.St}{H:Hp}{s:Shared}{l:Addr}{xs:List V}(I:Inv X pins σ H s)(h:Rd H l (.lst xs)):xs.length<=sizeLine/\∃(its:List Value) (n:Nat),Vals xs its/\xs.length=its.length/\s.heap.get? l=some { cls:=.type "list",data:=.seq its.toArray n }:=by
 obtain⟨z,its,n,r,e⟩:=h.ok I.hok
 exact⟨z,its,n,r,r.length,e⟩
theorem OG:OpR X (binaryOp .Add) (λx y H Q=>∃l b xs zs,x=.ref l/\y=.ref b/\Rd H l (.lst xs)/\Rd H b (.lst zs)/\xs.length+zs.length<=sizeLine/\∀p,H p=none->Q (.ref p) (Ac H p (.lst (xs++zs)))):=by
 intro pins s σ H x y v u Q I rx ry h
 obtain⟨l,b,xs,zs,rfl,rfl,hH,hB,hz,q⟩:=h
 cases rx
 cases ry
 obtain⟨z,its,n,r,hl,e⟩:=I.rdl hH
 obtain⟨z2,its2,n2,r2,hl2,e2⟩:=I.rdl hB
 refine PySem.P.add_list e e2 ?_ (by rw [Re,Re]; omega)
 have ea:its.toArray++its2.toArray=(its++its2).toArray:=by simp
 rw [ea]
 exact⟨.ref _,_,I.lnew (t':=s.toks) (r.append r2) (by rw [Tz]; omega),rfl,q _ I.fresh⟩
end
end L2
namespace Dp
open PySem PySem.Spec PyProof.Rows L2
section
variable {K:Frag}
theorem AtT.int{U M:Addr->Prop}{H:Hp}{i:Int}{v:V}(h:AtT K U M H (.int i) v):v=.int i:=h
theorem AtT.bl{U M:Addr->Prop}{H:Hp}{i:Bool}{v:V}(h:AtT K U M H (.bl i) v):v=.bl i:=h
theorem AtT.str{U M:Addr->Prop}{H:Hp}{x:Str}{v:V}(h:AtT K U M H (.str x) v):v=.str x/\x.length<=sizeLine:=h
theorem AtT.tup{U M:Addr->Prop}{H:Hp}{ds:List D}{v:V}(h:AtT K U M H (.tup ds) v):∃a vs,v=.ref a/\NdT M H a vs/\Ats K M H ds vs:=h
noncomputable def SU(g:Int->Int->(D->Prop)->Prop)(d e:D)(P:D->Prop):Prop:=match d,e with
 | .int i,.int j=>g i j P
 | _,_=>False
theorem HK{g:Int->Int->(D->Prop)->Prop}{d e:D}{P:D->Prop}(w:SU g d e P):∃i j,d=.int i/\e=.int j/\g i j P:=by
 unfold SU at w
 split at w
 ·exact⟨_,_,rfl,rfl,w⟩
 ·exact w.elim
noncomputable def f2(g:Int->Int->D):D->D->(D->Prop)->Prop:=SU λi j P=>P (g i j)
noncomputable def L0(C:Int->Int->Prop)(g:Int->Int->D):D->D->(D->Prop)->Prop:=SU λi j P=>C i j/\P (g i j)
theorem Nb{g:Int->Int->Int}:El K .sh (En λi j=>.int (g i j)) (f2 λi j=>.int (g i j)):=by
 intro U M H d e x y P Q dom vM hx hy w q
 obtain⟨i,j,rfl,rfl,w⟩:=HK w
 exact⟨i,j,hx,hy,q _ H (.int (g i j)) .refl rfl w⟩
theorem Nc{g:Int->Int->Bool}:El K .sh (En λi j=>.bl (g i j)) (f2 λi j=>.bl (g i j)):=by
 intro U M H d e x y P Q dom vM hx hy w q
 obtain⟨i,j,rfl,rfl,w⟩:=HK w
 exact⟨i,j,hx,hy,q _ H (.bl (g i j)) .refl rfl w⟩
theorem CI{C:Int->Int->Prop}{g:Int->Int->Int}:El K .sh (rI C λi j=>.int (g i j)) (L0 C λi j=>.int (g i j)):=by
 intro U M H d e x y P Q dom vM hx hy w q
 obtain⟨i,j,rfl,rfl,w⟩:=HK w
 exact⟨i,j,hx,hy,w.1,q _ H (.int (g i j)) .refl rfl w.2⟩
noncomputable def SS(g:Str->Str->(D->Prop)->Prop)(d e:D)(P:D->Prop):Prop:=match d,e with
 | .str i,.str j=>g i j P
 | _,_=>False
theorem Ko{g:Str->Str->(D->Prop)->Prop}{d e:D}{P:D->Prop}(w:SS g d e P):∃i j,d=.str i/\e=.str j/\g i j P:=by
 unfold SS at w
 split at w
 ·exact⟨_,_,rfl,rfl,w⟩
 ·exact w.elim
theorem NZ{g:Str->Str->Bool}:El K .sh (λx y H Q=>∃i j,x=.str i/\y=.str j/\Q (.bl (g i j)) H) (SS λi j P=>P (.bl (g i j))):=by
 intro U M H d e x y P Q dom vM hx hy w q
 obtain⟨i,j,rfl,rfl,w⟩:=Ko w
 exact⟨i,j,hx.1,hy.1,q _ H (.bl (g i j)) .refl rfl w⟩
theorem L8:El K .sh (λx y H Q=>∃i j,x=.str i/\y=.str j/\i.length+j.length<=sizeLine/\Q (.str (i++j)) H) (SS λi j P=>i.length+j.length<=sizeLine/\P (.str (i++j))):=by
 intro U M H d e x y P Q dom vM hx hy w q
 obtain⟨i,j,rfl,rfl,w⟩:=Ko w
 exact⟨i,j,hx.1,hy.1,w.1,q _ H (.str (i++j)) .refl ⟨rfl,by rw [show (i++j).length=i.length+j.length from Wd i j]; exact w.1⟩ w.2⟩
noncomputable def S4(g:List D->List D->(D->Prop)->Prop)(d e:D)(P:D->Prop):Prop:=match d,e with
 | .tup i,.tup j=>g i j P
 | _,_=>False
noncomputable def S5(g:List D->List D->(D->Prop)->Prop)(d e:D)(P:D->Prop):Prop:=match d,e with
 | .lst i,.lst j=>g i j P
 | _,_=>False
theorem OV{g:List D->List D->(D->Prop)->Prop}{d e:D}{P:D->Prop}(w:S4 g d e P):∃i j,d=.tup i/\e=.tup j/\g i j P:=by
 unfold S4 at w
 split at w
 ·exact⟨_,_,rfl,rfl,w⟩
 ·exact w.elim
theorem OX{g:List D->List D->(D->Prop)->Prop}{d e:D}{P:D->Prop}(w:S5 g d e P):∃i j,d=.lst i/\e=.lst j/\g i j P:=by
 unfold S5 at w
 split at w
 ·exact⟨_,_,rfl,rfl,w⟩
 ·exact w.elim
theorem Df{M:Addr->Prop}{H:Hp}{p:Addr}{vs:List V}{ds:List D}(dom:∀a,M a->∃o,H a=some o)(hp:H p=none)(h:Ats K M H ds vs):At K M (Ac H p (.tup vs)) (.tup ds) (.ref p):=by
 exact⟨p,vs,rfl,AJ,h.pres (Aj hp).pres⟩
theorem Dg{U M:Addr->Prop}{H:Hp}{p:Addr}{vs:List V}{ds:List D}(hp:H p=none)(h:Ats K M H ds vs):VR K U M H (Ac H p (.lst vs)) .fr (.ref p) (.lst ds) :=
 ⟨p,rfl,hp,vs,AJ,h.pres (Fa hp)⟩
theorem L7:El K .sh (MZ K) (S4 λi j P=>i≠[]/\i.length+j.length<=sizeLine/\P (.tup (i++j))):=by
 intro U M H d e x y P Q dom vM hx hy w q
 obtain⟨i,j,rfl,rfl,w⟩:=OV w
 obtain⟨a,vs,rfl,ha,hs⟩:=hx.tup
 obtain⟨b,us,rfl,hb,ht⟩:=hy.tup
 have l1:=hs.length
 have l2:=ht.length
 refine⟨a,b,vs,us,rfl,rfl,ha.sq,hb.sq,λz=>w.1 ?_,by rw [l1,l2]; exact w.2.1,λz=>?_,λz p hp=>?_⟩
 ·rw [z] at l1; exact VB.mp l1.symm
 ·rw [z] at l2
  have:j=[]:=VB.mp l2.symm
  subst this
  exact q _ H (.tup i) .refl ⟨a,vs,rfl,ha,hs⟩ (by have:=w.2.2; rw [UL] at this; exact this)
 ·exact q _ _ (.tup (i++j)) (Aj hp) (Df dom hp (hs.append ht)) w.2.2
theorem L9:El K .fr (λx y H Q=>∃l b xs zs,x=.ref l/\y=.ref b/\Rd H l (.lst xs)/\Rd H b (.lst zs)/\xs.length+zs.length<=sizeLine/\∀p,H p=none->Q (.ref p) (Ac H p (.lst (xs++zs)))) (S5 λi j P=>i.length+j.length<=sizeLine/\P (.lst (i++j))):=by
 intro U M H d e x y P Q dom vM hx hy w q
 obtain⟨i,j,rfl,rfl,w⟩:=OX w
 obtain⟨a,vs,rfl,_,ha,hs⟩:=hx
 obtain⟨b,us,rfl,_,hb,ht⟩:=hy
 exact⟨a,b,vs,us,rfl,rfl,ha,hb,by rw [hs.length,ht.length]; exact w.1,λp hp=>q _ _ (.lst (i++j)) (Aj hp) (Dg hp (hs.append ht)) w.2⟩
noncomputable def GX(neg:Bool)(d e:D)(P:D->Prop):Prop:=match d,e with
 | .bl i,.bl j=>P (.bl (if neg then !(i==j) else i==j))
 | .int i,.int j=>P (.bl (if neg then !(i==j) else i==j))
 | .str i,.str j=>P (.bl (if neg then !(i==j) else i==j))
 | _,_=>False
theorem Kp{neg:Bool}{d e:D}{P:D->Prop}(w:GX neg d e P):(∃i j,d=.bl i/\e=.bl j/\P (.bl (if neg then !(i==j) else i==j)))\/(∃i j,d=.int i/\e=.int j/\P (.bl (if neg then !(i==j) else i==j)))\/∃i j,d=.str i/\e=.str j/\P (.bl (if neg then !(i==j) else i==j)):=by
 unfold GX at w
 split at w
 ·exact .inl ⟨_,_,rfl,rfl,w⟩
 ·exact .inr (.inl ⟨_,_,rfl,rfl,w⟩)
 ·exact .inr (.inr ⟨_,_,rfl,rfl,w⟩)
 ·exact w.elim
theorem EI:El K .sh TR (GX false):=by
 intro U M H d e x y P Q dom vM hx hy w q
 rcases Kp w with ⟨i,j,rfl,rfl,w⟩ | ⟨i,j,rfl,rfl,w⟩ | ⟨i,j,rfl,rfl,w⟩
 ·rw [hx.bl,hy.bl]; exact⟨rfl,q _ H _ .refl (by rw [HP]; rfl) w⟩
 ·rw [hx.int,hy.int]; exact⟨rfl,q _ H _ .refl (by rw [Eu]; rfl) w⟩
 ·rw [hx.str.1,hy.str.1]; exact⟨rfl,q _ H _ .refl (by rw [Et]; rfl) w⟩
theorem R6:El K .sh TL (GX true):=by
 intro U M H d e x y P Q dom vM hx hy w q
 rcases Kp w with ⟨i,j,rfl,rfl,w⟩ | ⟨i,j,rfl,rfl,w⟩ | ⟨i,j,rfl,rfl,w⟩
 ·rw [hx.bl,hy.bl]; exact⟨rfl,q _ H _ .refl (by rw [HP]; rfl) w⟩
 ·rw [hx.int,hy.int]; exact⟨rfl,q _ H _ .refl (by rw [Eu]; rfl) w⟩
 ·rw [hx.str.1,hy.str.1]; exact⟨rfl,q _ H _ .refl (by rw [Et]; rfl) w⟩
noncomputable def DK(d e:D)(P:D->Prop):Prop:=match d,e with
 | .lst ds,.int i=>∃z,atI ds i=some z/\P z
 | .tup ds,.int i=>∃z,atI ds i=some z/\P z
 | .str x,.int i=>∃c,atI x.cps.toList i=some c/\P (.str ⟨#[c]⟩)
 | _,_=>False
theorem OY{d e:D}{P:D->Prop}(w:DK d e P):(∃ds i z,d=.lst ds/\e=.int i/\atI ds i=some z/\P z)\/(∃ds i z,d=.tup ds/\e=.int i/\atI ds i=some z/\P z)\/∃x i c,d=.str x/\e=.int i/\atI x.cps.toList i=some c/\P (.str ⟨#[c]⟩):=by
 unfold DK at w
 split at w
 ·obtain⟨z,h1,h2⟩:=w; exact .inl ⟨_,_,z,rfl,rfl,h1,h2⟩
 ·obtain⟨z,h1,h2⟩:=w; exact .inr (.inl ⟨_,_,z,rfl,rfl,h1,h2⟩)
 ·obtain⟨z,h1,h2⟩:=w; exact .inr (.inr ⟨_,_,z,rfl,rfl,h1,h2⟩)
 ·exact w.elim
theorem Ats.atI{M:Addr->Prop}{H:Hp}{ds:List D}{vs:List V}{i:Int}{z:D}(h:Ats K M H ds vs)(e:atI ds i=some z):∃v,L2.atI vs i=some v/\At K M H z v:=by
 unfold L2.atI at e ⊢
 rw [h.length]
 cases q:PJ ds.length i with
 | none=>rw [q] at e; cases e
 | some j =>
  rw [q] at e
  exact h.get e
theorem Bh:El K .sh (TN K) DK:=by
 intro U M H d e x y P Q dom vM hx hy w q
 rcases OY w with ⟨ds,i,z,rfl,rfl,hz,w⟩ | ⟨ds,i,z,rfl,rfl,hz,w⟩ | ⟨x,i,c,rfl,rfl,hc,w⟩
 ·obtain⟨a,vs,rfl,_,ha,hs⟩:=hx
  obtain⟨v,hv,hAt⟩:=hs.atI hz
  exact .inl ⟨a,vs,i,v,rfl,hy,.inl ha,hv,q v H z .refl hAt w⟩
 ·obtain⟨a,vs,rfl,ha,hs⟩:=hx.tup
  obtain⟨v,hv,hAt⟩:=hs.atI hz
  exact .inr (.inl ⟨a,vs,i,v,rfl,hy,ha.sq,hv,q v H z .refl hAt w⟩)
 ·exact .inr (.inr ⟨x,i,c,hx.str.1,hy,hx.str.2,hc,q _ H (.str ⟨#[c]⟩) .refl ⟨rfl,by rw [UQ]; show 1<=16777216; decide⟩ w⟩)
noncomputable def cutD{α:Type}(xs:List α)(lo hi:Option Int):List α:=(xs.drop (HT.sIx xs.length 0 lo)).take (HT.sIx xs.length xs.length hi - HT.sIx xs.length 0 lo)
theorem FL{R:V->D->Prop}{vs:List V}{d:D}(h:Paired R vs [d]):∃v,vs=[v]/\R v d:=by
 cases h with
 | cons r t=>cases t; exact⟨_,rfl,r⟩
noncomputable def Sv:D->Option Nat
 | .str x=>some x.length
 | .tup xs=>some xs.length
 | .lst xs=>some xs.length
 | _=>none
noncomputable def Ii(ds:List D)(P:D->Prop):Prop:=∃d n,ds=[d]/\Sv d=some n/\P (.int (n:Int))
theorem Fv:Ee K .sh (λxs H Q=>∃x n,xs=[x]/\Q2 K x H n/\Q (.int n) H) Ii:=by
 intro U M H ds vs P Q dom vM hp w q
 obtain⟨d,n,rfl,hn,w⟩:=w
 obtain⟨v,rfl,hx⟩:=FL hp
 refine⟨v,n,rfl,?_,q _ H (.int (n:Int)) .refl rfl w⟩
 cases d with
 | str z=>cases hn; rw [hx.str.1]; exact⟨hx.str.2,rfl⟩
 | tup xs =>
  cases hn
  obtain⟨a,us,rfl,ha,hs⟩:=hx.tup
  exact .inr ⟨us,ha.sq,hs.length.symm⟩
 | lst xs =>
  cases hn
  obtain⟨a,us,rfl,_,ha,hs⟩:=hx
  exact .inl ⟨us,.inl ha,hs.length.symm⟩
 | _=>cases hn
noncomputable def allB:List D->Option (List Bool)
 | []=>some []
 | .bl b::r=>(allB r).map (b::·)
 | _::_=>none
theorem K8{M:Addr->Prop}{H:Hp}:∀{ds:List D} {vs:List V} {bs:List Bool},allB ds=some bs->Ats K M H ds vs->vs=bs.map V.bl
 | [],vs,bs,e,h=>by cases e; exact h
 | .bl b::r,vs,bs,e,h=>by
  obtain⟨v,r',e1,h1,h2⟩:=h
  unfold allB at e
  obtain⟨bs',e2,rfl⟩:=VL.mp e
  rw [e1,K8 e2 h2,show v=.bl b from h1]
  rfl
 | .non::r,vs,bs,e,h=>by unfold allB at e; cases e
 | .int _::r,vs,bs,e,h=>by unfold allB at e; cases e
 | .str _::r,vs,bs,e,h=>by unfold allB at e; cases e
 | .tup _::r,vs,bs,e,h=>by unfold allB at e; cases e
 | .lst _::r,vs,bs,e,h=>by unfold allB at e; cases e
 | .dic _ _::r,vs,bs,e,h=>by unfold allB at e; cases e
 | .fdi _ _::r,vs,bs,e,h=>by unfold allB at e; cases e
 | .dit _ _::r,vs,bs,e,h=>by unfold allB at e; cases e
noncomputable def NI(ds:List D)(P:D->Prop):Prop:=∃xs bs,ds=[.lst xs]/\allB xs=some bs/\P (.bl (bs.all id))
theorem Pe:Ee K .sh (λxs H Q=>∃(p:Addr) (bs:List Bool),xs=[.ref p]/\SqL K H p (bs.map V.bl)/\Q (.bl (bs.all id)) H) NI:=by
 intro U M H ds vs P Q dom vM hp w q
 obtain⟨xs,bs,rfl,e,w⟩:=w
 obtain⟨v,rfl,hx⟩:=FL hp
 obtain⟨a,us,rfl,_,ha,hs⟩:=hx
 have:=K8 e hs
 subst this
 exact⟨a,bs,rfl,.inl ha,q _ H (.bl (bs.all id)) .refl rfl w⟩
noncomputable def Be:List D->Option (List Str)
 | []=>some []
 | .str b::r=>(Be r).map (b::·)
 | _::_=>none
theorem HZ{M:Addr->Prop}{H:Hp}:∀{ds:List D} {vs:List V} {bs:List Str},Be ds=some bs->Ats K M H ds vs->vs=bs.map V.str
 | [],vs,bs,e,h=>by cases e; exact h
 | .str b::r,vs,bs,e,h=>by
  obtain⟨v,r',e1,h1,h2⟩:=h
  unfold Be at e
  obtain⟨bs',e2,rfl⟩:=VL.mp e
  rw [e1,HZ e2 h2,h1.1]
  rfl
 | .non::r,vs,bs,e,h=>by unfold Be at e; cases e
 | .int _::r,vs,bs,e,h=>by unfold Be at e; cases e
 | .bl _::r,vs,bs,e,h=>by unfold Be at e; cases e
 | .tup _::r,vs,bs,e,h=>by unfold Be at e; cases e
 | .lst _::r,vs,bs,e,h=>by unfold Be at e; cases e
 | .dic _ _::r,vs,bs,e,h=>by unfold Be at e; cases e
 | .fdi _ _::r,vs,bs,e,h=>by unfold Be at e; cases e
 | .dit _ _::r,vs,bs,e,h=>by unfold Be at e; cases e
noncomputable def NF(d:D)(ds:List D)(P:D->Prop):Prop:=∃(z:Str) (xs:List D) (ys:List Str),d=.str z/\ds=[.lst xs]/\Be xs=some ys/\(ys.map (·.length)).sum+ys.length*z.length<=16777216/\(Txt.join z ys).length<=16777216/\P (.str (Txt.join z ys))
theorem Qw:Ta K .sh "str" (λx xs H Q=>∃(z:Str) (p:Addr) (ys:List Str),x=.str z/\xs=[.ref p]/\SqL K H p (ys.map V.str)/\(ys.map (·.length)).sum+ys.length*z.length<=16777216/\Q (.str (Txt.join z ys)) H) NF:=by
 intro U M H d ds x vs P Q dom vM hx hp w q
 obtain⟨z,xs,ys,rfl,rfl,e,h1,h2,w⟩:=w
 obtain⟨v,rfl,hy⟩:=FL hp
 obtain⟨a,us,rfl,_,ha,hs⟩:=hy
 have:=HZ e hs
 subst this
 exact⟨z,a,ys,hx.str.1,rfl,.inl ha,h1,q _ H (.str (Txt.join z ys)) .refl ⟨rfl,by rw [UQ]; exact h2⟩ w⟩
end
noncomputable def RE:D->String
 | .non => "NoneType"
 | .bl _ => "bool"
 | .int _ => "int"
 | .str _ => "str"
 | .tup _ => "tuple"
 | .lst _ => "list"
 | .dic _ _ => "dict"
 | .fdi _ _ => "dict"
 | .dit _ _ => "dict"
noncomputable def Qc(t T:String):Bool:=t==T||(t == "bool"&&T == "int")
noncomputable def ML(T:String)(wa:DW):DW:=λn ρ P=>wa n ρ λd n1=>P (.bl (Qc (RE d) T)) n1
structure Ol (K:Frag) (T:String):Prop where
 ans:∀t∈["NoneType","bool","int","str","tuple","list","dict"],PySem.W.kitOne K (.type t) (.type T)=some (Qc t T)
theorem Np{K:Frag}{M U:Addr->Prop}{H:Hp}{d:D}{x:V}(h:AtT K U M H d x):DN K H x (.type (RE d)):=by
 cases d with
 | non=>cases (show x=.non from h); exact .non
 | bl b=>cases h.bl; exact .bl b
 | int i=>cases h.int; exact .int i
 | str z=>cases h.str.1; exact .str z
 | tup ds =>
  obtain⟨a,vs,rfl,ha,hs⟩:=h.tup
  exact .tup ha
 | lst ds =>
  obtain⟨a,vs,rfl,_,ha,hs⟩:=h
  rcases ha with ha | ⟨o,ha⟩
  ·exact .lst ha
  ·exact .frz ha
 | dic ks ds =>
  obtain⟨a,vs,rfl,_,ha,_⟩:=h
  exact .dK ha
 | fdi ks ds =>
  obtain⟨a,vs,rfl,⟨o,_,ha⟩,_⟩:=h
  exact .dF ha
 | dit ks ds =>
  obtain⟨a,vs,rfl,_,ha,_⟩:=h
  exact .dT ha
theorem Nq(d:D):RE d∈["NoneType","bool","int","str","tuple","list","dict"]:=by cases d <;> simp [RE]
theorem HR{X:Cx}{a:Expr}{κ:Kd}{wa:DW}{T:String}{Tn:Str}{p p2 pos:Pos}(kt:Ol X.K T)(ha:DE X a κ wa)(hg:Gl X "isinstance")(hm:X.mg "isinstance"=none)(hgT:Gl X Tn)(hmT:X.mg Tn=none)(hvT:bootBuiltins Tn=some (.type T))
  (hnT:autoParam (Tn ≠ "__name__") zau1._auto_1) (hdT:autoParam ((Tn==("__debug__" : Str))=false) zau1._auto_1)
  (he:autoParam (starEach [a,.Name Tn p2] X.env=(false,eval a X.env)::starEach [.Name Tn p2] X.env) zau3._auto_1) (he2:autoParam (starEach [.Name Tn p2] X.env=[(false,eval (.Name Tn p2) X.env)]) zau3._auto_1)
  (hpl:autoParam ((backTo pos (starEach [.Name Tn p2] X.env)).any (·.1)=false) zau3._auto_1):DE X (.Call (.Name "isinstance" p) [a,.Name Tn p2] [] pos) .sh (ML T wa):=by
 obtain⟨t,h1,h2⟩:=ha
 have pT:PE X (.Name Tn p2) (tC (.ty T)):=Kc hgT hmT hvT (v:=.ty T) rfl hnT hdT
 refine⟨_,B5 I_ hg hm (by decide +kernel) (Az h1 (Az pT BU he2) he) (by decide) (by decide) he hpl,λC M H n ρ σ P Q R w q=>?_⟩
 refine h2 C M H n ρ σ _ _ R w λv H1 d n1 e1 f1 r1 p=>?_
 exact⟨v,T,_,_,rfl,Np (r1.tpOf R.dom R.vM),kt.ans _ (Nq d),q _ H1 (.bl (Qc (RE d) T)) n1 e1 f1 rfl p⟩
section
variable {K:Frag}{X:Cx}
noncomputable def PQ(d e:D)(P:D->Prop):Prop:=match d,e with
 | .int i,.int j=>P (.int (i+j))
 | .str i,.str j=>i.length+j.length<=sizeLine/\P (.str (i++j))
 | .tup i,.tup j=>i≠[]/\i.length+j.length<=sizeLine/\P (.tup (i++j))
 | .lst i,.lst j=>i.length+j.length<=sizeLine/\P (.lst (i++j))
 | _,_=>False
noncomputable def O6:R2:=λx y H Q=>∃l b xs zs,x=.ref l/\y=.ref b/\Rd H l (.lst xs)/\Rd H b (.lst zs)/\xs.length+zs.length<=sizeLine/\∀p,H p=none->Q (.ref p) (Ac H p (.lst (xs++zs)))
noncomputable def O5:R2:=λx y H Q=>∃i j,x=.str i/\y=.str j/\i.length+j.length<=sizeLine/\Q (.str (i++j)) H
noncomputable def Oy(g:Str->Str->Bool):R2:=λx y H Q=>∃i j,x=.str i/\y=.str j/\Q (.bl (g i j)) H
noncomputable def Ma(K:Frag):R2:=λx y H Q=>(En λi j=>.int (i+j)) x y H Q\/O5 x y H Q\/MZ K x y H Q\/O6 x y H Q
theorem op_addU:OpR X (binaryOp .Add) (Ma X.K):=op_add.or ((show OpR X (binaryOp .Add) O5 from Jq).or (op_catT.or (show OpR X (binaryOp .Add) O6 from OG)))
theorem Hd:El X.K .sh (Ma X.K) PQ:=λU M H d e x y P Q dom vM hx hy w q=>by
 unfold PQ at w
 split at w
 ·exact .inl (Nb (K:=X.K) (g:=λi j=>i+j) U M H (.int _) (.int _) x y P Q dom vM hx hy w q)
 ·exact .inr (.inl (L8 (K:=X.K) U M H (.str _) (.str _) x y P Q dom vM hx hy w q))
 ·exact .inr (.inr (.inl (L7 (K:=X.K) U M H (.tup _) (.tup _) x y P Q dom vM hx hy w q)))
 ·exact .inr (.inr (.inr (L9 (K:=X.K) U M H (.lst _) (.lst _) x y P Q dom vM hx hy w λv H' z g r p=>q v H' z g (r.shOf dom (by intro z; cases z)) p)))
 ·exact w.elim
noncomputable def Ru(d e:D)(P:D->Prop):Prop:=match d,e with
 | .int i,.int j=>P (.bl (decide (i<j)))
 | .str i,.str j=>P (.bl (decide (i.cps.toList<j.cps.toList)))
 | _,_=>False
noncomputable def P4:R2:=λx y H Q=>(En λi j=>.bl (decide (i<j))) x y H Q\/Oy (λi j=>decide (i.cps.toList<j.cps.toList)) x y H Q
theorem op_ltU:OpR X (compareOp .Lt) P4:=op_lt.or Lf
theorem Pa:El X.K .sh P4 Ru:=λU M H d e x y P Q dom vM hx hy w q=>by
 unfold Ru at w
 split at w
 ·exact .inl (Nc (K:=X.K) (g:=λi j=>decide (i<j)) U M H (.int _) (.int _) x y P Q dom vM hx hy w q)
 ·exact .inr (NZ (K:=X.K) (g:=λi j=>decide (i.cps.toList<j.cps.toList)) U M H (.str _) (.str _) x y P Q dom vM hx hy w q)
 ·exact w.elim
noncomputable def Qf(d e:D)(P:D->Prop):Prop:=match d,e with
 | .int i,.int j=>P (.bl (decide (i<=j)))
 | .str i,.str j=>P (.bl (!(decide (j.cps.toList<i.cps.toList))))
 | _,_=>False
noncomputable def Ra:R2:=λx y H Q=>(En λi j=>.bl (decide (i<=j))) x y H Q\/Oy (λi j=>!(decide (j.cps.toList<i.cps.toList))) x y H Q
theorem QN:OpR X (compareOp .LtE) Ra:=op_le.or Lg
theorem R7:El X.K .sh Ra Qf:=λU M H d e x y P Q dom vM hx hy w q=>by
 unfold Qf at w
 split at w
 ·exact .inl (Nc (K:=X.K) (g:=λi j=>decide (i<=j)) U M H (.int _) (.int _) x y P Q dom vM hx hy w q)
 ·exact .inr (NZ (K:=X.K) (g:=λi j=>!(decide (j.cps.toList<i.cps.toList))) U M H (.str _) (.str _) x y P Q dom vM hx hy w q)
 ·exact w.elim
noncomputable def RT:V->Option Int->Option Int->Hp->VK->Prop:=λx lo hi H Q=>∃z,x=.str z/\z.length<=sizeLine/\Q (.str (Txt.slice z lo hi)) H
theorem sl_U:SlR X RT:=Py
noncomputable def Got(P:Program)(w:World)(K:Frag)(mg:Str->Option Value)(base:Heap)(x:Str)(k:Nat)(ps:List Str)(κ:Kd)(W:W2):Prop :=
 ∃f fd,A1 P w K mg base Bn k f fd ps (Ef K κ W ps.length)/\mg x=some (.ref f)/\keepIn K (.ref f)=true/\Binds K fd ps []/\∀ss n P,W ss n P->ss.length=ps.length
theorem AL{e:Expr}{es:List Expr}{k:Nat}{ps:List Str}{κ:Kd}{W:W2}{x:Str}{p pos:Pos}{was:Nh}(G:Got X.prog X.w X.K X.mg X.base x k ps κ W)
  (hr:Room k X.A) (hg:Gl X x) (ha:Q6 X (e::es) was)
  (hdb:autoParam ((x==("__debug__" : Str))=false) zau1._auto_1) (he:autoParam (starEach (e::es) X.env=(false,eval e X.env)::starEach es X.env) zau3._auto_1) (hpl:autoParam ((backTo pos (starEach es X.env)).any (·.1)=false) zau3._auto_1) :
  DE X (.Call (.Name x p) (e::es) [] pos) κ (AZ W was):=by
 obtain⟨f,fd,G,hm,hk,hb,hW⟩:=G
 exact Oe G hW hr hg hm hk hb ha hdb he hpl
noncomputable def O8(np:Nat)(g:List D->D):W2:=λss n P=>∃ds:List D,ds.length=np/\ss=ds.map .sh/\P (g ds) n
theorem LV{np:Nat}{g:List D->D}{ss:List Slot}{n:Nat}{P:D->Nat->Prop}(h:O8 np g ss n P):ss.length=np:=by
 obtain⟨ds,e,rfl,_⟩:=h
 rw [Ev]; exact e
theorem OP:Ol K "int":=⟨λt ht=>by
 simp only [TM,UA,or_false] at ht
 rcases ht with rfl | rfl | rfl | rfl | rfl | rfl | rfl <;> kernel_rfl⟩
theorem Mx:Ol K "bool":=⟨λt ht=>by
 simp only [TM,UA,or_false] at ht
 rcases ht with rfl | rfl | rfl | rfl | rfl | rfl | rfl <;> kernel_rfl⟩
theorem kit_tuple:Ol K "tuple":=⟨λt ht=>by
 simp only [TM,UA,or_false] at ht
 rcases ht with rfl | rfl | rfl | rfl | rfl | rfl | rfl <;> kernel_rfl⟩
end
theorem DB{i:Nat}{te:DW}{P:List D->Nat->Prop}{g:D->D}(I:List Slot->Prop)(hI:∀d ρ,I ρ->I (ρ.set i (.sh d))) :
  ∀(ds acc:List D) (n:Nat) (ρ:List Slot),(∀d∈ds,∀ρ n P',I ρ->P' (g d) n->te n (ρ.set i (.sh d)) P')->I ρ->P (acc++ds.map g) n->Bl (BC i) C4 te P ds acc n ρ
 | [],acc,n,ρ,_,_,h=>by
  rw [WA,UL] at h
  exact h
 | d::ds,acc,n,ρ,ht,hρ,h=>by
  refine ht d Tv ρ n _ hρ ?_
  refine DB I hI ds (acc++[g d]) n _ (λd hd=>ht d (Op _ hd)) (hI d ρ hρ) ?_
  rw [U6]
  exact h
theorem Fu{α:Type}(p:α->Bool):∀l:List α,allB (l.map λc=>.bl (p c))=some (l.map p)
 | []=>rfl
 | a::l=>by
  rw [UG,UG]
  unfold allB
  rw [Fu p l]
  rfl
theorem NW{b1 b2:Bool}{P:D->Nat->Prop}{n:Nat}{k:(D->Nat->Prop)->Prop}(hk:b1=true->P (.bl b2) n->k P)(h:P (.bl (b1&&b2)) n):(match (.bl b1:D) with | .bl true=>k P | .bl false=>P (.bl false) n | _=>False):=by
 cases b1 with
 | false=>exact h
 | true=>exact hk rfl h
theorem Qe{P:Program}{w:World}{K:Frag}{mg:Str->Option Value}{base:Heap}{x:Str}{st:Stmt}{f:Addr}{fd:FuncData}{k:Nat}{ps:List Str}{κ:Kd}{W:W2}(F:Fun K x x st f fd)(m:mg x=some (.ref f))(b:Binds K fd ps [])
  (hW:∀ss n P,W ss n P->ss.length=ps.length) (ok:A1 P w K mg base Bn k f fd ps (Ef K κ W ps.length)):Got P w K mg base x k ps κ W:=⟨f,fd,ok,m,F.kp,b,hW⟩
noncomputable def IA(K:Frag):Sp:=λvs H Q _=>∃a ns,vs=[V.ref a]/\(WN (α:=Int) ns<=63/\SqL K H a (ns.map V.int))/\∀H',Q (.bl true) H'
noncomputable def Gs(K:Frag):Sp:=λvs H Q _=>∃a ns,vs=[V.ref a]/\(WN (α:=Int) ns<=63/\SqL K H a (ns.map V.int)) /\
 ∀(c f:Addr) (H':Hp),c≠f->H' c=some (.lst (ns.map V.int))->H' f=some (.lst [.ref c,.int 0,.int 0])->Q (.ref f) H'
theorem Rz{ns:List Int}(h:ns.length<=63):F_ (ns.map V.int) none (some 63)=ns.map V.int:=by
 have e:HT.sIx (ns.map V.int).length (ns.map V.int).length (some 63)=ns.length:=by
  rw [show (63:Int)=((63:Nat):Int) from rfl,HT.sIx_nat,Ev,Nat.min_eq_right h]
 unfold F_
 rw [e,HT.sIx_none,List.drop_zero,Nat.sub_zero]
 exact Wy (by rw [Ev]; exact Go _)
theorem Cj{b:BW}{body:AW}{D2:E2}(I:Nat->Nat->List Slot->Prop)(hend:∀n ρ,I 0 n ρ->D2.nx n ρ) :
  ∀(ds:List D) (n:Nat) (ρ:List Slot) (_:∀(k:Nat) (d:D) (n:Nat) (ρ:List Slot) (nx:Nat->List Slot->Prop),d∈ds->I (k+1) n ρ->(∀n' ρ',I k n' ρ'->nx n' ρ')->b d ρ λρ1=>body { D2 with nx:=nx,ct:=nx,bk:=D2.nx } n ρ1),
   I ds.length n ρ->CV b body D2 ds n ρ
 | [],n,ρ,_,h=>hend n ρ h
 | d::ds,n,ρ,hs,h=>hs ds.length d n ρ (CV b body D2 ds) Tv h λn' ρ' h'=>Cj I hend ds n' ρ' (λk d n ρ nx hm=>hs k d n ρ nx (Op _ hm)) h'
theorem Rq{P:Program}{w:World}{K:Frag}{mg:Str->Option Value}{base:Heap}{st s1:Stmt}{rest:List Stmt}{f:Addr}{fd:FuncData}{Nr:List Str}{k n0:Nat}{wb:AW}(F:Fun K "law" "law" st f fd)
  (S:AT ("_law_script" :: "_law_feed_here"::Nr) ["_law_script"] (AD st)) (hbd:Av st=s1::rest) (hn0:n0<=2 ^ 60)
  (h1:∀(cdv:Value) (A:Around) (outer:List Env) (s:Shared) (H:Hp) (E:XK),Room k (A.deeper (envOfC "law" (AD st) s.heap.objs.size f cdv)) ->
   PS (Cr Bn P w K mg base ("_law_script" :: "_law_feed_here"::Nr) "law" (AD st) f cdv A outer s H E).nox s1 (JU (MP (Gs K) [] E0 (KQ (BP 0) Nz)) (GR 1)))
  (h2:∀(cdv:Value) (A:Around) (outer:List Env) (s:Shared) (H:Hp) (E:XK),Room k (A.deeper (envOfC "law" (AD st) s.heap.objs.size f cdv)) ->
   MB (Cr Bn P w K mg base ("_law_script" :: "_law_feed_here"::Nr) "law" (AD st) f cdv A outer s H E).nox .sh rest wb)
  (hW:wb { nx:=λ_ _=>False,rt:=λd _=>d=.bl true } n0 (.no::.fd::Is Nr.length .no)):A1 P w K mg base Bn (k+1) f fd ["_law_script"] (IA K):=by
 refine F.ok S (λvs H Q E h=>?_) (λcdv A outer s H vs Q E hr h=>?_)
 ·obtain⟨a,ns,rfl,_⟩:=h
  rfl
 ·obtain⟨a,ns,rfl,⟨hl,hS⟩,q⟩:=h
  obtain⟨t,t1,t2⟩:=h2 cdv A outer s H E hr
  refine⟨LM (JU (MP (Gs K) [] E0 (KQ (BP 0) Nz)) (GR 1)) t,by rw [hbd]; exact Ay (h1 cdv A outer s H E hr) t1,?_⟩
  refine⟨_,rfl,a,ns,rfl,⟨hl,hS⟩,λc g H' hcg hc hg=>?_⟩
  have at_:∀(i:Nat) (sl:Slot),(Slot.no::Slot.fd::Is Nr.length Slot.no)[i]?=some sl->Slot.no=sl\/(Slot.fd=sl/\i=1):=by
   intro i sl hs
   match i,hs with
   | 0,hs=>exact .inl (Rs hs)
   | 1,hs=>exact .inr ⟨Rs hs,rfl⟩
   | i+2,hs =>
    rw [Wt,Wt,Vr] at hs
    split at hs
    ·exact .inl (Rs hs)
    ·cases hs
  have R:Rel K ⟨λb=>b=g,some (g,c),λb=>b=g,λb=>b=g,H',[],[]⟩ (λb=>b=g) H' n0 (.no::.fd::Is Nr.length .no) ((start ("_law_script" :: "_law_feed_here"::Nr) [V.ref a]).set 1 (some (.ref g))):=by
   refine⟨by simp [L2.start],λ_ z=>z,λb z=>⟨_,(congrArg H' z).trans hg⟩,Ext.refl _ _,λb z=>by rw [← Rs z],λ_ z=>z,λ_ z=>z,λb z=>?_,λi sl hs=>?_,λp hp=>absurd hp (by simp),λi d b hs _=>?_,λi sl b hs o _=>?_,λi j sl t b hs o _ _ _ _=>?_,λp hp=>absurd hp (by simp)⟩
   ·have e:(g,c)=b:=Rs z
    subst e
    exact⟨0,0,ns,hg,hcg,⟨hcg,hc⟩,hl,by decide,by omega⟩
   ·rcases at_ i sl hs with e | ⟨e,rfl⟩
    ·rw [← e]; trivial
    ·rw [← e]
     exact⟨(g,c),by simp [L2.start],rfl⟩
   ·rcases at_ i _ hs with e | ⟨e,_⟩ <;> cases e
   ·rcases at_ i sl hs with e | ⟨e,_⟩ <;> (rw [← e] at o; cases o)
   ·rcases at_ i sl hs with e | ⟨e,_⟩ <;> (rw [← e] at o; cases o)
  refine t2 _ _ H' n0 _ _ { nx:=λ_ _=>False,rt:=λd _=>d=.bl true } _ R ⟨λ_ _ _ _ _ _ z=>z.elim,λv H2 d n' _ _ r p=>?_,λ_ _ _ _ _ _ z=>z.elim,λ_ _ _ _ _ _ z=>z.elim⟩ hW
  have e:d=.bl true:=p
  subst e
  have e2:v=.bl true:=r
  subst e2
  exact q H2
end Dp
namespace L2
open PySem PySem.Spec PyProof.Rows
section
variable {X:Cx}
theorem DR:∀{us:List Value} {ys:List Str},StrsAre us ys->Vals (ys.map V.str) us
 | _,_,.nil=>.nil
 | _,_,.cons x t r=>.cons ⟨t,rfl⟩ (DR r)
noncomputable def MX(K:Frag):List V->Hp->VK->Prop:=λxs H Q=>∃(p:Addr) (ss:List Str),xs=[.ref p]/\SqL K H p (ss.map V.str)/\ss.length<64/\∀(ss':List Str) (l:Addr),ss'.Perm ss->sortedS ss'=true->H l=none->Q (.ref l) (Ac H l (.lst (ss'.map V.str)))
theorem Fn:CK X (.builtin "sorted") (MX X.K):=by
 intro pins s σ H xs us Q I r h
 obtain⟨p,ss,rfl,hq,h64,q⟩:=h
 obtain⟨u,rfl,rx⟩:=vals1 r
 cases rx
 obtain⟨its,r',pl,hz⟩:=I.list hq
 have hlen:=r'.length
 rw [Ev] at hlen
 refine sorted_strs pl.isList (E7 r') (by omega) λout ss' a1 a2 a3=>?_
 obtain⟨e,he⟩:=sortedAll_at s.heap its out
 have hl':ss'.length=ss.length:=a2.length_eq
 have hn:H (s.heap.objs.size+1)=none:=I.hok.fresh (UV _)
 refine⟨.ref (s.heap.objs.size+1),_,I.laid (t':=s.toks) (λb o z=>sortedAll_old z) (UV _) (show ObjOk X.prog X.w _ _ _ (.lst (ss'.map V.str)) from⟨?_,out.toList,e,DR a1,?_⟩),rfl,q ss' _ a2 a3 hn⟩
 ·rw [Ev,UQ]; omega
 ·exact he
noncomputable def O2:R2:=λx y H Q=>∃z k,x=.str z/\y=.int k/\MulOk z k/\Q (.str (Txt.mul z k)) H
theorem OE:OpR X (binaryOp .Mult) O2:=by
 intro pins s σ H x y v u Q I rx ry h
 obtain⟨z,k,rfl,rfl,hm,q⟩:=h
 obtain⟨t,rfl⟩:=rx
 obtain⟨t',rfl⟩:=ry
 exact SB.mul hm λt' k=>⟨.str _,H,I.tok _,⟨_,rfl⟩,q⟩
end
end L2
namespace Dp
open PySem PySem.Spec PyProof.Rows L2
section
variable {K:Frag}
noncomputable def Ep(ds:List D)(P:D->Prop):Prop:=match ds with
 | [.lst xs]=>P (.tup xs)
 | [.tup xs]=>P (.tup xs)
 | _=>False
theorem JD:Ee K .sh (λxs H Q=>∃p ys,xs=[.ref p]/\((SqL K H p ys/\∀l,H l=none->Q (.ref l) (Ac H l (.tup ys)))\/(Du K H p ys/\Q (.ref p) H))) Ep:=by
 intro U M H ds vs P Q dom vM hp w q
 unfold Ep at w
 split at w
 ·obtain⟨v,rfl,hx⟩:=FL hp
  obtain⟨a,us,rfl,_,ha,hs⟩:=hx
  exact⟨a,us,rfl,.inl ⟨.inl ha,λl hl=>q _ _ (.tup _) (Aj hl) (Df dom hl hs) w⟩⟩
 ·obtain⟨v,rfl,hx⟩:=FL hp
  obtain⟨a,us,rfl,ha,hs⟩:=hx.tup
  exact⟨a,us,rfl,.inr ⟨ha.sq,q _ H (.tup _) .refl ⟨a,us,rfl,ha,hs⟩ w⟩⟩
 ·exact w.elim
theorem Ats.strs{M:Addr->Prop}{H:Hp}:∀{ss:List Str},(∀x∈ss,x.length<=sizeLine)->Ats K M H (ss.map D.str) (ss.map V.str)
 | [],_=>rfl
 | x::r,h=>⟨.str x,r.map V.str,rfl,⟨rfl,h x Tv⟩,Ats.strs λy hy=>h y (Op _ hy)⟩
theorem Ats.strs_le{M:Addr->Prop}{H:Hp}:∀{ss:List Str} {vs:List V},Ats K M H (ss.map D.str) vs->∀x∈ss,x.length<=sizeLine
 | [],_,_=>λx hx=>by cases hx
 | y::r,vs,h=>λx hx=>by
  obtain⟨v,t,e,h1,h2⟩:=h
  rcases TM.mp hx with rfl | hx
  ·exact h1.2
  ·exact Ats.strs_le h2 x hx
noncomputable def Fc(ds:List D)(P:D->Prop):Prop:=∃(xs:List D) (ss:List Str),ds=[.lst xs]/\Be xs=some ss/\ss.length<64/\∀ss':List Str,ss'.Perm ss->sortedS ss'=true->P (.lst (ss'.map .str))
theorem K7:∀{xs:List D} {ss:List Str},Be xs=some ss->xs=ss.map .str
 | [],ss,h=>by cases h; rfl
 | .str b::r,ss,h=>by
  unfold Be at h
  obtain⟨t,e,rfl⟩:=VL.mp h
  rw [UG,← K7 e]
 | .non::r,ss,h=>by unfold Be at h; cases h
 | .int _::r,ss,h=>by unfold Be at h; cases h
 | .bl _::r,ss,h=>by unfold Be at h; cases h
 | .tup _::r,ss,h=>by unfold Be at h; cases h
 | .lst _::r,ss,h=>by unfold Be at h; cases h
 | .dic _ _::r,ss,h=>by unfold Be at h; cases h
 | .fdi _ _::r,ss,h=>by unfold Be at h; cases h
 | .dit _ _::r,ss,h=>by unfold Be at h; cases h
theorem K_:Ee K .fr (MX K) Fc:=by
 intro U M H ds vs P Q dom vM hp w q
 obtain⟨xs,ss,rfl,e,h64,w⟩:=w
 obtain⟨v,rfl,hx⟩:=FL hp
 obtain⟨a,us,rfl,_,ha,hs⟩:=hx
 have:=HZ e hs
 subst this
 have e2:=K7 e
 subst e2
 refine⟨a,ss,rfl,.inl ha,h64,λss' l h1 h2 hl=>?_⟩
 exact q _ _ _ (Aj hl) (Dg hl (Ats.strs λx hx=>hs.strs_le x (h1.mem_iff.mp hx))) (w ss' h1 h2)
noncomputable def GW(d e:D)(P:D->Prop):Prop:=match d,e with
 | .int i,.int j=>CMul i j/\P (.int (i*j))
 | .str z,.int k=>MulOk z k/\(Txt.mul z k).length<=sizeLine/\P (.str (Txt.mul z k))
 | _,_=>False
noncomputable def O3:R2:=λx y H Q=>(rI CMul λi j=>.int (i*j)) x y H Q\/O2 x y H Q
theorem Kf{X:Cx}:OpR X (binaryOp .Mult) O3:=op_mul.or OE
theorem Na:El K .sh O3 GW:=λU M H d e x y P Q dom vM hx hy w q=>by
 unfold GW at w
 split at w
 ·exact .inl (CI (K:=K) (C:=CMul) (g:=λi j=>i*j) U M H (.int _) (.int _) x y P Q dom vM hx hy w q)
 ·rename_i z k
  exact .inr ⟨z,k,hx.1,hy,w.1,q _ H (.str _) .refl ⟨rfl,w.2.1⟩ w.2.2⟩
 ·exact w.elim
end
section
variable {X:Cx}{tg e e2:Expr}{es:List Expr}{ws:Cf}{p pos:Pos}
noncomputable def Ot(ws:Cf):Cf:=λn ρ P=>ws n ρ λds n1=>∃i j:Int,ds=[.int i,.int j]/\(-(2 ^ 62)<=i/\i<2 ^ 62/\-(2 ^ 62)<=j/\j<2 ^ 62)/\P (Bg i (j - i).toNat) n1
theorem L5(hg:Gl X "range")(hm:X.mg "range"=none)(ha:Nk X [e,e2] ws)(hs:autoParam (starEach [e,e2] X.env=[(false,eval e X.env),(false,eval e2 X.env)]) zau3._auto_1)(hs2:autoParam (starEach [e2] X.env=[(false,eval e2 X.env)]) zau3._auto_1):DI X tg (.Call (.Name "range" p) [e,e2] [] pos) (Ot ws):=by
 obtain⟨t,a1,a2⟩:=ha
 refine⟨_,La hg hm a1 hs hs2,λC M H n ρ σ P Rr R w q=>?_⟩
 refine a2 C M H n ρ σ _ _ R w λvs H1 ds n1 e1 f1 r1 p=>?_
 obtain⟨i,j,rfl,hj,p⟩:=p
 cases r1 with
 | cons r rr =>
  cases rr with
  | cons r' rr =>
   cases rr
   have hv:_=V.int i:=r
   have hv':_=V.int j:=r'
   exact⟨i,j,by rw [hv,hv'],hj,q _ H1 _ n1 e1 f1 yields_range p⟩
noncomputable def Se(X:Cx)(ts:List Expr)(b:List D->List Slot->(List Slot->Prop)->Prop):Prop:=∃g,SD X ts g/\∀(C:Fm) (M:Addr->Prop) (H:Hp) (n:Nat) (ρ:List Slot) (σ:L2.St) (ds:List D) (vs:List V) (P:List Slot->Prop) (Q:L2.St->Hp->Prop),Rel X.K C M H n ρ σ->Ats X.K M H ds vs->b ds ρ P ->
 (∀ρ' σ',Rel X.K C M H n ρ' σ'->P ρ'->Q σ' H)->g vs σ H Q
noncomputable def NX:List D->List Slot->(List Slot->Prop)->Prop:=λds ρ P=>ds=[]/\P ρ
noncomputable def Fo(b:BW)(bs:List D->List Slot->(List Slot->Prop)->Prop):List D->List Slot->(List Slot->Prop)->Prop:=λds ρ P=>match ds with
 | d::r=>b d ρ λρ1=>bs r ρ1 P
 | []=>False
theorem Ob:Se X [] NX:=⟨_,N8,λC M H n ρ σ ds vs P Q R h w q=>by
 obtain⟨rfl,w⟩:=w
 exact⟨h,q ρ σ R w⟩⟩
theorem Iq{b:BW}{bs:List D->List Slot->(List Slot->Prop)->Prop}(h1:DG X e b)(h2:Se X es bs)(hs:autoParam ((assignEach (e::es) X.env).map (·.2)=assign e X.env::(assignEach es X.env).map (·.2)) zau3._auto_1):Se X (e::es) (Fo b bs):=by
 obtain⟨g,a1,a2⟩:=h1
 obtain⟨g',b1,b2⟩:=h2
 refine⟨_,Mg a1 b1 hs,λC M H n ρ σ ds vs P Q R h w q=>?_⟩
 cases ds with
 | nil=>exact w.elim
 | cons d r =>
  obtain⟨v,vr,e,hv,hr⟩:=h
  exact⟨v,vr,e,a2 C M H n ρ σ d v _ _ R hv w λρ' σ' R' w'=>b2 C M H n ρ' σ' r vr _ _ R' hr w' q⟩
noncomputable def Qs(k:Nat)(bs:List D->List Slot->(List Slot->Prop)->Prop):BW:=λd ρ P=>match d with
 | .tup ds=>ds.length=k/\bs ds ρ P
 | _=>False
theorem Qk{bs:List D->List Slot->(List Slot->Prop)->Prop}{k:Nat}{j:Nat}(hc:X.calm=true)(h:Se X es bs)(hn:autoParam ((assignEach es X.env).length=k) zau3._auto_1)(hst:autoParam ((assignEach es X.env).findIdx? (·.1)=none) zau3._auto_1):DG X (.Tuple es j pos) (Qs k bs):=by
 obtain⟨g,a1,a2⟩:=h
 refine⟨_,QE hc a1 hn hst,λC M H n ρ σ d v P Q R h w q=>?_⟩
 cases d with
 | tup ds =>
  obtain⟨a,vs,rfl,hq,hs⟩:=h
  exact⟨a,vs,rfl,hq.sq,by rw [hs.length]; exact w.1,a2 C M H n ρ σ ds vs P Q R hs w.2 q⟩
 | _=>exact w.elim
end
end Dp
namespace L2
open PySem PySem.Spec PyProof.Rows
mutual
noncomputable def RV(H:Hp):PyData->V->Prop
 | .none,v=>v=.non
 | .bool b,v=>v=.bl b
 | .int i,v=>v=.int i
 | .str x,v=>v=.str x
 | .tuple xs,v=>∃a vs,v=.ref a/\H a=some (.tup vs)/\RVs H xs vs
 | .list xs,v=>∃a vs,v=.ref a/\Rd H a (.lst vs)/\RVs H xs vs
 | .dict _,_=>False
noncomputable def RVs(H:Hp):List PyData->List V->Prop
 | [],vs=>vs=[]
 | x::xs,vs=>∃v r,vs=v::r/\RV H x v/\RVs H xs r
end
section
variable {X:Cx}{pins:List (Addr×Obj)}{σ:L2.St}{H:Hp}{s:Shared}
mutual
theorem RV.reads(I:Inv X pins σ H s):∀{d:PyData} {v:V} {u:Value},RV H d v->RelV v u->∃as,Reads s.heap u d as
 | .none,v,u,h,r=>by
  cases (show v=.non from h)
  cases (show u=T9 from r)
  exact⟨_,.none⟩
 | .bool b,v,u,h,r=>by
  cases (show v=.bl b from h)
  cases (show u=Vp b from r)
  exact⟨_,.bool b⟩
 | .int i,v,u,h,r=>by
  cases (show v=.int i from h)
  obtain⟨t,rfl⟩:=r
  exact⟨_,.int i t⟩
 | .str x,v,u,h,r=>by
  cases (show v=.str x from h)
  obtain⟨t,rfl⟩:=r
  exact⟨_,.str x t⟩
 | .tuple xs,v,u,h,r=>by
  obtain⟨a,vs,rfl,hq,hs⟩:=h
  cases r
  obtain⟨its,rv,⟨o,e,c,n,d⟩,_⟩:=I.tuple (X:=X) (xs:=vs) (.inl (.inl hq))
  obtain⟨as,ra⟩:=RVs.reads I hs rv
  exact⟨_,.tuple e c d ra⟩
 | .list xs,v,u,h,r=>by
  obtain⟨a,vs,rfl,hq,hs⟩:=h
  cases r
  obtain⟨its,rv,pl,_⟩:=I.list (X:=X) (xs:=vs) (.inl hq)
  obtain⟨o,e,c,n,d⟩:=pl.isList
  obtain⟨as,ra⟩:=RVs.reads I hs rv
  exact⟨_,.list e c d ra⟩
 | .dict _,v,u,h,r=>h.elim
theorem RVs.reads(I:Inv X pins σ H s):∀{ds:List PyData} {vs:List V} {us:List Value},RVs H ds vs->Vals vs us->∃as,ReadsAll s.heap us ds as
 | [],vs,us,h,r=>by
  cases (show vs=[] from h)
  cases r
  exact⟨_,.nil⟩
 | d::ds,vs,us,h,r=>by
  obtain⟨v,w,rfl,h1,h2⟩:=h
  cases r with
  | cons r1 r2 =>
   obtain⟨as,a1⟩:=RV.reads I h1 r1
   obtain⟨bs,a2⟩:=RVs.reads I h2 r2
   exact⟨_,.cons a1 a2⟩
end
end
theorem RV.noDict{H:Hp}:∀(d:PyData) (v:V),RV H d v->d.hasDict=false
 | d,v,h=>by
  have go:∀(n:Nat),(∀(d:PyData) (v:V),sizeOf d<=n->RV H d v->d.hasDict=false)/\∀(ds:List PyData) (vs:List V),sizeOf ds<=n->RVs H ds vs->We ds=false:=by
   intro n
   induction n with
   | zero =>
    refine⟨λd v h _=>?_,λds vs h _=>?_⟩
    ·cases d <;> simp at h
    ·cases ds <;> simp at h
   | succ n ih =>
    refine⟨λd v h hr=>?_,λds vs h hr=>?_⟩
    ·cases d with
     | tuple xs =>
      obtain⟨a,vs,_,_,hs⟩:=hr
      simp only [VU]
      exact ih.2 xs vs (by simp at h; omega) hs
     | list xs =>
      obtain⟨a,vs,_,_,hs⟩:=hr
      simp only [VU]
      exact ih.2 xs vs (by simp at h; omega) hs
     | dict kvs=>exact(show False from hr).elim
     | none=>simp only [VU]
     | bool b=>simp only [VU]
     | int i=>simp only [VU]
     | str x=>simp only [VU]
    ·cases ds with
     | nil=>simp only [We]
     | cons x xs =>
      obtain⟨v,w,_,h1,h2⟩:=hr
      simp only [We,ih.1 x v (by simp at h; omega) h1,ih.2 xs w (by simp at h; omega) h2,Bool.or_false]
  exact(go (sizeOf d)).1 d v (Go _) h
section
variable {X:Cx}
noncomputable def O1:List V->Hp->VK->Prop:=λxs H Q=>∃x d,xs=[x]/\RV H d x/\d.showable=true/\d.depth<=100/\d.shown.length<=sizeLine/\Q (.str d.shown) H
theorem Cp{k:Nat}(hr:Room k X.A):CK X (.builtin "repr") O1:=by
 intro pins s σ H xs us Q I r h
 obtain⟨x,d,rfl,hx,hs,hd,hz,q⟩:=h
 obtain⟨u,rfl,rx⟩:=vals1 r
 have hu:=hr.un
 cases d with
 | none =>
  cases (show x=.non from hx)
  cases (show u=T9 from rx)
  exact PySem.P.repr_of_none ⟨.str _,H,I.tok _,⟨_,rfl⟩,q⟩
 | bool b =>
  cases (show x=.bl b from hx)
  cases (show u=Vp b from rx)
  refine PySem.P.repr_of_bool ⟨.str _,H,I.tok _,⟨_,rfl⟩,?_⟩
  have e:PyData.shown (.bool b)=if b then ("True" : Str) else "False":=by cases b <;> rfl
  rw [e] at q
  exact q
 | int i =>
  cases (show x=.int i from hx)
  obtain⟨t,rfl⟩:=rx
  refine PySem.P.repr_of_int (by simpa [PyData.showable] using hs) ⟨.str _,H,I.tok _,⟨_,rfl⟩,q⟩
 | str z =>
  cases (show x=.str z from hx)
  obtain⟨t,rfl⟩:=rx
  exact PySem.P.repr_of_str ⟨.str _,H,I.tok _,⟨_,rfl⟩,q⟩ hz
 | tuple ds =>
  obtain⟨as,ra⟩:=RV.reads I hx rx
  obtain⟨a,vs,rfl,_⟩:=id hx
  cases rx
  refine repr_of_reads' ra hs (PyData.noDict_hsm (RV.noDict _ _ hx)) hr.gd (by omega) (λ_ _ e=>e) (λh' u tk hk=>⟨.str _,H,I.kept (t':=tk) hk,⟨_,rfl⟩,q⟩) hz
 | list ds =>
  obtain⟨as,ra⟩:=RV.reads I hx rx
  obtain⟨a,vs,rfl,_⟩:=id hx
  cases rx
  refine repr_of_reads' ra hs (PyData.noDict_hsm (RV.noDict _ _ hx)) hr.gd (by omega) (λ_ _ e=>e) (λh' u tk hk=>⟨.str _,H,I.kept (t':=tk) hk,⟨_,rfl⟩,q⟩) hz
 | dict _=>exact(show False from hx).elim
noncomputable def Rf:R2:=λx y H Q=>∃d e,RV H d x/\RV H e y/\d.canLay0=true/\e.canLay0=true/\d.depth<=100/\Q (.bl (Ud d e)) H
theorem QP{k:Nat}(hr:Room k X.A):OpR X (compareOp .Eq) Rf:=by
 intro pins s σ H x y v u Q I rx ry h
 obtain⟨d,e,hx,hy,h1,h2,hd,q⟩:=h
 obtain⟨as,ra⟩:=RV.reads I hx rx
 obtain⟨bs,rb⟩:=RV.reads I hy ry
 have hu:=hr.un
 have hm:min d.depth e.depth<=d.depth:=Nat.min_le_left _ _
 exact PySem.SeqAt.compareEq_reads ra rb h1 h2 (by omega) ⟨.bl _,H,I,rfl,q⟩
noncomputable def P6(neg:Bool):R2:=λx y H Q=>∃d es,RV H d x/\(RV H (.list es) y\/RV H (.tuple es) y)/\d.canLay0=true/\VO es=true/\d.depth<=100/\Q (.bl (if neg then !(es.any λy=>Ud y d) else es.any λy=>Ud y d)) H
theorem QO{k:Nat}(hr:Room k X.A):OpR X (compareOp .In) (P6 false):=by
 intro pins s σ H x y v u Q I rx ry h
 obtain⟨d,es,hx,hy,h1,h2,hd,q⟩:=h
 obtain⟨as,ra⟩:=RV.reads I hx rx
 have hu:=hr.un
 have hm:min (Um es) d.depth<=d.depth:=Wk _ _
 rcases hy with hy | hy
 ·obtain⟨bs,rb⟩:=RV.reads I hy ry
  exact PySem.SeqAt.in_list_reads rb ra h2 h1 (by omega) ⟨.bl _,H,I,rfl,q⟩
 ·obtain⟨bs,rb⟩:=RV.reads I hy ry
  exact PySem.SeqAt.in_tuple_reads rb ra h2 h1 (by omega) ⟨.bl _,H,I,rfl,q⟩
theorem Ld{k:Nat}(hr:Room k X.A):OpR X (compareOp .NotIn) (P6 true):=by
 intro pins s σ H x y v u Q I rx ry h
 obtain⟨d,es,hx,hy,h1,h2,hd,q⟩:=h
 obtain⟨as,ra⟩:=RV.reads I hx rx
 have hu:=hr.un
 have hm:min (Um es) d.depth<=d.depth:=Wk _ _
 rcases hy with hy | hy
 ·obtain⟨bs,rb⟩:=RV.reads I hy ry
  exact PySem.SeqAt.notIn_list_reads rb ra h2 h1 (by omega) ⟨.bl _,H,I,rfl,q⟩
 ·obtain⟨bs,rb⟩:=RV.reads I hy ry
  exact PySem.SeqAt.notIn_tuple_reads rb ra h2 h1 (by omega) ⟨.bl _,H,I,rfl,q⟩
end
end L2
namespace Dp
open PySem PySem.Spec PyProof.Rows L2
mutual
noncomputable def toPy:D->PyData
 | .non=>.none
 | .bl b=>.bool b
 | .int i=>.int i
 | .str x=>.str x
 | .tup ds=>.tuple (Ak ds)
 | .lst ds=>.list (Ak ds)
 | .dic _ _=>.dict []
 | .fdi _ _=>.dict []
 | .dit _ _=>.dict []
noncomputable def Ak:List D->List PyData
 | []=>[]
 | d::ds=>toPy d::Ak ds
end
mutual
noncomputable def ER:D->Bool
 | .tup ds=>CD ds
 | .lst ds=>CD ds
 | .dic _ _=>false
 | .fdi _ _=>false
 | .dit _ _=>false
 | _=>true
noncomputable def CD:List D->Bool
 | []=>true
 | d::ds=>ER d&&CD ds
end
theorem GD(ds:List D):Ak ds=ds.map toPy:=by
 induction ds with
 | nil=>rfl
 | cons d r ih=>rw [Ak,ih,UG]
section
variable {K:Frag}{M:Addr->Prop}{H:Hp}
mutual
theorem At.rv:∀{d:D} {v:V},At K M H d v->ER d=true->RV H (toPy d) v
 | .non,v,h,_=>h
 | .bl b,v,h,_=>h
 | .int i,v,h,_=>h
 | .str x,v,h,_=>h.1
 | .tup ds,v,h,n=>by
  obtain⟨a,vs,e,hn,hs⟩:=h
  exact⟨a,vs,e,hn,Ats.rv hs n⟩
 | .lst ds,v,h,n=>by
  obtain⟨a,vs,e,hn,hs⟩:=h
  exact⟨a,vs,e,.inl hn.2,Ats.rv hs n⟩
 | .dic ks ds,v,h,n=>by cases n
 | .fdi ks ds,v,h,n=>by cases n
 | .dit ks ds,v,h,n=>by cases n
theorem Ats.rv:∀{ds:List D} {vs:List V},Ats K M H ds vs->CD ds=true->RVs H (Ak ds) vs
 | [],vs,h,_=>h
 | d::ds,vs,h,n=>by
  obtain⟨v,r,e,h1,h2⟩:=h
  have n':(ER d&&CD ds)=true:=n
  rw [Tu] at n'
  exact⟨v,r,e,At.rv h1 n'.1,Ats.rv h2 n'.2⟩
end
theorem AtT.rv{U:Addr->Prop}{d:D}{v:V}(h:AtT K U M H d v)(n:ER d=true):RV H (toPy d) v:=by
 cases d with
 | lst ds =>
  obtain⟨a,vs,e,_,hq,hs⟩:=h
  exact⟨a,vs,e,hq,Ats.rv hs n⟩
 | dic ks ds=>cases n
 | fdi ks ds=>cases n
 | dit ks ds=>cases n
 | non=>exact h
 | bl b=>exact h
 | int i=>exact h
 | str x=>exact h.1
 | tup ds=>exact At.rv (K:=K) (M:=M) (d:=.tup ds) h n
noncomputable def KS(d:D):Prop:=ER d=true/\(toPy d).showable=true/\(toPy d).depth<=100/\(toPy d).shown.length<=sizeLine
noncomputable def Gw(d:D):Str:=(toPy d).shown
noncomputable def Ih(ds:List D)(P:D->Prop):Prop:=∃d,ds=[d]/\KS d/\P (.str (Gw d))
theorem Hc:Ee K .sh O1 Ih:=by
 intro U M H ds vs P Q dom vM hp w q
 obtain⟨d,rfl,hd,w⟩:=w
 obtain⟨v,rfl,hx⟩:=FL hp
 exact⟨v,toPy d,rfl,hx.rv hd.1,hd.2.1,hd.2.2.1,hd.2.2.2,q _ H (.str (Gw d)) .refl ⟨rfl,hd.2.2.2⟩ w⟩
noncomputable def Ej(d:D):Prop:=ER d=true/\(toPy d).canLay0=true/\(toPy d).depth<=100
noncomputable def Ij(d e:D):Bool:=Ud (toPy d) (toPy e)
noncomputable def Rv(d e:D)(P:D->Prop):Prop:=Ej d/\Ej e/\P (.bl (Ij d e))
theorem R8:El K .sh Rf Rv:=λU M H d e x y P Q dom vM hx hy w q =>
 ⟨toPy d,toPy e,hx.rv w.1.1,hy.rv w.2.1.1,w.1.2.1,w.2.1.2.1,w.1.2.2,q _ H (.bl (Ij d e)) .refl rfl w.2.2⟩
noncomputable def JZ:D->Option (List D)
 | .lst ds=>some ds
 | .tup ds=>some ds
 | _=>none
noncomputable def Qg(neg:Bool)(d e:D)(P:D->Prop):Prop:=Ej d/\Ej e/\∃es,JZ e=some es/\P (.bl (if neg then !(es.any λy=>Ij y d) else es.any λy=>Ij y d))
theorem Pb{neg:Bool}:El K .sh (P6 neg) (Qg neg):=λU M H d e x y P Q dom vM hx hy w q=>by
 obtain⟨h1,h2,es,he,w⟩:=w
 have any_eq:∀es:List D,(es.map toPy).any (λy=>Ud y (toPy d))=es.any λy=>Ij y d:=λes=>by rw [List.any_map]; rfl
 cases e with
 | lst ds =>
  cases he
  refine⟨toPy d,Ak es,hx.rv h1.1,.inl (hy.rv h2.1),h1.2.1,by simpa [toPy,PyData.canLay0] using h2.2.1,h1.2.2,?_⟩
  rw [GD,any_eq]
  exact q _ H (.bl _) .refl rfl w
 | tup ds =>
  cases he
  refine⟨toPy d,Ak es,hx.rv h1.1,.inr (hy.rv h2.1),h1.2.1,by simpa [toPy,PyData.canLay0] using h2.2.1,h1.2.2,?_⟩
  rw [GD,any_eq]
  exact q _ H (.bl _) .refl rfl w
 | _=>cases he
end
end Dp
namespace L2
open PySem PySem.Spec PyProof.Rows
end L2
namespace Dp
open PySem PySem.Spec PyProof.Rows L2
end Dp
namespace L2
open PySem PySem.Spec PyProof.Rows
noncomputable def kOf:Key->V
 | .inl i=>.int i
 | .inr x=>.str x
noncomputable def SR:Key->Key->Bool
 | .inl i,.inl j=>decide (i<j)
 | .inr x,.inr y=>decide (x.cps.toList<y.cps.toList)
 | _,_=>false
noncomputable def GI:Key->Key->Bool
 | .inl _,.inl _=>true
 | .inr _,.inr _=>true
 | _,_=>false
noncomputable def DD:List Key->List Key->Bool
 | [],[]=>false
 | [],_::_=>true
 | _::_,[]=>false
 | x::xs,y::ys=>if x=y then DD xs ys else SR x y
noncomputable def BJ:List Key->List Key->Bool
 | x::xs,y::ys=>GI x y&&BJ xs ys
 | _,_=>true
theorem NL{A:Around}{s:Shared}{x y:Key}{u v:Value}(rx:RelV (kOf x) u)(ry:RelV (kOf y) v):∃e,SeqAt.EqAt A s u v e/\(e=true↔x=y):=by
 cases x with
 | inl i =>
  cases y with
  | inl j=>exact⟨_,HL rx ry rfl rfl,by simp [kOf,Rw]⟩
  | inr z=>exact⟨_,HL rx ry rfl rfl,by simp [kOf,Rw]⟩
 | inr z =>
  cases y with
  | inl j=>exact⟨_,HL rx ry rfl rfl,by simp [kOf,Rw]⟩
  | inr z'=>exact⟨_,HL rx ry rfl rfl,by simp [kOf,Rw]⟩
theorem MW(A:Around)(s:Shared){x y:Key}{u v:Value}(rx:RelV (kOf x) u)(ry:RelV (kOf y) v)(hs:GI x y=true)(prog:Program)(w:World)(E:Value->Shared->Prop)(Q:Value->Shared->Prop)(h:Q (.bool (SR x y)) s) :
  wpAny (model prog w) A (richCompare .Lt u v) Q E s:=by
 cases x with
 | inl i =>
  cases y with
  | inl j =>
   obtain⟨t,rfl⟩:=rx
   obtain⟨t',rfl⟩:=ry
   exact(Ww h:wpAny (model prog w) A (compareOp .Lt (.int i t) (.int j t')) Q E s)
  | inr z=>cases hs
 | inr z =>
  cases y with
  | inl j=>cases hs
  | inr z' =>
   obtain⟨t,rfl⟩:=rx
   obtain⟨t',rfl⟩:=ry
   exact(PySem.P.lt_str h:wpAny (model prog w) A (compareOp .Lt (.str z t) (.str z' t')) Q E s)
section
open PySem.SeqAt
open PySem.AutoSeq1 (wpAny_loadPart')
open PySem.MeetsSeq PySem.MeetsSeq2 PySem.MeetsSeq3
theorem F3(l b:Addr)(items items2:Array Value)(n n2:Nat)(dd dd2:Option Addr)(sl sl2:Array (Option Value))(ns ms:List Key)(hi:Vals (ns.map kOf) items.toList)(hj:Vals (ms.map kOf) items2.toList)(hsame:BJ ns ms=true) :
  Meets (Builtin.«tuple.__lt__» ⟨[.ref l,.ref b],[]⟩)
   (λ_ R s=>s.heap.get? l=some { cls:=.type "tuple",dict:=dd,data:=.seq items n,slots:=sl }/\s.heap.get? b=some { cls:=.type "tuple",dict:=dd2,data:=.seq items2 n2,slots:=sl2 } /\
    R (.ok (.ret (.bool (DD ns ms)))) s) :=
 .of_wp λprog w A R s h=>by
  obtain⟨hp,g,d,tk,os⟩:=s; obtain⟨hl,hb,h⟩:=h
  have f2:=AutoSeq1.sub_tuple_tuple
  have z1:items.size=ns.length:=by have:=hi.length; rw [Ev] at this; rw [this]; simp
  have z2:items2.size=ms.length:=by have:=hj.length; rw [Ev] at this; rw [this]; simp
  wp_walk using wpAny_loadPart' hl,wpAny_loadPart' hb,wpAny_forIn_list _ (λrest b s'=>b.1=none/\s'=⟨hp,g,d,tk,os⟩/\∃(vs ws:List Value) (ns' ms':List Key),rest=vs.zip ws /\
   Vals (ns'.map kOf) vs/\Vals (ms'.map kOf) ws/\BJ ns' ms'=true/\ns'.length+items2.size=ms'.length+items.size/\R (.ok (.ret (.bool (DD ns' ms')))) ⟨hp,g,d,tk,os⟩) _
  case turn =>
   rintro ⟨y,x⟩ rest b s' ⟨hb',rfl,vs,ws,ns',ms',hz,hvi,hwi,hsm,hlen,hR⟩
   cases ns' with
   | nil=>cases hvi; rw [List.zip_nil_left] at hz; cases hz
   | cons a ns' =>
    cases ms' with
    | nil=>cases hwi; rw [List.zip_nil_right] at hz; cases hz
    | cons c ms' =>
     rw [UG] at hvi hwi
     cases hvi with
     | cons ra hvi' =>
      cases hwi with
      | cons rc hwi' =>
       rw [Vl] at hz
       injection hz with hyx hrest
       injection hyx with hy hx
       subst hy hx
       have hR':R (.ok (.ret (.bool (if a=c then DD ns' ms' else SR a c)))) ⟨hp,g,d,tk,os⟩:=hR
       have hsm':(GI a c&&BJ ns' ms')=true:=hsm
       rw [Tu] at hsm'
       simp only [Tk] at hlen
       obtain⟨e,he,hiff⟩:=NL (A:=A.in1) (s:=⟨hp,g,d,tk,os⟩) ra rc
       refine Ch (he prog w _ _ ?_)
       cases e with
       | true =>
        rw [if_pos (hiff.mp rfl)] at hR'
        wp_walk
        exact⟨rfl,rfl,_,_,_,_,hrest,hvi',hwi',hsm'.2,by omega,hR'⟩
       | false =>
        rw [if_neg (λq=>absurd (hiff.mpr q) TW)] at hR'
        have hri:=MW A.in1 ⟨hp,g,d,tk,os⟩ ra rc hsm'.1 prog w
        wp_walk using hri
        exact⟨_,rfl,by simpa using hR'⟩
  case fin =>
   rintro ⟨b1,b2⟩ s' ⟨hb',rfl,vs,ws,ns',ms',hz,hvi,hwi,hsm,hlen,hR⟩
   simp only at hb'
   subst hb'
   have hv:DD ns' ms'=decide (items.size<items2.size):=by
    cases ns' with
    | nil =>
     cases ms' with
     | nil =>
      simp only [Ub] at hlen
      exact(decide_eq_false (by omega)).symm
     | cons c u =>
      simp only [Ub,Tk] at hlen
      exact(decide_eq_true (by omega)).symm
    | cons a t =>
     cases ms' with
     | nil =>
      simp only [Ub,Tk] at hlen
      exact(decide_eq_false (by omega)).symm
     | cons c u =>
      rw [UG] at hvi hwi
      cases hvi
      cases hwi
      rw [Vl] at hz
      cases hz
   rw [hv] at hR
   wp_walk
   exact⟨_,rfl,by simpa [Builtin.Tuple.tupleCompareSizes] using hR⟩
  case h =>
   exact⟨rfl,rfl,items.toList,items2.toList,ns,ms,rfl,hi,hj,hsame,by omega,h⟩
end
section
variable {X:Cx}
noncomputable def RY(K:Frag):R2:=λx y H Q=>∃a b ns ms,x=.ref a/\y=.ref b/\Du K H a (ns.map kOf)/\Du K H b (ms.map kOf)/\BJ ns ms=true/\Q (.bl (DD ns ms)) H
theorem QM(hu:X.A.units<cLine):OpR X (compareOp .Lt) (RY X.K):=by
 intro pins s σ H x y v u Q I rx ry h
 obtain⟨a,b,ns,ms,rfl,rfl,ha,hb,hsm,q⟩:=h
 cases rx
 cases ry
 obtain⟨its,r1,p1,_⟩:=I.tuple ha
 obtain⟨its2,r2,p2,_⟩:=I.tuple hb
 obtain⟨⟨cls,dd,data,sl⟩,ho,hc,n,hd⟩:=id p1
 obtain⟨⟨cls2,dd2,data2,sl2⟩,ho2,hc2,n2,hd2⟩:=id p2
 simp only at hc hd hc2 hd2
 subst hc hd hc2 hd2
 exact richCompare_meets_room (op:=.Lt) ⟨_,ho,rfl⟩ ⟨_,ho2,rfl⟩ PySem.F.slot_tuple_lt PySem.F.entry_tuple_lt (PySem.F.args_tuple_lt_2 _ _) (F3 a b its.toArray its2.toArray n n2 dd dd2 sl sl2 ns ms r1 r2 hsm)
  ⟨ho,ho2,show Vp (DD ns ms)≠W5/\EP X pins σ Q (.bool (DD ns ms)) s from⟨(λx=>nomatch x),⟨.bl _,H,I,rfl,q⟩⟩⟩ hu
end
noncomputable def ItAt(κ:Bool)(h:Heap)(it l:Addr)(k:Nat):Prop:=match κ with
 | true=>h.IsListIter it l k
 | false=>h.IsTupleIter it l k
noncomputable def SqAt(κ:Bool)(h:Heap)(l:Addr)(items:Array Value):Prop:=match κ with
 | true=>h.IsList l items
 | false=>h.IsTuple l items
section
variable {κ:Bool}{h h':Heap}{it l b:Addr}{k:Nat}{items:Array Value}
theorem ItAt.mv(x:ItAt κ h it l k)(e:∀o,h.get? it=some o->h'.get? it=some o):ItAt κ h' it l k:=by
 cases κ with
 | true=>obtain⟨o,ho,r⟩:=x; exact⟨o,e o ho,r⟩
 | false=>obtain⟨o,ho,r⟩:=x; exact⟨o,e o ho,r⟩
theorem SqAt.mv(x:SqAt κ h l items)(e:∀o,h.get? l=some o->h'.get? l=some o):SqAt κ h' l items:=by
 cases κ with
 | true=>obtain⟨o,ho,r⟩:=x; exact⟨o,e o ho,r⟩
 | false=>obtain⟨o,ho,r⟩:=x; exact⟨o,e o ho,r⟩
theorem ItAt.eb(x:ItAt κ h it l k)(hs:Heap.ExtBut b h h')(n:it≠b):ItAt κ h' it l k:=x.mv λo e=>hs it o n e
theorem SqAt.eb(x:SqAt κ h l items)(hs:Heap.ExtBut b h h')(n:l≠b):SqAt κ h' l items:=x.mv λo e=>hs l o n e
theorem ItAt.lies(x:ItAt κ h it l k):∃o,h.get? it=some o/\∀v,o.data≠.cell v:=by
 cases κ with
 | true=>obtain⟨o,ho,_,d⟩:=x; exact⟨o,ho,λv z=>by rw [d] at z; cases z⟩
 | false=>obtain⟨o,ho,_,d⟩:=x; exact⟨o,ho,λv z=>by rw [d] at z; cases z⟩
theorem SqAt.lies(x:SqAt κ h l items):∃o,h.get? l=some o:=by
 cases κ with
 | true=>obtain⟨o,ho,_⟩:=x; exact⟨o,ho⟩
 | false=>obtain⟨o,ho,_⟩:=x; exact⟨o,ho⟩
end
section
variable {prog:Program}{w:World}{A:Around}{E:Value->Shared->Prop}{s:Shared}
theorem EH{κ:Bool}{it l:Addr}{i:Nat}{items:Array Value}{x:Value}{Q:Value->Shared->Prop}(hit:ItAt κ s.heap it l i)(hl:SqAt κ s.heap l items)(hx:items[i]?=some x)
  (hQ:∀h',ItAt κ h' it l (i+1)->V6 it s.heap h'->Q x { s with heap:=h' }):wpAny (model prog w) A (UP (.ref it)) Q E s:=by
 cases κ with
 | true=>exact wpAny_nextOf_list_item hit hl hx hQ
 | false =>
  have hit':s.heap.IsTupleIter it l i:=hit
  have hl':s.heap.IsTuple l items:=hl
  obtain⟨o,ho,hc,hd⟩:=id hit'; obtain⟨ol,hol,_,nl,hdl⟩:=hl'
  unfold UP
  refine Ch (UW (name:=UM "__next__") hit'.typeIs U4 (Uv U4 hit'.typeIs WR ?_ (WM _)))
  show wpAny (model prog w) _ (field (.ref it) 0 >>= _) _ _ s; refine Ch (UE ho hd (x:=.ref l) rfl ?_)
  show wpAny (model prog w) _ (if (Sc l==T9)=true then _ else _) _ _ s; rw [if_neg (show ¬((Sc l==T9)=true) from TW)]
  show wpAny (model prog w) _ (field (.ref it) 1 >>= _) _ _ s; refine Ch (UE ho hd (x:=.int i 0) rfl ?_)
  show wpAny (model prog w) _ (seqItems? (.ref l) >>= _) _ _ s; refine Ch (Uw hol hdl ?_); simp only [VN,hx]
  refine Ch (VT ho hd (by simp) (Db ⟨x,rfl,Db (hQ _ (show Heap.IsTupleIter _ it l (i+1) from ?_) (W_ ..))⟩))
  exact⟨_,Ue _ ho (Obj.isFreed_of_fields (Vk hd _)),(Obj.cls_mapFields ..).trans hc,by(rw [Vk hd]; simp [rawInt])⟩
theorem Io{κ:Bool}{it l:Addr}{i:Nat}{items:Array Value}{Q:Value->Shared->Prop}(hh:A.handled=none)(hit:ItAt κ s.heap it l i)(hl:SqAt κ s.heap l items)(hx:items[i]?=none)
  (hE:∀h' e,Heap.ExtBut it s.heap h'->(∃o,h'.get? e=some o/\o.cls=.type "StopIteration")->E (.ref e) { s with heap:=h' }):wpAny (model prog w) A (UP (.ref it)) Q E s:=by
 cases κ with
 | true=>exact wpAny_nextOf_list_end hh hit hl hx hE
 | false =>
  have hit':s.heap.IsTupleIter it l i:=hit
  have hl':s.heap.IsTuple l items:=hl
  obtain⟨o,ho,hc,hd⟩:=id hit'; obtain⟨ol,hol,_,nl,hdl⟩:=hl'
  unfold UP
  refine Ch (UW (name:=UM "__next__") hit'.typeIs U4 (Uv U4 hit'.typeIs WR ?_ (WM _)))
  show wpAny (model prog w) _ (field (.ref it) 0 >>= _) _ _ s; refine Ch (UE ho hd (x:=.ref l) rfl ?_)
  show wpAny (model prog w) _ (if (Sc l==T9)=true then _ else _) _ _ s; rw [if_neg (show ¬((Sc l==T9)=true) from TW)]
  show wpAny (model prog w) _ (field (.ref it) 1 >>= _) _ _ s; refine Ch (UE ho hd (x:=.int i 0) rfl ?_)
  show wpAny (model prog w) _ (seqItems? (.ref l) >>= _) _ _ s; refine Ch (Uw hol hdl ?_); simp only [VN,hx]
  refine Ch (VW (Ch (VT ho hd (by simp) ?_))); show wpAny (model prog w) _ (newExc (.type "StopIteration") [] >>= _) _ _ _
  refine Ch ?_; simp only [newExc,newTuple]; refine Ch (UO ?_ (by size_fits))
  refine Ch (m:=firstArgMember _ _) (wpAny_of_eq (a:=T9) (by first | rfl | (simp only [firstArgMember]; rfl)) ?_); refine UO ?_ (by size_fits)
  simp only [raiseNew]; refine Ch (wpAny_handled ?_); first | rw [show A.in1.handled=none from hh] | rw [hh]
  refine Ch (Db (wpAny_throw ?_)); exact hE _ _ (((W_ ..).extBut.push _).push _) ⟨_,On _ rfl,rfl⟩
structure Q8 (z TI TO i1 i2 l1 l2:Addr):Prop where
 TIz:TI≠z
 TOz:TO≠z
 i1z:i1≠z
 i2z:i2≠z
 TOi1:TO≠i1
 TOi2:TO≠i2
 i12:i1≠i2
 l1z:l1≠z
 l1TO:l1≠TO
 l1i1:l1≠i1
 l1i2:l1≠i2
 l2z:l2≠z
 l2TO:l2≠TO
 l2i1:l2≠i1
 l2i2:l2≠i2
theorem ME{κ1 κ2:Bool}{z TI TO i1 i2 l1 l2:Addr}{k:Nat}{xs ys:Array Value}{x y a b:Value}{Q:Value->Shared->Prop}(D:Q8 z TI TO i1 i2 l1 l2)
  (hz:IsZip s.heap z TI TO .none) (hTI:IsPair s.heap TI (.ref i1) (.ref i2)) (hTO:IsPair s.heap TO a b) (h1:ItAt κ1 s.heap i1 l1 k) (h2:ItAt κ2 s.heap i2 l2 k) (hl1:SqAt κ1 s.heap l1 xs) (hl2:SqAt κ2 s.heap l2 ys) (hx:xs[k]?=some x) (hy:ys[k]?=some y)
  (hQ:∀h',IsZip h' z TI TO (rawInt s.heap.objs.size)->IsPair h' TO x y->ItAt κ1 h' i1 l1 (k+1)->ItAt κ2 h' i2 l2 (k+1)->IsPair h' s.heap.objs.size x y->h'.objs.size=s.heap.objs.size+1->(∀c o,c≠z->c≠TO->c≠i1->c≠i2->s.heap.get? c=some o->h'.get? c=some o)->Q (.ref s.heap.objs.size) { s with heap:=h' }) :
  wpAny (model prog w) A (Builtin.«zip.__next__» ⟨[.ref z],[]⟩) (λfin s'=>∃v,fin=.done (.ret v)/\Q v s') E s:=by
 show wpAny (model prog w) A (field (.ref z) 2 >>= _) _ _ _; refine Ch (UE hz rfl (x:=.bool false) rfl ?_)
 show wpAny (model prog w) A (field (.ref z) 3 >>= _) _ _ _; refine Ch (UE hz rfl (x:=.ref TI) rfl ?_); refine Ch (Uw hTI rfl ?_)
 show wpAny (model prog w) A (Ui (.ref z) >>= _) _ _ _; refine Ch ?_; unfold Ui
 refine Ch (UE hz rfl (x:=.none) rfl (Db ?_)); simp only [if_true]; refine Ch (VW ?_); refine Ch (UE hz rfl (x:=.ref TO) rfl ?_)
 refine Ch (Uz hz (by simp) λha hza hsa=>?_)
 replace hza:IsZip ha z TI TO .ellipsis:=hza
 refine Ch ?_; simp only [List.zipIdx_cons,List.zipIdx_nil,WB,List.forIn_nil]
 refine Ch (Ch (Vy ?_)); show wpAny (model prog w) _ (UP (.ref i1) >>= _) _ _ _
 refine Ch (EH (h1.eb hsa.extBut D.i1z) (hl1.eb hsa.extBut D.l1z) hx λhb h1b hsb=>Db ?_)
 have hTOb:IsPair hb TO a b:=hsb.extBut _ _ D.TOi1 (hsa.extBut _ _ D.TOz hTO)
 refine Ch (Uw hTOb rfl ?_); refine Ch (WF hTOb λhc hTOc hsc=>?_)
 replace hTOc:IsPair hc TO x b:=hTOc
 refine Ch (Wz (Db ?_)); refine Ch (Ch (Vy ?_)); show wpAny (model prog w) _ (UP (.ref i2) >>= _) _ _ _
 refine Ch (EH (((h2.eb hsa.extBut D.i2z).eb hsb.extBut D.i12.symm).eb hsc.extBut D.TOi2.symm) (((hl2.eb hsa.extBut D.l2z).eb hsb.extBut D.l2i1).eb hsc.extBut D.l2TO) hy λhd h2d hsd=>Db ?_)
 have hTOd:IsPair hd TO x b:=hsd.extBut _ _ D.TOi2 hTOc
 refine Ch (Uw hTOd rfl ?_); refine Ch (WF hTOd λhe hTOe hse=>?_)
 replace hTOe:IsPair he TO x y:=hTOe
 refine Ch (Wz (Db (Db ?_))); refine Ch (Uw hTOe rfl ?_); refine Ch (wpAny_newTuple ?_)
 have hsz:he.objs.size=s.heap.objs.size:=by rw [hse.1,hsd.1,hsc.1,hsb.1,hsa.1]
 have hze:IsZip he z TI TO .ellipsis:=hse.extBut _ _ D.TOz.symm (hsd.extBut _ _ D.i2z.symm (hsc.extBut _ _ D.TOz.symm (hsb.extBut _ _ D.i1z.symm hza)))
 have hke:∀c o,c≠z->c≠TO->c≠i1->c≠i2->s.heap.get? c=some o->he.get? c=some o:=λc o c1 c2 c3 c4 e=>hse.extBut _ _ c2 (hsd.extBut _ _ c4 (hsc.extBut _ _ c2 (hsb.extBut _ _ c3 (hsa.extBut _ _ c1 e))))
 have h1e:ItAt κ1 he i1 l1 (k+1):=((h1b.eb hsc.extBut D.TOi1.symm).eb hsd.extBut D.i12).eb hse.extBut D.TOi1.symm
 have h2e:ItAt κ2 he i2 l2 (k+1):=h2d.eb hse.extBut D.TOi2.symm
 have hzlt:z<he.objs.size:=FM hze
 show wpAny (model prog w) _ (Vm (.ref z) (.ref he.objs.size) >>= _) _ _ _; refine Ch ?_; unfold Vm
 have hzf:IsZip (he.push { cls:=.type "tuple",data:=.seq #[x,y] }) z TI TO .ellipsis:=Cn _ hze
 refine Ch (Uz hzf (by simp) λhg hzg hsg=>?_)
 replace hzg:IsZip hg z TI TO (rawInt he.objs.size):=hzg
 refine Uz hzg (by simp) λhi hzi hsi=>?_
 replace hzi:IsZip hi z TI TO (rawInt he.objs.size):=hzi
 have up:∀c o,c≠z->he.get? c=some o->hi.get? c=some o:=λc o c1 e=>hsi.extBut _ _ c1 (hsg.extBut _ _ c1 (Cn _ e))
 have hTi:IsPair hi he.objs.size x y:=hsi.extBut _ _ (Uy hzlt) (hsg.extBut _ _ (Uy hzlt) (On _ rfl))
 have hzs:hi.objs.size=he.objs.size+1:=by rw [hsi.1,hsg.1,UZ]
 rw [hsz] at hzi hTi hzs
 refine Db ⟨_,rfl,?_⟩
 show Q (.ref he.objs.size) _; rw [hsz]
 exact hQ hi hzi (up _ _ D.TOz hTOe) (h1e.mv λo e=>up _ o D.i1z e) (h2e.mv λo e=>up _ o D.i2z e) hTi hzs λc o c1 c2 c3 c4 e=>up c o c1 (hke c o c1 c2 c3 c4 e)
theorem Nm{κ1 κ2:Bool}{z TI TO i1 i2 l1 l2:Addr}{k:Nat}{xs ys:Array Value}{a b:Value}{Q:Fin->Shared->Prop}(hh:A.handled=none)(D:Q8 z TI TO i1 i2 l1 l2)
  (hz:IsZip s.heap z TI TO .none) (hTI:IsPair s.heap TI (.ref i1) (.ref i2)) (hTO:IsPair s.heap TO a b) (h1:ItAt κ1 s.heap i1 l1 k) (h2:ItAt κ2 s.heap i2 l2 k) (hl1:SqAt κ1 s.heap l1 xs) (hl2:SqAt κ2 s.heap l2 ys) (hend:xs[k]?=none\/ys[k]?=none)
  (hE:∀h' e,(∀c o,c≠z->c≠TO->c≠i1->c≠i2->s.heap.get? c=some o->h'.get? c=some o)->(∃o,h'.get? e=some o/\o.cls=.type "StopIteration")->E (.ref e) { s with heap:=h' }) :
  wpAny (model prog w) A (Builtin.«zip.__next__» ⟨[.ref z],[]⟩) Q E s:=by
 show wpAny (model prog w) A (field (.ref z) 2 >>= _) _ _ _; refine Ch (UE hz rfl (x:=.bool false) rfl ?_)
 show wpAny (model prog w) A (field (.ref z) 3 >>= _) _ _ _; refine Ch (UE hz rfl (x:=.ref TI) rfl ?_); refine Ch (Uw hTI rfl ?_)
 show wpAny (model prog w) A (Ui (.ref z) >>= _) _ _ _; refine Ch ?_; unfold Ui
 refine Ch (UE hz rfl (x:=.none) rfl (Db ?_)); simp only [if_true]; refine Ch (VW ?_); refine Ch (UE hz rfl (x:=.ref TO) rfl ?_)
 refine Ch (Uz hz (by simp) λha hza hsa=>?_)
 replace hza:IsZip ha z TI TO .ellipsis:=hza
 refine Ch ?_; simp only [List.zipIdx_cons,List.zipIdx_nil,WB,List.forIn_nil]
 refine Ch (Ch (Vy ?_)); show wpAny (model prog w) _ (UP (.ref i1) >>= _) _ _ _
 cases hx:xs[k]? with
 | none =>
  refine Ch (Io hh (h1.eb hsa.extBut D.i1z) (hl1.eb hsa.extBut D.l1z) hx λhb e hsb he=>?_)
  obtain⟨oe,hoe,hce⟩:=he
  have hzb:IsZip hb z TI TO .ellipsis:=hsb _ _ D.i1z.symm hza
  have hez:e≠z:=λx=>by subst x; rw [hzb] at hoe; cases hoe; simp at hce
  exact Uz hzb (by simp) λhc _ hsc=>hE hc e (λc o c1 _ c3 _ x=>hsc.extBut _ _ c1 (hsb _ _ c3 (hsa.extBut _ _ c1 x))) ⟨oe,hsc.extBut _ _ hez hoe,hce⟩
 | some x =>
  have hy:ys[k]?=none:=by
   rcases hend with h | h
   ·rw [hx] at h; cases h
   ·exact h
  refine Ch (EH (h1.eb hsa.extBut D.i1z) (hl1.eb hsa.extBut D.l1z) hx λhb h1b hsb=>Db ?_)
  have hTOb:IsPair hb TO a b:=hsb.extBut _ _ D.TOi1 (hsa.extBut _ _ D.TOz hTO)
  refine Ch (Uw hTOb rfl ?_); refine Ch (WF hTOb λhc hTOc hsc=>?_)
  refine Ch (Wz (Db ?_)); refine Ch (Ch (Vy ?_)); show wpAny (model prog w) _ (UP (.ref i2) >>= _) _ _ _
  refine Ch (Io hh (((h2.eb hsa.extBut D.i2z).eb hsb.extBut D.i12.symm).eb hsc.extBut D.TOi2.symm) (((hl2.eb hsa.extBut D.l2z).eb hsb.extBut D.l2i1).eb hsc.extBut D.l2TO) hy λhd e hsd he=>?_)
  obtain⟨oe,hoe,hce⟩:=he
  have hzd:IsZip hd z TI TO .ellipsis:=hsd _ _ D.i2z.symm (hsc.extBut _ _ D.TOz.symm (hsb.extBut _ _ D.i1z.symm hza))
  have hez:e≠z:=λx=>by subst x; rw [hzd] at hoe; cases hoe; simp at hce
  exact Uz hzd (by simp) λhf _ hsf=>hE hf e (λc o c1 c2 c3 c4 x=>hsf.extBut _ _ c1 (hsd _ _ c4 (hsc.extBut _ _ c2 (hsb.extBut _ _ c3 (hsa.extBut _ _ c1 x))))) ⟨oe,hsf.extBut _ _ hez hoe,hce⟩
end
noncomputable def Qb(κ:Bool):String:=match κ with
 | true => "list_iterator"
 | false => "tuple_iterator"
noncomputable def M6(κ:Bool)(l:Addr):Obj:={ cls:=.type (Qb κ),data:=.fields #[.ref l,.int 0 0] }
noncomputable abbrev zA(κ1:Bool)(h:Heap)(l1:Addr):Heap:=h.push (M6 κ1 l1)
noncomputable abbrev zB(κ1 κ2:Bool)(h:Heap)(l1 l2:Addr):Heap:=(zA κ1 h l1).push (M6 κ2 l2)
noncomputable abbrev zC(κ1 κ2:Bool)(h:Heap)(l1 l2:Addr):Heap:=(zB κ1 κ2 h l1 l2).push { cls:=.type "tuple",data:=.seq #[.ref h.objs.size,.ref (zA κ1 h l1).objs.size] }
noncomputable abbrev zD(κ1 κ2:Bool)(h:Heap)(l1 l2:Addr):Heap:=(zC κ1 κ2 h l1 l2).push { cls:=.type "tuple",data:=.seq #[.none,.none] }
noncomputable abbrev zE(κ1 κ2:Bool)(h:Heap)(l1 l2:Addr):Heap:=(zD κ1 κ2 h l1 l2).push { cls:=.type "zip",data:=.fields #[.none,.bool false,.bool false,.ref (zB κ1 κ2 h l1 l2).objs.size,.ref (zC κ1 κ2 h l1 l2).objs.size] }
theorem OK(κ1 κ2:Bool)(l1 l2:Addr)(xs ys:Array Value):Meets (Builtin.«zip.__new__» ⟨[.type "zip",.ref l1,.ref l2],[]⟩)
  (λ_ R s=>SqAt κ1 s.heap l1 xs/\SqAt κ2 s.heap l2 ys/\R (.ok (.ret (.ref (zD κ1 κ2 s.heap l1 l2).objs.size))) { s with heap:=zE κ1 κ2 s.heap l1 l2 }) :=
 .of_wp λprog w A R s h=>by
  obtain⟨hp,g,d,tk,os⟩:=s; obtain⟨hl1,hl2,h⟩:=h
  have hsub:=sub_zip
  have hL2:SqAt κ2 (zA κ1 hp l1) l2 ys:=hl2.mv λo e=>Cn _ e
  cases κ1 with
  | true =>
   have g1:Heap.IsList (Vx ⟨hp,g,d,tk,os⟩) l1 xs:=hl1
   cases κ2 with
   | true =>
    have g2:Heap.IsList (Vx ⟨hp.push { cls:=.type "list_iterator",data:=.fields #[.ref l1,.int 0 0] },g,d,tk,os⟩) l2 ys:=hL2
    wp_walk using U5 g1,U5 g2
    exact⟨_,rfl,h⟩
   | false =>
    have g2:XM (Vx ⟨hp.push { cls:=.type "list_iterator",data:=.fields #[.ref l1,.int 0 0] },g,d,tk,os⟩) l2 ys:=hL2
    wp_walk using U5 g1,VH g2
    exact⟨_,rfl,h⟩
  | false =>
   have g1:XM (Vx ⟨hp,g,d,tk,os⟩) l1 xs:=hl1
   cases κ2 with
   | true =>
    have g2:Heap.IsList (Vx ⟨hp.push { cls:=.type "tuple_iterator",data:=.fields #[.ref l1,.int 0 0] },g,d,tk,os⟩) l2 ys:=hL2
    wp_walk using VH g1,U5 g2
    exact⟨_,rfl,h⟩
   | false =>
    have g2:XM (Vx ⟨hp.push { cls:=.type "tuple_iterator",data:=.fields #[.ref l1,.int 0 0] },g,d,tk,os⟩) l2 ys:=hL2
    wp_walk using VH g1,VH g2
    exact⟨_,rfl,h⟩
theorem IZ(κ:Bool)(h:Heap)(l:Addr):ItAt κ (h.push (M6 κ l)) h.objs.size l 0:=by
 cases κ with
 | true=>exact⟨_,On _ rfl,rfl,rfl⟩
 | false=>exact⟨_,On _ rfl,rfl,rfl⟩
section
variable {prog:Program}{w:World}{A:Around}{E:Value->Shared->Prop}{s:Shared}
theorem HV{κ1 κ2:Bool}{l1 l2:Addr}{xs ys:Array Value}{Q:Value->Shared->Prop}(hl1:SqAt κ1 s.heap l1 xs)(hl2:SqAt κ2 s.heap l2 ys)
  (h:∀h',IsZip h' (s.heap.objs.size+4) (s.heap.objs.size+2) (s.heap.objs.size+3) .none->IsPair h' (s.heap.objs.size+2) (.ref s.heap.objs.size) (.ref (s.heap.objs.size+1))->IsPair h' (s.heap.objs.size+3) .none .none ->
   ItAt κ1 h' s.heap.objs.size l1 0->ItAt κ2 h' (s.heap.objs.size+1) l2 0->(∀c o,s.heap.get? c=some o->h'.get? c=some o)->Q (.ref (s.heap.objs.size+4)) { s with heap:=h' }) :
  wpAny (model prog w) A (call (.type "zip") [.ref l1,.ref l2]) Q E s:=by
 refine callType_new F.called_zip (by decide) (F.typeCall_zip_2 _ _) (F.newCall_zip_2 _ _) (λobj=>F.args_object_init_3 obj _ _) F.entry_zip_new (OK κ1 κ2 l1 l2 xs ys) ⟨hl1,hl2,?_⟩
 have z1:(zA κ1 s.heap l1).objs.size=s.heap.objs.size+1:=UZ ..
 have z2:(zB κ1 κ2 s.heap l1 l2).objs.size=s.heap.objs.size+2:=by rw [UZ,z1]
 have z3:(zC κ1 κ2 s.heap l1 l2).objs.size=s.heap.objs.size+3:=by rw [UZ,z2]
 have z4:(zD κ1 κ2 s.heap l1 l2).objs.size=s.heap.objs.size+4:=by rw [UZ,z3]
 have g5:(zE κ1 κ2 s.heap l1 l2).get? (zD κ1 κ2 s.heap l1 l2).objs.size=some _:=On _ rfl
 have g4:(zE κ1 κ2 s.heap l1 l2).get? (zC κ1 κ2 s.heap l1 l2).objs.size=some _:=Cn _ (On _ rfl)
 have g3:(zE κ1 κ2 s.heap l1 l2).get? (zB κ1 κ2 s.heap l1 l2).objs.size=some _:=Cn _ (Cn _ (On _ rfl))
 have i2:ItAt κ2 (zE κ1 κ2 s.heap l1 l2) (zA κ1 s.heap l1).objs.size l2 0:=(IZ κ2 (zA κ1 s.heap l1) l2).mv λo e=>Cn _ (Cn _ (Cn _ e))
 have i1:ItAt κ1 (zE κ1 κ2 s.heap l1 l2) s.heap.objs.size l1 0:=(IZ κ1 s.heap l1).mv λo e=>Cn _ (Cn _ (Cn _ (Cn _ e)))
 rw [z4] at g5
 rw [z3] at g4
 rw [z2] at g3
 rw [z1] at i2
 have fin:=h (zE κ1 κ2 s.heap l1 l2) (by rw [IsZip,g5,z2,z3]) (by rw [IsPair,g3,z1]) g4 i1 i2 (λc o e=>Cn _ (Cn _ (Cn _ (Cn _ (Cn _ e)))))
 refine⟨⟨_,by rw [z4]; exact g5,rfl⟩,?_⟩
 rw [z4]
 exact fin
theorem F7{κ1 κ2:Bool}{z TI TO i1 i2 l1 l2:Addr}{k:Nat}{xs ys:Array Value}{x y a b:Value}{Q:Option Value->Shared->Prop}(D:Q8 z TI TO i1 i2 l1 l2)
  (hz:IsZip s.heap z TI TO .none) (hTI:IsPair s.heap TI (.ref i1) (.ref i2)) (hTO:IsPair s.heap TO a b) (h1:ItAt κ1 s.heap i1 l1 k) (h2:ItAt κ2 s.heap i2 l2 k) (hl1:SqAt κ1 s.heap l1 xs) (hl2:SqAt κ2 s.heap l2 ys) (hx:xs[k]?=some x) (hy:ys[k]?=some y)
  (hQ:∀h',IsZip h' z TI TO (rawInt s.heap.objs.size)->IsPair h' TO x y->ItAt κ1 h' i1 l1 (k+1)->ItAt κ2 h' i2 l2 (k+1)->IsPair h' s.heap.objs.size x y->h'.objs.size=s.heap.objs.size+1->(∀c o,c≠z->c≠TO->c≠i1->c≠i2->s.heap.get? c=some o->h'.get? c=some o)->Q (some (.ref s.heap.objs.size)) { s with heap:=h' }) :
  wpAny (model prog w) A (pyNext (.ref z)) Q E s:=by
 have hT:s.TypeIs (.ref z) "zip":=⟨_,hz,rfl⟩
 unfold pyNext
 exact Ch (Vb (UW (name:=UM "__next__") hT WG (Uv WG hT F.entry_zip_next
  (ME D hz hTI hTO h1 h2 hl1 hl2 hx hy λh' a1 a2 a3 a4 a5 a6 a7=>Db (hQ h' a1 a2 a3 a4 a5 a6 a7)) (F.args_zip_next_1 _))))
theorem HD{κ1 κ2:Bool}{z TI TO i1 i2 l1 l2:Addr}{k:Nat}{xs ys:Array Value}{a b:Value}{Q:Option Value->Shared->Prop}(hh:A.handled=none)(D:Q8 z TI TO i1 i2 l1 l2)
  (hz:IsZip s.heap z TI TO .none) (hTI:IsPair s.heap TI (.ref i1) (.ref i2)) (hTO:IsPair s.heap TO a b) (h1:ItAt κ1 s.heap i1 l1 k) (h2:ItAt κ2 s.heap i2 l2 k) (hl1:SqAt κ1 s.heap l1 xs) (hl2:SqAt κ2 s.heap l2 ys) (hend:xs[k]?=none\/ys[k]?=none)
  (hQ:∀h',(∀c o,c≠z->c≠TO->c≠i1->c≠i2->s.heap.get? c=some o->h'.get? c=some o)->Q none { s with heap:=h' }):wpAny (model prog w) A (pyNext (.ref z)) Q E s:=by
 have hT:s.TypeIs (.ref z) "zip":=⟨_,hz,rfl⟩
 unfold pyNext
 refine Ch (Vb (UW (name:=UM "__next__") hT WG (Uv WG hT F.entry_zip_next (Nm hh D hz hTI hTO h1 h2 hl1 hl2 hend λh' e hk he=>?_) (F.args_zip_next_1 _))))
 obtain⟨o,ho,hc⟩:=he
 exact Ch (wpAny_isInstance (T := "StopIteration") (b:=true) ⟨o,ho,hc⟩ isSubtype_stop (Db (hQ _ hk)))
end
section
variable {X:Cx}{pins:List (Addr×Obj)}{σ:L2.St}{H:Hp}{s:Shared}{h':Heap}
theorem Inv.turnedL{t':Nat}{ch:List Addr}(I:Inv X pins σ H s)(hf:∀b∈ch,B_ X pins H b)(k:∀b o,b∉ch->s.heap.get? b=some o->h'.get? b=some o):Inv X pins σ H { s with heap:=h',toks:=t' }:=by
 have nit:∀b u,H b=some u->b∉ch:=λb u e z=>by rw [(hf b z).1] at e; cases e
 refine I.step (g':=s.gens) (d':=s.drawn) (ch:=ch) (λb hb=>?_) (λb o _ _ hc e _=>k b o hc e) (λb o _ _ hc e _=>⟨o.slots,k b o hc e⟩) (λ_ _ _ _ n=>n) (λb o hc e=>⟨o,k b o hc e⟩) (λ_ _ e=>e) (λ_ _ _ e=>e) (λb ps e=>⟨#[],by rw [e]; simp⟩) (λm hm=>?_) (λb u e=>?_) I.bare
 ·obtain⟨f0,f1,f2,f3,f4,f5⟩:=hf b hb
  exact⟨f3,f1,f4,f5⟩
 ·obtain⟨o,es,ep,ho,r⟩:=hm
  exact⟨o,es,ep,k _ o (λz=>(hf _ z).2.1 rfl) ho,r⟩
 ·exact(I.hok b u e).stay (λc v hc q=>k c v (hc.elim (λz=>by rw [z]; exact nit b u e) λz=>nit c _ z) q) (λ_ q=>q) λ_ _ q=>q
theorem Inv.turnLaid{t':Nat}{ch:List Addr}{a:Addr}{o:HO}(I:Inv X pins σ H s)(hf:∀b∈ch,B_ X pins H b)(k:∀b o,b∉ch->s.heap.get? b=some o->h'.get? b=some o)(ha:s.heap.objs.size<=a)(new:ObjOk X.prog X.w (Ac H a o) h' a o) :
  Inv X pins σ (Ac H a o) { s with heap:=h',toks:=t' }:=by
 have nit:∀b u,H b=some u->b∉ch:=λb u e z=>by rw [(hf b z).1] at e; cases e
 have hn:H a=none:=I.hok.fresh ha
 have up:∀b u,H b=some u->Ac H a o b=some u:=λb u e=>by rw [AH (AU e hn)]; exact e
 refine I.step (g':=s.gens) (d':=s.drawn) (ch:=ch) (λb hb=>?_) (λb o _ _ hc e _=>k b o hc e) (λb o _ _ hc e _=>⟨o.slots,k b o hc e⟩) (λb u _ e n=>?_) (λb o hc e=>⟨o,k b o hc e⟩) (λb xs e=>up _ _ e) (λb o u e=>up _ _ e) (λb ps e=>⟨#[],by rw [up _ _ e]; simp⟩) (λm hm=>?_) (λb u e=>?_) I.bare
 ·obtain⟨f0,f1,f2,f3,f4,f5⟩:=hf b hb
  exact⟨f3,f1,f4,f5⟩
 ·rw [AH (T1 (Tx (FM e) ha))]; exact n
 ·obtain⟨o,es,ep,ho,r⟩:=hm
  exact⟨o,es,ep,k _ o (λz=>(hf _ z).2.1 rfl) ho,r⟩
 ·by_cases hb:b=a
  ·subst hb; rw [AJ] at e; cases e; exact new
  ·rw [AH hb] at e
   exact(I.hok b u e).stay (λc v hc q=>k c v (hc.elim (λz=>by rw [z]; exact nit b u e) λz=>nit c _ z) q) (λc q=>up _ _ q) λc xs q=>up _ _ q
end
noncomputable def SqK(κ:Bool)(K:Frag)(H:Hp)(a:Addr)(xs:List V):Prop:=match κ with
 | true=>SqL K H a xs
 | false=>Du K H a xs
theorem SqK.at{κ:Bool}{X:Cx}{pins:List (Addr×Obj)}{σ:L2.St}{H:Hp}{s:Shared}{a:Addr}{xs:List V}(I:Inv X pins σ H s)(h:SqK κ X.K H a xs):∃its:List Value,Vals xs its/\SqAt κ s.heap a its.toArray:=by
 cases κ with
 | true=>obtain⟨its,r,pl,_⟩:=I.list h; exact⟨its,r,pl.isList⟩
 | false=>obtain⟨its,r,p,_⟩:=I.tuple h; exact⟨its,r,p⟩
noncomputable def Q9 (K : Frag) (κ1 κ2 : Bool) (a b : Addr) (xs ys : List V) : It :=
  ⟨λi H => SqK κ1 K H a xs ∧ SqK κ2 K H b ys ∧ i < xs.length ∧ i < ys.length, λi H x H' => ∃ T p q, x = .ref T ∧ H T = none ∧ H' = Ac H T (.tup [p, q]) ∧ xs[i]? = some p ∧ ys[i]? = some q,
   λi H => SqK κ1 K H a xs ∧ SqK κ2 K H b ys ∧ (xs.length ≤ i ∨ ys.length ≤ i)⟩
structure R9 (κ1 κ2:Bool) (z TI TO i1 i2 a b:Addr) (k:Nat) (h:Heap):Prop where
 z:IsZip h z TI TO .none
 ti:IsPair h TI (.ref i1) (.ref i2)
 to:∃a b,IsPair h TO a b
 i1:ItAt κ1 h i1 a k
 i2:ItAt κ2 h i2 b k
theorem MN{P:Program}{w:World}{K:Frag}{es:List Expr}{j:Nat}{pos:Pos}(κ1 κ2:Bool)(z TI TO i1 i2 a b:Addr)(xs ys:List V)(D:Q8 z TI TO i1 i2 a b)(hTI:TI∉[z,TO,i1,i2]) :
  Turn P w K (.Tuple es j pos) (Q9 K κ1 κ2 a b xs ys) [z,TI,TO,i1,i2] z (R9 κ1 κ2 z TI TO i1 i2 a b) where
 mem:=by simp
 obj:=λi h st c hc=>by
  simp only [TM,UA,or_false] at hc
  rcases hc with rfl | rfl | rfl | rfl | rfl
  ·exact⟨_,st.z,λv q=>by cases q⟩
  ·exact⟨_,st.ti,λv q=>by cases q⟩
  ·obtain⟨a,b,e⟩:=st.to
   exact⟨_,e,λv q=>by cases q⟩
  ·exact st.i1.lies
  ·exact st.i2.lies
 keep:=λi h h' st k=>by
  obtain⟨p,q,e⟩:=st.to
  exact⟨k z (by simp) _ st.z,k TI (by simp) _ st.ti,⟨p,q,k TO (by simp) _ e⟩,st.i1.mv λo e=>k i1 (by simp) o e,st.i2.mv λo e=>k i2 (by simp) o e⟩
 item:=by
  intro X hP hw hK hc i pins s σ H E I hf st hg
  subst hP hw hK
  obtain⟨ha,hb,hi,hj⟩:=hg
  obtain⟨us,r1,q1⟩:=ha.at I
  obtain⟨ws,r2,q2⟩:=hb.at I
  obtain⟨u,hu,ru⟩:=r1.get (No hi)
  obtain⟨v,hv,rv⟩:=r2.get (No hj)
  obtain⟨p,q,e⟩:=st.to
  refine F7 D st.z st.ti e st.i1 st.i2 q1 q2 (x:=u) (y:=v) (by simpa using hu) (by simpa using hv) λh' a1 a2 a3 a4 a5 a6 a7=>⟨_,rfl,?_⟩
  refine wpAny_letOwnedTupleGo_zip a1 λh2 b1 b2=>?_
  have hT:H s.heap.objs.size=none:=I.hok.fresh (Go _)
  have kk:∀c o,c∉[z,TO,i1,i2]->s.heap.get? c=some o->h2.get? c=some o:=λc o hc e=>by
   simp only [TM,UA,or_false,not_or] at hc
   exact b2.extBut _ _ hc.1 (a7 c o hc.1 hc.2.1 hc.2.2.1 hc.2.2.2 e)
  have I2:Inv X pins σ (Ac H s.heap.objs.size (.tup [xs[i],ys[i]])) { s with heap:=h2 }:=by
   refine I.turnLaid (t':=s.toks) (ch:=[z,TO,i1,i2]) (λc hc=>hf c ?_) kk (Go _) ?_
   ·simp only [TM,UA,or_false] at hc ⊢
    rcases hc with rfl | rfl | rfl | rfl <;> simp
   ·have nT:s.heap.objs.size≠z:=Uy (FM st.z)
    exact⟨by show 2<=sizeLine; decide,[u,v],.cons ru (.cons rv .nil),⟨_,b2.extBut _ _ nT a5,rfl,_,rfl,rfl,rfl⟩⟩
  have ti2:IsPair h2 TI (.ref i1) (.ref i2):=kk _ _ hTI st.ti
  refine⟨.ref s.heap.objs.size,_,I2,rfl,⟨_,_,_,rfl,hT,rfl,No hi,No hj⟩,⟨b1,ti2,⟨_,_,b2.extBut _ _ D.TOz a2⟩,a3.eb b2.extBut D.i1z,a4.eb b2.extBut D.i2z⟩,λc hc=>?_⟩
  have hcn:H c=none:=(hf c hc).1
  have hlt:c≠s.heap.objs.size:=λz=>by
   obtain⟨o,ho,_⟩:∃o,s.heap.get? c=some o/\True:=by
    simp only [TM,UA,or_false] at hc
    rcases hc with rfl | rfl | rfl | rfl | rfl
    ·exact⟨_,st.z,trivial⟩
    ·exact⟨_,st.ti,trivial⟩
    ·exact⟨_,e,trivial⟩
    ·obtain⟨o,q,_⟩:=st.i1.lies; exact⟨o,q,trivial⟩
    ·obtain⟨o,q,_⟩:=st.i2.lies; exact⟨o,q,trivial⟩
   rw [z] at ho
   exact UX _ (FM ho)
  rw [AH hlt]; exact hcn
 done:=by
  intro X hP hw hK hc i pins s σ H E I hf st hg
  subst hP hw hK
  obtain⟨ha,hb,hi⟩:=hg
  obtain⟨us,r1,q1⟩:=ha.at I
  obtain⟨ws,r2,q2⟩:=hb.at I
  obtain⟨p,q,e⟩:=st.to
  have l1:=r1.length
  have l2:=r2.length
  refine HD (I.ok.hd hc) D st.z st.ti e st.i1 st.i2 q1 q2 (hi.imp (λhi=>by simp; omega) λhi=>by simp; omega) λh' kk=>⟨rfl,?_⟩
  refine I.turnedL (t':=s.toks) (ch:=[z,TO,i1,i2]) (λc hc=>hf c ?_) λc o hc e=>?_
  ·simp only [TM,UA,or_false] at hc ⊢
   rcases hc with rfl | rfl | rfl | rfl <;> simp
  ·simp only [TM,UA,or_false,not_or] at hc
   exact kk c o hc.1 hc.2.1 hc.2.2.1 hc.2.2.2 e
 self:=λA i s Q E st h=>wpAny_pyIter_zip st.z h
section
variable {X:Cx}
theorem Pj(n a b:Nat)(h1:a<n)(h2:b<n):Q8 (n+4) (n+2) (n+3) n (n+1) a b:=by
 constructor <;> (show (_:Nat)≠(_:Nat); omega)
theorem Ph(n:Nat):(n+2)∉[n+4,n+3,n,n+1]:=by
 simp only [TM,UA,or_false,not_or]
 omega
theorem Pk(n c:Nat)(h:c∈[n+4,n+2,n+3,n,n+1]):n<=c:=by
 simp only [TM,UA,or_false] at h
 omega
noncomputable def Sz(K:Frag)(ta:TA):TI:=λσ H R=>ta σ H λvs H1=>∃κ1 κ2 a b xs ys,vs=[.ref a,.ref b]/\SqK κ1 K H1 a xs/\SqK κ2 K H1 b ys/\R (Q9 K κ1 κ2 a b xs ys) H1
theorem QB{e1 e2:Expr}{es:List Expr}{j:Nat}{tpos:Pos}{ta:TA}{p pos:Pos}(hg:Gl X "zip")(hm:X.mg "zip"=none)(ha:PA X [e1,e2] ta)(hs:autoParam (starEach [e1,e2] X.env=[(false,eval e1 X.env),(false,eval e2 X.env)]) zau3._auto_1)(hs2:autoParam (starEach [e2] X.env=[(false,eval e2 X.env)]) zau3._auto_1) :
  PI X (.Tuple es j tpos) (.Call (.Name "zip" p) [e1,e2] [] pos) (Sz X.K ta):=by
 intro pins s σ H R I h
 refine Call_ (CW I hg hm boot_zip (Ul (A3 (ha pos pins s σ H _ I h) λus s1 ⟨vs,H1,I1,r1,q1⟩=>?_) (by rw [hs,hs2]) (by rw [hs2]; rfl)))
 obtain⟨κ1,κ2,a,b,xs,ys,e,h1,h2,q⟩:=q1
 subst e
 obtain⟨u,v,rfl,ru,rv⟩:=vals2 r1
 cases ru
 cases rv
 obtain⟨us,r1',q1⟩:=h1.at I1
 obtain⟨ws,r2',q2⟩:=h2.at I1
 have la:a<s1.heap.objs.size:=by obtain⟨o,e⟩:=q1.lies; exact FM e
 have lb:b<s1.heap.objs.size:=by obtain⟨o,e⟩:=q2.lies; exact FM e
 refine HV q1 q2 λh' hz hTI hTO hi1 hi2 hk=>?_
 refine wpAny_pyIter_zip hz ?_
 have D:=Pj s1.heap.objs.size a b la lb
 refine⟨s1.heap.objs.size+4,[s1.heap.objs.size+4,s1.heap.objs.size+2,s1.heap.objs.size+3,s1.heap.objs.size,s1.heap.objs.size+1],_,Q9 X.K κ1 κ2 a b xs ys,H1,rfl,I1.kept (t':=s1.toks) hk,MN κ1 κ2 _ _ _ _ _ a b xs ys D (Ph s1.heap.objs.size),⟨hz,hTI,⟨_,_,hTO⟩,hi1,hi2⟩,λc hc=>?_,q⟩
 have hge:s1.heap.objs.size<=c:=Pk s1.heap.objs.size c hc
 exact I1.fpOk hge (I1.hok.fresh hge)
end
end L2
namespace Dp
open PySem PySem.Spec PyProof.Rows L2
noncomputable def Dv(ds es:List D):List D:=List.zipWith (λd e=>.tup [d,e]) ds es
section
variable {K:Frag}
theorem JY{U V' M:Addr->Prop}{H:Hp}{d:D}{v:V}{ds:List D}(h:AtT K V' M H d v)(e:JZ d=some ds)(uV:∀a,U a->V' a)(vM:∀a,V' a->M a):∃κ a vs,v=.ref a/\Ats K M H ds vs/\∀M' H',Pres M H M' H'->Ext U H H'->SqK κ K H' a vs:=by
 cases d with
 | lst xs =>
  cases e
  obtain⟨a,vs,e1,n1,hq,hs⟩:=h
  refine⟨true,a,vs,e1,hs,λM' H' _ ex=>?_⟩
  rcases hq with hq | ⟨o,hq⟩
  ·exact .inl (.inl (ex.keep hq λz=>n1 (uV a z)))
  ·exact .inl (.inr ⟨o,ex.keep hq λz=>n1 (uV a z)⟩)
 | tup xs =>
  cases e
  obtain⟨a,vs,e1,hq,hs⟩:=h
  exact⟨false,a,vs,e1,hs,λM' H' pr _=>(hq.pres pr).sq⟩
 | _=>cases e
theorem JL{M:Addr->Prop}{H:Hp}{κ1 κ2:Bool}{a b:Addr}{vs us:List V}{ds es:List D}(hs:Ats K M H ds vs)(ht:Ats K M H es us){i:Nat}{M':Addr->Prop}{H':Hp}(pr:Pres M H M' H')(h1:SqK κ1 K H' a vs)(h2:SqK κ2 K H' b us)(dom:∀a,M' a->∃o,H' a=some o) :
  (∀d,(Dv ds es)[i]?=some d->(Q9 K κ1 κ2 a b vs us).go i H'/\∀x H2,(Q9 K κ1 κ2 a b vs us).yld i H' x H2->Grow H' H2/\At K M' H2 d x)/\((Dv ds es).length<=i->(Q9 K κ1 κ2 a b vs us).stop i H'):=by
 have l1:=hs.length
 have l2:=ht.length
 refine⟨λd hd=>?_,λhl=>⟨h1,h2,?_⟩⟩
 ·unfold Dv at hd
  rw [W0] at hd
  cases q1:ds[i]? with
  | none=>rw [q1] at hd; simp at hd
  | some d1 =>
   cases q2:es[i]? with
   | none=>rw [q1,q2] at hd; simp at hd
   | some d2 =>
    rw [q1,q2] at hd
    have hd':D.tup [d1,d2]=d:=Rs hd
    have i1:i<ds.length:=(T0.mp q1).1
    have i2:i<es.length:=(T0.mp q2).1
    refine⟨⟨h1,h2,by omega,by omega⟩,λx H2 y=>?_⟩
    obtain⟨T,p,q,rfl,hT,rfl,e1,e2⟩:=y
    obtain⟨v1,f1,a1⟩:=(hs.pres pr).get q1
    obtain⟨v2,f2,a2⟩:=(ht.pres pr).get q2
    rw [e1] at f1
    rw [e2] at f2
    cases f1
    cases f2
    subst hd'
    exact⟨Aj hT,Df dom hT ⟨p,[q],rfl,a1,q,[],rfl,a2,rfl⟩⟩
 ·unfold Dv at hl
  rw [List.length_zipWith] at hl
  omega
end
section
variable {X:Cx}{e1 e2:Expr}{es:List Expr}{j:Nat}{tpos p pos:Pos}{ws:Cf}
noncomputable def RA(ws:Cf):Cf:=λn ρ P=>ws n ρ λds n1=>∃d e xs ys,ds=[d,e]/\JZ d=some xs/\JZ e=some ys/\P (Dv xs ys) n1
theorem Oa(hg:Gl X "zip")(hm:X.mg "zip"=none)(ha:Nk X [e1,e2] ws)(hs:autoParam (starEach [e1,e2] X.env=[(false,eval e1 X.env),(false,eval e2 X.env)]) zau3._auto_1)(hs2:autoParam (starEach [e2] X.env=[(false,eval e2 X.env)]) zau3._auto_1) :
  Sd X (.Tuple es j tpos) (.Call (.Name "zip" p) [e1,e2] [] pos) (RA ws):=by
 obtain⟨t,a1,a2⟩:=ha
 refine⟨_,QB hg hm a1 hs hs2,λC M H n ρ σ P Rr R w q=>?_⟩
 refine a2 C M H n ρ σ _ _ R w λvs H1 ds n1 ee f1 r1 p=>?_
 obtain⟨d,e,xs,ys,rfl,hd,he,p⟩:=p
 cases r1 with
 | cons r rr =>
  cases rr with
  | cons r' rr =>
   cases rr
   have R1:=R.step ee f1
   obtain⟨κ1,a,us,rfl,h1,s1⟩:=JY (U:=C.U) r hd R.uV R1.vM
   obtain⟨κ2,b,us',rfl,h2,s2⟩:=JY (U:=C.U) r' he R.uV R1.vM
   refine⟨κ1,κ2,a,b,us,us',rfl,s1 M H1 (Pres.refl _ _) (Ext.refl _ _),s2 M H1 (Pres.refl _ _) (Ext.refl _ _),q _ H1 _ n1 ee f1 (λi M' H' pr ex dom=>JL h1 h2 pr (s1 M' H' pr ex) (s2 M' H' pr ex) dom) p⟩
noncomputable def Sx:D->Option Key
 | .int i=>some (.inl i)
 | .str x=>some (.inr x)
 | _=>none
noncomputable def Dd:List D->Option (List Key)
 | []=>some []
 | d::ds=>match Sx d,Dd ds with
  | some k,some ks=>some (k::ks)
  | _,_=>none
theorem DZ{K:Frag}{M:Addr->Prop}{H:Hp}:∀{ds:List D} {vs:List V} {ks:List Key},Dd ds=some ks->Ats K M H ds vs->vs=ks.map kOf
 | [],vs,ks,e,h=>by cases e; exact h
 | d::ds,vs,ks,e,h=>by
  obtain⟨v,r,e1,h1,h2⟩:=h
  unfold Dd at e
  split at e
  ·rename_i k ks' hk hks
   cases e
   rw [e1,DZ hks h2,UG]
   congr 1
   cases d with
   | int i=>cases hk; exact h1
   | str x=>cases hk; exact h1.1
   | _=>cases hk
  ·cases e
noncomputable def Fe(d e:D)(P:D->Prop):Prop:=match d,e with
 | .int i,.int j=>P (.bl (decide (i<j)))
 | .str i,.str j=>P (.bl (decide (i.cps.toList<j.cps.toList)))
 | .tup xs,.tup ys=>∃ks ls,Dd xs=some ks/\Dd ys=some ls/\BJ ks ls=true/\P (.bl (DD ks ls))
 | _,_=>False
noncomputable def RZ(K:Frag):R2:=λx y H Q=>P4 x y H Q\/RY K x y H Q
theorem FN{k:Nat}(hr:Room k X.A):OpR X (compareOp .Lt) (RZ X.K):=op_ltU.or (QM hr.units0)
theorem JE:El X.K .sh (RZ X.K) Fe:=λU M H d e x y P Q dom vM hx hy w q=>by
 unfold Fe at w
 split at w
 ·exact .inl (Pa (X:=X) U M H (.int _) (.int _) x y P Q dom vM hx hy w q)
 ·exact .inl (Pa (X:=X) U M H (.str _) (.str _) x y P Q dom vM hx hy w q)
 ·obtain⟨ks,ls,h1,h2,h3,w⟩:=w
  obtain⟨a,vs,rfl,ha,hs⟩:=hx.tup
  obtain⟨b,us,rfl,hb,ht⟩:=hy.tup
  have e1:=DZ h1 hs
  have e2:=DZ h2 ht
  subst e1 e2
  exact .inr ⟨a,b,ks,ls,rfl,rfl,ha.sq,hb.sq,h3,q _ H (.bl _) .refl rfl w⟩
 ·exact w.elim
end
end Dp
namespace L2
open PySem PySem.Spec PyProof.Rows
section
variable {prog:Program}{w:World}{A:Around}{E:Value->Shared->Prop}{s:Shared}
theorem Hu{t sl:Addr}{items:Array Value}{vl vu:Value}{lo hi:Option Int}{Q:Value->Shared->Prop}(ht:IsTup s.heap t items)(hs:s.heap.IsSliceOf sl vl vu .none)(pl:IsPart vl lo)(pu:IsPart vu hi)
  (hw:HT.sIx items.size 0 lo=0/\HT.sIx items.size items.size hi=items.size) (h:Q (.ref t) s):wpAny (model prog w) A (getItem (.ref t) (.ref sl)) Q E s:=by
 obtain⟨os,hos,hcs,hds⟩:=id hs
 have hTs:s.TypeIs (.ref sl) "slice":=⟨os,hos,hcs⟩
 unfold getItem
 (try with_reducible refine UR ?_); (first | refine Ch (Db ?_) | skip)
 refine Ch (wpAny_sequenceKey ht.typeIs (by decide) (Ch (UW (name:=UM "__getitem__") ht.typeIs UN (Uv UN ht.typeIs entry_tuple_getitem ?_ (args_tuple_getitem _ _)))))
 show wpAny (model prog w) _ (WW (.ref t) >>= _) _ _ s
 refine Ch (tupleItemsOf_ ht (Ch (Wl hTs ?_))); rw [if_pos (by decide)]
 refine Ch (HT.sliceApplied_gen hs pl pu ?_)
 have hyes:(((HT.sIx items.size 0 lo:Nat):Int)==0&&(1:Int)==1&&(HT.sIx items.size items.size hi - HT.sIx items.size 0 lo)==items.size)=true:=by rw [hw.1,hw.2]; simp
 show wpAny (model prog w) _ (if (((HT.sIx items.size 0 lo:Nat):Int)==0&&(1:Int)==1&&(HT.sIx items.size items.size hi - HT.sIx items.size 0 lo)==items.size)=true then _ else _) _ _ s
 rw [if_pos hyes]
 refine Ch (m:=WZ _) ?_
 unfold WZ
 refine Ch (Wl ht.typeIs (Db ?_))
 show wpAny (model prog w) _ (if ((Ux "tuple"==Ux "tuple")=true) then _ else _) _ _ s
 rw [if_pos (by decide)]
 first
  | exact Ch (VW (Ch (Db (Db ⟨_,rfl,Db h⟩))))
  | exact Ch (VW (Db ⟨_,rfl,Db h⟩))
  | exact Ch (Ch (VW (Db (Db ⟨_,rfl,Db h⟩))))
end
section
variable {X:Cx}{e st:Expr}{te tst:TE}{pos p2:Pos}
noncomputable def Oz(K:Frag):V->Option Int->Option Int->Hp->VK->Prop:=λx lo hi H Q=>∃a xs,x=.ref a/\Du K H a xs/\(HT.sIx xs.length 0 lo=0/\HT.sIx xs.length xs.length hi=xs.length)/\Q (.ref a) H
theorem N0:SlR X (Oz X.K):=by
 intro pins s σ H x v vl vu lo hi sl Q I rx hs pl pu h
 obtain⟨a,xs,rfl,hx,hw,q⟩:=h
 cases rx
 obtain⟨its,r,ht,hz⟩:=I.tuple hx
 have hlen:its.toArray.size=xs.length:=by rw [Re]; exact r.length.symm
 exact⟨"tuple",_,UN.lookup,ht.typeIs,Hu ht hs pl pu (by rw [hlen]; exact hw) ⟨.ref a,H,I,rfl,q⟩⟩
end
section
variable {X:Cx}
noncomputable def MY(K:Frag):R2:=λx y H Q=>∃a b ys,x=.ref a/\y=.ref b/\Du K H a []/\Du K H b ys/\Q (.ref b) H
theorem Mp:OpR X (binaryOp .Add) (MY X.K):=by
 intro pins s σ H x y v u Q I rx ry h
 obtain⟨a,b,ys,rfl,rfl,ha,hb,q⟩:=h
 cases rx
 cases ry
 obtain⟨its,r1,p1,_⟩:=I.tuple ha
 obtain⟨its2,r2,p2,_⟩:=I.tuple hb
 cases r1
 obtain⟨⟨cls,dd,data,sl⟩,ho,hc,n,hd⟩:=id p1
 obtain⟨⟨cls2,dd2,data2,sl2⟩,ho2,hc2,n2,hd2⟩:=id p2
 simp only at hc hd hc2 hd2
 subst hc hd hc2 hd2
 exact concat_meets ⟨_,ho,rfl⟩ ⟨_,ho2,rfl⟩ Wj seq_tuple_add PySem.F.slot_tuple_add PySem.F.entry_tuple_add (PySem.F.args_tuple_add_2 _ _) (tuple_addW0 a b _ its2.toArray n n2 dd dd2 sl sl2 (by simp)) ⟨ho,ho2,⟨.ref b,H,I,rfl,q⟩⟩
noncomputable def bI(b:Bool):Int:=if b=true then 1 else 0
noncomputable def SO(g:Int->Int->Int):R2:=λx y H Q=>∃k j,x=.bl k/\y=.int j/\Q (.int (g (bI k) j)) H
noncomputable def TQ(g:Int->Int->Int):R2:=λx y H Q=>∃i k,x=.int i/\y=.bl k/\Q (.int (g i (bI k))) H
theorem op_add_bi:OpR X (binaryOp .Add) (SO λi j=>i+j):=by
 intro pins s σ H x y v u Q I rx ry h
 obtain⟨k,j,rfl,rfl,q⟩:=h
 cases rx
 obtain⟨t,rfl⟩:=ry
 exact PySem.IntBool.add_bool_int ⟨.int _,H,I.tok _,⟨_,rfl⟩,q⟩
theorem op_sub_bi:OpR X (binaryOp .Sub) (SO λi j=>i - j):=by
 intro pins s σ H x y v u Q I rx ry h
 obtain⟨k,j,rfl,rfl,q⟩:=h
 cases rx
 obtain⟨t,rfl⟩:=ry
 exact PySem.IntBool.sub_bool_int ⟨.int _,H,I.tok _,⟨_,rfl⟩,q⟩
theorem Lc:OpR X (binaryOp .Sub) (TQ λi j=>i - j):=by
 intro pins s σ H x y v u Q I rx ry h
 obtain⟨i,k,rfl,rfl,q⟩:=h
 obtain⟨t,rfl⟩:=rx
 cases ry
 exact PySem.IntBool.sub_int_bool ⟨.int _,H,I.tok _,⟨_,rfl⟩,q⟩
end
end L2
namespace Dp
open PySem PySem.Spec PyProof.Rows L2
section
variable {K:Frag}{X:Cx}
noncomputable def Aq(d e:D)(P:D->Prop):Prop:=match d,e with
 | .int i,.int j=>P (.int (i+j))
 | .bl k,.int j=>P (.int (bI k+j))
 | .str i,.str j=>i.length+j.length<=sizeLine/\P (.str (i++j))
 | .tup i,.tup j=>i.length+j.length<=sizeLine/\P (.tup (i++j))
 | .lst i,.lst j=>i.length+j.length<=sizeLine/\P (.lst (i++j))
 | _,_=>False
noncomputable def O7(K:Frag):R2:=λx y H Q=>Ma K x y H Q\/(SO λi j=>i+j) x y H Q\/MY K x y H Q
theorem Al:OpR X (binaryOp .Add) (O7 X.K):=op_addU.or (op_add_bi.or Mp)
theorem A5:El X.K .sh (O7 X.K) Aq:=λU M H d e x y P Q dom vM hx hy w q=>by
 unfold Aq at w
 split at w
 ·exact .inl (Hd (X:=X) U M H (.int _) (.int _) x y P Q dom vM hx hy w q)
 ·rename_i k j
  exact .inr (.inl ⟨k,j,hx,hy,q _ H (.int _) .refl rfl w⟩)
 ·exact .inl (Hd (X:=X) U M H (.str _) (.str _) x y P Q dom vM hx hy w q)
 ·rename_i i j
  cases i with
  | nil =>
   obtain⟨a,vs,rfl,ha,hs⟩:=hx.tup
   obtain⟨b,us,rfl,hb,ht⟩:=hy.tup
   cases (show vs=[] from hs)
   exact .inr (.inr ⟨a,b,us,rfl,rfl,ha.sq,hb.sq,q _ H (.tup j) .refl ⟨b,us,rfl,hb,ht⟩ (by have:=w.2; rw [U3] at this; exact this)⟩)
  | cons i0 i=>exact .inl (Hd (X:=X) U M H (.tup (i0::i)) (.tup j) x y P Q dom vM hx hy ⟨(by intro z; cases z),w⟩ q)
 ·exact .inl (Hd (X:=X) U M H (.lst _) (.lst _) x y P Q dom vM hx hy w q)
 ·exact w.elim
noncomputable def ND(d e:D)(P:D->Prop):Prop:=match d,e with
 | .int i,.int j=>P (.int (i - j))
 | .bl k,.int j=>P (.int (bI k - j))
 | .int i,.bl k=>P (.int (i - bI k))
 | _,_=>False
noncomputable def Ox:R2:=λx y H Q=>(En λi j=>.int (i - j)) x y H Q\/(SO λi j=>i - j) x y H Q\/(TQ λi j=>i - j) x y H Q
theorem OD:OpR X (binaryOp .Sub) Ox:=op_sub.or (op_sub_bi.or Lc)
theorem Qu:El K .sh Ox ND:=λU M H d e x y P Q dom vM hx hy w q=>by
 unfold ND at w
 split at w
 ·exact .inl (Nb (K:=K) (g:=λi j=>i - j) U M H (.int _) (.int _) x y P Q dom vM hx hy w q)
 ·rename_i k j
  exact .inr (.inl ⟨k,j,hx,hy,q _ H (.int _) .refl rfl w⟩)
 ·rename_i i k
  exact .inr (.inr ⟨i,k,hx,hy,q _ H (.int _) .refl rfl w⟩)
 ·exact w.elim
noncomputable def Fd(d:D)(lo hi:Option Int)(P:D->Prop):Prop:=match d with
 | .str z=>P (.str (Txt.slice z lo hi))
 | .lst xs=>P (.lst (cutD xs lo hi))
 | .tup xs=>P (.tup (cutD xs lo hi))
 | _=>False
noncomputable def RX(K:Frag):V->Option Int->Option Int->Hp->VK->Prop:=λx lo hi H Q=>RT x lo hi H Q\/RW K x lo hi H Q\/RU K x lo hi H Q\/Oz K x lo hi H Q
theorem N1:SlR X (RX X.K):=sl_U.or (sl_list.or (sl_tup.or N0))
theorem K0{M:Addr->Prop}{H:Hp}{ds:List D}{vs:List V}(lo hi:Option Int)(h:Ats K M H ds vs):Ats K M H (cutD ds lo hi) (F_ vs lo hi):=by
 unfold cutD F_
 rw [h.length]
 exact(h.drop _).take _
theorem LA:TY K .sh (RX K) Fd:=by
 intro U M H d x lo hi P Q dom vM hx w q
 unfold Fd at w
 split at w
 ·rename_i z
  exact .inl ⟨z,hx.str.1,hx.str.2,q _ H (.str (Txt.slice z lo hi)) .refl ⟨rfl,T6 (Txt.slice_le z lo hi) hx.str.2⟩ w⟩
 ·rename_i xs
  obtain⟨a,vs,rfl,_,ha,hs⟩:=hx
  exact .inr (.inl ⟨a,vs,rfl,.inl ha,λp hp=>q _ _ (.lst _) (Aj hp) ((Dg (U:=U) hp (K0 lo hi hs)).shOf dom (by intro z; cases z)) w⟩)
 ·rename_i xs
  obtain⟨a,vs,rfl,ha,hs⟩:=hx.tup
  by_cases hw:HT.sIx vs.length 0 lo=0/\HT.sIx vs.length vs.length hi=vs.length
  ·refine .inr (.inr (.inr ⟨a,vs,rfl,ha.sq,hw,?_⟩))
   have e:cutD xs lo hi=xs:=by
    unfold cutD
    rw [← hs.length,hw.1,hw.2,List.drop_zero,Nat.sub_zero,hs.length,List.take_length]
   rw [e] at w
   exact q _ H (.tup xs) .refl ⟨a,vs,rfl,ha,hs⟩ w
  ·exact .inr (.inr (.inl ⟨a,vs,rfl,ha.sq,hw,λp hp=>q _ _ (.tup _) (Aj hp) (Df dom hp (K0 lo hi hs)) w⟩))
 ·exact w.elim
end
end Dp
namespace Nt
open PySem PySem.Spec PyProof.Rows L2 Dp
noncomputable def A4:W2:=λss n P=>∃m:Int,ss=[.fd,.sh (.int m)]/\1<=m/\m<1073741824/\1<=n/\∀r:Int,0<=r->r<m->P (.int r) (n - 1)
noncomputable def Oj:W2:=λss n P=>∃s:Int,ss=[.fd,.sh (.int s)]/\1<=n/\∀r:Int,1<=r->r<=1000000->P (.int r) (n - 1)
noncomputable def Cy:AW:=(Ae (DQ (Ap (Ag (GX false) (AG 1) (wC (D.int 0)))) (BO (Ag Aq (wC (D.int 1)) (AZ A4 (AF (Ax 0) (AF (AQ (wC (D.int 3))) AX))))) B2)
 (Ae (DQ (Ap (Ag (GX false) (AG 1) (wC (D.int 1)))) (BO (Ag Aq (wC (D.int 1)) (AZ A4 (AF (Ax 0) (AF (AQ (wC (D.int 12))) AX))))) B2)
 (BO (Sg (Ap (Ag (GX false) (AG 1) (wC (D.int 2)))) (Ag ND (Ag (L0 JJ λi j=>D.int (i ^ j.toNat)) (wC (D.int 10)) (wC (D.int 6))) (AZ A4 (AF (Ax 0) (AF (AQ (wC (D.int 5))) AX)))) (Ag Aq (wC (D.int 1)) (AZ A4 (AF (Ax 0) (AF (AQ (Ag (L0 JJ λi j=>D.int (i ^ j.toNat)) (wC (D.int 10)) (wC (D.int 6)))) AX))))))))
noncomputable def Cw:AW:=(Ae (A7 2 (AZ A4 (AF (Ax 0) (AF (AQ (wC (D.int 3))) AX))))
 (Ae (A7 3 (Cq (AC (wC (D.str "a")) (AC (wC (D.str "aa")) (AC (wC (D.str "ab")) (AC (wC (D.str "b")) (AC (wC (D.str "far")) (AC (wC (D.str "in")) (AC (wC (D.str "near")) (AC (wC (D.str "out")) (AC (wC (D.str "place")) (AC (wC (D.str "tie")) (AC (wC (D.str "ties")) (AC (wC (D.str "way")) AO))))))))))))))
 (Ae (DQ (Hm (Ap (Ag (GX false) (AG 2) (wC (D.int 0)))) (Ap (Ag Fe (AG 1) (wC (D.int 13))))) (Ae (A7 4 (AZ A4 (AF (Ax 0) (AF (AQ (wC (D.int 12))) AX))))
 (BO (F2 Fc (AC (CM [some 3,some 4,none] (Bj (AC (AG 1) AO)) (BC 2) C4 (Ag DK (AG 0) (Ag (L0 (λ_ j=>0<j) λi j=>D.int (i % j)) (Ag Aq (AG 1) (AG 2)) (wC (D.int 12))))) AO)))) B2)
 (Ae (A7 5 (wC (D.str "abcdefghijklmnopqrstuvwxyz")))
 (Ae (A7 6 (Sh "str" NF (wC (D.str "")) (AC (CM [some 5,some 0,none] (Bj (AC (wC (D.int 8)) AO)) (BC 2) C4 (Ag DK (AG 0) (AZ A4 (AF (Ax 1) (AF (AQ (wC (D.int 26))) AX))))) AO)))
 (Ae (DQ (Hm (Ap (Ag (GX false) (AG 2) (wC (D.int 1)))) (Ap (Ag Fe (AG 1) (wC (D.int 9))))) (BO (CM [some 6,none] (Bj (AC (AG 1) AO)) (BC 1) C4 (Nj Fd (AG 0) CA (B1 (Ag Aq (wC (D.int 1)) (AG 1)))))) B2)
 (Ae (A7 7 (AZ A4 (AF (Ax 0) (AF (AQ (wC (D.int 7))) AX))))
 (Ae (A7 4 (AZ A4 (AF (Ax 0) (AF (AQ (wC (D.int 26))) AX))))
 (Ae (Hl 8 (Cq AO))
 (Ae (Gr (Bj (AC (AG 1) AO)) (BC 9) (Ae (A7 10 (Ag DK (AG 5) (Ag (L0 (λ_ j=>0<j) λi j=>D.int (i % j)) (Ag Aq (AG 4) (AG 9)) (wC (D.int 26)))))
 (RB 8 "list" NG (AC (Ag Aq (Ag Aq (Ag Aq (Nj Fd (AG 6) CA (B1 (AG 7))) (AG 10)) (Nj Fd (AG 6) (B1 (Ag Aq (AG 7) (wC (D.int 1)))) (B1 (wC (D.int 7))))) (Ag GW (wC (D.str "z")) (Ag (L0 (λ_ j=>0<j) λi j=>D.int (i % j)) (AG 9) (wC (D.int 2))))) AO))))
 (BO (F2 Fc (AC (EN 8) AO)))))))))))))
noncomputable def cs(x:Str):List Nat:=x.cps.toList
theorem Bz(x:Str):(cs x).length=x.length:=Ua
theorem Qn{x y:Str}(h:cs x=cs y):x=y:=by
 obtain⟨a⟩:=x
 obtain⟨b⟩:=y
 unfold cs at h
 exact congrArg Str.mk (Array.ext' h)
theorem Fk(x y:Str):cs (x++y)=cs x++cs y:=PySem.W.KT.app_list x y
theorem PY{x:Str}{j:Int}(h0:0<=j)(h1:j<=(x.length:Int)):cs (Txt.slice x none (some j))=(cs x).take j.toNat:=by
 have e:(x.cps.toList.length:Int)=(x.length:Int):=by rw [show x.cps.toList.length=x.length from Bz x]
 have h:=eq_of_beq (slice_closes_to (x:=x) (j:=j) ⟨h0,by omega⟩)
 rw [h]
 show ((x.cps.toList.drop (0:Int).toNat).take (j - 0).toNat)=(x.cps.toList).take j.toNat
 rw [Int.sub_zero]
 rfl
theorem Qm{x:Str}{i j:Int}(h0:0<=i)(h1:i<=j)(h2:j<=(x.length:Int)):cs (Txt.slice x (some i) (some j))=((cs x).drop i.toNat).take (j - i).toNat:=by
 have e:(x.cps.toList.length:Int)=(x.length:Int):=by rw [show x.cps.toList.length=x.length from Bz x]
 have h:=eq_of_beq (slice_closes (x:=x) (i:=i) (j:=j) ⟨h0,h1,by omega⟩)
 rw [h]
 rfl
noncomputable def OR(x:Str):Prop:=1<=x.length/\x.length<=8/\∀c∈cs x,97<=c/\c<=122
noncomputable def rising(xs:List Str):Prop:=xs.Pairwise λx y=>cs x<cs y
theorem Mt(a b:List Nat):ltCps a b=decide (a<b):=ltCps_eq a b
theorem EQ:∀(l:List Str) (p:Str),risingS p l=true->(p::l).Pairwise λa b=>¬cs b<cs a
 | [],p,_=>Vs _ _
 | x::r,p,h=>by
  have h':(!ltCps x.cps.toList p.cps.toList&&risingS x r)=true:=h
  rw [Tu,Bool.not_eq_true',Mt,decide_eq_false_iff_not] at h'
  have ih:=EQ r x h'.2
  refine VI.mpr ⟨λy hy=>?_,ih⟩
  rcases TM.mp hy with rfl | hy
  ·exact h'.1
  ·have h2:=(VI.mp ih).1 y hy
   exact List.le_trans (l₁:=cs p) (l₂:=cs x) (l₃:=cs y) h'.1 h2
theorem Ct{l:List Str}(h:sortedS l=true)(nd:l.Nodup):rising l:=by
 have hp:l.Pairwise λa b=>¬cs b<cs a:=by
  cases l with
  | nil=>exact Wc
  | cons x r=>exact EQ r x h
 refine(hp.and nd).imp λ{a b} ⟨h1,h2⟩=>?_
 exact Classical.byContradiction λh3=>h2 (Qn (List.le_antisymm (as:=cs a) (bs:=cs b) h1 h3))
theorem KP:∀(l:List Nat) (i j:Nat),i<j->i<l.length->l.take i<l.take j
 | [],_,_,_,h=>absurd h (Nat.not_lt_zero _)
 | c::r,0,j+1,_,_=>List.nil_lt_cons _ _
 | c::r,i+1,j+1,h1,h2=>by
  rw [List.take_succ_cons,List.take_succ_cons]
  exact List.cons_lt_cons_iff.mpr (.inr ⟨rfl,KP r i j (by omega) (by simpa using h2)⟩)
theorem GL{b:BW}{te:DW}{P:List D->Nat->Prop}(I:Nat->Nat->List D->List Slot->Prop)(hend:∀n acc ρ,I 0 n acc ρ->P acc n)
  (hstep:∀(k:Nat) (d:D) (n:Nat) (acc:List D) (ρ:List Slot) (nx:List D->Nat->List Slot->Prop),I (k+1) n acc ρ->(∀acc' n' ρ',I k n' acc' ρ'->nx acc' n' ρ')->b d ρ λρ1=>te n ρ1 λy n2=>nx (acc++[y]) n2 ρ1) :
  ∀(ds acc:List D) (n:Nat) (ρ:List Slot),I ds.length n acc ρ->Bl b C4 te P ds acc n ρ
 | [],acc,n,ρ,h=>hend n acc ρ h
 | d::ds,acc,n,ρ,h=>hstep ds.length d n acc ρ (λacc n ρ=>Bl b C4 te P ds acc n ρ) h λacc' n' ρ' h'=>GL I hend hstep ds acc' n' ρ' h'
theorem BG(lo:Int)(n:Nat):(Bg lo n).length=n:=by unfold Bg; rw [Ev,Uk]
theorem IF{lo:Int}{n:Nat}{d:D}(h:d∈Bg lo n):∃k:Nat,k<n/\d=.int (lo+k):=by
 unfold Bg at h
 obtain⟨k,hk,rfl⟩:=T2.mp h
 exact⟨k,UK.mp hk,rfl⟩
theorem LS{ss:List Slot}{n:Nat}{Pd:D->Nat->Prop}(h:Oj ss n Pd):Cy { nx:=λn _=>Kd.sh=.sh/\Pd .non n,rt:=Pd } n (ss++Is 0 .no):=by
 obtain⟨s,rfl,hn,p⟩:=h
 unfold Cy
 refine CL (λ_=>⟨3,rfl,by decide,by decide,by omega,λr h0 h1=>p _ (by omega) (by omega)⟩) λ_=>?_
 refine CL (λ_=>⟨12,rfl,by decide,by decide,by omega,λr h0 h1=>p _ (by omega) (by omega)⟩) λ_=>?_
 refine CL (λ_=>⟨⟨by decide,by decide,by decide⟩,5,rfl,by decide,by decide,by omega,λr h0 h1=>?_⟩) λ_=>⟨⟨by decide,by decide,by decide⟩,_,rfl,by decide,by decide,by omega,λr h0 h1=>?_⟩
 ·have e:((10:Int) ^ (6:Int).toNat)=1000000:=by decide
  exact p _ (by rw [e]; omega) (by rw [e]; omega)
 ·have e:((10:Int) ^ (6:Int).toNat)=1000000:=by decide
  rw [e] at h1
  exact p _ (by omega) (by omega)
end Nt
namespace L2
open PySem PySem.Spec PyProof.Rows
theorem QR{K:Frag}:PySem.W.specialIn K (.builtin "object.__class__") "__get__"=some (some (.builtin "getset_descriptor.__get__")):=by kernel_rfl
theorem Mr{K:Frag}:PySem.W.takesIn K (.builtin "object.__class__")=some true:=by kernel_rfl
section
variable {K:Frag}{nm n1 n2:Str}{C U D U':Addr}
theorem XC.hd(c:XC K nm C U):PySem.W.hasDictIn K C=true:=by
 obtain⟨cd,h1,_,h2,_⟩:=c.cls
 unfold PySem.W.hasDictIn
 rw [h1]; exact h2
theorem XC.mro(c:XC K nm C U)(v:Value):PySem.W.mroIn K C v=some ((Sc C::Sc U::BY).contains v):=by
 obtain⟨cd,h1,h2,_⟩:=c.cls
 unfold PySem.W.mroIn
 rw [h1,V2,h2]; rfl
theorem XC.name(c:XC K n1 C U)(d:XC K n2 C U'):n1=n2:=by
 obtain⟨cd,h1,_,_,h2⟩:=c.cls
 obtain⟨cd',h1',_,_,h2'⟩:=d.cls
 rw [h1] at h1'; cases h1'; exact h2.symm.trans h2'
theorem XC.nameU(c:XC K n1 C U)(d:XC K n2 U U'):n2 = "ThinError":=by
 obtain⟨q,N,bs,sn,sub,ab,col,dd,k0,k1,k2,k3,k5,hd,e⟩:=c.up
 obtain⟨cd',h1',_,_,h2'⟩:=d.cls
 unfold PySem.W.clsIn at h1'
 rw [e] at h1'
 cases h1'
 exact h2'.symm
theorem XC.ty(c:XC K nm C U):(PySem.W.clsIn K C).isSome=true/\PySem.W.typeIn K (.ref C)=some (.type "type"):=by
 obtain⟨q,N,bs,sn,sub,ab,col,dd,k0,k1,k2,k3,k5,e⟩:=c.obj
 refine⟨by unfold PySem.W.clsIn; rw [e]; rfl,?_⟩
 unfold PySem.W.typeIn
 simp only [e]
 rfl
theorem XC.kit(c:XC K n1 C U)(d:XC K n2 D U')(h:n2 ≠ "ThinError"):PySem.W.kitOne K (.ref C) (.ref D)=some (decide (n1=n2)):=by
 unfold PySem.W.kitOne
 by_cases e:C=D
 ·subst e
  rw [if_pos (by simp),c.name d]
  simp
 ·have ne:n1≠n2:=λz=>by
   subst z
   have q:=c.at_.symm.trans d.at_
   cases q
   exact e rfl
  have nu:U≠D:=λz=>by subst z; exact h (c.nameU d)
  rw [if_neg (by simp [e])]
  show (if ((PySem.W.clsIn K D).isSome&&PySem.W.typeIn K (Sc D)==some (Ux "type"))=true then PySem.W.subIn K (Sc C) (Sc D) else none)=_
  rw [if_pos (by rw [d.ty.1,d.ty.2]; rfl)]
  show PySem.W.mroIn K C (.ref D)=_
  rw [c.mro,EZ]
  simp [e,ne,nu]
theorem XC.kitV(c:XC K n1 C U):PySem.W.kitOne K (.ref C) (.type "ValueError")=some true:=by
 unfold PySem.W.kitOne
 rw [if_neg (by simp)]
 show (if PySem.W.kitMeta "ValueError"=true then PySem.W.subIn K (Sc C) (.type "ValueError") else none)=_
 rw [if_pos (by decide +kernel)]
 show PySem.W.mroIn K C _=_
 rw [c.mro]
 simp [BY]
end
section
variable {prog:Program}{w:World}{A:Around}{E:Value->Shared->Prop}{s:Shared}{K:Frag}{nm name:Str}{x C U:Addr}{ox:Obj}{od:Option Obj}{tk:Tok}{fill expr:Bool}
theorem Oq{Q:Value->Shared->Prop}(X:K.In s.heap)(c:XC K nm C U)(I:PySem.W.InstAt s.heap x ox C od)
  (h:wpAny (model prog w) A.in1 (Builtin.«object.__getattribute__» ⟨[.ref x,.str name tk],[]⟩) (λfin s'=>match fin with | .done (.ret v)=>wpAny (model prog w) A (handedOut v) Q E s' | _=>False) (λ_ _=>False) s) :
  wpAny (model prog w) A (getAttrBy (.ref x) (.str name tk) fill expr) Q E s:=by
 have FX:=PySem.F.excAttr_ValueError
 have n2:(VD "BaseException.__getattribute__"==VD "object.__getattribute__")=false:=by decide +kernel
 have n1:(onTheHeap (Sc C)&&VD "BaseException.__getattribute__"==VD "object.__getattribute__")=false:=by rw [n2]; rfl
 have n0:(expr&&onTheHeap (VD "BaseException.__getattribute__"))=false:=by cases expr <;> rfl
 have sub:PySem.W.Looks (model prog w) s.heap (isInstance (.ref x) (.type "BaseException")) true:=by
  refine I.type.andThen (PySem.W.looks_mroIn X ?_)
  rw [c.mro]; simp [BY]
 unfold getAttrBy
 refine UR (Ch (I.type.here (Ch ((PySem.W.looks_findIn X c.ga).here ?_))))
 show wpAny _ _ (if (onTheHeap (Sc C)&&VD "BaseException.__getattribute__"==VD "object.__getattribute__")=true then _ else getAttrByItsOwn _ _ _ _ _ _) _ _ _
 rw [n1,if_neg TW]
 unfold getAttrByItsOwn
 refine Ch ((show PySem.W.Looks (model prog w) s.heap (hookBefore (.ref C)) none from PySem.W.looks_findIn X c.gt).here (Ch (Vb (UR ?_))))
 unfold callGetattribute boundAndCalled
 rw [n0,if_neg TW,FX.ga.bind (.ref x)]
 refine Ch (Db (U7 (WC FX.ga.plain PySem.F.entry_bexc_ga (@PySem.W.check_slot (model prog w) _ _ s "BaseException.__getattribute__" "BaseException" "__getattribute__" (.ref x) [.str name tk] [] _ (by decide +kernel) (by decide +kernel) sub (PySem.F.args_bexc_ga _ _) (UC h (λfin s' z=>?_) λ_ _ z=>z.elim)))))
 rcases fin with (_ | _ | _ | _) | _ <;> first | exact z | exact z.elim
theorem Ov{a b:Value}:slotArgs "__getattribute__" 1 ⟨[a,b],[]⟩=pure (a,[b]):=rfl
theorem Pl{v:Value}{Q:Value->Shared->Prop}(X:K.In s.heap)(c:XC K nm C U)(I:PySem.W.InstAt s.heap x ox C od)(hf:PySem.W.findObj K C od name=some (.value v))(hh:PySem.W.handedIn v=true)(h:Q v { s with toks:=s.toks+1 }) :
  wpAny (model prog w) A (getAttr (.ref x) name expr) Q E s:=by
 unfold getAttr
 refine Ch (wpAny_mkText (Oq (s:={ s with toks:=s.toks+1 }) X c I ?_))
 unfold Builtin.«object.__getattribute__»
 rw [Ov]
 refine Ch (Db (Ch (Db (Ch (PySem.W.Looks.here (s:={ s with toks:=s.toks+1 }) I.type (Ch (PySem.W.Looks.here (s:={ s with toks:=s.toks+1 }) (PySem.W.looks_find X I hf) (Db ?_))))))))
 show wpAny _ _ (handedOut v) _ _ _
 rw [PySem.W.handedOut_of hh]; exact Db h
theorem MF{g a v:Value}{Q:Option Value->Shared->Prop}(X:K.In s.heap)(c:XC K nm C U)(I:PySem.W.InstAt s.heap x ox C od)(hf:PySem.W.findObj K C od name=some (.bind g a))(hh:PySem.W.handedIn v=true)
  (h:∀{A:Around} {R:Value->Shared->Prop},R v { s with toks:=s.toks+1 }->wpAny (model prog w) A (call g [a,.ref x,.ref C]) R (λ_ _=>False) { s with toks:=s.toks+1 }) (q:Q (some v) { s with toks:=s.toks+1 }) :
  wpAny (model prog w) A (getAttr? (.ref x) name) Q E s:=by
 unfold getAttr? getAttrBy?
 refine Ch (wpAny_mkText (Ch (Vb (Oq (s:={ s with toks:=s.toks+1 }) X c I ?_))))
 unfold Builtin.«object.__getattribute__»
 rw [Ov]
 refine Ch (Db (Ch (Db (Ch (PySem.W.Looks.here (s:={ s with toks:=s.toks+1 }) I.type (Ch (PySem.W.Looks.here (s:={ s with toks:=s.toks+1 }) (PySem.W.looks_find X I hf) ?_)))))))
 show wpAny _ _ (holding [a] (call g [a,.ref x,.ref C]) >>= ret) _ _ _
 refine Ch (UR (h (Db ?_)))
 show wpAny _ _ (handedOut v) _ _ _
 rw [PySem.W.handedOut_of hh]; exact Db (Db q)
end
section
variable {K:Frag}{nm n1 n2:Str}{C U D U':Addr}
theorem XC.kitX{a:Addr}(c:XC K nm C U):PySem.W.KitX K (.ref a) (.ref C) (λh=>∃ox odo,PySem.W.InstAt h a ox C odo) where
 ty:=λ_ _ _ ⟨_,_,I⟩=>I.type
 it:=λ_ _ X _=>by
  obtain⟨q,N,bs,sn,sub,ab,col,dd,k0,k1,k2,k3,k5,e⟩:=c.obj
  intro A' Q' E' s' k q
  unfold isType PySem.loadHead
  exact Ch (wpAny_loadPart (k _ _ (X _ _ e)) (Db q))
 ne:=λh tp dd' its n sl X htp=>by
  obtain⟨q,N,bs,sn,sub,ab,col,dd,k0,k1,k2,k3,k5,e⟩:=c.obj
  refine Vu.mpr λz=>?_
  have z':C=tp:=Value.ref.inj (beq_iff_eq.mp z)
  subst z'
  have z2:=congrArg Obj.data (Rs ((X _ _ e).symm.trans htp))
  exact Data.noConfusion z2
 ca:=λ{prog w A E Q s} X J k=>by
  obtain⟨ox,odo,I⟩:=J
  have hf:PySem.W.findObj K C odo "__class__"=some (.bind (.builtin "getset_descriptor.__get__") (.builtin "object.__class__")):=by
   obtain⟨cd,h1,_⟩:=c.cls
   unfold PySem.W.findObj
   rw [h1,V2,c.ca,V2]
   simp [QR,Mr]
  exact MF X c I hf (v:=.ref C) rfl (λr=>U7 (PySem.W.class_get (s:={ s with toks:=s.toks+1 }) (ox:=ox) (od:=odo) X I (c.mro _) r)) k
end
section
variable {X:Cx}{pins:List (Addr×Obj)}{σ:St}{H:Hp}{s:Shared}{a C U d:Addr}{dx:Option Addr}{u:HO}{nm f:Str}{fs:List (Str×V)}{v:V}{A:Around}{E:Value->Shared->Prop}
theorem XT.inst(xt:XT C dx a u)(I:Inv X pins σ H s)(ea:H a=some u)(hd:∀d,dx=some d->∃o,s.heap.get? d=some o):∃ox odo,PySem.W.InstAt s.heap a ox C odo:=by
 obtain⟨vs,sl,rfl,h2⟩:=xt
 obtain⟨hx,_⟩:=(show ObjOk X.prog X.w H s.heap a _ from I.hok a _ ea)
 cases dx with
 | none=>exact⟨_,none,hx,rfl,rfl,trivial⟩
 | some d =>
  obtain⟨o,ho⟩:=hd d rfl
  exact⟨_,some o,hx,rfl,rfl,ho⟩
theorem OU{b:Bool}{Q:Value->Shared->Prop}(I:Inv X pins σ H s)(ea:H a=some u)(xt:XT C (some d) a u)(ed:H d=some (.ext (XF d fs)))(c:XC X.K nm C U)(n:DP X.K C f)(l:fs.lookup f=some v)
  (h:∀u s',Inv X pins σ H s'->RelV v u->Q u s'):wpAny (model X.prog X.w) A (getAttr (.ref a) f b) Q E s:=by
 obtain⟨vs,sl,rfl,h2⟩:=xt
 obtain⟨hx,_⟩:=(show ObjOk X.prog X.w H s.heap a _ from I.hok a _ ea)
 obtain⟨⟨mA,nd,r,wi,_⟩,_⟩:=(show ObjOk X.prog X.w H s.heap d _ from I.hok d _ ed)
 obtain⟨od,ho,hl⟩:=GN nd
 obtain⟨u',hu,ru⟩:=RelO.some_of (v:=v) (o:=mA f) (by rw [← l]; exact r f)
 have J:PySem.W.InstAt s.heap a ⟨.ref C,some d,.fields vs,sl⟩ C (some od):=⟨hx,rfl,rfl,ho⟩
 exact Pl I.kIn c J (PySem.W.findObj_own c.hd n rfl (by rw [hl,hu])) (Lx ru) (h u' _ (I.tok _) ru)
end
noncomputable def Td(K:Frag)(ta:TE)(f:Str):TE:=λσ H Q=>ta σ H λx H1=>∃a C U d u nm fs v,x=.ref a/\H1 a=some u/\XT C (some d) a u/\H1 d=some (.ext (XF d fs))/\XC K nm C U/\DP K C f/\fs.lookup f=some v/\Q v H1
section
variable {X:Cx}{e:Expr}{f:Str}{pos:Pos}{ta:TE}
theorem Rh(he:PE X e ta)(hb:attributeBase e f X.env (eval e X.env)=eval e X.env):PE X (.Attribute e f pos) (Td X.K ta f):=by
 intro pins s σ H Q I h
 refine Of hb (A3 (he pins s σ H _ I h) λu s1 ⟨x,H1,I1,rx,a,C,U,d,u0,nm,fs,v,ex,ea,xt,ed,c,n,l,q⟩=>?_)
 subst ex
 obtain rfl:u=Sc a:=rx
 exact OU I1 ea xt ed c n l λu' s2 I2 ru=>⟨v,H1,I2,ru,q⟩
theorem Iz:CK X (.builtin "isinstance") (λxs H Q=>∃a C U dx u nm y c b,xs=[.ref a,y]/\H a=some u/\XT C dx a u/\(∀d,dx=some d->∃fs,H d=some (.ext (XF d fs)))/\XC X.K nm C U/\(y=.ty c/\PySem.W.kitOne X.K (.ref C) (.type c)=some b\/∃D,y=.ref D/\PySem.W.kitOne X.K (.ref C) (.ref D)=some b)/\Q (.bl b) H):=by
 intro pins s σ H xs us Q I r h
 obtain⟨a,C,U,dx,u,nm,y,c,b,rfl,ea,xt,hd,xc,hy,q⟩:=h
 obtain⟨u1,u2,rfl,r1,r2⟩:=vals2 r
 cases (show u1=Sc a from r1)
 have J:=xt.inst I ea λd e=>by
  obtain⟨fs,ho⟩:=hd d e
  obtain⟨⟨mA,⟨o,_,_,e2,_⟩,_⟩,_⟩:=(show ObjOk X.prog X.w H s.heap d _ from I.hok d _ ho)
  exact⟨o,e2⟩
 rcases hy with ⟨rfl,e⟩ | ⟨D,rfl,e⟩
 ·cases (show u2=Ux c from r2)
  exact PySem.W.kia_one xc.kitX I.kIn J e (by intro z; cases z) λtk=>⟨.bl b,H,I.tok _,rfl,q⟩
 ·cases (show u2=Sc D from r2)
  exact PySem.W.kia_one xc.kitX I.kIn J e (by intro z; cases z) λtk=>⟨.bl b,H,I.tok _,rfl,q⟩
end
end L2
namespace Dp
open PySem PySem.Spec PyProof.Rows L2
noncomputable def TX(M:Addr->Prop)(H:Hp)(dx:Option Addr)(ks:List Str)(vs:List V):Prop:=dx=none/\ks=[]/\vs=[]\/∃d,dx=some d/\¬M d/\H d=some (.ext (XF d (ks.zip vs)))
noncomputable abbrev PX:=Str->List Str->List D->Nat->Prop
noncomputable abbrev WX:=List Slot->Nat->(D->Nat->Prop)->PX->Prop
noncomputable def LiftX(K:Frag)(F:Option (Addr×Addr))(U M:Addr->Prop)(H:Hp)(Pr:PX)(E:XK):Prop:=∀nm C Uc ks ds vs dx H' n',Ext U H H'->FeedC K F M H' n'->XC K nm C Uc->TX M H' dx ks vs->ks.length=ds.length->Ats K M H' ds vs->Pr nm ks ds n'->E (.ref C) dx H'
noncomputable def RR(K:Frag)(κ:Kd)(W:WX)(np:Nat):Sp:=λvs H Q E=>vs.length=np/\∃(F:Option (Addr×Addr)) (U V' M:Addr->Prop) (n:Nat) (ss:List Slot) (P:D->Nat->Prop) (Pr:PX),Qz K F U V' M H n ss vs/\W ss n P Pr /\
 (∀v H' d n',Ext U H H'->FeedC K F M H' n'->VR K V' M H H' κ v d->P d n'->Q v H')/\LiftX K F U M H Pr E
section
variable {K:Frag}{C:Fm}{M:Addr->Prop}{H:Hp}{n:Nat}{ρ:List Slot}{σ:L2.St}
theorem Rel.setS(R:Rel K C M H n ρ σ){i:Nat}{s:Slot}{o:Option V}(ho:s.owns=false)(hb:∀d,s≠.br d)(h:SlotOk K C.F C.V M H s o):Rel K C M H n (ρ.set i s) (σ.set i o):=by
 have two:∀(j:Nat) (t:Slot),(ρ.set i s)[j]?=some t->t.owns=true->ρ[j]?=some t/\((σ.set i o)[j]?).getD none=(σ[j]?).getD none:=λj t q w=>by
  rcases CO q with ⟨_,_,rfl⟩ | ⟨hj,q⟩
  ·rw [ho] at w; cases w
  ·exact⟨q,C5 hj⟩
 refine⟨by rw [Ut,Ut]; exact R.len,R.sub,R.dom,R.ext,R.fU,R.uV,R.vM,R.feed,λj s q=>?_,R.pin,λj e a q q2=>?_,λj s a q o q2=>?_,λj k s t a q1 o1 q2 o2 z1 z2=>?_,λp hp=>?_⟩
 ·rcases CO q with ⟨rfl,hl,rfl⟩ | ⟨hj,q⟩
  ·rw [JX (by rw [← R.len]; exact hl)]
   exact h
  ·rw [C5 hj]
   exact R.sl j s q
 ·rcases CO q with ⟨_,_,e⟩ | ⟨hj,q⟩
  ·exact absurd e.symm (hb _)
  ·rw [C5 hj] at q2
   exact R.br0 j e a q q2
 ·obtain⟨q1,e⟩:=two j s q o
  rw [e] at q2
  exact R.new j s a q1 o q2
 ·obtain⟨p1,e1⟩:=two j s q1 o1
  obtain⟨p2,e2⟩:=two k t q2 o2
  rw [e1] at z1
  rw [e2] at z2
  exact R.two j k s t a p1 o1 p2 o2 z1 z2
 ·obtain⟨h1,h2,h3,h4⟩:=R.kept p hp
  refine⟨h1,h2,h3,λj e q=>?_⟩
  obtain⟨q1,e2⟩:=two j _ q rfl
  rw [e2]
  exact h4 j e q1
end
noncomputable def Sa(Φ:Fm->Prop)(X:Cx)(κ:Kd)(st:Stmt)(w:AW):Prop:=∃t,PS X st t/\∀(C:Fm) (M:Addr->Prop) (H:Hp) (n:Nat) (ρ:List Slot) (σ:L2.St) (D2:E2) (E:Ends),Φ C->Rel X.K C M H n ρ σ->Dt X.K C κ D2 E->w D2 n ρ->t E σ H
noncomputable def JI(Φ:Fm->Prop)(X:Cx)(κ:Kd)(st:List Stmt)(w:AW):Prop:=∃t,PSs X st t/\∀(C:Fm) (M:Addr->Prop) (H:Hp) (n:Nat) (ρ:List Slot) (σ:L2.St) (D2:E2) (E:Ends),Φ C->Rel X.K C M H n ρ σ->Dt X.K C κ D2 E->w D2 n ρ->t E σ H
section
variable {Φ:Fm->Prop}{X:Cx}{κ:Kd}{st:Stmt}{rest:List Stmt}{u v:AW}{wA:EM}{c e:Expr}{es:List Expr}{pos cpos p:Pos}
theorem Ks(h:MB X κ rest u):JI Φ X κ rest u:=let ⟨t,a,b⟩:=h; ⟨t,a,λC M H n ρ σ D2 E _=>b C M H n ρ σ D2 E⟩
theorem GY(h1:Sa Φ X κ st u)(h2:JI Φ X κ rest v):JI Φ X κ (st::rest) (Ae u v):=by
 obtain⟨t,a1,a2⟩:=h1
 obtain⟨t',b1,b2⟩:=h2
 refine⟨_,Ay a1 b1,λC M H n ρ σ D2 E hc R L w=>?_⟩
 exact a2 C M H n ρ σ { D2 with nx:=v D2 } { E with nx:=t' E } hc R ⟨λM H n ρ σ R w=>b2 C M H n ρ σ D2 E hc R L w,L.rt,L.bk,L.ct⟩ w
theorem Im(h1:Sa Φ X κ st u):JI Φ X κ [st] u:=by
 obtain⟨t,a1,a2⟩:=h1
 exact⟨t,Bp a1,a2⟩
theorem NN{a b:List Stmt}(hc:DT X c wA)(ha:JI Φ X κ a u)(hb:JI Φ X κ b v):Sa Φ X κ (.If c a b pos) (DQ wA u v):=by
 obtain⟨t,a1,a2⟩:=hc
 obtain⟨t',b1,b2⟩:=ha
 obtain⟨t'',c1,c2⟩:=hb
 refine⟨_,KY a1 b1 c1,λC M H n ρ σ D2 E hC R L w=>?_⟩
 refine a2 C M H n ρ σ _ _ R w λb H1 n1 e1 f1 p=>?_
 cases b with
 | true=>exact b2 C M H1 n1 ρ σ D2 E hC (R.step e1 f1) L p
 | false=>exact c2 C M H1 n1 ρ σ D2 E hC (R.step e1 f1) L p
end
noncomputable def B9(P:Program)(w:World)(K:Frag)(mg:Str->Option Value)(base:Heap)(nm:Str)(ks:List Str)(k:Nat):Prop:=∃C U,XC K nm C U/\mg nm=some (.ref C) /\
 ((ks=[]/\PySem.W.findIn K (.ref C) "__init__"=some (some (.builtin "ValueError.__init__")))\/∃k1 k2 f fd p0 p1 p2,ks=[k1,k2]/\PySem.W.findIn K (.ref C) "__init__"=some (some (.ref f))/\PySem.W.typeIn K (.ref f)=some (.type "function")/\A1 P w K mg base Bn k f fd [p0,p1,p2] (Dx C k1 k2)/\Binds K fd [p0,p1,p2] [])
noncomputable def Br(nm:Str)(ks:List Str)(was:Cf):E2->PX->Nat->List Slot->Prop:=λ_ Pr n ρ=>was n ρ λds n1=>(ks=[]/\ds.length<=100/\Pr nm [] [] n1)\/(ks.length=2/\ds.length=2/\Pr nm ks ds n1)
noncomputable abbrev Ng:=E2->PX->Nat->List Slot->Prop
noncomputable def SI(X:Cx)(κ:Kd)(st:Stmt)(w:Ng):Prop:=∃t,Pf X st t/\∀(C:Fm) (M:Addr->Prop) (H:Hp) (n:Nat) (ρ:List Slot) (σ:L2.St) (D2:E2) (E:Ends) (R:XK) (Pr:PX),Rel X.K C M H n ρ σ->Dt X.K C κ D2 E->LiftX X.K C.F C.U M H Pr R->w D2 Pr n ρ->t E R σ H
noncomputable def KL(X:Cx)(κ:Kd)(st:List Stmt)(w:Ng):Prop:=∃t,JG X st t/\∀(C:Fm) (M:Addr->Prop) (H:Hp) (n:Nat) (ρ:List Slot) (σ:L2.St) (D2:E2) (E:Ends) (R:XK) (Pr:PX),Rel X.K C M H n ρ σ->Dt X.K C κ D2 E->LiftX X.K C.F C.U M H Pr R->w D2 Pr n ρ->t E R σ H
theorem LiftX.step{K:Frag}{F:Option (Addr×Addr)}{U M:Addr->Prop}{H H1:Hp}{Pr:PX}{E:XK}(h:LiftX K F U M H Pr E)(e:Ext U H H1):LiftX K F U M H1 Pr E:=λnm C Uc ks ds vs dx H' n' e1=>h nm C Uc ks ds vs dx H' n' (e.trans e1)
section
variable {X:Cx}{κ:Kd}{st:Stmt}{rest:List Stmt}{u v:Ng}{wA:EM}{c e:Expr}{es:List Expr}{pos cpos p:Pos}{nm:Str}{ks:List Str}{k:Nat}{was:Cf}
noncomputable def Pn(t:EM)(u v:Ng):Ng:=λD2 Pr n ρ=>t n ρ λc n1=>if c=true then u D2 Pr n1 ρ else v D2 Pr n1 ρ
theorem BH(h1:SI X κ st u):KL X κ [st] u:=by
 obtain⟨t,a1,a2⟩:=h1
 exact⟨t,Me a1,a2⟩
theorem Qj{a b:List Stmt}(hc:DT X c wA)(ha:KL X κ a u)(hb:KL X κ b v):SI X κ (.If c a b pos) (Pn wA u v):=by
 obtain⟨t,a1,a2⟩:=hc
 obtain⟨t',b1,b2⟩:=ha
 obtain⟨t'',c1,c2⟩:=hb
 refine⟨_,Mc a1 b1 c1,λC M H n ρ σ D2 E R Pr r L l w=>?_⟩
 refine a2 C M H n ρ σ _ _ r w λb H1 n1 e1 f1 p=>?_
 cases b with
 | true=>exact b2 C M H1 n1 ρ σ D2 E R Pr (r.step e1 f1) L (l.step e1) p
 | false=>exact c2 C M H1 n1 ρ σ D2 E R Pr (r.step e1 f1) L (l.step e1) p
noncomputable def JQ(t:EM)(u v:Ng):Ng:=Pn t (λD2 Pr n ρ=>u { nx:=λ_ _=>False,rt:=λ_ _=>False } Pr n ρ) v
theorem Cm{a:List Stmt}(hc:DT X c wA)(ha:KL X κ a u)(hr:KL X κ rest v):KL X κ (.If c a [] pos::rest) (JQ wA u v):=by
 obtain⟨t,a1,a2⟩:=hc
 obtain⟨t',b1,b2⟩:=ha
 obtain⟨t'',c1,c2⟩:=hr
 refine⟨_,LW (Mc a1 b1 (N3 Eo)) c1,λC M H n ρ σ D2 E R Pr r L l w=>?_⟩
 refine a2 C M H n ρ σ _ _ r w λb H1 n1 e1 f1 p=>?_
 cases b with
 | true=>exact b2 C M H1 n1 ρ σ { nx:=λ_ _=>False,rt:=λ_ _=>False } _ R Pr (r.step e1 f1) ⟨λ_ _ _ _ _ _ z=>T5 z,λ_ _ _ _ _ _ _ z=>T5 z,λ_ _ _ _ _ _ z=>T5 z,λ_ _ _ _ _ _ z=>T5 z⟩ (l.step e1) p
 | false=>exact⟨rfl,c2 C M H1 n1 ρ σ D2 E R Pr (r.step e1 f1) L (l.step e1) p⟩
theorem BD(G:B9 X.prog X.w X.K X.mg X.base nm ks k)(hr:Room (k+1) X.A)(hg:Gl X nm)(ha:Q7 X (e::es) was)(hdb:autoParam ((nm==("__debug__" : Str))=false) zau1._auto_1)(he:autoParam (starEach (e::es) X.env=(false,eval e X.env)::starEach es X.env) zau3._auto_1)(hpl:autoParam ((backTo cpos (starEach es X.env)).any (·.1)=false) zau3._auto_1)
  (hz:autoParam ((e::es).length<=sizeLine) zau1._auto_1):SI X κ (.Raise (some (.Call (.Name nm p) (e::es) [] cpos)) none pos) (Br nm ks was):=by
 obtain⟨C,U,xc,hm,G⟩:=G
 obtain⟨t,a1,a2⟩:=ha
 rcases G with ⟨rfl,hi⟩ | ⟨k1,k2,f,fd,p0,p1,p2,rfl,hi,hf,F,hb⟩
 ·refine⟨_,Jk xc hi hr.hd hg hm a1 hdb he hpl,λC0 M H n ρ σ D2 E R Pr r L l w=>?_⟩
  refine a2 C0 M H n ρ σ _ _ r w λvs H1 ds n1 e1 f1 r1 p=>?_
  rcases p with ⟨_,hz,p⟩ | ⟨z,_⟩
  ·exact⟨by rw [r1.length,PySem.sizeLine_eq]; omega,l nm C U [] [] [] none H1 n1 e1 f1 xc (.inl ⟨rfl,rfl,rfl⟩) rfl rfl p⟩
  ·cases z
 ·refine⟨_,Jj xc hi hf F hb hr hg hm a1 hdb he hpl,λC0 M H n ρ σ D2 E R Pr r L l w=>?_⟩
  refine a2 C0 M H n ρ σ _ _ r w λvs H1 ds n1 e1 f1 r1 p=>?_
  rcases p with ⟨z,_⟩ | ⟨_,hz,p⟩
  ·cases z
  ·have hv:=r1.length
   rw [hz] at hv
   match vs,hv with
   | [v1,v2],_ =>
    refine⟨v1,v2,rfl,λd hd=>?_⟩
    have g:=Aj (o:=.ext (XF d [(k1,v1),(k2,v2)])) hd
    have nd:¬M d:=λz=>by
     obtain⟨o,q⟩:=(r.step e1 f1).dom d z
     rw [hd] at q; cases q
    exact l nm C U [k1,k2] ds [v1,v2] (some d) _ n1 (e1.trans g.ext) (f1.grow g) xc (.inr ⟨d,rfl,nd,AJ⟩) hz.symm (r1.pres g.pres) p
theorem Fh{R:XK}{Φ:Fm->Prop}{Pr:PX}{F0:Option (Addr×Addr)}{U0 M0:Addr->Prop}{H0:Hp}{w:Ng}(hx:EK (MD X.prog X.w) X R)(hL:LiftX X.K F0 U0 M0 H0 Pr R)(hΦ:∀C,Φ C->C.F=F0/\C.U=U0/\C.M0=M0/\C.H0=H0)(h:SI X κ st w):Sa Φ X κ st (λD2=>w D2 Pr):=by
 obtain⟨t,a1,a2⟩:=h
 refine⟨_,LY hx a1,λC M H n ρ σ D2 E hC r L w=>?_⟩
 obtain⟨rfl,rfl,rfl,rfl⟩:=hΦ C hC
 refine a2 C M H n ρ σ D2 E R Pr r L (λnm Cc Uc ks ds vs dx H' n' e f xc xd hl hs p=>?_) w
 have less:Pres M H' C.M0 H':=Pres.less r.sub
 refine hL nm Cc Uc ks ds vs dx H' n' (r.ext.trans e) (f.pres less λ_ _ _ z=>z) xc ?_ hl (hs.pres less) p
 rcases xd with z | ⟨d,e1,n1,h1⟩
 ·exact .inl z
 ·exact .inr ⟨d,e1,λz=>n1 (r.sub d z),h1⟩
noncomputable def Tc(X:Cx)(e:Expr)(κ:Kd)(w:Nat->List Slot->(D->Nat->Prop)->PX->Prop):Prop:=∃t,TD X e t/\∀(C:Fm) (M:Addr->Prop) (H:Hp) (n:Nat) (ρ:List Slot) (σ:L2.St) (P:D->Nat->Prop) (Q:VK) (R:XK) (Pr:PX),Rel X.K C M H n ρ σ->LiftX X.K C.F C.U M H Pr R->w n ρ P Pr ->
 (∀v H' d n',Ext C.U H H'->FeedC X.K C.F M H' n'->VR X.K C.V M H H' κ v d->P d n'->Q v H')->t R σ H Q
noncomputable def Om(P:Program)(w:World)(K:Frag)(mg:Str->Option Value)(base:Heap)(x:Str)(k:Nat)(ps:List Str)(κ:Kd)(W:WX):Prop :=
 ∃f fd,A1 P w K mg base (MD P w) k f fd ps (RR K κ W ps.length)/\mg x=some (.ref f)/\keepIn K (.ref f)=true/\Binds K fd ps []/\∀ss n P Pr,W ss n P Pr->ss.length=ps.length
noncomputable def JS(W:WX)(was:Nh):Nat->List Slot->(D->Nat->Prop)->PX->Prop:=λn ρ P Pr=>was n ρ λss n1=>W ss n1 P Pr
theorem Ir{ps:List Str}{κe:Kd}{W:WX}{x:Str}{was:Nh}(G:Om X.prog X.w X.K X.mg X.base x k ps κe W)(hr:Room k X.A)(hg:Gl X x)(ha:Q6 X (e::es) was)
  (hdb:autoParam ((x==("__debug__" : Str))=false) zau1._auto_1) (he:autoParam (starEach (e::es) X.env=(false,eval e X.env)::starEach es X.env) zau3._auto_1) (hpl:autoParam ((backTo pos (starEach es X.env)).any (·.1)=false) zau3._auto_1) :
  Tc X (.Call (.Name x p) (e::es) [] pos) κe (JS W was):=by
 obtain⟨f,fd,G,hm,hk,hb,hW⟩:=G
 obtain⟨t,h1,h2⟩:=ha
 refine⟨_,Mh G hr hg hm hk hb h1 hdb he hpl,λC M H n ρ σ P Q R Pr r l w q=>?_⟩
 refine h2 C M H n ρ σ _ _ r w λvs H1 ss n1 e1 f1 r1 p=>?_
 have R1:=r.step e1 f1
 exact⟨(Paired.length r1).trans (hW _ _ _ _ p),C.F,C.U,C.V,M,n1,ss,P,Pr,⟨R1.dom,R1.fU,R1.uV,R1.vM,f1,r1⟩,p,λv H2 d n2 e2 f2 r2 p2=>q v H2 d n2 (e1.trans e2) f2 (VR.back e1 r2) p2,l.step e1⟩
noncomputable def JR(w:Nat->List Slot->(D->Nat->Prop)->PX->Prop):Ng:=λD2 Pr n ρ=>w n ρ (λ_ n1=>D2.nx n1 ρ) Pr
theorem Il{κe:Kd}{wa:Nat->List Slot->(D->Nat->Prop)->PX->Prop}(h:Tc X e κe wa)(hs:autoParam (swapsWith e none pos.line X.env=pure false) zau3._auto_1):SI X κ (.Expr e pos) (JR wa):=by
 obtain⟨t,a1,a2⟩:=h
 refine⟨_,Md a1 hs,λC M H n ρ σ D2 E R Pr r L l w=>?_⟩
 exact a2 C M H n ρ σ _ _ R Pr r l w λv H' d n' e1 f1 r1 p=>L.nx M H' n' ρ σ (r.step e1 f1) p
noncomputable abbrev Q5:=E2->Str->List Str->List D->Nat->List Slot->Prop
noncomputable def DH(X:Cx)(κ:Kd)(hs:List ExceptHandler)(w:Q5):Prop:=∃t,PH X hs t/\∀(C:Fm) (M:Addr->Prop) (H:Hp) (n:Nat) (ρ:List Slot) (σ:L2.St) (D2:E2) (E:Ends) (nm:Str) (Cc Uc:Addr) (ks:List Str) (ds:List D) (vs:List V) (dx:Option Addr),
 Rel X.K C M H n ρ σ->Dt X.K C κ D2 E->XC X.K nm Cc Uc->TX M H dx ks vs->ks.length=ds.length->Ats X.K M H ds vs->w D2 nm ks ds n ρ->t E Cc dx σ H
noncomputable def Pm(wb:Ng)(wh:Q5):AW:=λD2 n ρ=>wb D2 (λnm ks ds n'=>wh D2 nm ks ds n' ρ) n ρ
theorem NO{body:List Stmt}{h₀:ExceptHandler}{hs:List ExceptHandler}{wb:Ng}{wh:Q5}(hst:X.stack=X.env::X.outer)(hfr:X.env.frame=some X.env.locals)(hx:∀e s,X.xe e s->False)(hb:KL X κ body wb)(hh:DH X κ (h₀::hs) wh) :
  DS X κ (.Try body (h₀::hs) [] [] pos) (Pm wb wh):=by
 obtain⟨t,a1,a2⟩:=hb
 obtain⟨th,b1,b2⟩:=hh
 refine⟨_,P_ hst hfr hx a1 b1,λC M H n ρ σ D2 E r L w=>?_⟩
 refine a2 C M H n ρ σ D2 E _ _ r L (λnm Cc Uc ks ds vs dx H' n' e f xc xd hl hs p=>?_) w
 exact⟨Cc,rfl,b2 C M H' n' ρ σ D2 E nm Cc Uc ks ds vs dx (r.step e f) L xc xd hl hs p⟩
noncomputable def Gq:Q5:=λ_ _ _ _ _ _=>False
theorem NP:DH X κ [] Gq:=⟨_,QD,λ_ _ _ _ _ _ _ _ _ _ _ _ _ _ _ _ _ _ _ _ _ w=>w.elim⟩
noncomputable def E4(dn:Str)(i:Nat)(ws:Addr->AW)(wh:Q5):Q5:=λD2 nm ks ds n ρ=>if nm=dn\/dn = "ThinError" then ∀a,ws a { nx:=λn' ρ'=>D2.nx n' (ρ'.set i .no),rt:=D2.rt,bk:=λn' ρ'=>D2.bk n' (ρ'.set i .no),ct:=λn' ρ'=>D2.ct n' (ρ'.set i .no) } n (ρ.set i (.ex a nm ks ds)) else wh D2 nm ks ds n ρ
theorem Er{i:Nat}{dn y:Str}{b₀:Stmt}{suite:List Stmt}{hs:List ExceptHandler}{Dc:Addr}{ws:Addr->AW}{wh:Q5}{np:Pos}(hN:X.N.Nodup)(hi:X.N[i]?=some y)(hl:X.env.scope.names.lookup y=some .local)(hg:Gl X dn)(hm:X.mg dn=some (.ref Dc))(hK:nsIn X.K mainGlobals dn=some (some (.ref Dc)))
  (hD:dn = "ThinError"/\Q_ X.K Dc\/dn ≠ "ThinError"/\∃U,XC X.K dn Dc U) (hst:X.stack=X.env::X.outer) (hfr:X.env.frame=some X.env.locals)
  (hsu:∀a,MB (X.hush (X.A.mark (some (.ref a)))) κ (b₀::suite) (ws a)) (hr:DH X κ hs wh) (hd:autoParam ((dn==("__debug__" : Str))=false) zau1._auto_1) :
  DH X κ (.ExceptHandler (some (.Name dn np)) (some y) (b₀::suite) pos::hs) (E4 dn i ws wh):=by
 obtain⟨th,b1,b2⟩:=hr
 have ch:∀a,∃t,PSs (X.hush (X.A.mark (some (.ref a)))) (b₀::suite) t/\∀(C:Fm) (M:Addr->Prop) (H:Hp) (n:Nat) (ρ:List Slot) (σ:L2.St) (D2:E2) (E:Ends),Rel X.K C M H n ρ σ->Dt X.K C κ D2 E->ws a D2 n ρ->t E σ H:=hsu
 refine⟨_,N7 (ts:=λa=>(ch a).choose) hN hi hl hg hm (hD.elim (λz=>z.2) fun⟨_,U,c⟩=>c.isX) hst hfr (λa=>(ch a).choose_spec.1) b1 hd,λC M H n ρ σ D2 E nm Cc Uc ks ds vs dx r L xc xd hl' hs w=>⟨nm,Uc,xc,?_⟩⟩
 unfold E4 at w
 by_cases e:nm=dn\/dn = "ThinError"
 ·rw [if_pos e] at w
  refine .inl ⟨?_,λa u fa xt=>?_⟩
  ·rcases hD with ⟨z,_⟩ | ⟨z,U,c⟩
   ·subst z
    have q:=xc.atU.symm.trans hK
    cases q
    exact .inr rfl
   ·rcases e with e | e
    ·subst e
     have q:=xc.at_.symm.trans hK
     cases q
     exact .inl rfl
    ·exact absurd e z
  ·have g:Grow H (Ac H a u):=Aj fa
   have r1:=r.step (g.ext) (r.feed.grow g)
   have na:¬M a:=λz=>by obtain⟨o,q⟩:=r.dom a z; rw [fa] at q; cases q
   have nd:∀{d:Addr} {o:HO},H d=some o->Ac H a u d=some o:=λ{d o} q=>g.all d o q
   refine(ch a).choose_spec.2 C M (Ac H a u) n (ρ.set i (.ex a nm ks ds)) _ { nx:=λn' ρ'=>D2.nx n' (ρ'.set i .no),rt:=D2.rt,bk:=λn' ρ'=>D2.bk n' (ρ'.set i .no),ct:=λn' ρ'=>D2.ct n' (ρ'.set i .no) } _ (r1.setS rfl (λ_ z=>by cases z) ⟨rfl,Cc,Uc,dx,u,vs,xc,⟨na,AJ⟩,xt,?_,hl',hs.pres g.pres⟩) ⟨λM' H' n' ρ' σ' R' q=>?_,L.rt,λM' H' n' ρ' σ' R' q=>?_,λM' H' n' ρ' σ' R' q=>?_⟩ (w a)
   ·rcases xd with z | ⟨d,e1,n1,h1⟩
    ·exact .inl z
    ·exact .inr ⟨d,e1,n1,nd h1⟩
   ·exact L.nx M' H' n' _ _ (R'.setS (s:=.no) rfl (λ_ z=>by cases z) trivial) q
   ·exact L.bk M' H' n' _ _ (R'.setS (s:=.no) rfl (λ_ z=>by cases z) trivial) q
   ·exact L.ct M' H' n' _ _ (R'.setS (s:=.no) rfl (λ_ z=>by cases z) trivial) q
 ·rw [if_neg e] at w
  have e1:nm≠dn:=λz=>e (.inl z)
  have e2:dn ≠ "ThinError":=λz=>e (.inr z)
  rcases hD with ⟨z,_⟩ | ⟨_,U,c⟩
  ·exact absurd z e2
  ·refine .inr ⟨λz=>?_,λz=>?_,b2 C M H n ρ σ D2 E nm Cc Uc ks ds vs dx r L xc xd hl' hs w⟩
   ·subst z
    exact e1 (xc.name c)
   ·subst z
    exact e2 (xc.nameU c)
end
end Dp
namespace L2
open PySem PySem.Spec PyProof.Rows
noncomputable def HX(A:Around)(H:Hp):Prop:=∃a C dx u,A.handled=some (.ref a)/\H a=some u/\XT C dx a u
theorem Inv.heldH{X:Cx}{pins:List (Addr×Obj)}{σ:St}{H:Hp}{s:Shared}(I:Inv X pins σ H s)(h:HX X.A X.H₀):HX X.A H:=by
 obtain⟨a,C,dx,u,e1,e2,vs,sl,rfl,e3⟩:=h
 exact⟨a,C,dx,_,e1,I.base.frzs _ _ _ e2,vs,sl,rfl,e3⟩
theorem Inv.held{X:Cx}{pins:List (Addr×Obj)}{σ:St}{H:Hp}{s:Shared}(I:Inv X pins σ H s)(h:HX X.A H):∃a o ws,X.A.handled=some (.ref a)/\s.heap.get? a=some o/\o.data=.fields ws/\ws[2]?=some .none:=by
 obtain⟨a,C,dx,u,e1,e2,vs,sl,rfl,e3⟩:=h
 exact⟨a,_,vs,e1,(show ObjOk X.prog X.w H s.heap a _ from I.hok a _ e2).1,rfl,e3⟩
structure Nf (P:Program) (w:World) (K:Frag) (tg:Expr) (J:It) (fp:List Addr) (it:Addr) (tn:Nat->Heap->Prop):Prop where
 mem:it∈fp
 obj:∀i h,tn i h->∀b∈fp,∃o,h.get? b=some o/\∀v,o.data≠.cell v
 keep:∀i h h',tn i h->(∀b∈fp,∀o,h.get? b=some o->h'.get? b=some o)->tn i h'
 item:∀(X:Cx),X.prog=P->X.w=w->X.K=K->HX X.A X.H₀->∀(i:Nat) (pins:List (Addr×Obj)) (s:Shared) (σ:St) (H:Hp) (E:Value->Shared->Prop),Inv X pins σ H s->(∀b∈fp,B_ X pins H b)->tn i s.heap->J.go i H ->
  wpAny (model P w) X.A (pyNext (.ref it)) (λr s1=>∃u,r=some u /\
   wpAny (model P w) X.A (letOwnedTupleGo tg (.ref it) u) (λ_ s2=>∃x H',Inv X pins σ H' s2/\RelV x u/\J.yld i H x H'/\tn (i+1) s2.heap/\∀b∈fp,H' b=none) E s1) E s
 done:∀(X:Cx),X.prog=P->X.w=w->X.K=K->HX X.A X.H₀->∀(i:Nat) (pins:List (Addr×Obj)) (s:Shared) (σ:St) (H:Hp) (E:Value->Shared->Prop),Inv X pins σ H s->(∀b∈fp,B_ X pins H b)->tn i s.heap->J.stop i H ->
  wpAny (model P w) X.A (pyNext (.ref it)) (λr s1=>r=none/\Inv X pins σ H s1) E s
 self:∀(A:Around) (i:Nat) (s:Shared) (Q:Value->Shared->Prop) (E:Value->Shared->Prop),tn i s.heap->Q (.ref it) s->wpAny (model P w) A (pyIter (.ref it)) Q E s
noncomputable def SA(X:Cx)(pins:List (Addr×Obj))(σ:St)(tg:Expr)(R:It->Hp->Prop)(itv:Value)(s2:Shared):Prop :=
 ∃(it:Addr) (fp:List Addr) (tn:Nat->Heap->Prop) (J:It) (H':Hp),itv=.ref it/\Inv X pins σ H' s2/\Nf X.prog X.w X.K tg J fp it tn/\tn 0 s2.heap/\(∀b∈fp,B_ X pins H' b)/\R J H'
noncomputable def TC(X:Cx)(tg iter:Expr)(wi:TI):Prop :=
 ∀(pins:List (Addr×Obj)) (s:Shared) (σ:St) (H:Hp) (R:It->Hp->Prop),Inv X pins σ H s->wi σ H R ->
  wpAny (model X.prog X.w) X.A (eval iter X.env) (λv s1=>wpAny (model X.prog X.w) X.A (pyIter v) (SA X pins σ tg R) X.xe s1) X.xe s
theorem Hs{P:Program}{w:World}{K:Frag}{tg:Expr}(it:Addr)(lo:Int)(n:Nat):Nf P w K tg (Q3 lo n) [it] it (λi h=>IsRangeIter h it (lo+(i:Nat)*1) ((n:Int) - (i:Nat)) 1) where
 mem:=by simp
 obj:=(CB (P:=P) (w:=w) (K:=K) (tg:=tg) it lo n).obj
 keep:=(CB (P:=P) (w:=w) (K:=K) (tg:=tg) it lo n).keep
 item:=by
  intro X hP hw hK hc i pins s σ H E I hf st hg
  subst hP hw hK
  obtain⟨f0,f1,f2,f3,f4,f5⟩:=hf it (by simp)
  have hg':i<n:=hg
  refine wpAny_pyNext_range_item st (by omega) λh' st' sb=>?_
  have I1:Inv X pins σ H { s with heap:=h',toks:=s.toks+1 }:=I.turned (λb o hb e=>(sb.2 b hb).trans e) f0 f1 f3 f4 f5
  refine⟨_,rfl,Ie (s:={ s with heap:=h',toks:=s.toks+1 }) (n := "range_iterator") st' rfl rfl (by decide) ⟨.int (lo+i),H,I1,⟨s.toks,?_⟩,⟨rfl,rfl⟩,?_,λb hb=>(hf b hb).1⟩⟩
  ·rw [Int.mul_one]
  ·have e1:lo+((i+1:Nat):Int)*1=lo+(i:Nat)*1+1:=by omega
   have e2:(n:Int) - ((i+1:Nat):Int)=(n:Int) - (i:Nat) - 1:=by omega
   show IsRangeIter h' it (lo+((i+1:Nat):Int)*1) ((n:Int) - ((i+1:Nat):Int)) 1
   rw [e1,e2]; exact st'
 done:=by
  intro X hP hw hK hc i pins s σ H E I hf st hg
  subst hP hw hK
  obtain⟨f0,f1,f2,f3,f4,f5⟩:=hf it (by simp)
  obtain⟨a,o,ws,h1,h2,h3,h4⟩:=I.held (I.heldH hc)
  exact Jh h1 h2 h3 h4 st (by have:n<=i:=hg; omega) λh' eb=>⟨rfl,I.kept (t':=s.toks) eb⟩
 self:=(CB (P:=P) (w:=w) (K:=K) (tg:=tg) it lo n).self
section
variable {X:Cx}{tg:Expr}
theorem LU{pins:List (Addr×Obj)}{σ:St}{H:Hp}{s:Shared}{R:It->Hp->Prop}{E:Value->Shared->Prop}{lo hi:Int}{t u v:Tok}{tk:Nat}(I:Inv X pins σ H s)(h1:-(2 ^ 62)<=lo)(h2:lo<2 ^ 62)(h3:-(2 ^ 62)<=hi)(h4:hi<2 ^ 62)
  (q:R (Q3 lo (hi - lo).toNat) H):wpAny (model X.prog X.w) X.A (pyIter (.ref s.heap.objs.size)) (SA X pins σ tg R) E { s with heap:=s.heap.push { cls:=.type "range",data:=.fields #[.int lo t,.int hi u,.int 1 v] },toks:=tk }:=by
 refine wpAny_pyIter_range (IsRange.new ..) (small_one h1 h2 h3 h4) ?_
 have I1:Inv X pins σ H { s with heap:=s.heap.push { cls:=.type "range",data:=.fields #[.int lo t,.int hi u,.int 1 v] },toks:=tk }:=I.kept λb o e=>Cn _ e
 refine⟨(s.heap.push { cls:=.type "range",data:=.fields #[.int lo t,.int hi u,.int 1 v] }).objs.size,[(s.heap.push { cls:=.type "range",data:=.fields #[.int lo t,.int hi u,.int 1 v] }).objs.size],_,_,H,rfl,
  I1.kept (t':=tk) λb o e=>Cn _ e,Hs _ lo (hi - lo).toNat,?_,λb hb=>?_,q⟩
 ·have e1:lo+((0:Nat):Int)*1=lo:=by simp
  have e2:(((hi - lo).toNat:Nat):Int) - ((0:Nat):Int)=Ws lo hi 1:=by rw [rangeSize_one]; split <;> omega
  show IsRangeIter _ _ (lo+((0:Nat):Int)*1) ((((hi - lo).toNat:Nat):Int) - ((0:Nat):Int)) 1
  rw [e1,e2]
  exact On _ rfl
 ·have e:b=(s.heap.push { cls:=.type "range",data:=.fields #[.int lo t,.int hi u,.int 1 v] }).objs.size:=by simpa using hb
  subst e
  exact I1.fpOk (Go _) (I1.hok.fresh (Go _))
theorem Jn{a:Expr}{ta:TA}{p pos:Pos}(hg:Gl X "range")(hm:X.mg "range"=none)(ha:PA X [a] ta)(hs:autoParam (starEach [a] X.env=[(false,eval a X.env)]) zau3._auto_1):TC X tg (.Call (.Name "range" p) [a] [] pos) (PM ta):=by
 intro pins s σ H R I h
 refine Call_ (CW I hg hm boot_range (Ul (A3 (ha pos pins s σ H _ I h) λus s1 ⟨vs,H1,I1,r1,q1⟩=>?_) hs rfl))
 obtain⟨j,e,q1,q2,q⟩:=q1
 subst e
 cases r1 with
 | cons r rr =>
  cases rr
  obtain⟨t,rfl⟩:=r
  exact call_range_1 (LU I1 (by omega) (by omega) q1 q2 (by simpa using q))
end
noncomputable def Af(X:Cx)(sc:Scope)(N':List Str)(cl:List (Str×Addr))(C:Addr)(s:Shared)(H:Hp)(ex:List Addr):Cx:=(Au X sc N' cl C s H ex).hush X.A
noncomputable def Cx.calmed(X:Cx):Cx:={ X with A:={ X.A with handled:=none },calm:=true }
section
variable {X:Cx}{pins:List (Addr×Obj)}{σ:St}{H:Hp}{s:Shared}
theorem Inv.calmed(I:Inv X pins σ H s):Inv X.calmed pins σ H s :=
 ⟨⟨I.ok.mod,I.ok.kind,I.ok.glob,I.ok.blt,I.ok.above,I.ok.inj,I.ok.has,I.ok.cab,λ_=>rfl,I.ok.frames,I.ok.stk,I.ok.exf,I.ok.bs,I.ok.bsz,I.ok.noex,I.ok.exfs,I.ok.funs,I.ok.frf⟩,I.os,I.bare,I.base,I.loc,I.cell,I.free,I.freeC,I.pin,I.hok,I.len⟩
theorem Lv{sc:Scope}{N':List Str}{js:List (Option Nat)}{cl:List (Str×Addr)}{fp:List Addr}{h₁:Heap}{tk:Nat}(I:Inv X pins σ H s)(O:CompOk X sc N' js)
  (hcl:∀x c,cl.lookup x=some c->X.env.cells.lookup x=some c) (hcl2:∀x,(x,UD)∈sc.names->∃c,cl.lookup x=some c)
  (hf:∀b∈fp,B_ X pins H b) (ho:∀b∈fp,∃o,s.heap.get? b=some o)
  (hns:h₁.Ns (s.heap.objs.size+1) (λ_=>none)) (hk:∀b o,s.heap.get? b=some o->h₁.get? b=some o) (hD:∃n,h₁.get? s.heap.objs.size=some { cls:=.type "list",data:=.seq #[] n }) :
  Inv (Af X sc N' cl (s.heap.objs.size+1) s H fp) [] (BK js σ) (Ac H s.heap.objs.size (.lst [])) { s with heap:=h₁,toks:=tk } :=
 (Ic (X:=X.calmed) I.calmed rfl ⟨O.kind,O.cell,O.free,O.names,O.cap⟩ hcl hcl2 hf ho hns hk hD).hush (A:=X.A) I.ok.frames
theorem Ib{sc:Scope}{N':List Str}{cl:List (Str×Addr)}{C:Addr}{fp:List Addr}{pins':List (Addr×Obj)}{σ':St}{H':Hp}{s':Shared}{h':Heap}(I:Inv X pins σ H s)(hf:∀b∈fp,B_ X pins H b)(hC:s.heap.objs.size<=C)
  (J:Inv (Af X sc N' cl C s H fp) pins' σ' H' s') (hs:∀b,b≠C->h'.get? b=s'.heap.get? b):Inv X pins σ H' { s' with heap:=h' }:=by
 have nC:s.heap.get? C=none:=by
  cases e:s.heap.get? C with
  | none=>rfl
  | some o=>exact absurd (FM e) (Vq.mpr hC)
 have hC':H' C=none:=J.free
 refine I.call' (s':={ s' with heap:=h' }) (ch:=fp) J.os (Un.but J.base nC hs) (λa o e=>?_) J.bare λb hb=>?_
 ·exact(J.hok a o e).stay (λb u hb q=>(hs b (λz=>by
   rw [z] at hb
   rcases hb with z2 | z2
   ·rw [← z2,hC'] at e; cases e
   ·rw [hC'] at z2; cases z2)).trans q) (λ_ q=>q) λ_ _ q=>q
 ·obtain⟨f0,f1,f2,f3,f4,f5⟩:=hf b hb
  exact⟨f3,f1,f4,f5⟩
end
noncomputable def Pu(X:Cx)(sc:Scope)(N':List Str)(js:List (Option Nat))(tg elt:Expr)(ifs:List Expr)(wi:TI):TE:=λσ H Q=>wi σ H λJ H1=>∀l,H1 l=none->X.K.lookup l=none->∀cl C s H0 fp,∃(g:TG) (tt:TT) (te:TE) (W:Nat->Nat->St->Hp->Prop),
 PG (Af X sc N' cl C s H0 fp) tg g/\Q0 (Af X sc N' cl C s H0 fp) ifs tt/\PE (Af X sc N' cl C s H0 fp) elt te/\(∃m,W 0 m (BK js σ) (Ac H1 l (.lst [])))/\∀i m σ' H',W i m σ' H' ->
 (J.stop i H'/\Q (.ref l) H')\/(J.go i H'/\∀x H2,J.yld i H' x H2->g x σ' H2 λσ3 H3=>tt σ3 H3 λb H4=>if b=true then te σ3 H4 λy H5=>∃ys,H5 l=some (.lst ys)/\ys.length<sizeLine/\∃m',m'<m/\W (i+1) m' σ3 (Ac H5 l (.lst (ys++[y]))) else ∃m',m'<m/\W (i+1) m' σ3 H4)
section
variable {X:Cx}{tg elt iter:Expr}{ifs:List Expr}{sc:Scope}{pos:Pos}{N':List Str}{js:List (Option Nat)}{wi:TI}{g:TG}{tt:TT}{te:TE}
theorem KA{pins:List (Addr×Obj)}{σ:St}{H:Hp}{s:Shared}{cl:List (Str×Addr)}{C l it:Addr}{fp:List Addr}{tn:Nat->Heap->Prop}{J:It}{s3:Shared}{Q:VK}{R:Result->Shared->Prop}{W:Nat->Nat->St->Hp->Prop}{m0:Nat}{σ0:St}{H0:Hp}
  (hx:HX X.A H) (I:Inv X pins σ H s) (hf:∀b∈fp,B_ X pins H b) (hlt:∀b∈fp,b<s.heap.objs.size) (hC:s.heap.objs.size<=C)
  (T:Nf X.prog X.w X.K tg J fp it tn)
  (hg:PG (Af X sc N' cl C s H fp) tg g) (ht:Q0 (Af X sc N' cl C s H fp) ifs tt) (he:PE (Af X sc N' cl C s H fp) elt te)
  (hW:∀i m σ' H',W i m σ' H' ->
   (J.stop i H'/\Q (.ref l) H')\/(J.go i H'/\∀x H2,J.yld i H' x H2->g x σ' H2 λσ3 H3=>tt σ3 H3 λb H4=>if b=true then te σ3 H4 λy H5=>∃ys,H5 l=some (.lst ys)/\ys.length<sizeLine/\∃m',m'<m/\W (i+1) m' σ3 (Ac H5 l (.lst (ys++[y]))) else ∃m',m'<m/\W (i+1) m' σ3 H4))
  (hR:∀σ' H' s',Inv (Af X sc N' cl C s H fp) [] σ' H' s'->Q (.ref l) H'->R (.ok .next) s')
  (I3:Inv (Af X sc N' cl C s H fp) [] σ0 H0 s3) (t3:tn 0 s3.heap) (f3:∀b∈fp,H0 b=none) (w0:W 0 m0 σ0 H0) :
  codeAny (model X.prog X.w) X.A (.compLoop (.ListComp elt [⟨tg,iter,ifs,0⟩] sc pos) 0 (.ref it) (.ref l) (compEnvC sc cl C X.env)) R s3:=by
 have stat:∀{H':Hp},(∀b∈fp,H' b=none)->∀b∈fp,B_ (Af X sc N' cl C s H fp) [] H' b:=λhn b hb=>by
  have q:=I3.ok.exf b hb
  refine⟨hn b hb,q.1,I3.ok.exfs b hb,.inl hb,q.2,λp hp=>absurd (show p∈([]:List (Addr×Obj)) from hp) (by simp)⟩
 refine Dn (λn s'=>∃i σ' H',Inv (Af X sc N' cl C s H fp) [] σ' H' s'/\tn i s'.heap/\(∀b∈fp,H' b=none)/\W i n σ' H') ?_ m0 ⟨0,σ0,H0,I3,t3,f3,w0⟩
 rintro n s4 ⟨i,σ4,H4,I4,st4,fr4,w4⟩
 rcases hW i n σ4 H4 w4 with ⟨stop,qn⟩ | ⟨go,step⟩
 ·refine A3 (T.done (Af X sc N' cl C s H fp) rfl rfl rfl hx i [] s4 σ4 H4 (λ_ _=>False) I4 (stat fr4) st4 stop) λr s5 ⟨hr,I5⟩=>?_
  subst hr
  exact hR σ4 H4 s5 I5 qn
 ·refine A3 (T.item (Af X sc N' cl C s H fp) rfl rfl rfl hx i [] s4 σ4 H4 (λ_ _=>False) I4 (stat fr4) st4 go) λr s5 ⟨u,hr,h5⟩=>?_
  subst hr
  refine A3 h5 λ_ s6 ⟨x,H6,I6,r6,y6,st6,fr6⟩=>?_
  have I6':=I6.pinned (stat fr6) (T.obj _ _ st6)
  refine A3 (hg _ s6 σ4 H6 x u _ I6' r6 (step x H6 y6)) λ_ s7 ⟨σ7,H7,I7,q7⟩=>?_
  have again:∀{σ9:St} {H9:Hp} {s9:Shared} {m':Nat},Inv (Af X sc N' cl C s H fp) ([]++D3 fp s6.heap) σ9 H9 s9->m'<n->W (i+1) m' σ9 H9->∃m,m<n/\∃i σ' H',Inv (Af X sc N' cl C s H fp) [] σ' H' s9/\tn i s9.heap/\(∀b∈fp,H' b=none)/\W i m σ' H':=λ{σ9 H9 s9 m'} I9 hm w9=>by
   refine⟨m',hm,i+1,σ9,H9,I9.unpinned,T.keep _ _ _ st6 λb hb o e=>(I9.pin (b,o) (T4 _ (T4 _ (BV hb e)))).1,λb hb=>?_,w9⟩
   obtain⟨o,e,d⟩:=T.obj _ _ st6 b hb
   exact(I9.pin (b,o) (T4 _ (T4 _ (BV hb e)))).2.1
  refine A3 (ht _ s7 σ7 H7 _ I7 q7) λok s8 ⟨H8,I8,q8⟩=>?_
  cases ok with
  | false =>
   have q8':∃m',m'<n/\W (i+1) m' σ7 H8:=q8
   obtain⟨m',hm,w8⟩:=q8'
   show ∃m,m<n/\_
   exact again I8 hm w8
  | true =>
   refine A3 (he _ s8 σ7 H8 _ I8 q8) λy s9 ⟨yv,H9,I9,ry,q9⟩=>?_
   obtain⟨ys,hl,hz,m',hm,w9⟩:=q9
   refine A3 (Cg (X:=Af X sc N' cl C s H fp) _ s9 σ7 H9 (.ref l) [yv] (.ref l) [y] (λv H'=>v=.non/\H'=Ac H9 l (.lst (ys++[yv]))) I9 rfl (.cons ry .nil) ⟨l,ys,yv,rfl,rfl,hl,hz,rfl,rfl⟩) λ_ sa ⟨v,Ha,Ia,_,_,eH⟩=>?_
   subst eH
   exact again Ia hm w9
theorem Mj(hh:HX X.A X.H₀)(N':List Str)(js:List (Option Nat))(hi:TC X tg iter wi)
  (hB:Gb sc X.env.scope X.N N' js=true)
  (hs:autoParam (∀x,foldedSetIterable iter X.env x=pure x) zau2._auto_1) :
  PE X (.ListComp elt [⟨tg,iter,ifs,0⟩] sc pos) (Pu X sc N' js tg elt ifs wi):=by
 intro pins s σ H Q I h
 have O:CompOk X sc N' js:=CompOk.of hB
 obtain⟨cl,hclos,hcl,hcl2⟩:=Fl (scope:=sc) (env:=X.env) λx hx=>I.ok.has x (O.free x hx)
 rw [eval_ListComp]
 refine wpAny_comprehension_free (use:=none) rfl hs hclos O.kind O.names (A3 (hi pins s σ H _ I h) λv s1 h1=>A3 h1 λitv s2 h2=>?_)
 obtain⟨it,fp,tn,J,H2,e,I2,T,st2,f2,hq⟩:=h2
 subst e
 have kfree:X.K.lookup s2.heap.objs.size=none:=by
  cases q:X.K.lookup s2.heap.objs.size with
  | none=>rfl
  | some o=>exact absurd (FM (I2.kIn _ _ q)) (UX _)
 obtain⟨g,tt,te,W,hg,ht,he,⟨m0,w0⟩,hW⟩:=hq s2.heap.objs.size (I2.hok.fresh (Go _)) kfree cl (s2.heap.objs.size+1) s2 H2 fp
 refine UO (wpAny_newFunctionEnv O.cell (by intro y hy; simp at hy) (λh₁ hns₁ hsb₁=>?_) O.kind)
 dsimp only at hns₁ hsb₁ ⊢
 generalize hH2:s2.heap.push { cls:=.type "list",dict:=none,data:=.seq ([]:List Value).toArray }=Hh at hns₁ hsb₁ ⊢
 have hCe:Hh.objs.size=s2.heap.objs.size+1:=by rw [← hH2,UZ]
 have hlt:∀b∈fp,b<s2.heap.objs.size:=λb hb=>by
  obtain⟨o,e,_⟩:=T.obj _ _ st2 b hb
  exact FM e
 have old:∀b o,s2.heap.get? b=some o->h₁.get? b=some o:=λb o e=>hsb₁.extBut b o (by rw [hCe]; exact T1 (Uj (FM e))) (Cn _ (hH2▸Cn _ e))
 have hD:∃n,h₁.get? s2.heap.objs.size=some { cls:=.type "list",data:=.seq #[] n }:=⟨_,hsb₁.extBut _ _ (by rw [hCe]; exact T1 (Wm _)) (Cn _ (hH2▸On _ rfl))⟩
 have I3:∀tk,Inv (Af X sc N' cl (s2.heap.objs.size+1) s2 H2 fp) [] (BK js σ) (Ac H2 s2.heap.objs.size (.lst [])) { s2 with heap:=h₁,toks:=tk }:=λtk =>
  Lv I2 O hcl hcl2 f2 (λb hb=>let ⟨o,e,_⟩:=T.obj _ _ st2 b hb; ⟨o,e⟩) (by rw [← hCe]; exact hns₁) old hD
 have st3:tn 0 h₁:=T.keep _ _ _ st2 λb hb o e=>old b o e
 have fr3:∀b∈fp,Ac H2 s2.heap.objs.size (.lst []) b=none:=λb hb=>by
  rw [AH (T1 (hlt b hb))]
  exact(f2 b hb).1
 have loop:∀tk,codeAny (model X.prog X.w) X.A (.compLoop (.ListComp elt [⟨tg,iter,ifs,0⟩] sc pos) 0 (.ref it) (.ref s2.heap.objs.size) (compEnvC sc cl (s2.heap.objs.size+1) X.env))
   (compPost (model X.prog X.w) X.A X.xe none (EP X pins σ Q) (.ref s2.heap.objs.size) (s2.heap.objs.size+1)) { s2 with heap:=h₁,toks:=tk }:=λtk=>by
  refine KA (hx:=I2.heldH hh) (W:=W) (m0:=m0) (Q:=Q) I2 f2 hlt (UV _) T hg ht he hW (λσ' H' s' J' q'=>?_) (I3 tk) st3 fr3 w0
  obtain⟨m,hn,_⟩:=J'.loc
  exact⟨m,hn,λh' hs'=>⟨.ref _,H',Ib I2 f2 (UV _) J' λb hb=>hs'.2 b hb,rfl,q'⟩⟩
 rw [show (newEnv sc Hh.objs.size X.env.globals cl X.env.qual none .none (some X.env) builtinsNs).locals=s2.heap.objs.size+1 from hCe]
 show codeAny (model X.prog X.w) X.A (.compStart (.ListComp elt [⟨tg,iter,ifs,0⟩] sc pos) 0 (.ref it) (.ref s2.heap.objs.size) (compEnvC sc cl (s2.heap.objs.size+1) X.env)) _ _
 exact codeAny_compStart_list (loop _) (T.self _ 0 _ _ _ st3 (loop _))
end
end L2
namespace Dp
open PySem PySem.Spec PyProof.Rows L2
noncomputable def SJ(X:Cx)(tg iter:Expr)(w:Cf):Prop:=∃wi,TC X tg iter wi/\∀(C:Fm) (M:Addr->Prop) (H:Hp) (n:Nat) (ρ:List Slot) (σ:L2.St) (P:List D->Nat->Prop) (R:It->Hp->Prop),Rel X.K C M H n ρ σ->w n ρ P ->
 (∀J H' ds n',Ext C.U H H'->FeedC X.K C.F M H' n'->He X.K C.U M H' J ds->P ds n'->R J H')->wi σ H R
section
variable {X:Cx}{tg e e2:Expr}{es:List Expr}{κ:Kd}{wa:DW}{ws:Cf}{p pos:Pos}
theorem Ip(hg:Gl X "range")(hm:X.mg "range"=none)(ha:Nk X [e] ws)(hs:autoParam (starEach [e] X.env=[(false,eval e X.env)]) zau3._auto_1):SJ X tg (.Call (.Name "range" p) [e] [] pos) (Bj ws):=by
 obtain⟨t,a1,a2⟩:=ha
 refine⟨_,Jn hg hm a1 hs,λC M H n ρ σ P Rr R w q=>?_⟩
 refine a2 C M H n ρ σ _ _ R w λvs H1 ds n1 e1 f1 r1 p=>?_
 obtain⟨j,rfl,hj,p⟩:=p
 cases r1 with
 | cons r rr =>
  cases rr
  have hv:_=V.int j:=r
  exact⟨j,by rw [hv],hj.1,hj.2,q _ H1 _ n1 e1 f1 yields_range.e p⟩
end
section
variable {X:Cx}{κe:Kd}{tg elt iter:Expr}{ifs:List Expr}{sc:Scope}{pos:Pos}{src:Cf}{b:BW}{tt:EM}{te:DW}
theorem NS(hh:HX X.A X.H₀)(N':List Str)(js:List (Option Nat))(hi:SJ X tg iter src)(hg:∀cl C s H fp,DG (Af X sc N' cl C s H fp) tg b)(ht:∀cl C s H fp,Sb (Af X sc N' cl C s H fp) ifs tt)(he:∀cl C s H fp,DE (Af X sc N' cl C s H fp) elt κe te)
  (hB:Gb sc X.env.scope X.N N' js=true) (hk:autoParam (κe≠.tp) zau5._auto_1)
  (hs:autoParam (∀x,foldedSetIterable iter X.env x=pure x) zau2._auto_1):DE X (.ListComp elt [⟨tg,iter,ifs,0⟩] sc pos) .fr (CM js src b tt te):=by
 obtain⟨wi,a1,a2⟩:=hi
 refine⟨_,Mj hh N' js a1 hB hs,λC M H n ρ σ P Q R w q=>?_⟩
 refine a2 C M H n ρ σ _ _ R w λJ H1 ds n1 e1 f1 y w1=>?_
 obtain⟨hlen,w1⟩:=w1
 have R1:=R.step e1 f1
 intro l hl hkl cl Ca s0 H0 fp
 obtain⟨g,g1,g2⟩:=hg cl Ca s0 H0 fp
 obtain⟨tc,c1,c2⟩:=ht cl Ca s0 H0 fp
 obtain⟨tx,x1,x2⟩:=he cl Ca s0 H0 fp
 have noU:¬C.U l:=λz=>by
  obtain⟨o,z⟩:=R1.udom l z
  rw [hl] at z; cases z
 generalize hM':(λb=>M b\/b=l)=M'
 have M'l:M' l:=by rw [← hM']; exact .inr rfl
 have M'of:∀b,M b->M' b:=λb z=>by rw [← hM']; exact .inl z
 have ofM':∀b,M' b->M b\/b=l:=λb z=>by rw [← hM'] at z; exact z
 have inV:∀b,C.V b\/b=l->M' b:=λb z=>z.elim (λz=>M'of b (R1.vM b z)) λz=>by rw [z]; exact M'l
 have lenj:js.length=N'.length:=Cb (CompOk.of hB).cap
 refine⟨g,tc,tx,λi m σ' H'=>m=ds.length - i/\i<=ds.length/\∃n' ρ' acc vs,Rel X.K ⟨M',C.F,C.U,λb=>C.V b\/b=l,H1,[],[]⟩ M' H' n' ρ' σ'/\H' l=some (.lst vs)/\Ats X.K M' H' acc vs/\acc.length<=i/\Pres M H1 M' H' /\
   Bl b tt te (λacc n2=>P (.lst acc) n2) (ds.drop i) acc n' ρ',g1,c1,x1,⟨ds.length,by simp,UI _,n1,DY js ρ,[],[],?_⟩,?_⟩
 ·have gr:Grow H1 (Ac H1 l (.lst [])):=Aj hl
  have pr:Pres M H1 M' (Ac H1 l (.lst [])):=⟨λb o e _=>gr.all b o e,λb z=>(ofM' b z).elim .inl λz=>.inr (by rw [z]; exact hl),λb vs e=>gr.all b _ e⟩
  refine⟨⟨?_,λa z=>z,λa z=>?_,gr.ext,R1.fU,λa z=>.inl (R1.uV a z),inV,f1.pres pr λf o _ e=>gr.all f.1 o e,?_,λp hp=>absurd hp (by simp),λi d a q z=>Ki R1.sl q z,λi s a q o _=>absurd o (by rw [CF q]; decide),λi j s t a q o _ _ _ _=>absurd o (by rw [CF q]; decide),λp hp=>absurd hp (by simp)⟩,AJ,rfl,UI _,pr,w1⟩
  ·unfold DY BK
   rw [Ev,Ev]
  ·rcases ofM' a z with z | z
   ·obtain⟨o,z⟩:=R1.dom a z
    exact⟨o,gr.all a o z⟩
   ·subst z
    exact⟨_,AJ⟩
  ·refine IV R1.sl pr λd v h=>h.same pr (λa o _ e=>gr.all a o e) λa e n1 z=>z.elim n1 λz=>?_
   subst e
   obtain⟨o,w⟩:=h.lies
   rw [z,hl] at w
   cases w
 ·rintro i m σ' H' ⟨rfl,hi,n',ρ',acc,vs,R',hlv,hac,hal,pr,w'⟩
  by_cases hlt:i<ds.length
  ·have ed:ds.drop i=ds[i]::ds.drop (i+1):=Vg hlt
   rw [ed] at w'
   obtain⟨go,yl⟩:=(y i M' H' pr R'.ext R'.dom).1 ds[i] (No hlt)
   refine .inr ⟨go,λx H2 hy=>?_⟩
   obtain⟨gr,hx⟩:=yl x H2 hy
   have R2':=R'.step gr.ext (R'.feed.grow gr)
   refine g2 _ M' H2 n' ρ' σ' ds[i] x _ _ R2' hx w' λρ3 σ3 R3 w3=>?_
   refine c2 _ M' H2 n' ρ3 σ3 _ _ R3 w3 λc H4 n4 e4 f4 w4=>?_
   have R4:=R3.step e4 f4
   have p4:Pres M' H' M' H4:=gr.pres.trans (R3.pres e4)
   have l4:H4 l=some (.lst vs):=e4.keep (gr.all _ _ hlv) noU
   cases c with
   | false=>exact⟨ds.length - (i+1),by omega,rfl,hlt,n4,ρ3,acc,vs,R4,l4,hac.pres p4,by omega,pr.trans p4,w4⟩
   | true =>
    refine x2 _ M' H4 n4 ρ3 σ3 _ _ R4 w4 λyv H5 d5 n5 e5 f5 r5 w5=>?_
    have R5:=R4.step e5 f5
    have p5:Pres M' H4 M' H5:=R4.pres e5
    have l5:H5 l=some (.lst vs):=e5.keep l4 noU
    have hy5:=r5.shOf R4.dom hk
    have a5:=(hac.pres p4).pres p5
    have pu:Pres M' H5 M' (Ac H5 l (.lst (vs++[yv]))):=G9 M'l l5
    have hvl:vs.length=acc.length:=hac.length
    refine⟨vs,l5,by rw [UQ]; omega,ds.length - (i+1),by omega,rfl,hlt,n5,ρ3,acc++[d5],vs++[yv],?_,AJ,(a5.append (Ats.one hy5)).pres pu,by rw [Tz,UB]; omega,(pr.trans p4).trans (p5.trans pu),w5⟩
    refine⟨R5.len,R5.sub,λa z=>?_,λb o e=>?_,R5.fU,R5.uV,R5.vM,?_,λj s hs=>?_,λp hp=>absurd hp (by simp),R5.br0,R5.new,R5.two,λp hp=>absurd hp (by simp)⟩
    ·by_cases ha:a=l
     ·subst ha; exact⟨_,AJ⟩
     ·rw [AH ha]; exact R5.dom a z
    ·obtain⟨o',q1,q2⟩:=R5.ext b o e
     by_cases hb:b=l
     ·subst hb
      have e':H1 b=some o:=e
      rw [hl] at e'; cases e'
     ·exact⟨o',by rw [AH hb]; exact q1,q2⟩
    ·refine f5.pres pu λf o hf e=>?_
     rw [AH (λz=>noU (by rw [← z]; exact R1.fU f hf))]
     exact e
    ·have hs5:=R5.sl j s hs
     cases s with
     | no=>trivial
     | sh d=>obtain⟨v,e1,h2⟩:=hs5; exact⟨v,e1,h2.pres pu⟩
     | ex a nm ks ds=>obtain⟨e1,h2⟩:=hs5; exact⟨e1,h2.pres pu⟩
     | br d =>
      obtain⟨v,e1,h2⟩:=hs5
      refine⟨v,e1,h2.same pu (λa o z e=>?_) λ_ _ z=>z⟩
      subst z
      obtain⟨o3,w⟩:=R5.br0 j d a hs e1
      have hal:a≠l:=λz=>by
       have w':H1 a=some o3:=w
       rw [z,hl] at w'; cases w'
      rw [AH hal]; exact e
     | ow d =>
      obtain⟨a,e1,h2,_⟩:=hs5
      exact absurd h2 (R5.new j _ a hs rfl e1).1
     | lt a d =>
      obtain⟨e1,h2,_⟩:=hs5
      exact absurd h2 (R5.new j _ a hs rfl e1).1
     | fd=>exact hs5
  ·have e:i=ds.length:=by omega
   subst e
   rw [Wp] at w'
   refine .inl ⟨(y _ M' H' pr R'.ext R'.dom).2 (Go _),?_⟩
   have eb:Ext C.U H1 H':=R'.ext
   have less:Pres M' H' M H':=Pres.less M'of
   refine q _ H' (.lst acc) n' (e1.trans eb) (R'.feed.pres less λ_ _ _ z=>z) (VR.back e1 ?_) w'
   exact⟨l,rfl,hl,vs,hlv,by rw [hM']; exact hac⟩
end
end Dp
namespace L2
open PySem PySem.Spec PyProof.Rows
structure RoomH (k:Nat) (A:Around):Prop where
 dp:A.depth+3*k+5<recursionLimit
 un:A.units+16*k+200<cLine
 gd:A.guards=some []
theorem RoomH.mono{j k:Nat}{A:Around}(r:RoomH k A)(h:j<=k):RoomH j A:=⟨by have:=r.dp; omega,by have:=r.un; omega,r.gd⟩
theorem RoomH.room{k:Nat}{A:Around}(r:RoomH k A):Room k { A with handled:=none }:=⟨rfl,r.dp,r.un,r.gd⟩
theorem Room.held{k:Nat}{A:Around}(r:Room k A)(e:Option Value):RoomH k (A.mark e):=⟨r.dp,r.un,r.gd⟩
theorem RoomH.deeper{k:Nat}{A:Around}(r:RoomH (k+1) A)(env:Env):RoomH k (A.deeper env):=let q:=r.room.deeper env; ⟨q.dp,q.un,q.gd⟩
structure Gm (P:Program) (w:World) (K:Frag) (mg:Str->Option Value) (base:Heap) (k:Nat) (f:Addr) (fd:FuncData) (ps:List Str) (sp:Sp):Prop where
 len:∀vs H Q E,sp vs H Q E->vs.length=ps.length
 run:∀(A:Around) (outer:List Env) (s:Shared) (H:Hp) (args:Args) (us:List Value) (vs:List V) (Q:VK) (E:XK),RoomH k A->HX A H->Env0 P w K mg base A outer s H->BindsTo s fd args (ps.zip us)->Vals vs us->sp vs H Q E ->
  codeAny (model P w) A (.call (.ref f) args) (CR Bn outer P w H s Q E) s
theorem Fun.okH{P:Program}{w:World}{K:Frag}{mg:Str->Option Value}{base:Heap}{x qual:Str}{st:Stmt}{f:Addr}{fd:FuncData}{N ps:List Str}{k:Nat}{sp:Sp}(F:Fun K x qual st f fd)(S:AT N ps (AD st))(len:∀vs H Q E,sp vs H Q E->vs.length=ps.length)
  (hbody:∀(cdv:Value) (A:Around) (outer:List Env) (s:Shared) (H:Hp) (vs:List V) (Q:VK) (E:XK),RoomH k (A.deeper (envOfC qual (AD st) s.heap.objs.size f cdv))->HX A H->sp vs H Q E ->
   ∃t,PSs ((Cr Bn P w K mg base N qual (AD st) f cdv A outer s H E).hush (A.deeper (envOfC qual (AD st) s.heap.objs.size f cdv))) (Av st) t/\t { nx:=λ_ H'=>Q .non H',rt:=Q } (start N vs) H):Gm P w K mg base (k+1) f fd ps sp:=by
 obtain⟨oc,od,kV,doc,pm,an,cdv,ct,osl,rfl,lk,hcd⟩:=F.ex
 refine⟨len,λA outer s H args us vs Q E hr hx e0 hb r hsp=>?_⟩
 have hl:=len _ _ _ _ hsp
 have KX:K.In s.heap:=e0.mod.kin.keeps λb o e=>(e0.bs b o e).1
 have lim:s.heap.NoLimit:=e0.mod.nolimit.keeps λb o e=>(e0.bs b o e).1
 have hkind:∀y∈ps.zip us,(AD st).names.lookup y.1=some .local\/((AD st).names.lookup y.1=some .cell/\((cellsFrom (s.heap.objs.size+1) (AD st).names []).lookup y.1).isSome=true):=fun⟨n,v⟩ hy=>by
  rcases S.par n (V_ hy).1 with q | q
  ·exact .inl q
  ·exact .inr ⟨q,PySem.W.cellsFrom_some _ _ _ (.inl q)⟩
 refine codeAny_call_function hr.room.depth (KX _ _ lk) rfl S.co S.gen rfl (PySem.W.codeRec_of KX hcd) (hb _ _ _ _ ?_)
 refine WU S.kind hkind λenv he s1 x1=>?_
 subst he
 refine⟨lim.keeps x1.toInCall.keep,codeAny_func ?_⟩
 obtain⟨t,ht,hq⟩:=hbody cdv A outer s H vs Q E (hr.deeper _) hx hsp
 have I0:Inv (Cr Bn P w K mg base N qual (AD st) f cdv { A with handled:=none } outer s H E) [] (start N vs) H s1:=GQ S rfl ⟨e0.frames,e0.mod,e0.bs,e0.bsz,e0.funs,e0.frf,e0.hok,e0.bare⟩ hl r x1
 have I:Inv ((Cr Bn P w K mg base N qual (AD st) f cdv A outer s H E).hush (A.deeper (envOfC qual (AD st) s.heap.objs.size f cdv))) [] (start N vs) H s1:=I0.hush (A:=A.deeper (envOfC qual (AD st) s.heap.objs.size f cdv)) (W4 e0.frames)
 refine UC (ht [] s1 (start N vs) H _ I hq) (λfl s' hs=>?_) λe s' hs=>T5 hs
 have fin:∀{σ':St} {H':Hp} {v:V} {u:Value},Inv ((Cr Bn P w K mg base N qual (AD st) f cdv A outer s H E).hush (A.deeper (envOfC qual (AD st) s.heap.objs.size f cdv))) [] σ' H' s'->RelV v u->Q v H'->CE outer P w H s Q u s' :=
  λ{σ' H' v u} J rv q=>⟨v,H',J.os,J.bare,J.base,J.hok,rv,q⟩
 cases fl with
 | ret u =>
  obtain⟨v,σ',H',J,rv,q⟩:=hs
  exact fin J rv q
 | next =>
  obtain⟨σ',H',J,q⟩:=hs
  exact fin (v:=V.non) (u:=T9) J rfl q
 | brk =>
  obtain⟨_,_,_,q⟩:=hs
  exact T5 q
 | cont =>
  obtain⟨_,_,_,q⟩:=hs
  exact T5 q
section
variable {X:Cx}{k:Nat}{f:Addr}{fd:FuncData}{ps:List Str}{sp:Sp}{x:Str}{p pos:Pos}{e:Expr}{es:List Expr}{t:TA}
noncomputable def Px(A:Around)(sp:Sp)(t:TA):TE:=λσ H Q=>t σ H λvs H1=>HX A H1/\sp vs H1 Q E0
theorem Ml(F:Gm X.prog X.w X.K X.mg X.base k f fd ps sp)(hr:RoomH k X.A)(hg:Gl X x)(hm:X.mg x=some (.ref f))(hk:keepIn X.K (.ref f)=true)(hb:Binds X.K fd ps [])
  (ha:PA X (e::es) t) (hdb:autoParam ((x==("__debug__" : Str))=false) zau1._auto_1) (he:autoParam (starEach (e::es) X.env=(false,eval e X.env)::starEach es X.env) zau3._auto_1) (hpl:autoParam ((backTo pos (starEach es X.env)).any (·.1)=false) zau3._auto_1) :
  PE X (.Call (.Name x p) (e::es) [] pos) (Px X.A sp t):=by
 intro pins s σ H Q I h
 refine Uf (Bq I hg hm ?_ hdb)
 refine PySem.W.callWith_K (h₀:=X.base) I.ok.mod.kin hk (A3 (ha pos pins s σ H _ I h) λus s1 ⟨vs,H1,I1,r,hx,q⟩=>⟨I1.kIn,?_⟩) he hpl
 have hl:(us++[]).length=ps.length:=by rw [UL,← r.length]; exact F.len _ _ _ _ q
 have r2:Vals vs (us++[]):=by rw [UL]; exact r
 refine U7 (U_ (F.run X.A X.stack s1 H1 ⟨us,[]⟩ (us++[]) vs Q E0 hr hx I1.env0 (hb s1 us I1.kIn hl) r2 q) λr s' hq=>?_)
 cases r with
 | error e=>exact T5 hq
 | ok fl =>
  cases fl with
  | ret u=>exact I1.after hq
  | next=>exact T5 hq
  | brk=>exact T5 hq
  | cont=>exact T5 hq
end
end L2
namespace Dp
open PySem PySem.Spec PyProof.Rows L2
section
variable {X:Cx}{e:Expr}{es:List Expr}{p p1 p2 pos:Pos}{i:Nat}{x f nm:Str}{κ:Kd}
noncomputable def E5(i:Nat):Nat->List Slot->(Slot->Nat->Prop)->Prop:=λn ρ P=>match ρ[i]? with
 | some (.ex a nm ks ds)=>P (.ex a nm ks ds) n
 | _=>False
theorem Kz(i:Nat){x:Str}{pos:Pos}(hN:autoParam (X.N[i]?=some x) zau3._auto_1)(hv:autoParam (Nd X.env.scope x) zau4._auto_1)(hd:autoParam ((x==("__debug__" : Str))=false) zau1._auto_1)
  (hcd:autoParam ((x==("__classdict__" : Str))=false) zau1._auto_1):Sf X (.Name x pos) (E5 i):=by
 refine⟨_,CU hN hv hd hcd,λC M H n ρ σ P Q R w q=>?_⟩
 unfold E5 at w
 split at w
 ·rename_i a nm ks ds hd
  obtain⟨e1,h1⟩:=R.sl i _ hd
  exact⟨.ref a,getD_some e1,q _ H (.ex a nm ks ds) n (Ext.refl _ _) R.feed ⟨⟨rfl,h1⟩,rfl⟩ w⟩
 ·exact w.elim
noncomputable def Ni(i:Nat)(f:Str):DW:=λn ρ P=>match ρ[i]? with
 | some (.ex _ _ ks ds)=>∃d,(ks.zip ds).lookup f=some d/\P d n
 | _=>False
theorem Ez{K:Frag}{M:Addr->Prop}{H:Hp}{f:Str}{d:D}:∀{ks:List Str} {ds:List D} {vs:List V},Ats K M H ds vs->(ks.zip ds).lookup f=some d->∃v,(ks.zip vs).lookup f=some v/\At K M H d v
 | [],ds,vs,h,e=>by simp at e
 | k::ks,[],vs,h,e=>by simp at e
 | k::ks,d0::ds,vs,h,e=>by
  obtain⟨v,r,rfl,h1,h2⟩:=h
  rw [Vl,Uq] at e ⊢
  split at e
  ·rename_i q
   cases e
   exact⟨v,rfl,h1⟩
  ·rename_i q
   exact Ez h2 e
theorem GZ(hf:f∈(["word","number","row"]:List Str))(hN:autoParam (X.N[i]?=some x) zau3._auto_1)(hv:autoParam (Nd X.env.scope x) zau4._auto_1)(hd:autoParam ((x==("__debug__" : Str))=false) zau1._auto_1)
  (hcd:autoParam ((x==("__classdict__" : Str))=false) zau1._auto_1) (hb:autoParam (attributeBase (.Name x p) f X.env (eval (.Name x p) X.env)=eval (.Name x p) X.env) zau3._auto_1):DE X (.Attribute (.Name x p) f pos) .sh (Ni i f):=by
 refine⟨_,Rh (CU hN hv hd hcd) hb,λC M H n ρ σ P Q R w q=>?_⟩
 unfold Ni at w
 split at w
 ·rename_i a nm ks ds hd
  obtain⟨d,l,w⟩:=w
  obtain⟨e1,Cc,U,dx,u,vs,xc,⟨na,ha⟩,xt,hx,hl,hs⟩:=R.sl i _ hd
  rcases hx with ⟨_,rfl,_⟩ | ⟨dd,rfl,nd,hdd⟩
  ·simp at l
  ·obtain⟨v,lv,hv⟩:=Ez hs l
   have na:DP X.K Cc f:=by
    simp only [TM,UA,or_false] at hf
    rcases hf with rfl | rfl | rfl
    ·exact xc.nw
    ·exact xc.nn
    ·exact xc.nr
   exact⟨.ref a,getD_some e1,a,Cc,U,dd,u,nm,_,v,rfl,ha,xt,hdd,xc,na,lv,q v H d n (Ext.refl _ _) R.feed hv w⟩
 ·exact w.elim
noncomputable def Gp(i:Nat)(cn:Str):DW:=λn ρ P=>match ρ[i]? with
 | some (.ex _ nm _ _)=>P (.bl (decide (nm=cn))) n
 | _=>False
noncomputable def MJ(i:Nat):DW:=λn ρ P=>match ρ[i]? with
 | some (.ex _ _ _ _)=>P (.bl true) n
 | _=>False
theorem DL{cn:Str}{D U:Addr}(hc:cn ≠ "ThinError")(xd:XC X.K cn D U)(hgc:Gl X cn)(hmc:X.mg cn=some (.ref D))(hg:Gl X "isinstance")(hm:X.mg "isinstance"=none)(hN:autoParam (X.N[i]?=some x) zau3._auto_1)(hv:autoParam (Nd X.env.scope x) zau4._auto_1)(hd:autoParam ((x==("__debug__" : Str))=false) zau1._auto_1)
  (hcd:autoParam ((x==("__classdict__" : Str))=false) zau1._auto_1) (hdc:autoParam ((cn==("__debug__" : Str))=false) zau1._auto_1) (he:autoParam (starEach [.Name x p1,.Name cn p2] X.env=(false,eval (.Name x p1) X.env)::starEach [.Name cn p2] X.env) zau3._auto_1) (he2:autoParam (starEach [.Name cn p2] X.env=[(false,eval (.Name cn p2) X.env)]) zau3._auto_1) (hpl:autoParam ((backTo pos (starEach [.Name cn p2] X.env)).any (·.1)=false) zau3._auto_1) :
  DE X (.Call (.Name "isinstance" p) [.Name x p1,.Name cn p2] [] pos) .sh (Gp i cn):=by
 refine⟨_,B5 Iz hg hm (by decide +kernel) (Az (CU hN hv hd hcd) (Az (N_ (v:=.ref D) hgc hmc rfl hdc) BU he2) he) (by decide) (by decide) he hpl,λC M H n ρ σ P Q R w q=>?_⟩
 unfold Gp at w
 split at w
 ·rename_i a nm ks ds hd
  obtain⟨e1,Cc,U',dx,u,vs,xc,⟨na,ha⟩,xt,hx,hl,hs⟩:=R.sl i _ hd
  refine⟨.ref a,getD_some e1,a,Cc,U',dx,u,nm,.ref D,"",_,rfl,ha,xt,λd ed=>?_,xc,.inr ⟨D,rfl,xc.kit xd hc⟩,q _ H (.bl _) n (Ext.refl _ _) R.feed rfl w⟩
  rcases hx with ⟨z,_⟩ | ⟨dd,z,_,hdd⟩
  ·rw [z] at ed; cases ed
  ·rw [z] at ed; cases ed; exact⟨_,hdd⟩
 ·exact w.elim
theorem Od(hgc:Gl X "ValueError")(hmc:X.mg "ValueError"=none)(hg:Gl X "isinstance")(hm:X.mg "isinstance"=none)(hN:autoParam (X.N[i]?=some x) zau3._auto_1)(hv:autoParam (Nd X.env.scope x) zau4._auto_1)(hd:autoParam ((x==("__debug__" : Str))=false) zau1._auto_1)
  (hcd:autoParam ((x==("__classdict__" : Str))=false) zau1._auto_1) (he:autoParam (starEach [.Name x p1,.Name "ValueError" p2] X.env=(false,eval (.Name x p1) X.env)::starEach [.Name "ValueError" p2] X.env) zau3._auto_1) (he2:autoParam (starEach [.Name "ValueError" p2] X.env=[(false,eval (.Name "ValueError" p2) X.env)]) zau3._auto_1) (hpl:autoParam ((backTo pos (starEach [.Name "ValueError" p2] X.env)).any (·.1)=false) zau3._auto_1) :
  DE X (.Call (.Name "isinstance" p) [.Name x p1,.Name "ValueError" p2] [] pos) .sh (MJ i):=by
 refine⟨_,B5 Iz hg hm (by decide +kernel) (Az (CU hN hv hd hcd) (Az (Kc (v:=.ty "ValueError") hgc hmc PyProof.Rows.Boot.«ValueError» rfl) BU he2) he) (by decide) (by decide) he hpl,λC M H n ρ σ P Q R w q=>?_⟩
 unfold MJ at w
 split at w
 ·rename_i a nm ks ds hd
  obtain⟨e1,Cc,U',dx,u,vs,xc,⟨na,ha⟩,xt,hx,hl,hs⟩:=R.sl i _ hd
  refine⟨.ref a,getD_some e1,a,Cc,U',dx,u,nm,.ty "ValueError","ValueError",true,rfl,ha,xt,λd ed=>?_,xc,.inl ⟨rfl,xc.kitV⟩,q _ H (.bl _) n (Ext.refl _ _) R.feed rfl w⟩
  rcases hx with ⟨z,_⟩ | ⟨dd,z,_,hdd⟩
  ·rw [z] at ed; cases ed
  ·rw [z] at ed; cases ed; exact⟨_,hdd⟩
 ·exact w.elim
noncomputable def Q4(P:Program)(w:World)(K:Frag)(mg:Str->Option Value)(base:Heap)(x:Str)(k:Nat)(ps:List Str)(κ:Kd)(W:W2):Prop :=
 ∃f fd,Gm P w K mg base k f fd ps (Ef K κ W ps.length)/\mg x=some (.ref f)/\keepIn K (.ref f)=true/\Binds K fd ps []/\∀ss n P,W ss n P->ss.length=ps.length
noncomputable def Dw(a:Addr)(i:Nat)(W:W2)(was:Nh):DW:=λn ρ P=>(∃nm ks ds,ρ[i]?=some (.ex a nm ks ds))/\was n ρ λss n1=>W ss n1 P
theorem Dm{a:Addr}(i:Nat){k:Nat}{ps:List Str}{W:W2}{was:Nh}(hh:X.A.handled=some (.ref a))(G:Q4 X.prog X.w X.K X.mg X.base x k ps κ W)(hr:RoomH k X.A)(hg:Gl X x)(ha:Q6 X (e::es) was)
  (hdb:autoParam ((x==("__debug__" : Str))=false) zau1._auto_1) (he:autoParam (starEach (e::es) X.env=(false,eval e X.env)::starEach es X.env) zau3._auto_1) (hpl:autoParam ((backTo pos (starEach es X.env)).any (·.1)=false) zau3._auto_1) :
  DE X (.Call (.Name x p) (e::es) [] pos) κ (Dw a i W was):=by
 obtain⟨f,fd,G,hm,hk,hb,hW⟩:=G
 obtain⟨t,h1,h2⟩:=ha
 refine⟨_,Ml G hr hg hm hk hb h1 hdb he hpl,λC M H n ρ σ P Q R w q=>?_⟩
 obtain⟨⟨nm,ks,ds,hi⟩,w⟩:=w
 refine h2 C M H n ρ σ _ _ R w λvs H1 ss n1 e1 f1 r1 p=>?_
 have R1:=R.step e1 f1
 obtain⟨ea,Cc,U',dx,u,vs',xc,⟨na,ha⟩,xt,_⟩:=R1.sl i _ hi
 refine⟨⟨a,Cc,dx,u,hh,ha,xt⟩,(Paired.length r1).trans (hW _ _ _ p),C.F,C.U,C.V,M,n1,ss,P,⟨R1.dom,R1.fU,R1.uV,R1.vM,f1,r1⟩,p,λv H2 d n2 e2 f2 r2 p2=>?_⟩
 exact q v H2 d n2 (e1.trans e2) f2 (VR.back e1 r2) p2
end
theorem S3{P:Program}{w:World}{K:Frag}{mg:Str->Option Value}{base:Heap}{x qual:Str}{st:Stmt}{f:Addr}{fd:FuncData}{N ps:List Str}{k:Nat}{κ:Kd}{W:W2}{wb:AW}(F:Fun K x qual st f fd)(S:AT N ps (AD st))(hNp:ps.length<=N.length)
  (hb:∀(cdv:Value) (A:Around) (outer:List Env) (s:Shared) (H:Hp) (E:XK),RoomH k (A.deeper (envOfC qual (AD st) s.heap.objs.size f cdv))->HX A H->MB ((Cr Bn P w K mg base N qual (AD st) f cdv A outer s H E).hush (A.deeper (envOfC qual (AD st) s.heap.objs.size f cdv))) κ (Av st) wb)
  (hW:∀ss n Pd,ss.length=ps.length->W ss n Pd->wb { nx:=λn _=>κ=.sh/\Pd .non n,rt:=Pd } n (ss++Is (N.length - ps.length) .no)) :
  Gm P w K mg base (k+1) f fd ps (Ef K κ W ps.length):=by
 refine F.okH S (λvs H Q E h=>h.1) (λcdv A outer s H vs Q E hr hx h=>?_)
 obtain⟨hl,F0,U,V',M,n,ss,Pd,ra,hw,q⟩:=h
 obtain⟨t,t1,t2⟩:=hb cdv A outer s H E hr hx
 refine⟨t,t1,?_⟩
 have el:vs.length=ss.length:=Paired.length ra.2.2.2.2.2
 have R:=D0 (N:=N) ra (by omega)
 refine t2 ⟨M,F0,U,V',H,[],[]⟩ M H n _ _ { nx:=λn _=>κ=.sh/\Pd .non n,rt:=Pd } _ R ⟨λM1 H1 n1 ρ1 σ1 R1 p=>?_,λv H1 d n1 e1 f1 r1 p=>q v H1 d n1 e1 f1 r1 p,λ_ _ _ _ _ _ z=>z.elim,λ_ _ _ _ _ _ z=>z.elim⟩ ?_
 ·obtain⟨hk,p⟩:=p
  subst hk
  exact q .non H1 .non n1 R1.ext (R1.feed.pres (Pres.less R1.sub) λ_ _ _ z=>z) rfl p
 ·have e:ss.length=ps.length:=by omega
  have h1:=hW ss n Pd e hw
  rw [← e] at h1
  exact h1
theorem fnX{P:Program}{w:World}{K:Frag}{mg:Str->Option Value}{base:Heap}{x qual:Str}{st:Stmt}{f:Addr}{fd:FuncData}{N ps:List Str}{k:Nat}{κ:Kd}{W:WX}{wb:PX->AW}(F:Fun K x qual st f fd)(S:AT N ps (AD st))(hNp:ps.length<=N.length)
  (hb:∀(cdv:Value) (A:Around) (outer:List Env) (s:Shared) (H:Hp) (E:XK) (Pr:PX) (F0:Option (Addr×Addr)) (U M:Addr->Prop),LiftX K F0 U M H Pr E->Room k (A.deeper (envOfC qual (AD st) s.heap.objs.size f cdv)) ->
   JI (λC=>C.F=F0/\C.U=U/\C.M0=M/\C.H0=H) (Cr (MD P w) P w K mg base N qual (AD st) f cdv A outer s H E) κ (Av st) (wb Pr))
  (hW:∀ss n Pd Pr,ss.length=ps.length->W ss n Pd Pr->wb Pr { nx:=λn _=>κ=.sh/\Pd .non n,rt:=Pd } n (ss++Is (N.length - ps.length) .no)) :
  A1 P w K mg base (MD P w) (k+1) f fd ps (RR K κ W ps.length):=by
 obtain⟨oc,od,kV,doc,pm,an,cdv,ct,osl,rfl,lk,hcd⟩:=F.ex
 refine PN lk hcd S (λvs H Q E h=>h.1) λA outer s H vs Q E hr h=>?_
 obtain⟨hl,F0,U,V',M,n,ss,Pd,Pr,ra,hw,q,l⟩:=h
 obtain⟨t,t1,t2⟩:=hb cdv A outer s H E Pr F0 U M l hr
 refine⟨t,t1,?_⟩
 have el:vs.length=ss.length:=Paired.length ra.2.2.2.2.2
 have R:=D0 (N:=N) ra (by omega)
 refine t2 ⟨M,F0,U,V',H,[],[]⟩ M H n _ _ { nx:=λn _=>κ=.sh/\Pd .non n,rt:=Pd } _ ⟨rfl,rfl,rfl,rfl⟩ R ⟨λM1 H1 n1 ρ1 σ1 R1 p=>?_,λv H1 d n1 e1 f1 r1 p=>q v H1 d n1 e1 f1 r1 p,λ_ _ _ _ _ _ z=>z.elim,λ_ _ _ _ _ _ z=>z.elim⟩ ?_
 ·obtain⟨hk,p⟩:=p
  subst hk
  exact q .non H1 .non n1 R1.ext (R1.feed.pres (Pres.less R1.sub) λ_ _ _ z=>z) rfl p
 ·have e:ss.length=ps.length:=by omega
  have h1:=hW ss n Pd Pr e hw
  rw [← e] at h1
  exact h1
end Dp
namespace So
open PySem PySem.W PyProof.Rows
section
variable {O:KeyOrd}{key:Nat->O.α}{N:Nat}{cmp:Nat->Nat->(Bool->Shared->Prop)->Shared->Prop}{s:Shared}{p p0:Array Nat}
noncomputable def KN(O:KeyOrd)(key:Nat->O.α)(p:Array Nat)(i:Nat):O.α:=key (p.getD i 0)
noncomputable def Srt(O:KeyOrd)(key:Nat->O.α)(p:Array Nat)(k:Nat):Prop:=∀i j,i<=j->j<k->O.kle (KN O key p i) (KN O key p j)
noncomputable def SE(O:KeyOrd)(key:Nat->O.α)(p:Array Nat)(k:Nat):Prop:=∀i j,i<=j->j<k->O.kle (KN O key p j) (KN O key p i)
noncomputable def Pg(O:KeyOrd)(key:Nat->O.α)(N:Nat)(cmp:Nat->Nat->(Bool->Shared->Prop)->Shared->Prop)(s:Shared):Prop:=∀(i j:Nat) (C:Bool->Shared->Prop),i<N->j<N->C (O.blt (key i) (key j)) s->cmp i j C s
noncomputable def Bd(N:Nat)(p:Array Nat):Prop:=0<N/\∀x∈p,x<N
theorem HH(p:Array Nat)(i:Nat):p.getD i 0=(p[i]?).getD 0:=by
 simp
theorem Bd.get(h:Bd N p)(i:Nat):p.getD i 0<N:=by
 rw [HH]
 cases e:p[i]? with
 | none=>exact h.1
 | some x=>exact h.2 x (Array.mem_of_getElem? e)
theorem Bd.perm{p':Array Nat}(h:Bd N p)(hp:p'.Perm p):Bd N p':=⟨h.1,λx hx=>h.2 x (hp.mem_iff.mp hx)⟩
theorem Ce{p q:Array Nat}{i j:Nat}(h:p[i]?=q[j]?):KN O key p i=KN O key q j:=by
 unfold KN
 rw [HH,HH,h]
theorem Gk{src d:Nat}(hs:src<p.size)(hd:d<=src)(k:Nat) :
  KN O key (bubble p src d) k=if k=src - d then KN O key p src else if src - d<k/\k<=src then KN O key p (k - 1) else KN O key p k:=by
 have e:=getElem?_bubble hs d hd k
 by_cases h1:k=src - d
 ·rw [if_pos h1] at e ⊢; exact Ce e
 ·rw [if_neg h1] at e ⊢
  by_cases h2:src - d<k/\k<=src
  ·rw [if_pos h2] at e ⊢; exact Ce e
  ·rw [if_neg h2] at e ⊢; exact Ce e
theorem EL{i j:Nat}(hj:j<=p.size)(k:Nat):KN O key (kas_rev p i j) k=if i<=k/\k<j then KN O key p (i+j - 1 - k) else KN O key p k:=by
 have e:=getElem?_mirror_all (i:=i) hj k
 unfold kas_rev
 by_cases h1:i<=k/\k<j
 ·rw [if_pos h1] at e ⊢; exact Ce e
 ·rw [if_neg h1] at e ⊢; exact Ce e
theorem A6{i j:Nat}(hj:j<=p.size)(heq:∀k,i<=k->k<j->KN O key p k=KN O key p (j - 1))(k:Nat):KN O key (kas_rev p i j) k=KN O key p k:=by
 rw [EL hj]
 split
 ·rw [heq _ (by omega) (by omega),heq k (by omega) (by omega)]
 ·rfl
theorem BQ(p:Array Nat)(i j:Nat):(kas_rev p i j).Perm p:=mirror_perm _ _ _ _
theorem yes{α:Type}{T₁ T₂:KasT α}{Q:α->Shared->Prop}(h:T₁.kasWp cmp Q s):(if true=true then T₁ else T₂).kasWp cmp Q s:=by rw [if_pos rfl]; exact h
theorem no{α:Type}{T₁ T₂:KasT α}{Q:α->Shared->Prop}(h:T₂.kasWp cmp Q s):(if false=true then T₁ else T₂).kasWp cmp Q s:=by rw [if_neg (by simp)]; exact h
theorem KH(hC:Pg O key N cmp s)(hb:Bd N p){nrem:Nat}{G:Nat->Shared->Prop}:∀(f n:Nat),1<=n->n+f=nrem->Srt O key p n ->
  (∀m,n<=m->m<=nrem->Srt O key p m->(m=nrem\/O.klt (KN O key p m) (KN O key p (m - 1)))->G m s)->(kas_asc p f n).kasWp cmp G s
 | 0,n,_,e,hs,h=>h n (Go _) (by omega) hs (.inl (by omega))
 | f+1,n,h1,e,hs,h=>by
  show cmp (p.getD n 0) (p.getD (n - 1) 0) (λc s'=>(if c=true then KasT.ret n else kas_asc p f (n+1)).kasWp cmp G s') s
  refine hC _ _ _ (hb.get n) (hb.get _) ?_
  cases hless:O.blt (key (p.getD n 0)) (key (p.getD (n - 1) 0)) with
  | true=>exact yes (h n (Go _) (by omega) hs (.inr hless))
  | false =>
   refine no (KH hC hb f (n+1) (by omega) (by omega) (λi j hij hj=>?_) λm m1 m2 m3 m4=>h m (by omega) m2 m3 m4)
   by_cases hjx:j<n
   ·exact hs i j hij hjx
   ·have hj':j=n:=by omega
    subst hj'
    by_cases hi':i=j
    ·subst hi'; exact Uo _
    ·exact V3 (hs i (j - 1) (by omega) (by omega)) hless
theorem Es(hC:Pg O key N cmp s){nrem:Nat}{G:Array Nat×Nat×Nat->Shared->Prop}:∀(f:Nat) (p:Array Nat) (n q:Nat),p.Perm p0->Bd N p->nrem<=p.size->1<=n->n+f=nrem->SE O key p n->q+1<=n ->
  (∀i,n - (q+1)<=i->i<n->KN O key p i=KN O key p (n - 1)) ->
  (∀p' m q',p'.Perm p0->Bd N p'->p'.size=p.size->n<=m->m<=nrem->SE O key p' m->q'+1<=m->(∀i,m - (q'+1)<=i->i<m->KN O key p' i=KN O key p' (m - 1))->G (p',m,q') s)->(kas_desc f p n q).kasWp cmp G s
 | 0,p,n,q,hp,hb,hz,h1,e,hs,hq,he,h=>h p n q hp hb rfl (Go _) (by omega) hs hq he
 | f+1,p,n,q,hp,hb,hz,h1,e,hs,hq,he,h=>by
  show cmp (p.getD n 0) (p.getD (n - 1) 0) (λc s'=>(if c=true then (if q > 0 then kas_desc f (kas_rev p (n - (q+1)) n) (n+1) 0 else kas_desc f p (n+1) 0)
   else .ask (p.getD (n - 1) 0) (p.getD n 0) λd=>if d=true then .ret (p,n,q) else kas_desc f p (n+1) (q+1)).kasWp cmp G s') s
  refine hC _ _ _ (hb.get n) (hb.get _) ?_
  cases hless:O.blt (key (p.getD n 0)) (key (p.getD (n - 1) 0)) with
  | true =>
   have hl:O.klt (KN O key p n) (KN O key p (n - 1)):=hless
   have step1:∀xs:Array Nat,(∀k,KN O key xs k=KN O key p k)->SE O key xs (n+1):=by
    intro xs hk i j hij hj
    rw [hk,hk]
    by_cases hjx:j<n
    ·exact hs i j hij hjx
    ·have hj':j=n:=by omega
     subst hj'
     by_cases hi':i=j
     ·subst hi'; exact Uo _
     ·exact V3 (Vv hl) (hs i (j - 1) (by omega) (by omega))
   refine yes ?_
   have hsz:n<=p.size:=by omega
   by_cases hq0:q > 0
   ·rw [if_pos hq0]
    refine Es hC f _ (n+1) 0 ((BQ _ _ _).trans hp) (hb.perm (BQ _ _ _)) (by rw [kas_rev_size]; exact hz) (by omega) (by omega) (step1 _ (A6 hsz he)) (by omega) (λi a b=>by congr 1; omega) λp' m q' a1 a2 a3 a4 a5 a6 a7 a8=>h p' m q' a1 a2 (a3.trans (kas_rev_size _ _)) (by omega) a5 a6 a7 a8
   ·rw [if_neg hq0]
    exact Es hC f _ (n+1) 0 hp hb hz (by omega) (by omega) (step1 _ λ_=>rfl) (by omega) (λi a b=>by congr 1; omega) λp' m q' a1 a2 a3 a4 a5 a6 a7 a8=>h p' m q' a1 a2 a3 (by omega) a5 a6 a7 a8
  | false =>
   refine no ?_
   show cmp (p.getD (n - 1) 0) (p.getD n 0) (λd s'=>(if d=true then KasT.ret (p,n,q) else kas_desc f p (n+1) (q+1)).kasWp cmp G s') s
   refine hC _ _ _ (hb.get _) (hb.get n) ?_
   cases hlarger:O.blt (key (p.getD (n - 1) 0)) (key (p.getD n 0)) with
   | true=>exact yes (h p n q hp hb rfl (Go _) (by omega) hs hq he)
   | false =>
    have heqx:KN O key p n=KN O key p (n - 1):=XA (O:=O) hlarger hless
    refine no (Es hC f p (n+1) (q+1) hp hb hz (by omega) (by omega) (λi j hij hj=>?_) (by omega) (λi a b=>?_) λp' m q' a1 a2 a3 a4 a5 a6 a7 a8=>h p' m q' a1 a2 a3 (by omega) a5 a6 a7 a8)
    ·by_cases hjx:j<n
     ·exact hs i j hij hjx
     ·have hj':j=n:=by omega
      subst hj'
      by_cases hi':i=j
      ·subst hi'; exact Uo _
      ·rw [heqx]; exact hs i (j - 1) (by omega) (by omega)
    ·rw [show n+1 - 1=n by omega]
     by_cases hix:i=n
     ·subst hix; rfl
     ·rw [heqx]; exact he i (by omega) (by omega)
theorem Hy(hC:Pg O key N cmp s){n nrem:Nat}{G:Nat×Array Nat->Shared->Prop}(hp:p.Perm p0)(hb:Bd N p)(hz:nrem<=p.size)(h1:1<=n)(hn:n<=nrem)(hs:SE O key p n)
  (h:∀m p',p'.Perm p0->Bd N p'->p'.size=p.size->1<=m->m<=nrem->Srt O key p' m->G (m,p') s):(kas_tail3 n nrem p).kasWp cmp G s:=by
 unfold kas_tail3
 rw [KasT.kasWp_bind]
 have hsz:n<=p.size:=by omega
 refine KH hC (hb.perm (BQ _ _ _)) (nrem - n) n h1 (by omega) (λi j hij hj=>?_) λm m1 m2 m3 _=>h m _ ((BQ _ _ _).trans hp) (hb.perm (BQ _ _ _)) (kas_rev_size _ _) (by omega) m2 m3
 rw [EL hsz,EL hsz,if_pos (by omega),if_pos (by omega)]
 exact hs _ _ (by omega) (by omega)
theorem EX(hC:Pg O key N cmp s){n nrem:Nat}{G:Nat×Array Nat->Shared->Prop}(hp:p.Perm p0)(hb:Bd N p)(hz:nrem<=p.size)(hn:n+1<=nrem)(hs:SE O key p (n+1))
  (h:∀m p',p'.Perm p0->Bd N p'->p'.size=p.size->1<=m->m<=nrem->Srt O key p' m->G (m,p') s):(kas_descPart n nrem p).kasWp cmp G s:=by
 unfold kas_descPart
 rw [KasT.kasWp_bind]
 refine Es (p0:=p0) hC (nrem - (n+1)) p (n+1) 0 hp hb hz (by omega) (by omega) hs (by omega) (λi a b=>by congr 1; omega) λp' m q' a1 a2 a3 a4 a5 a6 a7 a8=>?_
 have hsz:m<=p'.size:=by omega
 show (if q' > 0 then kas_tail3 m nrem (kas_rev p' (m - (q'+1)) m) else kas_tail3 m nrem p').kasWp cmp G s
 by_cases hq0:q' > 0
 ·rw [if_pos hq0]
  refine Hy hC ((BQ _ _ _).trans a1) (a2.perm (BQ _ _ _)) (by rw [kas_rev_size]; omega) (by omega) a5 (λi j hij hj=>?_) λm' p'' b1 b2 b3 b4 b5 b6=>h m' p'' b1 b2 (b3.trans ((kas_rev_size _ _).trans a3)) b4 b5 b6
  rw [A6 hsz a8,A6 hsz a8]
  exact a6 i j hij hj
 ·rw [if_neg hq0]
  exact Hy hC a1 a2 (by omega) (by omega) a5 a6 λm' p'' b1 b2 b3 b4 b5 b6=>h m' p'' b1 b2 (b3.trans a3) b4 b5 b6
theorem NT(hC:Pg O key N cmp s){nrem:Nat}{G:Nat×Array Nat->Shared->Prop}(hp:p.Perm p0)(hb:Bd N p)(hz:nrem<=p.size)(h1:1<=nrem)
  (h:∀m p',p'.Perm p0->Bd N p'->p'.size=p.size->1<=m->m<=nrem->Srt O key p' m->G (m,p') s):(kas_count nrem p).kasWp cmp G s:=by
 unfold kas_count
 rw [KasT.kasWp_bind]
 refine KH (nrem:=nrem) hC hb (nrem - 1) 1 (Go _) (by omega) (λi j hij hj=>by have:i=j:=(by omega); subst this; exact Uo _) λn hn1 hn2 hsn hor=>?_
 by_cases hnn:n=nrem
 ·rw [if_pos (by simpa using hnn)]
  exact h n p hp hb rfl hn1 hn2 hsn
 ·rw [if_neg (by simpa using hnn)]
  have hlt:O.klt (KN O key p n) (KN O key p (n - 1)):=hor.resolve_left hnn
  by_cases hgt:n > 1
  ·rw [if_pos hgt]
   show cmp (p.getD 0 0) (p.getD (n - 1) 0) (λc s'=>(if c=true then KasT.ret (n,p) else kas_descPart n nrem (kas_rev p 0 n)).kasWp cmp G s') s
   refine hC _ _ _ (hb.get _) (hb.get _) ?_
   cases hrose:O.blt (key (p.getD 0 0)) (key (p.getD (n - 1) 0)) with
   | true=>exact yes (h n p hp hb rfl hn1 hn2 hsn)
   | false =>
    have hrose':O.kle (KN O key p (n - 1)) (KN O key p 0):=hrose
    have hsz:n<=p.size:=by omega
    have hall:∀k,0<=k->k<n->KN O key p k=KN O key p (n - 1):=by
     intro k _ hk
     have a1:=hsn 0 k (by omega) hk
     have a2:=hsn k (n - 1) (by omega) (by omega)
     exact XA a2 (V3 hrose' a1)
    refine no (EX hC ((BQ _ _ _).trans hp) (hb.perm (BQ _ _ _)) (by rw [kas_rev_size]; exact hz) (by omega) (λi j hij hj=>?_) λm' p'' b1 b2 b3 b4 b5 b6=>h m' p'' b1 b2 (b3.trans (kas_rev_size _ _)) b4 b5 b6)
    rw [A6 hsz hall,A6 hsz hall]
    by_cases hjn:j<n
    ·rw [hall i (by omega) (by omega),hall j (by omega) hjn]; exact Uo _
    ·have hj':j=n:=by omega
     subst hj'
     by_cases hi':i=j
     ·subst hi'; exact Uo _
     ·rw [hall i (by omega) (by omega)]; exact Vv hlt
  ·rw [if_neg hgt]
   have hn1':n=1:=by omega
   subst hn1'
   refine EX hC hp hb hz (by omega) (λi j hij hj=>?_) h
   by_cases hi':i=j
   ·subst hi'; exact Uo _
   ·have hi0:i=0:=by omega
    have hj1:j=1:=by omega
    subst hi0; subst hj1
    exact Vv hlt
theorem FK(hC:Pg O key N cmp s)(hb:Bd N p){k:Nat}(hs:Srt O key p k){G:Nat->Shared->Prop}
  (h:∀l,l<=k->(∀i,i<l->O.kle (KN O key p i) (KN O key p k))->(∀i,l<=i->i<k->O.klt (KN O key p k) (KN O key p i))->G l s):∀(f l r:Nat),l<=r->r<=k->r - l<=f ->
  (∀i,i<l->O.kle (KN O key p i) (KN O key p k))->(∀i,r<=i->i<k->O.klt (KN O key p k) (KN O key p i))->(kas_place p k f l r).kasWp cmp G s
 | 0,l,r,hlr,hrk,hm,hlo,hhi=>by
  have:l=r:=by omega
  subst this
  exact h l hrk hlo hhi
 | f+1,l,r,hlr,hrk,hm,hlo,hhi=>by
  unfold kas_place
  by_cases hge:l≥r
  ·rw [if_pos hge]
   have:l=r:=by omega
   subst this
   exact h l hrk hlo hhi
  ·rw [if_neg hge]
   show cmp (p.getD k 0) (p.getD ((l+r) / 2) 0) (λc s'=>(if c=true then kas_place p k f l ((l+r) / 2) else kas_place p k f ((l+r) / 2+1) r).kasWp cmp G s') s
   refine hC _ _ _ (hb.get _) (hb.get _) ?_
   cases hless:O.blt (key (p.getD k 0)) (key (p.getD ((l+r) / 2) 0)) with
   | true =>
    have hl:O.klt (KN O key p k) (KN O key p ((l+r) / 2)):=hless
    exact yes (FK hC hb hs h f l ((l+r) / 2) (by omega) (by omega) (by omega) hlo λi h1 h2=>KeyOrd.klt_of_klt_of_kle hl (hs _ _ h1 h2))
   | false =>
    have hl:O.kle (KN O key p ((l+r) / 2)) (KN O key p k):=hless
    exact no (FK hC hb hs h f ((l+r) / 2+1) r (by omega) (by omega) (by omega) (λi h1=>V3 (hs i ((l+r) / 2) (by omega) (by omega)) hl) hhi)
theorem DM(hC:Pg O key N cmp s){n:Nat}{G:Array Nat->Shared->Prop}(h:∀p',p'.Perm p0->Srt O key p' n->G p' s):∀(f:Nat) (p:Array Nat) (k:Nat),p.Perm p0->Bd N p->n<=p.size->k+f=n->Srt O key p k->(kas_bin f p k).kasWp cmp G s
 | 0,p,k,hp,hb,hz,e,hs=>h p hp (by rw [← e]; exact hs)
 | f+1,p,k,hp,hb,hz,e,hs=>by
  rw [show kas_bin (f+1) p k=(kas_place p k k 0 k).bind λl=>kas_bin f (bubble p k (k - l)) (k+1) from rfl,KasT.kasWp_bind]
  refine FK hC hb hs (λl hlk hlo hhi=>?_) k 0 k (UI _) (Go _) (by omega) (λi hi=>by omega) λi a b=>by omega
  have hks:k<p.size:=by omega
  refine DM hC h f _ (k+1) ((bubble_perm _ _ _).trans hp) (hb.perm (bubble_perm _ _ _)) (by rw [bubble_size]; exact hz) (by omega) λi j hij hj=>?_
  rw [Gk hks (by omega),Gk hks (by omega),show k - (k - l)=l by omega]
  by_cases hi1:i=l
  ·rw [if_pos hi1]
   by_cases hj1:j=l
   ·rw [if_pos hj1]; exact Uo _
   ·rw [if_neg hj1,if_pos (by omega)]
    exact Vv (hhi (j - 1) (by omega) (by omega))
  ·rw [if_neg hi1]
   by_cases hi2:l<i/\i<=k
   ·rw [if_pos hi2,if_neg (by omega),if_pos (by omega)]
    exact hs (i - 1) (j - 1) (by omega) (by omega)
   ·rw [if_neg hi2]
    by_cases hj1:j=l
    ·rw [if_pos hj1]; exact hlo i (by omega)
    ·rw [if_neg hj1]
     by_cases hj2:l<j/\j<=k
     ·rw [if_pos hj2]
      exact hs i (j - 1) (by omega) (by omega)
     ·rw [if_neg hj2]
      exact hs i j hij (by omega)
theorem sort_ok{n:Nat}(h1:1<=n)(hC:Pg O key n cmp s){G:Array Nat->Shared->Prop}(h:∀p,p.Perm (UJ (T_ n))->Srt O key p n->G p s):(kas_sort n).kasWp cmp G s:=by
 unfold kas_sort
 rw [KasT.kasWp_bind]
 have hb:Bd n (UJ (T_ n)):=⟨h1,λx hx=>by simpa using hx⟩
 have hsz:(UJ (T_ n)).size=n:=by simp
 refine NT hC (XN _) hb (by omega) h1 λm p' a1 a2 a3 a4 a5 a6=>?_
 show (if m<n then kas_bin (n - max m 1) p' (max m 1) else KasT.ret p').kasWp cmp G s
 by_cases hlt:m<n
 ·rw [if_pos hlt,show max m 1=m by omega]
  exact DM (p0:=UJ (T_ n)) hC h (n - m) p' m a1 a2 (by omega) (by omega) a6
 ·rw [if_neg hlt]
  exact h p' a1 (by rw [show n=m by omega]; exact a6)
end
end So
namespace L2
open PySem PySem.Spec PyProof.Rows PySem.W
noncomputable def QT:Key->Key->Bool
 | .inl i,.inl j=>decide (i<j)
 | .inr x,.inr y=>decide (x.cps.toList<y.cps.toList)
 | .inl _,.inr _=>true
 | .inr _,.inl _=>false
noncomputable def Bb:List Key->List Key->Bool
 | [],[]=>false
 | [],_::_=>true
 | _::_,[]=>false
 | x::xs,y::ys=>if x=y then Bb xs ys else QT x y
theorem J0:∀x:Key,QT x x=false
 | .inl i=>decide_eq_false (Int.lt_irrefl i)
 | .inr x=>decide_eq_false (List.lt_irrefl _)
theorem Li:∀x y z:Key,QT x y=true->QT y z=true->QT x z=true
 | .inl i,.inl j,.inl k,h1,h2=>decide_eq_true (Int.lt_trans (of_decide_eq_true h1) (of_decide_eq_true h2))
 | .inr i,.inr j,.inr k,h1,h2=>decide_eq_true (List.lt_trans (of_decide_eq_true h1) (of_decide_eq_true h2))
 | .inl i,.inl j,.inr k,_,_=>rfl
 | .inl i,.inr j,.inr k,_,_=>rfl
 | .inl i,.inr j,.inl k,_,h=>by cases h
 | .inr i,.inl j,_,h,_=>by cases h
 | .inr i,.inr j,.inl k,_,h=>by cases h
theorem Lj:∀x y:Key,QT x y=false->QT y x=false->x=y
 | .inl i,.inl j,h1,h2=>congrArg Vo (by have a:=of_decide_eq_false h1; have b:=of_decide_eq_false h2; omega)
 | .inr x,.inr y,h1,h2=>by
  have a:=of_decide_eq_false h1
  have b:=of_decide_eq_false h2
  have e:x.cps.toList=y.cps.toList:=List.le_antisymm (as:=x.cps.toList) (bs:=y.cps.toList) b a
  obtain⟨u⟩:=x
  obtain⟨v⟩:=y
  exact congrArg VP (congrArg Str.mk (Array.ext' e))
 | .inl i,.inr j,h,_=>by cases h
 | .inr i,.inl j,_,h=>by cases h
theorem ET:∀x:List Key,Bb x x=false
 | []=>rfl
 | x::xs=>by unfold Bb; rw [if_pos rfl]; exact ET xs
theorem CG:∀x y z:List Key,Bb x y=true->Bb y z=true->Bb x z=true
 | [],[],_,h,_=>by cases h
 | [],_::_,[],_,h=>by cases h
 | [],_::_,_::_,_,_=>rfl
 | _::_,[],_,h,_=>by cases h
 | _::_,_::_,[],_,h=>by cases h
 | x::xs,y::ys,z::zs,h1,h2=>by
  unfold Bb at h1 h2 ⊢
  by_cases e1:x=y
  ·subst e1
   rw [if_pos rfl] at h1
   by_cases e2:x=z
   ·subst e2
    rw [if_pos rfl] at h2 ⊢
    exact CG xs ys zs h1 h2
   ·rw [if_neg e2] at h2 ⊢
    exact h2
  ·rw [if_neg e1] at h1
   by_cases e2:y=z
   ·subst e2
    rw [if_neg e1]
    exact h1
   ·rw [if_neg e2] at h2
    have h3:=Li x y z h1 h2
    by_cases e3:x=z
    ·subst e3
     rw [J0] at h3
     cases h3
    ·rw [if_neg e3]
     exact h3
theorem DC:∀x y:List Key,Bb x y=false->Bb y x=false->x=y
 | [],[],_,_=>rfl
 | [],_::_,h,_=>by cases h
 | _::_,[],_,h=>by cases h
 | x::xs,y::ys,h1,h2=>by
  unfold Bb at h1 h2
  by_cases e:x=y
  ·subst e
   rw [if_pos rfl] at h1 h2
   rw [DC xs ys h1 h2]
  ·rw [if_neg e] at h1
   rw [if_neg (λz=>e z.symm)] at h2
   exact absurd (Lj x y h1 h2) e
noncomputable def Mo:KeyOrd:=⟨List Key,Bb,ET,CG,λa b c h=>by
 cases h1:Bb a b with
 | true=>exact .inl rfl
 | false =>
  cases h2:Bb b a with
  | true=>exact .inr (CG b a c h2 h)
  | false=>rw [← DC a b h1 h2]; exact .inr h,DC⟩
theorem HF:∀x y:List Key,BJ x y=true->DD x y=Bb x y
 | [],[],_=>rfl
 | [],_::_,_=>rfl
 | _::_,[],_=>rfl
 | x::xs,y::ys,h=>by
  have h':(GI x y&&BJ xs ys)=true:=h
  rw [Tu] at h'
  unfold DD Bb
  by_cases e:x=y
  ·rw [if_pos e,if_pos e]; exact HF xs ys h'.2
  ·rw [if_neg e,if_neg e]
   cases x with
   | inl i=>cases y with
    | inl j=>rfl
    | inr z=>cases h'.1
   | inr i=>cases y with
    | inl j=>cases h'.1
    | inr z=>rfl
section
variable {prog:Program}{w:World}{A:Around}{E:Value->Shared->Prop}{s:Shared}
theorem Mu{b:Bool}{Q:Bool->Shared->Prop}{nx ny:Nat}:∀(ns ms:List Key) (us ws:List Value) (i:Nat),Vals (ns.map kOf) us->Vals (ms.map kOf) ws->BJ ns ms=true->ns.length+ny=ms.length+nx->Q (DD ns ms) s ->
  KatLex prog w A b (decide (nx<ny)) Q (us.zip ws) i s
 | [],[],us,ws,i,h1,h2,_,hl,q=>by
  cases h1
  cases h2
  refine kat_nil ?_
  rw [show decide (nx<ny)=false from decide_eq_false (by simp only [Ub] at hl; omega)]
  exact q
 | [],m::ms,us,ws,i,h1,h2,_,hl,q=>by
  cases h1
  rw [List.zip_nil_left]
  refine kat_nil ?_
  rw [show decide (nx<ny)=true from decide_eq_true (by simp only [Ub,Tk] at hl; omega)]
  exact q
 | n::ns,[],us,ws,i,h1,h2,_,hl,q=>by
  cases h2
  rw [List.zip_nil_right]
  refine kat_nil ?_
  rw [show decide (nx<ny)=false from decide_eq_false (by simp only [Ub,Tk] at hl; omega)]
  exact q
 | n::ns,m::ms,us,ws,i,h1,h2,hs,hl,q=>by
  have hs':(GI n m&&BJ ns ms)=true:=hs
  rw [Tu] at hs'
  have q':Q (if n=m then DD ns ms else SR n m) s:=q
  cases h1 with
  | @cons _ u _ ur r1 t1 =>
   cases h2 with
   | @cons _ v _ vr r2 t2 =>
    rw [Vl]
    have ih:n=m->KatLex prog w A b (decide (nx<ny)) Q (ur.zip vr) (i+1) s:=λe=>Mu ns ms ur vr (i+1) t1 t2 hs'.2 (by simp only [Tk] at hl; omega) (by rw [if_pos e] at q'; exact q')
    cases n with
    | inl x =>
     cases m with
     | inr y=>cases hs'.1
     | inl y =>
      obtain⟨tu,rfl⟩:=r1
      obtain⟨tv,rfl⟩:=r2
      refine kat_cons (wpAny_eqBool_int ?_)
      by_cases e:x=y
      ·rw [show (x==y)=true by simpa using e]
       exact kat_yes (ih (by rw [e]))
      ·rw [show (x==y)=false by simpa using e]
       refine kat_no ?_
       rw [if_neg (λz=>e (Sum.inl.inj z))] at q'
       cases hf:(b&&i==0) with
       | true=>exact oneLt_int q'
       | false=>exact kat_one _ _ (Ww (show PySem.W.BoolBack Q (.bool (decide (x<y))) s from q'))
    | inr x =>
     cases m with
     | inl y=>cases hs'.1
     | inr y =>
      obtain⟨tu,rfl⟩:=r1
      obtain⟨tv,rfl⟩:=r2
      refine kat_cons (wpAny_eqBool_str ?_)
      by_cases e:x=y
      ·rw [show decide (x=y)=true by simpa using e]
       exact kat_yes (ih (by rw [e]))
      ·rw [show decide (x=y)=false by simpa using e]
       refine kat_no ?_
       rw [if_neg (λz=>e (Vw z))] at q'
       cases hf:(b&&i==0) with
       | true=>exact oneLt_str q'
       | false=>exact kat_one _ _ (PySem.P.lt_str (show PySem.W.BoolBack Q (.bool (decide (x.cps.toList<y.cps.toList))) s from q'))
structure LD (h:Heap) (ks:List Value) (keys:List (List Key)):Prop where
 at_:∀(i:Nat) (ns:List Key),keys[i]?=some ns->∃a o its n,ks[i]?=some (.ref a)/\h.get? a=some o/\o.cls=.type "tuple"/\o.data=.seq its n/\Vals (ns.map kOf) its.toList
 len:ks.length=keys.length
 same:∀x∈keys,∀y∈keys,BJ x y=true
 ne:∀x∈keys,x≠[]
noncomputable def SK:Key->String
 | .inl _ => "int"
 | .inr _ => "str"
theorem firsts{h:Heap}:∀(ks:List Value) (keys:List (List Key)) (T:String),ks.length=keys.length->(∀(i:Nat) (ns:List Key),keys[i]?=some ns->∃a o its n,ks[i]?=some (.ref a)/\h.get? a=some o/\o.cls=.type "tuple"/\o.data=.seq its n/\Vals (ns.map kOf) its.toList) ->
  (∀x∈keys,∃k r,x=k::r/\SK k=T)->∃fs:List Value,KatTups h ks fs/\fs.length=keys.length/\∀v∈fs,typeOf v=pure (.type T)
 | [],[],T,_,_,_=>⟨[],trivial,rfl,λv hv=>by cases hv⟩
 | [],_::_,T,hl,_,_=>by cases hl
 | _::_,[],T,hl,_,_=>by cases hl
 | k::ks,x::keys,T,hl,h1,h2=>by
  obtain⟨fs,g1,g2,g3⟩:=firsts ks keys T (by simpa using hl) (λi ns e=>by
   obtain⟨a,o,its,n,e1,r⟩:=h1 (i+1) ns (by simpa using e)
   exact⟨a,o,its,n,by simpa using e1,r⟩) λy hy=>h2 y (Op _ hy)
  obtain⟨a,o,its,n,e1,e2,e3,e4,e5⟩:=h1 0 x rfl
  have e1:k=.ref a:=by simpa using e1
  subst e1
  obtain⟨k,r,rfl,hk⟩:=h2 x Tv
  rw [UG] at e5
  cases hits:its.toList with
  | nil=>rw [hits] at e5; cases e5
  | cons f tl =>
   rw [hits] at e5
   cases e5 with
   | cons r1 r2 =>
    refine⟨f::fs,KatTups.cons e2 e3 e4 (by rw [← Array.getElem?_toList,hits]; rfl) g1,by rw [Tk,Tk,g2],λv hv=>?_⟩
    rcases TM.mp hv with rfl | hv
    ·cases k with
     | inl i=>obtain⟨t,rfl⟩:=r1; subst hk; rfl
     | inr i=>obtain⟨t,rfl⟩:=r1; subst hk; rfl
    ·exact g3 v hv
theorem LK{ks:List Value}{keys:List (List Key)}(K:LD s.heap ks keys)(h2:2<=ks.length){G:Array Nat->Shared->Prop}(h:∀p,p.Perm (UJ (T_ ks.length))->So.Srt Mo (λi=>keys.getD i []) p ks.length->G p s) :
  wpAny (model prog w) A (keyKind' ks.toArray) (λκ s'=>(kas_sort ks.length).kasWp (kas_ask prog w A κ ks) G s') (λ_ _=>False) s:=by
 obtain⟨x0,xr,hx⟩:∃x0 xr,keys=x0::xr:=by
  cases e:keys with
  | nil=>have:=K.len; rw [e] at this; simp only [Ub] at this; omega
  | cons x r=>exact⟨x,r,rfl⟩
 have m0:x0∈keys:=by rw [hx]; exact Tv
 obtain⟨k0,r0,e0⟩:∃k r,x0=k::r:=by
  cases e:x0 with
  | nil=>exact absurd e (K.ne x0 m0)
  | cons k r=>exact⟨k,r,rfl⟩
 have hty:∀x∈keys,∃k r,x=k::r/\SK k=SK k0:=λx hm=>by
  cases e:x with
  | nil=>exact absurd e (K.ne x hm)
  | cons k r =>
   refine⟨k,r,rfl,?_⟩
   have hsm:=K.same x hm x0 m0
   rw [e,e0] at hsm
   have hsm:(GI k k0&&BJ r r0)=true:=hsm
   rw [Tu] at hsm
   cases k with
   | inl i=>cases k0 with
    | inl j=>rfl
    | inr j=>cases hsm.1
   | inr i=>cases k0 with
    | inl j=>cases hsm.1
    | inr j=>rfl
 obtain⟨fs,g1,g2,g3⟩:=firsts ks keys (SK k0) K.len K.at_ hty
 refine kat_kind g1 (by rw [g2,← K.len]; omega) (λv hv=>by rw [g3 v hv]; exact Looks.now) (by simp) ?_
 refine So.sort_ok (O:=Mo) (key:=λi=>keys.getD i []) (by omega) (λi j C hi hj hC=>?_) h
 have hi':i<keys.length:=by rw [← K.len]; exact hi
 have hj':j<keys.length:=by rw [← K.len]; exact hj
 obtain⟨a,o,its,n,e1,e2,e3,e4,e5⟩:=K.at_ i keys[i] (No hi')
 obtain⟨a',o',its',n',e1',e2',e3',e4',e5'⟩:=K.at_ j keys[j] (No hj')
 unfold kas_ask
 rw [show ks.getD i T9=.ref a by rw [T7,e1]; rfl,show ks.getD j T9=.ref a' by rw [T7,e1']; rfl]
 have hsm:=K.same _ (VX hi') _ (VX hj')
 refine kat_lt e2 e4 e2' e4' (Mu keys[i] keys[j] _ _ 0 e5 e5' hsm ?_ ?_)
 ·have l1:=e5.length
  have l2:=e5'.length
  have l3:(keys[i].map kOf).length=keys[i].length:=Ev ..
  have l4:(keys[j].map kOf).length=keys[j].length:=Ev ..
  have l5:its.toList.length=its.size:=Ua
  have l6:its'.toList.length=its'.size:=Ua
  omega
 ·rw [HF _ _ hsm]
  have g1:keys.getD i []=keys[i]:=by rw [T7,No hi']; rfl
  have g2:keys.getD j []=keys[j]:=by rw [T7,No hj']; rfl
  have hC':C (Bb (keys.getD i []) (keys.getD j [])) s:=hC
  rw [g1,g2] at hC'
  exact hC'
theorem Gu{v:Value}{kw:List (Str×Value)}{Q:Value->Shared->Prop}(ha1:argsOk "sorted" ⟨[v],kw⟩)(ha2:∀x,argsOk "list.sort" ⟨[.ref x],kw⟩)
  (hc:wpAny (model prog w) A.in1 (collect v) (λvs s1=>vs.length<=sizeLine/\wpAny (model prog w) A.in1.in1 (Builtin.«list.sort» ⟨[.ref s1.heap.objs.size],kw⟩) (λfin s'=>fin=.done (.ret .none)/\Q (.ref s1.heap.objs.size) s') E { s1 with heap:=s1.heap.push (seqObj "list" vs.toArray 0) }) E s) :
  wpAny (model prog w) A (call (.builtin "sorted") [v] kw) Q E s:=by
 refine call_function_entry_kw kind_sorted plain_sorted entry_sorted ha1 ?_
 unfold Builtin.«sorted»
 refine Ch (m:=checkCount "sorted" 1 1 _) (Db ?_)
 refine Ch (UC hc (λvs s1 h=>?_) λ_ _ x=>x)
 refine Ch (wpAny_newList ?_ h.1)
 have hoL:(s1.heap.push (seqObj "list" vs.toArray 0)).get? s1.heap.objs.size=some (seqObj "list" vs.toArray 0):=On _ rfl
 refine Ch (UR (wpAny_call_entry_kw PyProof.Rows.slot_list_sort ⟨_,hoL,rfl⟩ PyProof.Rows.entry_list_sort (UC h.2 (λfin s' hf=>?_) λ_ _ x=>x) (ha2 _)))
 exact⟨_,hf.1,Db ⟨_,rfl,hf.2⟩⟩
noncomputable def EO(h:Heap)(D:Addr)(vs:List Value):Heap:=((h.update D (US λ_=>(#[]:Array Value))).push (seqObj "tuple" vs.toArray 0)).push (seqObj "list" #[] 0)
theorem LO{h:Heap}{D:Addr}{vs:List Value}{b:Addr}{o:Obj}(hb:b≠D)(e:h.get? b=some o):(EO h D vs).get? b=some o :=
 Cn _ (Cn _ ((T3 _ _ (Ug hb)).trans e))
theorem IB{h:Heap}{D:Addr}{vs:List Value}{n:Nat}(ho:h.get? D=some (seqObj "list" vs.toArray n)):∃e1,(EO h D vs).get? D=some (seqObj "list" #[] e1)/\(h.update D (US λ_=>(#[]:Array Value))).get? D=some (seqObj "list" #[] e1):=by
 obtain⟨e1,ho1⟩:∃e1,(h.update D (US λ_=>(#[]:Array Value))).get? D=some (seqObj "list" #[] e1):=⟨_,Vh ho λ_=>#[]⟩
 exact⟨e1,Cn _ (Cn _ ho1),ho1⟩
theorem Lk{D:Addr}{f:Value}{vs:List Value}{n:Nat}{P:PySem.Fin->Shared->Prop}(ho:s.heap.get? D=some (seqObj "list" vs.toArray n))(h64:vs.length<64)(J:List Value->Shared->Prop)(kS:Addr)(hkS:kS=s.heap.objs.size+1)
  (h0:∀e1,(EO s.heap D vs).get? D=some (seqObj "list" #[] e1)->J [] { s with heap:=EO s.heap D vs })
  (hstep:∀(ks:List Value) (s':Shared) (e:Nat) (v:Value),J ks s'->s'.heap.get? kS=some (seqObj "list" ks.toArray e)->vs[ks.length]?=some v->wpAny (model prog w) A (call f [v]) (λk s''=>s''.heap.get? kS=some (seqObj "list" ks.toArray e)/\J (ks++[k]) { s'' with heap:=s''.heap.update kS (US (·.push k)) }) (λ_ _=>False) s')
  (hend:∀(e1:Nat),(EO s.heap D vs).get? D=some (seqObj "list" #[] e1)->∀(ks:List Value) (s':Shared),J ks s'->ks.length=vs.length->s'.heap.get? D=some (seqObj "list" #[] e1)/\∃G:Array Nat->Prop,
   (2<=vs.length->wpAny (model prog w) A (keyKind' ks.toArray) (λκ s2=>(kas_sort vs.length).kasWp (kas_ask prog w A κ ks) (λp s''=>s''=s'/\G p) s2) (λ_ _=>False) s')/\(vs.length<2->G (UJ (T_ vs.length))) /\
   ∀(p:Array Nat) (h':Heap) (c:Nat),p.size=vs.length->G p->(∀b o,b≠D->b≠kS->s'.heap.get? b=some o->h'.get? b=some o)->h'.get? D=some (seqObj "list" (UJ (p.toList.map λi=>vs.getD i T9)) c)->(∃o,h'.get? kS=some o)->P (.done (.ret .none)) { s' with heap:=h' }) :
  wpAny (model prog w) A (ksk_tree D f false) P E s:=by
 obtain⟨e1,ho6,ho1⟩:=IB ho
 have hsz1:((s.heap.update D (US λ_=>(#[]:Array Value))).push (seqObj "tuple" vs.toArray 0)).objs.size=kS:=by rw [size_push',Heap.size_update,hkS]
 have hD:D<s.heap.objs.size:=FM ho
 have hDk:D≠kS:=by rw [hkS]; exact T1 (Uj hD)
 have hk0:(EO s.heap D vs).get? kS=some (seqObj "list" #[] 0):=by rw [← hsz1]; exact On _ rfl
 unfold ksk_tree
 refine Ch (Wq ho rfl ?_)
 refine Ch (Vz ho rfl ?_ (by rw [Re,UQ]; omega) (UI _))
 refine Ch (seqEpoch_at ho1 rfl ?_)
 refine Ch (wpAny_newTuple ?_ (by show vs.length<=_; rw [UQ]; omega))
 refine Ch (wpAny_newList ?_ (UI _))
 refine UR ?_
 show wpAny (model prog w) A (ksk_rest D f false vs.toArray e1 (.ref ((s.heap.update D (US λ_=>(#[]:Array Value))).push (seqObj "tuple" vs.toArray 0)).objs.size)) P E { s with heap:=EO s.heap D vs }
 rw [hsz1]
 unfold ksk_rest
 refine Ch (VW ?_)
 first
  | rw [List.forIn_toArray]
  | (rw [← Array.forIn_toList]; simp only [List.toList_toArray])
  | rw [← Array.forIn_toList]
 refine Ch (ksk_fold (I:=λi s'=>∃ks e,WN ks=i/\J ks s'/\s'.heap.get? kS=some (seqObj "list" ks.toArray e)) vs 0 _ ⟨[],0,rfl,h0 e1 ho6,hk0⟩ (λj x s' hx hI=>?_) λs' hI=>?_)
 ·obtain⟨ks,e,hl,hJ,hk⟩:=hI
  have hj:j<vs.length:=(T0.mp hx).1
  have hl:ks.length=j:=by omega
  refine Ch (Vb (UC (hstep ks s' e x hJ hk (by rw [hl]; exact hx)) (λk s'' hk2=>?_) λ_ _ hF=>hF.elim))
  have ea:(UJ ks).push k=UJ (ks++[k]):=by simp
  obtain⟨c2,hc2⟩:∃c2,(s''.heap.update kS (US (·.push k))).get? kS=some (seqObj "list" (UJ (ks++[k])) c2):=⟨_,by rw [← ea]; exact Vh hk2.1 (·.push k)⟩
  try dsimp only
  refine Ch (Vz hk2.1 rfl ?_ (by rw [Re,UQ]; omega) (T6 (Nat.le_of_eq (Array.size_push ..)) (by rw [Re,UQ]; omega)))
  exact Db ⟨rfl,ks++[k],c2,by rw [Tz,UB]; omega,hk2.2,hc2⟩
 ·obtain⟨ks,e,hl,hJ,hk⟩:=hI
  have hl:ks.length=vs.length:=by omega
  obtain⟨hD',G,g2,g1,g3⟩:=hend e1 ho6 ks s' hJ hl
  try dsimp only
  refine Ch (Wq hk rfl ?_)
  have tail:∀(st:SortSt) (p:Array Nat),p.size=vs.length->G p->(arrOf st).map (·.2)=UJ (p.toList.map λi=>vs.getD i T9)->failedOf st=none->wpAny (model prog w) A (ksk_tail D false e1 (.ref kS) st) P E s':=λst p hp hg hout hf=>by
   have hsz:(UJ (p.toList.map λi=>vs.getD i T9)).size=vs.length:=by rw [Re,Ev,Ua,hp]
   obtain⟨ck,hck⟩:∃ck,(s'.heap.update kS (US λ_=>(#[]:Array Value))).get? kS=some (seqObj "list" #[] ck):=⟨_,Vh hk λ_=>#[]⟩
   have hD2:(s'.heap.update kS (US λ_=>(#[]:Array Value))).get? D=some (seqObj "list" #[] e1):=(T3 _ _ (Ug hDk)).trans hD'
   obtain⟨c2,hc2⟩:∃c2,((s'.heap.update kS (US λ_=>(#[]:Array Value))).update D (US λ_=>UJ (p.toList.map λi=>vs.getD i T9))).get? D=some (seqObj "list" (UJ (p.toList.map λi=>vs.getD i T9)) c2):=⟨_,Vh hD2 λ_=>UJ (p.toList.map λi=>vs.getD i T9)⟩
   unfold ksk_tail
   try dsimp only
   rw [hout]
   refine Ch (Vz hk rfl ?_ (by rw [Re,UQ]; omega) (UI _))
   refine Ch (Wz ?_)
   refine Ch (seqEpoch_at hD2 rfl ?_)
   refine Ch (Vz hD2 rfl ?_ (UI _) (T6 (Nat.le_of_eq hsz) (by rw [UQ]; omega)))
   rw [hf]
   simp only [bne_self_eq_false,Vj,if_false]
   refine Db (g3 p _ c2 hp hg (λb o hb1 hb2 e=>(T3 _ _ (Ug hb1)).trans ((T3 _ _ (Ug hb2)).trans e)) hc2 ⟨_,(T3 _ _ hDk).trans hck⟩)
  unfold ksk_end
  try dsimp only
  simp only [Vj,if_false]
  by_cases h2:vs.length<2
  ·have h2':vs.toArray.size<2:=by rw [Re]; exact h2
   rw [if_pos h2',if_pos h2']
   refine Ch (Db ?_)
   rw [StateT.run_pure]
   refine Ch (Db ?_)
   try dsimp only
   refine tail _ (UJ (T_ vs.length)) (by simp) (g1 h2) (kat_snds hl ?_) rfl
   have er:=kas_range (ks.toArray.zip vs.toArray)
   rw [show (ks.toArray.zip vs.toArray).size=vs.length by simp [hl]] at er
   exact er.symm
  ·have h2':¬vs.toArray.size<2:=by rw [Re]; exact h2
   rw [if_neg h2',if_neg h2']
   refine Ch (UC (g2 (by omega)) (λκ s0 hk=>?_) λ_ _ x=>x.elim)
   refine Ch (UC (kat_run (Q:=λst' s2=>∃p:Array Nat,p.size=vs.length/\arrOf st'=p.map (kas_item (ks.toArray.zip vs.toArray))/\failedOf st'=none/\s2=s'/\G p)
    hl (by omega) h64 (λp' st' s2 a1 a2 a3 a4=>⟨p',a1,a2,a3,a4⟩) hk) ?_ λ_ _ e=>e)
   rintro ⟨⟨⟩,st'⟩ s2 ⟨p,hp,har,hf,rfl,hg⟩
   try dsimp only
   exact tail st' p hp hg (kat_snds hl har) hf
end
section
variable {X:Cx}{pins:List (Addr×Obj)}{σ:L2.St}{H:Hp}{s:Shared}{h':Heap}
structure L_ (X:Cx) (pins:List (Addr×Obj)) (D:Addr):Prop where
 new:X.s₀.heap.objs.size<=D
 loc:D≠X.env.locals
 cell:∀x c,X.env.cells.lookup x=some c->c≠D
 pin:∀p∈X.pn++pins,p.1≠D
 fs:D∉X.fs
theorem Inv.mine(I:Inv X pins σ H s){D:Addr}(h:s.heap.objs.size<=D):L_ X pins D:=by
 refine⟨T6 I.sz h,λz=>?_,λx c e z=>?_,λp hp z=>?_,I.nofs h⟩
 ·have:=I.lt
  rw [← z] at this
  exact absurd this (Vq.mpr h)
 ·obtain⟨v,o,ho,_⟩:=I.cell x c e
  have:=FM ho
  rw [z] at this
  exact absurd this (Vq.mpr h)
 ·obtain⟨e,_⟩:=I.pin p hp
  have:=FM e
  rw [z] at this
  exact absurd this (Vq.mpr h)
structure KeysAt (K:Frag) (H:Hp) (vs:List V) (keys:List (List Key)):Prop where
 len:vs.length=keys.length
 at_:∀(i:Nat) (ns:List Key),keys[i]?=some ns->∃a,vs[i]?=some (.ref a)/\Du K H a (ns.map kOf)
 same:∀x∈keys,∀y∈keys,BJ x y=true
 ne:∀x∈keys,x≠[]
noncomputable def LG(keys:List (List Key))(ix:List Nat):Prop:=ix.Perm (T_ keys.length)/\∀i j,i<=j->j<keys.length->Bb (keys.getD (ix.getD j 0) []) (keys.getD (ix.getD i 0) [])=false
theorem KeysAt.tups{vs:List V}{us:List Value}{keys:List (List Key)}(I:Inv X pins σ H s)(r:Vals vs us)(k:KeysAt X.K H vs keys){h':Heap}(hk:∀b o,s.heap.get? b=some o->h'.get? b=some o):LD h' us keys:=by
 refine⟨λi ns e=>?_,r.length.symm.trans k.len,k.same,k.ne⟩
 obtain⟨a,e1,h1⟩:=k.at_ i ns e
 obtain⟨u,e2,r2⟩:=r.get e1
 cases r2
 obtain⟨its,r3,⟨o,ho,hc,n,hd⟩,_⟩:=I.tuple h1
 exact⟨a,o,its.toArray,n,e2,hk a o ho,hc,hd,by rw [List.toList_toArray]; exact r3⟩
theorem GC:∀{vs:List V} {us:List Value},Vals vs us->∀i:Nat,RelV (vs.getD i .non) (us.getD i T9)
 | _,_,.nil,i=>by simp [RelV]
 | _,_,.cons r t,0=>by simpa using r
 | _,_,.cons r t,i+1=>by simpa using GC t i
theorem Hq{f:Nat->V}{g:Nat->Value}(h:∀i,RelV (f i) (g i)):∀ix:List Nat,Vals (ix.map f) (ix.map g)
 | []=>.nil
 | i::ix=>.cons (h i) (Hq h ix)
theorem getD_list(p:Array Nat)(i:Nat):p.getD i 0=p.toList.getD i 0:=by simp
theorem QL{keys:List (List Key)}{n:Nat}{p:Array Nat}(hn:keys.length=n)(h1:p.Perm (UJ (T_ n)))(h2:So.Srt Mo (λi=>keys.getD i []) p n):LG keys p.toList:=by
 subst hn
 refine⟨Array.perm_iff_toList_perm.mp h1,λi j hij hj=>?_⟩
 have h:=h2 i j hij hj
 unfold So.KN at h
 rw [getD_list,getD_list] at h
 exact h
theorem Iu{prog:Program}{w:World}{A:Around}{E:Value->Shared->Prop}{s:Shared}{l:Addr}{vs:List Value}{Q:List Value->Shared->Prop}(hl:IsTup s.heap l vs.toArray)
  (h:Q vs { s with heap:=(s.heap.push (seqObj "list" #[] 0)).update s.heap.objs.size (US (·++vs.toArray)) }) (hsz:vs.length<=sizeLine) :
  wpAny (model prog w) A (collect (.ref l)) Q E s:=by
 obtain⟨o,ho,hc,n,hd⟩:=id hl
 unfold collect
 refine Ch (wpAny_runValue (Wu entry_proto_collect' ?_))
 show wpAny _ _ (do again (.builtin "list.__iadd__" ⟨[← newList [],.ref l],[]⟩)) _ _ s
 refine Ch (wpAny_newList (Db ⟨VG _ (by decide +kernel),Wu entry_list_iadd' ?_⟩))
 show wpAny _ _ (WS (.ref s.heap.objs.size) (.ref l) (.ref s.heap.objs.size)) _ _ { s with heap:=s.heap.push (seqObj "list" #[] 0) }
 unfold WS
 have ho':(s.heap.push (seqObj "list" #[] 0)).get? l=some o:=Cn _ ho
 refine Ch (Wl (T := "tuple") ⟨o,ho',hc⟩ ?_)
 have ht:(Ux "tuple"==Ux "tuple")=true:=by rfl
 rw [if_pos (by rw [ht]; simp)]
 refine Ch (Wq ho' hd ?_)
 refine Ch (Wq (xs:=#[]) (n:=0) (On _ rfl) rfl ?_)
 rw [if_neg (by simp)]
 refine Ch (Vz (xs:=#[]) (n:=0) (On _ rfl) rfl ?_ (UI _) (by show (#[]++vs.toArray).size<=sizeLine+1; simp only [Array.size_append,Re,Ub]; omega))
 refine Db ?_
 show wpAny (model prog w) A (do
   let o ← load s.heap.objs.size
   match o.data with
   | .seq xs _=>pure xs.toList
   | _=>unsupported "internal:collect") Q E { s with heap:=(s.heap.push (seqObj "list" #[] 0)).update s.heap.objs.size (US (·++vs.toArray)) }
 refine Ch (wpAny_load (Vh (On _ rfl) _) ?_)
 show wpAny _ _ (pure ((#[]:Array Value)++vs.toArray).toList) Q E _
 rw [show ((#[]:Array Value)++vs.toArray).toList=vs by simp]
 exact Db h
theorem Iv{h:Heap}{g:Array Value->Array Value}{b:Addr}{o:Obj}(e:h.get? b=some o):((h.push (seqObj "list" #[] 0)).update h.objs.size (US g)).get? b=some o :=
 (T3 _ _ (Ug (T1 (FM e)))).trans (Cn _ e)
theorem NU{κ:Bool}{A':Around}{E':Value->Shared->Prop}{p:Addr}{vs:List V}{Q:List Value->Shared->Prop}(I:Inv X pins σ H s)(h:SqK κ X.K H p vs)(q:∀us s1,Vals vs us->vs.length<=sizeLine->Inv X pins σ H s1->Q us s1) :
  wpAny (model X.prog X.w) A' (collect (.ref p)) Q E' s:=by
 cases κ with
 | true =>
  obtain⟨its,r,pl,hz⟩:=I.list h
  exact collect_list pl.isList (q its _ r hz (I.kept (t':=s.toks) λb o e=>Iv e)) (by rw [← r.length]; exact hz)
 | false =>
  obtain⟨its,r,pl,hz⟩:=I.tuple h
  exact Iu pl (q its _ r hz (I.kept (t':=s.toks) λb o e=>Iv e)) (by rw [← r.length]; exact hz)
end
end L2
namespace L2
open PySem PySem.Spec PyProof.Rows
section
variable {X:Cx}{tg elt iter:Expr}{ifs:List Expr}{sc:Scope}{pos spos pos':Pos}{N':List Str}{js:List (Option Nat)}{wi:TI}{i:Nat}{x:Str}
end
end L2
namespace Dp
open PySem PySem.Spec PyProof.Rows L2
section
variable {X:Cx}{κe:Kd}{tg elt iter:Expr}{ifs:List Expr}{sc:Scope}{pos:Pos}{src:Cf}{b:BW}{tt:EM}{te:DW}
end
end Dp
namespace L2
open PySem PySem.Spec PyProof.Rows
end L2
namespace Dp
open PySem PySem.Spec PyProof.Rows L2
section
variable {K:Frag}{X:Cx}
variable {a b:Expr}{κa κb:Kd}{wa wb:DW}{pos:Pos}
end
end Dp
namespace L2
open PySem PySem.Spec PyProof.Rows PySem.W
section
variable {X:Cx}{pins:List (Addr×Obj)}{σ:L2.St}{H:Hp}{s:Shared}{h':Heap}
theorem Inv.adopt2{D e:Addr}{o:HO}(I:Inv X pins σ H s)(m:L_ X pins D)(hn:H D=none)(m2:L_ X pins e)(hn2:H e=none)(hne:D≠e)(k:∀b u,b≠D->b≠e->s.heap.get? b=some u->h'.get? b=some u)(new:ObjOk X.prog X.w (Ac H D o) h' D o):Inv X pins σ (Ac H D o) { s with heap:=h' }:=by
 have nin:∀b,b∉[D,e]->b≠D/\b≠e:=λb hc=>⟨λz=>hc (by rw [z]; exact Tv),λz=>hc (by rw [z]; exact Op _ (Ur.mpr rfl))⟩
 refine I.step (g':=s.gens) (d':=s.drawn) (t':=s.toks) (ch:=[D,e]) (λb hb=>?_) (λb u _ _ hc q _=>k b u (nin b hc).1 (nin b hc).2 q) (λb u _ _ hc q _=>⟨u.slots,k b u (nin b hc).1 (nin b hc).2 q⟩) (λb u hc q n=>?_)
  (λb u hc q=>⟨u,k b u (nin b hc).1 (nin b hc).2 q⟩) (λb xs q=>?_) (λb u v q=>?_) (λb ps q=>⟨#[],?_⟩) (λmm hm=>?_) (λb u q=>?_) I.bare
 ·rcases TM.mp hb with rfl | hb
  ·exact⟨.inr m.new,m.loc,m.cell,m.pin⟩
  ·rw [Ur.mp hb]
   exact⟨.inr m2.new,m2.loc,m2.cell,m2.pin⟩
 ·rw [AH (nin b hc).1]; exact n
 ·rw [AH (AU q hn)]; exact q
 ·rw [AH (AU q hn)]; exact q
 ·rw [AH (AU q hn),q]; simp
 ·obtain⟨u,es,ep,ho,r⟩:=hm
  exact⟨u,es,ep,k _ u (Ug m.loc) (Ug m2.loc) ho,r⟩
 ·by_cases hb:b=D
  ·subst hb; rw [AJ] at q; cases q; exact new
  ·rw [AH hb] at q
   refine(I.hok b u q).stay (λc v hc q2=>k c v ?_ ?_ q2) (λc q2=>by rw [AH (AU q2 hn)]; exact q2) λc xs q2=>by rw [AH (AU q2 hn)]; exact q2
   ·rcases hc with z | z
    ·rw [z]; exact hb
    ·exact AU z hn
   ·rcases hc with z | z
    ·rw [z]; exact AU q hn2
    ·exact AU z hn2
noncomputable def Pp(K:Frag)(sp:Sp)(te:TE):TE:=λσ H Q=>te σ H λx H1=>∃(κ:Bool) (l:Addr) (vs:List V) (keys:List (List Key)) (J:List V->Hp->Prop),x=.ref l/\SqK κ K H1 l vs/\vs.length<64/\J [] H1 /\
 (∀ks H2 v,J ks H2->vs[ks.length]?=some v->sp [v] H2 (λk H3=>J (ks++[k]) H3) E0) /\
 ∀ks H2,J ks H2->ks.length=vs.length->KeysAt K H2 ks keys/\∀(ix:List Nat) (l:Addr),LG keys ix->H2 l=none->Q (.ref l) (Ac H2 l (.lst (ix.map λi=>vs.getD i .non)))
theorem Mi{k:Nat}{f:Addr}{fd:FuncData}{pn fn:Str}{sp:Sp}{te:TE}{e:Expr}{p fp kp pos:Pos}(F:A1 X.prog X.w X.K X.mg X.base Bn k f fd [pn] sp)(hr:Room (k+2) X.A)(hg:Gl X "sorted")(hm:X.mg "sorted"=none)
  (hgf:Gl X fn) (hmf:X.mg fn=some (.ref f)) (hb:Binds X.K fd [pn] []) (he:PE X e te) (hs:autoParam (starEach [e] X.env=[(false,eval e X.env)]) zau3._auto_1) (hdf:autoParam ((fn==("__debug__" : Str))=false) zau1._auto_1) :
  PE X (.Call (.Name "sorted" p) [e] [⟨some "key",.Name fn fp,kp⟩] pos) (Pp X.K sp te):=by
 intro pins s σ H Q I h
 refine Uf (CW I hg hm boot_sorted ?_)
 refine callWith_kw (A3 (Az he BU hs pos pins s σ H (λvs H1=>∃x,vs=[x]/\∃(κ:Bool) (l:Addr) (vs:List V) (keys:List (List Key)) (J:List V->Hp->Prop),x=.ref l/\SqK κ X.K H1 l vs/\vs.length<64/\J [] H1 /\
   (∀ks H2 v,J ks H2->vs[ks.length]?=some v->sp [v] H2 (λk H3=>J (ks++[k]) H3) E0) /\
   ∀ks H2,J ks H2->ks.length=vs.length->KeysAt X.K H2 ks keys/\∀(ix:List Nat) (l:Addr),LG keys ix->H2 l=none->Q (.ref l) (Ac H2 l (.lst (ix.map λi=>vs.getD i .non)))) I ?first) λus s1 ⟨xs,H1,I1,r1,q1⟩=>kws_cons (Bq I1 hgf hmf (kws_nil ?_) hdf)) (by rw [hs]; rfl) (by rw [hs]; rfl)
 case first =>
  show te σ H _
  refine cast (congrArg (te σ H) ?_) h
  funext x H1
  refine propext ⟨λz=>⟨x,rfl,z⟩,fun⟨y,e,z⟩=>?_⟩
  cases e
  exact z
 obtain⟨x,rfl,κ,l,vs,keys,J,rfl,hq,h64,j0,jstep,jend⟩:=q1
 obtain⟨u,rfl,ru⟩:=vals1 r1
 cases ru
 show wpAny (model X.prog X.w) X.A (call (.builtin "sorted") [.ref l] [(UM "key",.ref f)]) _ _ s1
 refine Gu (ksk_s1 _ _) (λx=>ksk_l1 _ _) (NU I1 hq λus s2 r2 hz I2=>⟨by rw [← r2.length]; exact hz,?_⟩)
 rw [ksk_t1]
 have hl:=r2.length
 generalize hD:s2.heap.objs.size=D
 have hsz3:(s2.heap.push (seqObj "list" us.toArray 0)).objs.size=D+1:=by rw [size_push',hD]
 have hoD:(s2.heap.push (seqObj "list" us.toArray 0)).get? D=some (seqObj "list" us.toArray 0):=by rw [← hD]; exact On _ rfl
 have mD:L_ X pins D:=I2.mine (by rw [hD]; exact Go _)
 have mK:L_ X pins (D+2):=I2.mine (by rw [hD]; exact Nat.le_add_right _ _)
 have nD:H1 D=none:=I2.hok.fresh (by rw [hD]; exact Go _)
 have nK:H1 (D+2)=none:=I2.hok.fresh (by rw [hD]; exact Nat.le_add_right _ _)
 have hne:D≠D+2:=T1 (Uj (Wm D))
 have nstk:∀b,L_ X pins b->b∉GS X.stack:=λb m z=>(TM.mp (I2.stkSub b z)).elim m.loc m.fs
 refine Lk (s:={ s2 with heap:=s2.heap.push (seqObj "list" us.toArray 0) }) (n:=0) hoD (by rw [← hl]; exact h64)
  (λks s'=>∃kV H',Vals kV ks/\J kV H'/\Inv X pins σ H' s'/\H' D=none/\H' (D+2)=none/\s'.heap.get? D=(EO (s2.heap.push (seqObj "list" us.toArray 0)) D us).get? D) (D+2) (by show D+2=(s2.heap.push _).objs.size+1; rw [hsz3]) (λe1 he1=>?_) (λks s' e v hJ hk hv=>?_) λe1 he1 ks s' hJ hkl=>?_
 ·refine⟨[],H1,.nil,j0,?_,nD,nK,rfl⟩
  exact I2.kept (t':=s2.toks) λb o q=>LO (by rw [← hD]; exact T1 (FM q)) (Cn _ q)
 ·obtain⟨kV,H',rk,hJ,I',n1,n2,hD'⟩:=hJ
  have hi:ks.length<us.length:=(T0.mp hv).1
  have hvi:vs[kV.length]?=some (vs[kV.length]'(by rw [rk.length]; omega)):=No _
  obtain⟨u',e2,ru⟩:=r2.get hvi
  rw [rk.length,hv] at e2
  cases e2
  have hsp:=jstep kV H' _ hJ hvi
  have E1:Env0 X.prog X.w X.K X.mg X.base X.A.in1.in1 X.stack s' H':=I'.env0.in1.in1
  refine U7 (U_ (F.run X.A.in1.in1 X.stack s' H' ⟨[v],[]⟩ [v] _ _ E0 (hr.in1).in1 E1 (by simpa using hb s' [v] I'.kIn rfl) (.cons ru .nil) hsp) λr s'' hq'=>?_)
  cases r with
  | error e=>exact T5 hq'
  | ok fl =>
   cases fl with
   | next=>exact T5 hq'
   | brk=>exact T5 hq'
   | cont=>exact T5 hq'
   | ret u =>
    obtain⟨w',H3,os,bare,un,hok,rw',q3⟩:=id hq'
    obtain⟨oD,eD⟩:∃o,s'.heap.get? D=some o:=by
     obtain⟨c,hc,_⟩:=IB hoD
     exact⟨_,hD'.trans hc⟩
    have kD:s''.heap.get? D=some oD:=un.keep D oD eD n1 (nstk D mD) (by simp)
    have kK:s''.heap.get? (D+2)=some (seqObj "list" ks.toArray e):=un.keep _ _ hk n2 (nstk _ mK) (by simp)
    have f1:H3 D=none:=un.free D oD eD n1 (by simp)
    have f2:H3 (D+2)=none:=un.free _ _ hk n2 (by simp)
    have I3:Inv X pins σ H3 s'':=I'.call' os un hok bare (λb z=>absurd z (by simp))
    refine⟨kK,kV++[w'],H3,rk.append (.cons rw' .nil),q3,?_,f1,f2,?_⟩
    ·exact I3.turned (t':=s''.toks) (λb o hb q=>(T3 _ _ (Ug hb)).trans q) f2 mK.loc (.inr mK.new) mK.cell mK.pin
    ·show (s''.heap.update (D+2) _).get? D=_
     rw [T3 _ _ (Ug hne),kD,← eD,hD']
 ·obtain⟨kV,H',rk,hJ,I',n1,n2,hD'⟩:=hJ
  obtain⟨hka,q⟩:=jend kV H' hJ (by rw [rk.length,hkl,hl])
  have hkk:keys.length=us.length:=by rw [← hka.len,rk.length,hkl]
  refine⟨hD'.trans he1,λp=>p.Perm (UJ (T_ us.length))/\So.Srt Mo (λi=>keys.getD i []) p us.length,λh2=>?_,λh1=>⟨XN _,λi j hij hj=>?_⟩,λp h' c hp hg hold hDn _=>⟨rfl,?_⟩⟩
  ·have ts:=LK (prog:=X.prog) (w:=X.w) (A:=X.A.in1.in1) (keys:=keys) (hka.tups I' rk λb o e=>e) (by omega) (G:=λp s''=>s''=s'/\p.Perm (UJ (T_ us.length))/\So.Srt Mo (λi=>keys.getD i []) p us.length) (λp a b=>⟨rfl,by rw [← hkl]; exact a,by rw [← hkl]; exact b⟩)
   rw [hkl] at ts
   exact ts
  ·have:i=j:=by omega
   subst this
   exact Uo _
  ·have hix:(p.toList.map λi=>vs.getD i .non).length=us.length:=by rw [Ev,Ua,hp]
   refine⟨.ref D,Ac H' D (.lst (p.toList.map λi=>vs.getD i .non)),I'.adopt2 mD n1 mK n2 hne hold ⟨by rw [hix,← hl,UQ]; omega,_,c,Hq (GC r2) p.toList,hDn⟩,rfl,q _ _ (QL hkk hg.1 hg.2) n1⟩
end
end L2
namespace Dp
open PySem PySem.Spec PyProof.Rows L2
section
variable {X:Cx}{K:Frag}
end
end Dp
namespace L2
open PySem PySem.Spec PyProof.Rows
section
variable {X:Cx}{pins:List (Addr×Obj)}{σ:L2.St}{H:Hp}{s:Shared}
end
end L2
namespace Dp
open PySem PySem.Spec PyProof.Rows L2
noncomputable def D_:D->Option (List Key)
 | .tup xs=>Dd xs
 | _=>none
noncomputable def JH(kf:D->Option (List Key))(xs:List D):Prop:=xs.Pairwise λa b=>∀ka kb,kf a=some ka->kf b=some kb->Bb kb ka=false
noncomputable def Keyed(kf:D->Option (List Key))(xs:List D):Prop:=(∀x∈xs,∃k,kf x=some k/\k≠[])/\∀x∈xs,∀y∈xs,∀ka kb,kf x=some ka->kf y=some kb->BJ ka kb=true
theorem range_getD(xs:List D):(T_ xs.length).map (λi=>xs.getD i .non)=xs:=by
 apply List.ext_getElem
 ·simp
 ·intro i h1 h2
  simp [h2]
theorem OC{kf:D->Option (List Key)}{xs:List D}{keys:List (List Key)}{ix:List Nat}(hl:keys.length=xs.length)(hk:∀(i:Nat) (x:D),xs[i]?=some x->∃k,keys[i]?=some k/\kf x=some k)(h:LG keys ix) :
  (ix.map λi=>xs.getD i .non).Perm xs/\JH kf (ix.map λi=>xs.getD i .non):=by
 obtain⟨hp,hs⟩:=h
 constructor
 ·have:=hp.map λi=>xs.getD i D.non
  rw [hl,range_getD] at this
  exact this
 ·unfold JH
  rw [Wh]
  intro i j hi hj hij ka kb ea eb
  rw [List.getElem_map] at ea eb
  rw [Ev] at hi hj
  have il:ix.length=keys.length:=by rw [hp.length_eq,Uk]
  have g:∀i (h:i<ix.length) k,kf (xs.getD ix[i] .non)=some k->keys.getD (ix.getD i 0) []=k:=λi h k e=>by
   have hm:ix[i]<keys.length:=UK.mp (hp.mem_iff.mp (VX h))
   have hx:ix[i]<xs.length:=by rw [← hl]; exact hm
   obtain⟨k',e1,e2⟩:=hk ix[i] xs[ix[i]] (No hx)
   have e3:xs.getD ix[i] .non=xs[ix[i]]:=by rw [T7,No hx]; rfl
   rw [e3,e2] at e
   have e4:ix.getD i 0=ix[i]:=by rw [T7,No h]; rfl
   rw [e4,T7,e1]
   exact Rs e
  have:=hs i j (Wi hij) (by rw [← il]; exact hj)
  rw [g i hi ka ea,g j hj kb eb] at this
  exact this
theorem GP{kf:D->Option (List Key)}:∀{xs:List D},(∀x∈xs,∃k,kf x=some k/\k≠[])->∃keys:List (List Key),keys.length=xs.length/\(∀(i:Nat) (x:D),xs[i]?=some x->∃k,keys[i]?=some k/\kf x=some k/\k≠[])
 | [],_=>⟨[],rfl,λi x e=>by simp at e⟩
 | x::xs,h=>by
  obtain⟨k,e1,e2⟩:=h x Tv
  obtain⟨keys,l,g⟩:=GP (xs:=xs) λy hy=>h y (Op _ hy)
  refine⟨k::keys,by rw [Tk,Tk,l],λi y e=>?_⟩
  cases i with
  | zero =>
   have e:x=y:=by simpa using e
   subst e
   exact⟨k,rfl,e1,e2⟩
  | succ i =>
   obtain⟨k',a,b⟩:=g i y (by simpa using e)
   exact⟨k',by simpa using a,b⟩
section
variable {K:Frag}{M:Addr->Prop}{H:Hp}
theorem Ats.getD:∀{ds:List D} {vs:List V},Ats K M H ds vs->∀i:Nat,At K M H (ds.getD i .non) (vs.getD i .non)
 | [],vs,h,i=>by cases (show vs=[] from h); simp [At]
 | d::ds,vs,h,0=>by
  obtain⟨v,r,e,h1,h2⟩:=h
  subst e
  simpa using h1
 | d::ds,vs,h,i+1=>by
  obtain⟨v,r,e,h1,h2⟩:=h
  subst e
  simpa using Ats.getD h2 i
theorem Ats.pick{ds:List D}{vs:List V}(h:Ats K M H ds vs):∀ix:List Nat,Ats K M H (ix.map λi=>ds.getD i .non) (ix.map λi=>vs.getD i .non)
 | []=>rfl
 | i::ix=>⟨_,_,rfl,h.getD i,Ats.pick h ix⟩
theorem Lq{kf:D->Option (List Key)}{ds:List D}{vs:List V}{keys:List (List Key)}(hkf:∀d k v,d∈ds->kf d=some k->At K M H d v->∃a,v=.ref a/\Du K H a (k.map kOf))(hs:Ats K M H ds vs)(hK:Keyed kf ds)(hl:keys.length=ds.length)(hk:∀(i:Nat) (x:D),ds[i]?=some x->∃k,keys[i]?=some k/\kf x=some k/\k≠[]):KeysAt K H vs keys:=by
 have from_:∀(i:Nat) (ns:List Key),keys[i]?=some ns->∃x,ds[i]?=some x/\kf x=some ns/\ns≠[]:=λi ns e=>by
  have hi:i<ds.length:=by rw [← hl]; exact(T0.mp e).1
  obtain⟨k,e1,e2,e3⟩:=hk i ds[i] (No hi)
  rw [e] at e1
  cases e1
  exact⟨ds[i],No hi,e2,e3⟩
 refine⟨hs.length.trans hl.symm,λi ns e=>?_,λx hx y hy=>?_,λx hx=>?_⟩
 ·obtain⟨d,e1,e2,_⟩:=from_ i ns e
  obtain⟨v,e3,h3⟩:=hs.get e1
  obtain⟨a,rfl,h4⟩:=hkf d ns v (Uh e1) e2 h3
  exact⟨a,e3,h4⟩
 ·obtain⟨i,hi⟩:=V4.mp hx
  obtain⟨j,hj⟩:=V4.mp hy
  obtain⟨d,e1,e2,_⟩:=from_ i x hi
  obtain⟨d',e1',e2',_⟩:=from_ j y hj
  exact hK.2 d (Uh e1) d' (Uh e1') x y e2 e2'
 ·obtain⟨i,hi⟩:=V4.mp hx
  obtain⟨d,e1,e2,e3⟩:=from_ i x hi
  exact e3
theorem Lr{d:D}{k:List Key}{v:V}(e:D_ d=some k)(h:At K M H d v):∃a,v=.ref a/\Du K H a (k.map kOf):=by
 cases d with
 | tup xs =>
  obtain⟨a,vs,e1,hn,hs⟩:=h
  have:=DZ (show Dd xs=some k from e) hs
  subst this
  exact⟨a,e1,hn.sq⟩
 | _=>cases e
end
section
variable {X:Cx}{a e:Expr}{κa:Kd}{wa:DW}{pos p fp kp apos cpos:Pos}
noncomputable def MK(W:W2)(wa:DW):DW:=λn ρ P=>wa n ρ λd n1=>∃(xs:List D) (rk:D->D),JZ d=some xs/\xs.length<64/\(∀x∈xs,∀Pd:D->Nat->Prop,Pd (rk x) n1->W [.sh x] n1 Pd)/\Keyed (λx=>D_ (rk x)) xs /\
 ∀xs':List D,xs'.Perm xs->JH (λx=>D_ (rk x)) xs'->P (.lst xs') n1
theorem NQ{k:Nat}{fn pn:Str}{W:W2}(G:Got X.prog X.w X.K X.mg X.base fn k [pn] .sh W)(hr:Room (k+2) X.A)(hg:Gl X "sorted")(hm:X.mg "sorted"=none)(hgf:Gl X fn)(he:DE X e κa wa)
  (hs:autoParam (starEach [e] X.env=[(false,eval e X.env)]) zau3._auto_1) (hdf:autoParam ((fn==("__debug__" : Str))=false) zau1._auto_1):DE X (.Call (.Name "sorted" p) [e] [⟨some "key",.Name fn fp,kp⟩] pos) .fr (MK W wa):=by
 obtain⟨f,fd,F,hmf,hkf,hb,hW⟩:=G
 obtain⟨t,h1,h2⟩:=he
 refine⟨_,Mi F hr hg hm hgf hmf hb h1 hs hdf,λC M H n ρ σ P Q R w q=>?_⟩
 refine h2 C M H n ρ σ _ _ R w λv H1 d n1 e1 f1 r1 p=>?_
 obtain⟨xs,rk,hd,h64,hw,hK,w⟩:=p
 have R1:=R.step e1 f1
 obtain⟨κ,l,us,rfl,hs,sq⟩:=JY (U:=C.U) (r1.tpOf R.dom R.vM) hd R.uV R1.vM
 obtain⟨keys,hl,hk⟩:=GP hK.1
 have hlen:=hs.length
 refine⟨κ,l,us,keys,λks H2=>Ext C.U H1 H2/\FeedC X.K C.F M H2 n1/\ks.length<=xs.length/\∀(i:Nat) (k:V),ks[i]?=some k->∃x,xs[i]?=some x/\At X.K M H2 (rk x) k,rfl,sq M H1 (Pres.refl _ _) (Ext.refl _ _),by rw [hlen]; exact h64,⟨Ext.refl _ _,f1,UI _,λi k z=>absurd (show (none:Option V)=some k from z) (λh=>nomatch h)⟩,λks H2 v hJ hv=>?_,λks H2 hJ hkl=>?_⟩
 ·obtain⟨ex,fd2,hle,hat⟩:=hJ
  have R2':=R1.step ex fd2
  have hi:ks.length<xs.length:=by rw [← hlen]; exact(T0.mp hv).1
  have hxi:xs[ks.length]?=some xs[ks.length]:=No hi
  obtain⟨v',e2,hA⟩:=(hs.pres (R1.pres ex)).get hxi
  rw [hv] at e2
  cases e2
  refine⟨rfl,C.F,C.U,C.V,M,n1,[.sh xs[ks.length]],λd n=>d=rk xs[ks.length]/\n=n1,⟨R2'.dom,R2'.fU,R2'.uV,R2'.vM,fd2,.cons ⟨⟨v,rfl,hA⟩,rfl⟩ .nil⟩,hw _ (VX hi) _ ⟨rfl,rfl⟩,λr H3 d n' ex3 f3 vr hd=>?_⟩
  obtain⟨rfl,rfl⟩:=hd
  refine⟨ex.trans ex3,f3,by rw [Tz,UB]; omega,λi k hik=>?_⟩
  by_cases hlt:i<ks.length
  ·rw [U8 hlt] at hik
   obtain⟨x,h3,h4⟩:=hat i k hik
   exact⟨x,h3,h4.pres (R2'.pres ex3)⟩
  ·rw [UY (by omega)] at hik
   have hi0:i=ks.length:=by
    have:=(T0.mp hik).1
    rw [UB] at this
    omega
   subst hi0
   rw [Nat.sub_self] at hik
   cases (show some r=some k from hik)
   exact⟨_,hxi,vr⟩
 ·obtain⟨ex,fd2,hle,hat⟩:=hJ
  have R2':=R1.step ex fd2
  have hkx:ks.length=xs.length:=by rw [hkl,hlen]
  have hs2:Ats X.K M H2 (xs.map rk) ks:=by
   have go:∀(xs:List D) (ks:List V),ks.length=xs.length->(∀(i:Nat) (k:V),ks[i]?=some k->∃x,xs[i]?=some x/\At X.K M H2 (rk x) k)->Ats X.K M H2 (xs.map rk) ks:=by
    intro xs
    induction xs with
    | nil=>intro ks h _; exact VB.mp h
    | cons x xs ih =>
     intro ks h hh
     cases ks with
     | nil=>cases h
     | cons k ks =>
      obtain⟨x',e3,h3⟩:=hh 0 k rfl
      cases (show some x=some x' from e3)
      exact⟨k,ks,rfl,h3,ih ks (by simpa using h) λi k' e4=>by
       obtain⟨y,e5,h5⟩:=hh (i+1) k' (by simpa using e4)
       exact⟨y,by simpa using e5,h5⟩⟩
   exact go xs ks hkx hat
  have hK2:Keyed D_ (xs.map rk):=by
   refine⟨λy hy=>?_,λy hy z hz ka kb ea eb=>?_⟩
   ·obtain⟨x,hx,rfl⟩:=T2.mp hy
    exact hK.1 x hx
   ·obtain⟨x,hx,rfl⟩:=T2.mp hy
    obtain⟨x',hx',rfl⟩:=T2.mp hz
    exact hK.2 x hx x' hx' ka kb ea eb
  refine⟨Lq (λd k v _=>Lr) hs2 hK2 (by rw [hl,Ev]) λi x e=>?_,λix l ho hn=>?_⟩
  ·rw [UF] at e
   obtain⟨x',hx',rfl⟩:=VL.mp e
   exact hk i x' hx'
  ·obtain⟨o1,o2⟩:=OC (kf:=λx=>D_ (rk x)) hl (λi x e=>by obtain⟨k,a,b,_⟩:=hk i x e; exact⟨k,a,b⟩) ho
   have g:Grow H2 (Ac H2 l (.lst (ix.map λi=>us.getD i .non))):=Aj hn
   refine q _ _ (.lst (ix.map λi=>xs.getD i .non)) n1 ((e1.trans ex).trans g.ext) (fd2.grow g) (VR.back (e1.trans ex) ?_) (w _ o1 o2)
   exact Dg hn ((hs.pres (R1.pres ex)).pick ix)
end
end Dp
namespace L2
open PySem PySem.Spec PyProof.Rows
section
open PySem.MeetsSeq
open PySem.AutoSeq1 (wpAny_loadPart')
end
section
variable {X:Cx}
end
end L2
namespace Dp
open PySem PySem.Spec PyProof.Rows L2
section
variable {X:Cx}{κ:Kd}{c:Expr}{body:List Stmt}{wc:EM}{wb:AW}{pos:Pos}
end
section
variable {X:Cx}{κ:Kd}{tg:Expr}{body:List Stmt}{b:BW}{wb:AW}{pos p:Pos}{x:Str}{i:Nat}
end
end Dp
namespace L2
open PySem PySem.Spec PyProof.Rows PySem.W
section
variable {prog:Program}{w:World}{A:Around}{E:Value->Shared->Prop}{R:Result->Shared->Prop}{I:Addr}{fp wr:List Addr}{n:Nat}{P:Nat->Value->Prop}{St:Nat->Heap->Prop}
end
section
variable {X:Cx}
end
end L2
namespace Dp
open PySem PySem.Spec PyProof.Rows L2
end Dp
namespace Nt
open PySem PySem.Spec PyProof.Rows L2 Dp
noncomputable def Ey:W2:=λss n P=>∃m:Nat,ss=[.fd,.sh (.int m)]/\1<=m/\m<=26/\11<=n/\∀(xs:List Str) (n':Nat),xs.length=m->(∀x∈xs,OR x)->rising xs->n - 11<=n'->P (.lst (xs.map .str)) n'
noncomputable def words:List Str:=["a","aa","ab","b","far","in","near","out","place","tie","ties","way"]
noncomputable def wordAt(i:Nat):Str:=words.getD i "a"
theorem JN:∀i,i<12->OR (wordAt i):=by
 have h:∀i∈T_ 12,1<=(wordAt i).length/\(wordAt i).length<=8/\∀c∈cs (wordAt i),97<=c/\c<=122:=by decide +kernel
 exact λi hi=>h i (UK.mpr hi)
theorem LH:∀i j,i<12->j<12->wordAt i=wordAt j->i=j:=by
 have h:∀i∈T_ 12,∀j∈T_ 12,cs (wordAt i)=cs (wordAt j)->i=j:=by decide +kernel
 exact λi j hi hj e=>h i (UK.mpr hi) j (UK.mpr hj) (congrArg cs e)
noncomputable def Ck:Str := "abcdefghijklmnopqrstuvwxyz"
theorem FY(i:Nat)(h:i<26):(cs Ck)[i]?=some (97+i):=by
 have h2:∀i∈T_ 26,(cs Ck)[i]?=some (97+i):=by decide +kernel
 exact h2 i (UK.mpr h)
theorem D5{α β:Type}{f:α->β}:∀{l:List α},l.Nodup->(∀a∈l,∀b∈l,f a=f b->a=b)->(l.map f).Nodup
 | [],_,_=>List.nodup_nil
 | a::l,h,hf=>by
  rw [VE] at h
  rw [UG,VE]
  refine⟨λhm=>?_,D5 h.2 λx hx y hy=>hf x (Op _ hx) y (Op _ hy)⟩
  obtain⟨b,hb,e⟩:=T2.mp hm
  exact h.1 (hf a Tv b (Op _ hb) e.symm▸hb)
theorem Kg{f m j k:Nat}{M:Nat}(hM:m<=M)(hj:j<m)(hk:k<m)(e:(f+j) % M=(f+k) % M):j=k:=by
 have h:∀a b:Nat,a<=b->b<m->(f+a) % M=(f+b) % M->a=b:=λa b h1 h2 e=>by
  have:(f+b - (f+a)) % M=0:=Nat.sub_mod_eq_zero_of_mod_eq e.symm
  have e2:f+b - (f+a)=b - a:=by omega
  rw [e2,Nat.mod_eq_of_lt (by omega)] at this
  omega
 rcases Nat.le_total j k with h1 | h1
 ·exact h j k h1 hk e
 ·exact(h k j h1 hj e.symm).symm
theorem Ft(ss:List Str):Be (ss.map .str)=some ss:=by
 induction ss with
 | nil=>rfl
 | cons y r ih =>
  rw [UG]
  unfold Be
  rw [ih]
  rfl
theorem OQ:∀(zs:List Str),cs (Txt.join (UM "") zs)=zs.flatMap cs:=by
 intro zs
 show cs (Builtin.Str.glued (UM "") zs)=_
 rw [StrLaws.glued_eq_join]
 induction zs with
 | nil=>rfl
 | cons x r ih =>
  cases r with
  | nil=>rw [Wf,List.flatMap_nil,UL]; rfl
  | cons y r =>
   show cs (x++UM ""++Str.join (UM "") (y::r))=_
   rw [Fk,Fk,ih]
   show cs x++[]++_=_
   rw [UL]
   simp only [Wf]
theorem Mq{zs:List Str}(h:∀z∈zs,z.length=1):(zs.flatMap cs).length=zs.length:=by
 induction zs with
 | nil=>rfl
 | cons x r ih =>
  rw [Wf,Tz,ih λz hz=>h z (Op _ hz),Bz,h x Tv,Tk]
  omega
theorem Hz:∀(ys:List Str),(∀y∈ys,y.length=1)->(ys.map (·.length)).sum=ys.length
 | [],_=>rfl
 | y::r,h=>by
  rw [UG,List.sum_cons,Hz r λz hz=>h z (Op _ hz),h y Tv,Tk]
  omega
theorem drawn{P:List D->Nat->Prop}{m n:Nat}{s:Slot}(hn:m<=n)(h:∀zs:List Str,zs.length=m->(∀z∈zs,z.length=1/\∀c∈cs z,97<=c/\c<=122)->P (zs.map .str) (n - m)) :
  Bl (BC 2) C4 (Ag DK (AG 0) (AZ A4 (AF (Ax 1) (AF (AQ (wC (D.int 26))) AX)))) P (Bg 0 m) [] n [.sh (.str Ck),.fd,s]:=by
 refine GL (λk n' acc ρ=>k<=m/\n'=n - (m - k)/\(∃zs:List Str,acc=zs.map .str/\zs.length=m - k/\∀z∈zs,z.length=1/\∀c∈cs z,97<=c/\c<=122)/\∃s,ρ=[.sh (.str Ck),.fd,s]) ?_ ?_ _ _ _ _ ?_
 ·rintro n' acc ρ ⟨_,rfl,⟨zs,rfl,hl,hz⟩,_⟩
  exact h zs hl hz
 ·rintro k d n' acc ρ nx ⟨hk,rfl,⟨zs,rfl,hl,hz⟩,s,rfl⟩ hnx
  refine⟨26,rfl,by decide,by decide,by omega,λr h0 h1=>?_⟩
  obtain⟨q,rfl⟩:∃q:Nat,r=(q:Int):=⟨r.toNat,by omega⟩
  have hq:q<26:=by omega
  refine⟨97+q,AY (FY q hq),hnx _ _ _ ⟨by omega,by omega,⟨zs++[⟨#[97+q]⟩],by rw [Vi]; rfl,by rw [Tz,UB]; omega,λz hz'=>?_⟩,_,rfl⟩⟩
  rcases U1.mp hz' with hz' | hz'
  ·exact hz z hz'
  ·rw [Ur.mp hz']
   refine⟨rfl,λc hc=>?_⟩
   have:c=97+q:=by simpa [cs] using hc
   omega
 ·rw [BG]
  exact⟨Go _,by omega,⟨[],rfl,by simp,λz hz=>by cases hz⟩,_,rfl⟩
theorem MG(i:Nat)(h:i<12):words[i]?=some (wordAt i):=by
 have hl:i<words.length:=h
 unfold wordAt
 rw [T7,No hl]
 rfl
theorem Ci{b:BW}{body:AW}{D2:E2}{all:List D}(I:List D->Nat->List Slot->Prop)(hend:∀n ρ,I all n ρ->D2.nx n ρ)
  (hstep:∀(pre:List D) (d:D) (post:List D) (n:Nat) (ρ:List Slot) (nx:Nat->List Slot->Prop),all=pre++d::post->I pre n ρ->(∀n' ρ',I (pre++[d]) n' ρ'->nx n' ρ')->b d ρ λρ1=>body { D2 with nx:=nx,ct:=nx,bk:=D2.nx } n ρ1) :
  ∀(ds pre:List D) (n:Nat) (ρ:List Slot),all=pre++ds->I pre n ρ->CV b body D2 ds n ρ
 | [],pre,n,ρ,e,h=>by
  rw [UL] at e
  subst e
  exact hend n ρ h
 | d::ds,pre,n,ρ,e,h=>hstep pre d ds n ρ (CV b body D2 ds) e h λn' ρ' h'=>Ci I hend hstep ds (pre++[d]) n' ρ' (by rw [e,U6]; rfl) h'
theorem G1{lo:Int}{n:Nat}{pre post:List D}{d:D}(h:Bg lo n=pre++d::post):d=.int (lo+(pre.length:Int))/\pre.length<n:=by
 have hl:=congrArg WN h
 rw [BG,Tz,Tk] at hl
 have e:(Bg lo n)[pre.length]?=some d:=by rw [h,UY (Go _),Nat.sub_self]; rfl
 unfold Bg at e
 rw [UF,List.getElem?_range (by omega)] at e
 exact⟨(Rs e).symm,by omega⟩
theorem Rm{r:Int}(h:r=0\/r=1):MulOk "z" r/\(Txt.mul "z" r).length<=1/\∀c∈cs (Txt.mul "z" r),97<=c/\c<=122:=by
 rcases h with rfl | rfl
 ·exact⟨⟨rfl,⟨λh=>absurd (by decide) h,λh=>absurd (by decide) h⟩⟩,by decide,by decide⟩
 ·exact⟨⟨rfl,⟨λ_ h=>absurd h (by decide),λ_ h=>absurd h (by decide)⟩⟩,by decide,by decide⟩
noncomputable def nameAt(x:Str)(a f k:Nat):Str:=Txt.slice x none (some (a:Int))++⟨#[97+(f+k) % 26]⟩++Txt.slice x (some ((a:Int)+1)) (some 7)++Txt.mul "z" ((k:Int) % 2)
theorem D7{x:Str}{a f k:Nat}(hx:x.length=8)(ha:a<7):cs (nameAt x a f k)=(cs x).take a++(97+(f+k) % 26)::(((cs x).drop (a+1)).take (6 - a)++cs (Txt.mul "z" ((k:Int) % 2))):=by
 unfold nameAt
 rw [Fk,Fk,Fk,PY (by omega) (by omega),Qm (by omega) (by omega) (by omega)]
 have e1:((a:Int)).toNat=a:=by omega
 have e2:((a:Int)+1).toNat=a+1:=by omega
 have e3:(7 - ((a:Int)+1)).toNat=6 - a:=by omega
 rw [e1,e2,e3,U6,U6]
 rfl
theorem IU{x:Str}{a f k:Nat}(hx:x.length=8)(hc:∀c∈cs x,97<=c/\c<=122)(ha:a<7):OR (nameAt x a f k):=by
 have e:=D7 (f:=f) (k:=k) hx ha
 obtain⟨_,hz1,hz2⟩:=Rm (r:=(k:Int) % 2) (by omega)
 have hl:(nameAt x a f k).length=7+(Txt.mul "z" ((k:Int) % 2)).length:=by
  rw [← Bz,e,Tz,Tk,Tz,Uu,Uu,V1,Bz,Bz,hx]
  omega
 refine⟨by omega,by omega,λc h=>?_⟩
 rw [e] at h
 rcases U1.mp h with h | h
 ·exact hc c (WH h)
 ·rcases TM.mp h with rfl | h
  ·have:=WI (f+k) (show 0<26 by decide)
   omega
  ·rcases U1.mp h with h | h
   ·exact hc c (List.mem_of_mem_drop (WH h))
   ·exact hz2 c h
theorem Jt{x:Str}{a f m j k:Nat}(hx:x.length=8)(ha:a<7)(hm:m<=26)(hj:j<m)(hk:k<m)(e:nameAt x a f j=nameAt x a f k):j=k:=by
 have e1:=congrArg cs e
 rw [D7 hx ha,D7 hx ha] at e1
 have hl:((cs x).take a).length=a:=by rw [Uu,Bz,hx]; omega
 have e2:=congrArg (λl:List Nat=>l[a]?) e1
 have e2:((cs x).take a++(97+(f+j) % 26)::(((cs x).drop (a+1)).take (6 - a)++cs (Txt.mul "z" ((j:Int) % 2))))[a]?=((cs x).take a++(97+(f+k) % 26)::(((cs x).drop (a+1)).take (6 - a)++cs (Txt.mul "z" ((k:Int) % 2))))[a]?:=e2
 rw [UY (by omega),UY (by omega),hl,Nat.sub_self] at e2
 have e3:97+(f+j) % 26=97+(f+k) % 26:=Rs e2
 exact Kg (f:=f) (M:=26) hm hj hk (by omega)
theorem LR{ss:List Slot}{n:Nat}{Pd:D->Nat->Prop}(h:Ey ss n Pd):Cw { nx:=λn _=>Kd.fr=.sh/\Pd .non n,rt:=Pd } n (ss++Is 9 .no):=by
 obtain⟨m,rfl,hm1,hm2,hn,p⟩:=h
 unfold Cw
 refine⟨3,rfl,by decide,by decide,by omega,λway hw0 hw1=>⟨(by decide:12<=sizeLine),?_⟩⟩
 have last:∀(n':Nat),n - 1<=n'->(Ae (A7 5 (wC (D.str "abcdefghijklmnopqrstuvwxyz")))
 (Ae (A7 6 (Sh "str" NF (wC (D.str "")) (AC (CM [some 5,some 0,none] (Bj (AC (wC (D.int 8)) AO)) (BC 2) C4 (Ag DK (AG 0) (AZ A4 (AF (Ax 1) (AF (AQ (wC (D.int 26))) AX))))) AO)))
 (Ae (DQ (Hm (Ap (Ag (GX false) (AG 2) (wC (D.int 1)))) (Ap (Ag Fe (AG 1) (wC (D.int 9))))) (BO (CM [some 6,none] (Bj (AC (AG 1) AO)) (BC 1) C4 (Nj Fd (AG 0) CA (B1 (Ag Aq (wC (D.int 1)) (AG 1)))))) B2)
 (Ae (A7 7 (AZ A4 (AF (Ax 0) (AF (AQ (wC (D.int 7))) AX))))
 (Ae (A7 4 (AZ A4 (AF (Ax 0) (AF (AQ (wC (D.int 26))) AX))))
 (Ae (Hl 8 (Cq AO))
 (Ae (Gr (Bj (AC (AG 1) AO)) (BC 9) (Ae (A7 10 (Ag DK (AG 5) (Ag (L0 (λ_ j=>0<j) λi j=>D.int (i % j)) (Ag Aq (AG 4) (AG 9)) (wC (D.int 26)))))
 (RB 8 "list" NG (AC (Ag Aq (Ag Aq (Ag Aq (Nj Fd (AG 6) CA (B1 (AG 7))) (AG 10)) (Nj Fd (AG 6) (B1 (Ag Aq (AG 7) (wC (D.int 1)))) (B1 (wC (D.int 7))))) (Ag GW (wC (D.str "z")) (Ag (L0 (λ_ j=>0<j) λi j=>D.int (i % j)) (AG 9) (wC (D.int 2))))) AO))))
 (BO (F2 Fc (AC (EN 8) AO)))))))))) { nx:=λn _=>Kd.fr=.sh/\Pd .non n,rt:=Pd } n' [.fd,.sh (.int m),.sh (.int way),.sh (.lst (words.map .str)),.no,.no,.no,.no,.no,.no,.no]:=by
  intro n' hn'
  refine⟨rfl,8,rfl,⟨by decide,by decide⟩,by rw [BG]; decide,?_⟩
  refine drawn (m:=8) (by omega) λzs hz1 hz2=>?_
  have hone:∀z∈zs,z.length=1:=λz hz=>(hz2 z hz).1
  have hj:=OQ zs
  have hl8:(Txt.join (UM "") zs).length=8:=by rw [← Bz,hj,Mq hone,hz1]
  have hc:∀c∈cs (Txt.join (UM "") zs),97<=c/\c<=122:=λc hc=>by
   rw [hj] at hc
   obtain⟨z,hz,hcz⟩:=List.mem_flatMap.mp hc
   exact(hz2 z hz).2 c hcz
  refine⟨_,_,zs,rfl,rfl,Ft zs,by rw [Hz zs hone,show (UM "").length=0 from rfl]; omega,by omega,?_⟩
  generalize Txt.join (UM "") zs=x at hl8 hc
  have hx8:(cs x).length=8:=by rw [Bz,hl8]
  have tail:∀(n2:Nat),n' - 8<=n2->(Ae (A7 7 (AZ A4 (AF (Ax 0) (AF (AQ (wC (D.int 7))) AX))))
 (Ae (A7 4 (AZ A4 (AF (Ax 0) (AF (AQ (wC (D.int 26))) AX))))
 (Ae (Hl 8 (Cq AO))
 (Ae (Gr (Bj (AC (AG 1) AO)) (BC 9) (Ae (A7 10 (Ag DK (AG 5) (Ag (L0 (λ_ j=>0<j) λi j=>D.int (i % j)) (Ag Aq (AG 4) (AG 9)) (wC (D.int 26)))))
 (RB 8 "list" NG (AC (Ag Aq (Ag Aq (Ag Aq (Nj Fd (AG 6) CA (B1 (AG 7))) (AG 10)) (Nj Fd (AG 6) (B1 (Ag Aq (AG 7) (wC (D.int 1)))) (B1 (wC (D.int 7))))) (Ag GW (wC (D.str "z")) (Ag (L0 (λ_ j=>0<j) λi j=>D.int (i % j)) (AG 9) (wC (D.int 2))))) AO))))
 (BO (F2 Fc (AC (EN 8) AO))))))) { nx:=λn _=>Kd.fr=.sh/\Pd .non n,rt:=Pd } n2 [.fd,.sh (.int m),.sh (.int way),.sh (.lst (words.map .str)),.no,.sh (.str Ck),.sh (.str x),.no,.no,.no,.no]:=by
   intro n2 hn2
   refine⟨7,rfl,by decide,by decide,by omega,λa ha0 ha1=>⟨26,rfl,by decide,by decide,by omega,λfirst hf0 hf1=>⟨(by decide:0<=sizeLine),(m:Int),rfl,⟨by omega,by omega⟩,?_⟩⟩⟩
   obtain⟨a,rfl⟩:∃q:Nat,a=(q:Int):=⟨a.toNat,by omega⟩
   obtain⟨f,rfl⟩:∃q:Nat,first=(q:Int):=⟨first.toNat,by omega⟩
   have ha7:a<7:=by omega
   refine Ci (all:=Bg 0 ((m:Int)).toNat) (λpre n3 ρ=>n3=n2 - 1 - 1/\∃s9 s10,ρ=[.fd,.sh (.int m),.sh (.int way),.sh (.lst (words.map .str)),.sh (.int f),.sh (.str Ck),.sh (.str x),.sh (.int a),.ow (.lst (((T_ pre.length).map λk=>nameAt x a f k).map .str)),s9,s10]) ?_ ?_ _ [] _ _ rfl ⟨rfl,_,_,rfl⟩
   ·rintro n3 ρ ⟨rfl,s9,s10,rfl⟩
    have el:(Bg 0 ((m:Int)).toNat).length=m:=by rw [BG]; omega
    refine⟨_,_,rfl,Ft _,by rw [Ev,Uk,el]; omega,λss' hp hs=>p ss' _ ?_ ?_ ?_ (by omega)⟩
    ·rw [hp.length_eq,Ev,Uk,el]
    ·intro y hy
     obtain⟨k,_,rfl⟩:=T2.mp (hp.mem_iff.mp hy)
     exact IU hl8 hc ha7
    ·refine Ct hs (hp.nodup_iff.mpr (D5 List.nodup_range λj hj k hk e=>?_))
     rw [el] at hj hk
     exact Jt hl8 ha7 hm2 (UK.mp hj) (UK.mp hk) e
   ·rintro pre d post n3 ρ nx hall ⟨rfl,s9,s10,rfl⟩ hnx
    obtain⟨rfl,hk⟩:=G1 hall
    have epre:(pre++[D.int (0+(pre.length:Int))]).length=pre.length+1:=by rw [Tz,UB]
    rw [epre] at hnx
    generalize pre.length=k at hk hnx ⊢
    have hlt:(f+k) % 26<26:=WI _ (by decide)
    have ei:((f:Int)+(0+(k:Int))) % 26=(((f+k) % 26:Nat):Int):=by omega
    have ek:(0+(k:Int)) % 2=(k:Int) % 2:=by omega
    obtain⟨hz0,hz1,_⟩:=Rm (r:=(0+(k:Int)) % 2) (by omega)
    have l1:=Txt.slice_le x none (some (a:Int))
    have l2:=Txt.slice_le x (some ((a:Int)+1)) (some 7)
    have la:=Wd (Txt.slice x none (some (a:Int))) ⟨#[97+(f+k) % 26]⟩
    have lb:=Wd (Txt.slice x none (some (a:Int))++⟨#[97+(f+k) % 26]⟩) (Txt.slice x (some ((a:Int)+1)) (some 7))
    have ls:(⟨#[97+(f+k) % 26]⟩:Str).length=1:=rfl
    have hsz:=PySem.sizeLine_eq
    refine⟨by show (0:Int)<26; decide,97+(f+k) % 26,by rw [ei]; exact AY (FY _ hlt),?_⟩
    refine⟨_,rfl,rfl,by omega,by omega,by show (0:Int)<2; decide,hz0,by omega,by omega,?_⟩
    refine⟨_,_,rfl,rfl,by rw [Ev,Ev,Uk]; omega,hnx _ _ ⟨rfl,.sh (.int (0+(k:Int))),.sh (.str ⟨#[97+(f+k) % 26]⟩),?_⟩⟩
    rw [ek,List.range_succ,Vi,Vi]
    rfl
  refine CL (λc1=>CL (λc2=>?_) λc2=>tail _ (Go _)) λc1=>CL (λc2=>absurd c2 (by decide)) λ_=>tail _ (Go _)
  have hm9:m<9:=by
   have:(m:Int)<9:=of_decide_eq_true c2
   omega
  refine⟨(m:Int),rfl,⟨by omega,by omega⟩,by rw [BG]; omega,?_⟩
  refine DB (g:=λd=>match d with | .int k=>.str (Txt.slice x none (some (1+k))) | _=>.non) (λρ=>∃s,ρ=[.sh (.str x),s]) ?_ _ _ _ _ ?_ ⟨_,rfl⟩ ?_
  ·rintro d ρ ⟨s,rfl⟩
   exact⟨_,rfl⟩
  ·rintro d hd ρ n' P' ⟨s,rfl⟩ hp
   obtain⟨k,hk,rfl⟩:=IF hd
   exact hp
  ·have e:[]++(Bg 0 ((m:Int)).toNat).map (λd=>match d with | .int k=>D.str (Txt.slice x none (some (1+k))) | _=>.non)=((T_ m).map λk:Nat=>Txt.slice x none (some (1+(k:Int)))).map .str:=by
    unfold Bg
    rw [U3,Vn,Vn,VN]
    refine WL λk _=>?_
    have:(0+(k:Int))=k:=by omega
    simp only [Function.comp,this]
   have ct:∀k:Nat,k<m->cs (Txt.slice x none (some (1+(k:Int))))=(cs x).take (1+k):=λk hk=>by
    rw [PY (by omega) (by omega),show (1+(k:Int)).toNat=1+k by omega]
   rw [e]
   refine p _ _ (by rw [Ev,Uk]) ?_ ?_ (by omega)
   ·intro y hy
    obtain⟨k,hk,rfl⟩:=T2.mp hy
    have hk:=UK.mp hk
    have hl:(Txt.slice x none (some (1+(k:Int)))).length=1+k:=by
     rw [← Bz,ct k hk,Uu,hx8]; omega
    exact⟨by omega,by omega,λc h=>hc c (WH (by rw [← ct k hk]; exact h))⟩
   ·unfold rising
    rw [Wg]
    refine Wr ?_ List.pairwise_lt_range
    intro i j hi hj hij
    rw [ct i (UK.mp hi),ct j (UK.mp hj)]
    exact KP _ _ _ (by omega) (by rw [hx8]; have:=UK.mp hj; omega)
 refine CL (λc1=>CL (λc2=>?_) λc2=>last _ (Go _)) λc1=>CL (λc2=>absurd c2 (by decide)) λ_=>last _ (Go _)
 have hm13:m<13:=by
  have:(m:Int)<13:=of_decide_eq_true c2
  omega
 refine⟨12,rfl,by decide,by decide,by omega,λfirst h0 h1=>?_⟩
 obtain⟨f,rfl⟩:∃f:Nat,first=(f:Int):=⟨first.toNat,by omega⟩
 refine⟨(m:Int),rfl,⟨by omega,by omega⟩,by rw [BG]; omega,?_⟩
 refine DB (g:=λd=>match d with | .int k=>.str (wordAt ((f+k.toNat) % 12)) | _=>.non) (λρ=>∃s,ρ=[.sh (.lst (words.map .str)),.sh (.int f),s]) ?_ _ _ _ _ ?_ ⟨_,rfl⟩ ?_
 ·rintro d ρ ⟨s,rfl⟩
  exact⟨_,rfl⟩
 ·rintro d hd ρ n' P' ⟨s,rfl⟩ hp
  obtain⟨k,hk,rfl⟩:=IF hd
  refine⟨by show (0:Int)<12; decide,D.str (wordAt ((f+k) % 12)),?_,?_⟩
  ·have hlt:(f+k) % 12<12:=WI _ (by decide)
   have ei:((f:Int)+(0+(k:Int))) % 12=(((f+k) % 12:Nat):Int):=by omega
   rw [ei]
   exact AY (by rw [UF,MG _ hlt]; rfl)
  ·have e:(0+(k:Int)).toNat=k:=by omega
   simp only [e] at hp
   exact hp
 ·have e:[]++(Bg 0 ((m:Int)).toNat).map (λd=>match d with | .int k=>D.str (wordAt ((f+k.toNat) % 12)) | _=>.non)=((T_ m).map λk=>wordAt ((f+k) % 12)).map .str:=by
   unfold Bg
   rw [U3,Vn,Vn,VN]
   refine WL λk _=>?_
   have:(0+(k:Int)).toNat=k:=by omega
   simp only [Function.comp,this]
  refine⟨_,(T_ m).map λk=>wordAt ((f+k) % 12),rfl,by rw [e]; exact Ft _,by rw [Ev,Uk]; omega,λss' hp hs=>p ss' _ ?_ ?_ ?_ (by omega)⟩
  ·rw [hp.length_eq,Ev,Uk]
  ·intro x hx
   obtain⟨k,_,rfl⟩:=T2.mp (hp.mem_iff.mp hx)
   exact JN _ (WI _ (by decide))
  ·refine Ct hs (hp.nodup_iff.mpr (D5 List.nodup_range λj hj k hk e=>?_))
   exact Kg (M:=12) (by omega) (UK.mp hj) (UK.mp hk) (LH _ _ (WI _ (by decide)) (WI _ (by decide)) e)
structure Cs where
 a:Str
 b:Str
 len:Int
structure Net where
 ps:List Str
 ts:List Cs
noncomputable def Aw(t:Cs):D:=.tup [.str t.a,.str t.b,.int t.len]
noncomputable def Ik(N:Net):D:=.tup [.tup (N.ps.map .str),.tup (N.ts.map Aw)]
noncomputable def EC(s t:Cs):Prop:=cs s.a<cs t.a\/(s.a=t.a/\cs s.b<cs t.b)
structure Net.Ok (N:Net):Prop where
 names:∀x∈N.ps,OR x
 rise:rising N.ps
 tin:∀t∈N.ts,t.a∈N.ps/\t.b∈N.ps/\cs t.a<cs t.b/\1<=t.len/\t.len<=1000000
 trise:N.ts.Pairwise EC
noncomputable def Oi:W2:=λss n P=>∃most ties:Nat,ss=[.fd,.sh (.int most),.sh (.int ties)]/\1<=most/\most<=26/\1500<=n/\∀(N:Net) (n':Nat),N.Ok->1<=N.ps.length->N.ps.length<=most->N.ts.length<=ties->n - 1500<=n'->P (Ik N) n'
noncomputable def Fs:AW:=(Ae (A7 3 (AZ Ey (AF (Ax 0) (AF (AQ (Ag Aq (wC (D.int 1)) (AZ A4 (AF (Ax 0) (AF (AQ (AG 1)) AX))))) AX))))
 (Ae (A7 4 (Ag Aq (wC (D.int 1)) (AZ A4 (AF (Ax 0) (AF (AQ (wC (D.int 3))) AX)))))
 (Ae (A7 5 (AZ A4 (AF (Ax 0) (AF (AQ (wC (D.int 4))) AX))))
 (Ae (Hl 6 (Cq AO))
 (Ae (Gr (Bj (AC (F2 Ii (AC (AG 3) AO)) AO)) (BC 7) (Gr (Ot (AC (Ag Aq (AG 7) (wC (D.int 1))) (AC (F2 Ii (AC (AG 3) AO)) AO))) (BC 8) (DQ (Hm (Ap (Ag Qf (AZ A4 (AF (Ax 0) (AF (AQ (wC (D.int 4))) AX))) (AG 4))) (Ap (Ag Fe (F2 Ii (AC (EN 6) AO)) (AG 2)))) (RB 6 "list" NG (AC (BN (AC (Ag DK (AG 3) (AG 7)) (AC (Ag DK (AG 3) (AG 8)) (AC (AZ Oj (AF (Ax 0) (AF (AQ (AG 5)) AX))) AO)))) AO)) B2)))
 (BO (BN (AC (F2 Ep (AC (AG 3) AO)) (AC (F2 Ep (AC (EN 6) AO)) AO)))))))))
structure Ix where
 i:Nat
 j:Nat
 len:Int
noncomputable def Ix.tie(xs:List Str)(t:Ix):Cs:=⟨xs.getD t.i "",xs.getD t.j "",t.len⟩
noncomputable def QZ(s t:Ix):Prop:=s.i<t.i\/(s.i=t.i/\s.j<t.j)
theorem getD_at{xs:List Str}{i:Nat}(h:i<xs.length):xs[i]?=some (xs.getD i ""):=by
 rw [T7,No h]
 rfl
theorem getD_mem{xs:List Str}{i:Nat}(h:i<xs.length):xs.getD i ""∈xs:=Uh (getD_at h)
theorem G2{xs:List Str}(h:rising xs){i j:Nat}(hij:i<j)(hj:j<xs.length):cs (xs.getD i "")<cs (xs.getD j ""):=by
 have h2:=Wh.mp h i j (by omega) hj hij
 have e1:xs.getD i ""=xs[i]:=by rw [T7,No (by omega)]; rfl
 have e2:xs.getD j ""=xs[j]:=by rw [T7,No hj]; rfl
 rw [e1,e2]
 exact h2
theorem QS{xs:List Str}{ts:List Ix}(hn:∀x∈xs,OR x)(hr:rising xs)(ht:∀t∈ts,t.i<t.j/\t.j<xs.length/\1<=t.len/\t.len<=1000000)(hp:ts.Pairwise QZ):Net.Ok ⟨xs,ts.map (Ix.tie xs)⟩:=by
 refine⟨hn,hr,λt h=>?_,?_⟩
 ·obtain⟨u,hu,rfl⟩:=T2.mp h
  obtain⟨h1,h2,h3,h4⟩:=ht u hu
  exact⟨getD_mem (show u.i<xs.length by omega),getD_mem h2,G2 hr h1 h2,h3,h4⟩
 ·show (ts.map (Ix.tie xs)).Pairwise EC
  rw [Wg]
  refine Wr (λ{s t} hs ht' h=>?_) hp
  obtain⟨h1,h2,_⟩:=ht s hs
  obtain⟨g1,g2,_⟩:=ht t ht'
  rcases h with h | ⟨h,h'⟩
  ·exact .inl (G2 hr h (by omega))
  ·refine .inr ⟨?_,G2 hr h' g2⟩
   show xs.getD s.i ""=xs.getD t.i ""
   rw [h]
theorem P2{ss:List Slot}{n:Nat}{Pd:D->Nat->Prop}(h:Oi ss n Pd):Fs { nx:=λn _=>Kd.sh=.sh/\Pd .non n,rt:=Pd } n (ss++Is 6 .no):=by
 obtain⟨most,ties,rfl,hm1,hm2,hn,p⟩:=h
 unfold Fs
 refine⟨_,rfl,by omega,by omega,by omega,λr h0 h1=>?_⟩
 refine⟨(1+r).toNat,by rw [show (((1+r).toNat:Nat):Int)=1+r by omega],by omega,by omega,by omega,λxs n1 hl hx hr hn1=>?_⟩
 refine⟨3,rfl,by decide,by decide,by omega,λfew f0 f1=>⟨4,rfl,by decide,by decide,by omega,λscale s0 s1=>⟨(by decide:0<=sizeLine),?_⟩⟩⟩
 have hxl:(xs.map D.str).length=xs.length:=Ev ..
 refine⟨_,_,rfl,rfl,_,rfl,⟨by omega,by omega⟩,?_⟩
 refine Ci (all:=Bg 0 (((xs.map D.str).length:Int)).toNat) (λpre m ρ=>n1 - 1 - 1 - 52*pre.length<=m/\∃(ts:List Ix) (s7 s8:Slot),(∀t∈ts,t.i<t.j/\t.j<xs.length/\1<=t.len/\t.len<=1000000)/\ts.Pairwise QZ/\ts.length<=ties/\(∀t∈ts,t.i<pre.length)/\ts.length<=26*pre.length /\
  ρ=[.fd,.sh (.int most),.sh (.int ties),.sh (.lst (xs.map .str)),.sh (.int (1+few)),.sh (.int scale),.ow (.lst ((ts.map (Ix.tie xs)).map Aw)),s7,s8]) ?_ ?_ _ [] _ _ rfl ⟨by simp,[],_,_,(λ_ h=>by cases h),Wc,UI _,(λ_ h=>by cases h),UI _,rfl⟩
 ·rintro m ρ ⟨hm,ts,s7,s8,h1,h2,h3,h4,h5,rfl⟩
  have el:(Bg 0 (((xs.map D.str).length:Int)).toNat).length=xs.length:=by rw [BG]; omega
  rw [el] at hm
  refine⟨(by decide:2<=sizeLine),p ⟨xs,ts.map (Ix.tie xs)⟩ m (QS hx hr h1 h2) (by show 1<=xs.length; omega) (by show xs.length<=most; omega) (by show (ts.map (Ix.tie xs)).length<=ties; rw [Ev]; exact h3) (by omega)⟩
 ·rintro pre d post m ρ nx hall ⟨hm,ts,s7,s8,h1,h2,h3,h4,h5,rfl⟩ hnx
  obtain⟨rfl,hk⟩:=G1 hall
  have epre:(pre++[D.int (0+(pre.length:Int))]).length=pre.length+1:=by rw [Tz,UB]
  rw [epre] at hnx
  generalize pre.length=one at hk hnx hm h4 h5 ⊢
  rw [hxl] at hk
  refine⟨_,_,rfl,rfl,_,_,rfl,⟨by omega,by omega,by omega,by omega⟩,?_⟩
  refine Ci (all:=Bg (0+(one:Int)+1) ((((xs.map D.str).length:Int)) - (0+(one:Int)+1)).toNat) (λpre m ρ=>n1 - 1 - 1 - 52*one - 2*pre.length<=m/\∃(ts:List Ix) (s8:Slot),(∀t∈ts,t.i<t.j/\t.j<xs.length/\1<=t.len/\t.len<=1000000)/\ts.Pairwise QZ/\ts.length<=ties/\(∀t∈ts,t.i<one\/(t.i=one/\t.j<one+1+pre.length))/\ts.length<=26*one+pre.length /\
   ρ=[.fd,.sh (.int most),.sh (.int ties),.sh (.lst (xs.map .str)),.sh (.int (1+few)),.sh (.int scale),.ow (.lst ((ts.map (Ix.tie xs)).map Aw)),.sh (.int (0+(one:Int))),s8]) ?_ ?_ _ [] _ _ rfl ⟨by simpa using hm,ts,_,h1,h2,h3,λt ht=>.inl (h4 t ht),by simpa using h5,rfl⟩
  ·rintro m ρ ⟨hm,ts,s8,h1,h2,h3,h4,h5,rfl⟩
   rw [BG] at hm h5
   refine hnx _ _ ⟨by omega,ts,_,_,h1,h2,h3,λt ht=>?_,by omega,rfl⟩
   rcases h4 t ht with h | h <;> omega
  ·rintro pre2 d2 post2 m ρ nx2 hall2 ⟨hm,ts,s8,h1,h2,h3,h4,h5,rfl⟩ hnx2
   obtain⟨rfl,hk2⟩:=G1 hall2
   rw [Tz,UB] at hnx2
   generalize pre2.length=q at hk2 hnx2 hm h4 h5 ⊢
   have hq:one+1+q<xs.length:=by omega
   have skip:nx2 (m - 1) [.fd,.sh (.int most),.sh (.int ties),.sh (.lst (xs.map .str)),.sh (.int (1+few)),.sh (.int scale),.ow (.lst ((ts.map (Ix.tie xs)).map Aw)),.sh (.int (0+(one:Int))),.sh (.int (0+(one:Int)+1+(q:Int)))]:=by
    refine hnx2 _ _ ⟨by omega,ts,_,h1,h2,h3,λt ht=>?_,by omega,rfl⟩
    rcases h4 t ht with h | h
    ·exact .inl h
    ·exact .inr (by omega)
   refine⟨4,rfl,by decide,by decide,by omega,λdr d0 d1=>?_⟩
   refine CL (λc1=>⟨_,_,rfl,rfl,CL (λc2=>?_) λc2=>skip⟩) λc1=>CL (λc2=>absurd c2 (by decide)) λ_=>skip
   have hlt:ts.length<ties:=by
    have:(((ts.map (Ix.tie xs)).map Aw).length:Int)<(ties:Int):=of_decide_eq_true c2
    rw [Ev,Ev] at this
    omega
   refine⟨_,rfl,rfl,D.str (xs.getD one ""),?_,D.str (xs.getD (one+1+q) ""),?_,scale,rfl,by omega,λlen l1 l2=>⟨(by decide:3<=sizeLine),_,_,rfl,rfl,?_,?_⟩⟩
   ·rw [show (0+(one:Int))=((one:Nat):Int) by omega]
    exact AY (by rw [UF,getD_at hk]; rfl)
   ·rw [show (0+(one:Int)+1+(q:Int))=((one+1+q:Nat):Int) by omega]
    exact AY (by rw [UF,getD_at hq]; rfl)
   ·rw [Ev,Ev,PySem.sizeLine_eq]; omega
   ·refine hnx2 _ _ ⟨by omega,ts++[⟨one,one+1+q,len⟩],.sh (.int (0+(one:Int)+1+(q:Int))),λt ht=>?_,?_,by rw [Tz,UB]; omega,λt ht=>?_,by rw [Tz,UB]; omega,?_⟩
    ·rcases U1.mp ht with ht | ht
     ·exact h1 t ht
     ·rw [Ur.mp ht]
      exact⟨by show one<one+1+q; omega,hq,l1,l2⟩
    ·rw [List.pairwise_append]
     refine⟨h2,Vs _ _,λs hs t ht=>?_⟩
     rw [Ur.mp ht]
     rcases h4 s hs with h | h
     ·exact .inl h
     ·exact .inr h
    ·rcases U1.mp ht with ht | ht
     ·rcases h4 t ht with h | h
      ·exact .inl h
      ·exact .inr (by omega)
     ·rw [Ur.mp ht]
      exact .inr ⟨rfl,by show one+1+q<one+1+(q+1); omega⟩
    ·rw [Vi,Vi]
     rfl
structure Ts (H:Hp) (d:Addr) (as:List (Str×Addr)) (tb:Str->List (Key×V)) (H':Hp):Prop where
 old:∀b o,H b=some o->H' b=some o
 new:H d=none
 top:H' d=some (.dK (as.map λx=>(.inr x.1,.ref x.2)))
 inn:∀x∈as,H x.2=none/\x.2≠d/\H' x.2=some (.dK (tb x.1))
 ads:(as.map (·.2)).Nodup
 nms:(as.map (·.1)).Nodup
end Nt
namespace L2
open PySem PySem.Spec PyProof.Rows
end L2
namespace Dp
open PySem PySem.Spec PyProof.Rows L2
section
variable {X:Cx}{a:Expr}{κa:Kd}{wa:DW}{els:List Expr}{j:Nat}{tpos apos cpos:Pos}
end
section
variable {K:Frag}{C:Fm}{M:Addr->Prop}{H H':Hp}{n n':Nat}{ρ:List Slot}{σ:L2.St}
end
section
variable {X:Cx}{a b e:Expr}{κ κa κb:Kd}{wa wb:DW}{pos pos':Pos}
variable {apos cpos:Pos}{f:Expr}{κf:Kd}{wf:DW}
end
end Dp
namespace L2
open PySem PySem.Spec PyProof.Rows
open AutoSeq1 (wpAny_loadPart')
section
variable {prog:Program}{w:World}{A:Around}{E:Value->Shared->Prop}{s:Shared}{I:Addr}{fp wr:List Addr}{G:Array GenState->Array GenState->Prop}{n:Nat}{P:Nat->Value->Prop}{St:Nat->Shared->Prop}
end
section
variable {X:Cx}{e:Expr}{te:TE}{p1 p2 q1 q2:Pos}
end
end L2
namespace Dp
open PySem PySem.Spec PyProof.Rows L2
section
variable {X:Cx}{a:Expr}{κa:Kd}{wa:DW}{p1 p2 q1 q2:Pos}
end
section
variable {X:Cx}{κ κe:Kd}{tg e:Expr}{b:BW}{we:DW}{pos p apos cpos:Pos}{x:Str}{i:Nat}
end
noncomputable def JP:AW:=λ_ _ _=>False
section
variable {X:Cx}{κ κe:Kd}{e:Expr}{st:Stmt}{we:DW}{pos p apos cpos:Pos}{x:Str}{i:Nat}
end
end Dp
namespace L2
open PySem PySem.Spec PyProof.Rows
theorem D6:fillsNumberSlot (.type "tuple") "mul"=pure false :=
 PySem.fillsNumberSlot_seq (id := "tuple.__mul__") (r:=some (.builtin "tuple.__rmul__")) F.slot_tuple_mul.lookup (by decide +kernel) F.slot_tuple_rmul.lookup (by decide +kernel)
theorem G3:seqRepeat? (.type "tuple")=pure (some (.builtin "tuple.__mul__")):=by
 unfold seqRepeat?
 rw [PySem.seqSlot_of (T := "tuple") (name := "__mul__") (id := "tuple.__mul__") F.slot_tuple_mul.lookup (by decide +kernel),PySem.seqSlot_of (T := "tuple") (name := "__rmul__") (id := "tuple.__rmul__") F.slot_tuple_rmul.lookup (by decide +kernel)]
 rfl
theorem Jc(a:Int)(t:Tok)(l:Addr)(items:Array Value)(n:Nat) :
  Meets (Builtin.«int.__rmul__» ⟨[.int a t,.ref l],[]⟩) (λ_ R s=>s.heap.get? l=some { cls:=.type "tuple",dict:=none,data:=.seq items n,slots:=#[] }/\R (.ok (.ret W5)) s) :=
 .of_wp λprog w A R s h=>by obtain⟨hp,g,d,tk,os⟩:=s; obtain⟨hl,h⟩:=h; wp_walk; exact⟨_,rfl,h⟩
theorem Jv(l:Addr)(items:Array Value)(n:Nat)(u:Tok) :
  Meets (Builtin.«tuple.__mul__» ⟨[.ref l,.int 1 u],[]⟩) (λ_ R s=>s.heap.get? l=some { cls:=.type "tuple",dict:=none,data:=.seq items n,slots:=#[] }/\R (.ok (.ret (.ref l))) s) :=
 .of_wp λprog w A R s h=>by
  obtain⟨hp,g,d,tk,os⟩:=s; obtain⟨hl,h⟩:=h
  wp_walk
  exact⟨_,rfl,h⟩
theorem DF(v:Value):∀(k:Nat) (acc:Array Value),(Is k #[v]).foldl (·++·) acc=acc++(Is k v).toArray
 | 0,acc=>by simp
 | k+1,acc=>by
  rw [List.replicate_succ,List.foldl_cons,DF v k,List.replicate_succ,WO]
  congr 1
  simp
theorem Ju(l:Addr)(v:Value)(n:Nat)(x:Int)(u:Tok)(h1:2<=x)(h2:x<1000000) :
  Meets (Builtin.«tuple.__mul__» ⟨[.ref l,.int x u],[]⟩) (λ_ R s=>s.heap.get? l=some { cls:=.type "tuple",dict:=none,data:=.seq #[v] n,slots:=#[] } /\
   R (.ok (.ret (.ref s.heap.objs.size))) { s with heap:=s.heap.push { cls:=.type "tuple",data:=.seq ((Is x.toNat #[v]).foldl (·++·) #[]) } }) :=
 .of_wp λprog w A R s h=>by
  obtain⟨hp,g,d,tk,os⟩:=s; obtain⟨hl,h⟩:=h
  wp_walk
  rw [if_neg (show ¬(decide (x < -2 ^ 63)||decide (x≥2 ^ 63))=true by rw [Bool.or_eq_true,decide_eq_true_eq,decide_eq_true_eq]; omega)]
  wp_walk
  rw [if_neg (show ¬(#[v].isEmpty||x==1)=true by simp; omega)]
  dsimp only
  rw [if_neg (show ¬(decide (x<=0)||#[v].isEmpty)=true by simp; omega),if_neg (show ¬((#[v].size:Int)*x > (2 ^ 63 - 1) / 8) by show ¬((1:Int)*x > _); omega),
   if_neg (show ¬Vc ((#[v].size:Int)*x)=true by show ¬Vc ((1:Int)*x)=true; unfold Vc; rw [decide_eq_true_eq,PySem.sizeLine_eq]; omega)]
  unfold Us
  refine Ch (UO (Db ⟨_,rfl,h⟩) ?_)
  show (List.foldl (λx1 x2=>x1++x2) #[] (Is x.toNat #[v])).size<=sizeLine
  rw [DF,PySem.sizeLine_eq]
  simp
  omega
noncomputable def O4:R2:=λx y H Q=>∃a v n,x=.ref a/\y=.int n/\H a=some (.tup [v])/\1<=n/\n<1000000/\(n=1->Q (.ref a) H)/\∀b,H b=none->Q (.ref b) (Ac H b (.tup (Is n.toNat v)))
theorem Ho{v:V}{u:Value}(r:RelV v u):∀k,Vals (Is k v) (Is k u)
 | 0=>.nil
 | k+1=>.cons r (Ho r k)
theorem OF{X:Cx}:OpR X (binaryOp .Mult) O4:=by
 intro pins s σ H x y v u Q I rx ry h
 obtain⟨a,v0,n,rfl,rfl,ha,h1,h2,q1,q2⟩:=h
 cases rx
 obtain⟨t,rfl⟩:=ry
 obtain⟨_,its,rv,o,ho,hc,k,hd,hdd,hsl⟩:=(show ObjOk X.prog X.w H s.heap a _ from I.hok a _ ha)
 cases rv with
 | cons r0 rr =>
 cases rr
 rename_i u0
 obtain⟨cls,dd,data,sl⟩:=o
 simp only at hc hd hdd hsl
 subst hc hd hdd hsl
 refine wpAny_binaryOp_repeat_ref (T := "tuple") (U := "int") (by decide) ⟨_,ho,rfl⟩ (λs'=>typeIs_int s' n t) D6 PySem.F.fills_int_mul PySem.F.slot_int_rmul G3 PySem.F.slot_int_index.lookup
  (call_meets PySem.F.slot_int_rmul (typeIs_int s n t) PySem.F.entry_int_rmul (PySem.F.args_int_rmul_2 _ _) (Jc n t a _ k) ⟨ho,rfl,⟨_,ho,rfl⟩,?_⟩)
 by_cases e:n=1
 ·subst e
  exact call_meets PySem.F.slot_tuple_mul ⟨_,ho,rfl⟩ PySem.F.entry_tuple_mul (PySem.F.args_tuple_mul_2 _ _) (Jv a _ k t) ⟨ho,.ref a,H,I,rfl,q1 rfl⟩
 ·refine call_meets PySem.F.slot_tuple_mul ⟨_,ho,rfl⟩ PySem.F.entry_tuple_mul (PySem.F.args_tuple_mul_2 _ _) (Ju a u0 k n t (by omega) h2) ⟨ho,.ref s.heap.objs.size,_,?_,rfl,q2 _ (I.hok.fresh (Go _))⟩
  refine I.laid (t':=s.toks) (λb o q=>Cn _ q) (Go _) ⟨?_,Is n.toNat u0,Ho r0 _,_,On _ rfl,rfl,0,?_,rfl,rfl⟩
  ·rw [VS,PySem.sizeLine_eq]; omega
  ·rw [DF]; simp
end L2
namespace Dp
open PySem PySem.Spec PyProof.Rows L2
noncomputable def NE(d e:D)(P:D->Prop):Prop:=match d,e with
 | .tup [z],.int n=>1<=n/\n<1000000/\P (.tup (Is n.toNat z))
 | _,_=>False
theorem K4{K:Frag}{M:Addr->Prop}{H:Hp}{d:D}{v:V}(h:At K M H d v):∀k,Ats K M H (Is k d) (Is k v)
 | 0=>rfl
 | k+1=>⟨v,_,rfl,h,K4 h k⟩
theorem Qv{K:Frag}:El K .sh O4 NE:=λU M H d e x y P Q dom vM hx hy w q=>by
 unfold NE at w
 split at w
 ·rename_i z n
  obtain⟨h1,h2,p⟩:=w
  obtain⟨a,vs,rfl,ha,v,r,rfl,hv,rfl⟩:=hx.tup
  cases hy.int
  refine⟨a,v,n,rfl,rfl,ha,h1,h2,λe=>?_,λb hb=>?_⟩
  ·subst e
   exact q _ H (.tup [z]) .refl ⟨a,_,rfl,ha,v,[],rfl,hv,rfl⟩ p
  ·have g:Grow H (Ac H b (.tup (Is n.toNat v))):=Aj hb
   exact q _ _ (.tup (Is n.toNat z)) g ⟨b,_,rfl,AJ,K4 (hv.pres g.pres) _⟩ p
 ·exact w.elim
theorem Fg{Φ:Fm->Prop}{X:Cx}{κ:Kd}{sts:List Stmt}:JI Φ X κ sts JP:=⟨_,LX,λ_ _ _ _ _ _ _ _ _ _ _ w=>w⟩
end Dp
namespace K17
open PySem PySem.Spec PyProof.Rows L2 Dp Nt
noncomputable def top(i:Nat):Stmt:=PySem.Challenge.pw_thinnet_k17_refusals_apart.main.body.getD i (.Pass ⟨0,0,0,0⟩)
noncomputable def PK(s:Stmt):Stmt:=match s with
 | .ClassDef _ _ _ b _ _ _ _ _ _ _=>b.getD 0 (.Pass ⟨0,0,0,0⟩)
 | _=>.Pass ⟨0,0,0,0⟩
noncomputable abbrev C8:Stmt:=top 10
noncomputable abbrev Bt:Stmt:=top 11
noncomputable abbrev CS:Stmt:=top 12
noncomputable abbrev Dy:Stmt:=top 13
noncomputable abbrev C6:Stmt:=top 14
noncomputable abbrev CQ:Stmt:=top 17
noncomputable abbrev Dz:Stmt:=top 18
noncomputable abbrev C7:Stmt:=top 20
noncomputable abbrev Bs:Stmt:=top 35
noncomputable abbrev CP:Stmt:=top 36
noncomputable abbrev CT:Stmt:=top 38
noncomputable abbrev Bo:Stmt:=top 39
noncomputable abbrev Bv:Stmt:=top 40
noncomputable abbrev Bw:Stmt:=top 41
noncomputable abbrev C9:Stmt:=top 42
noncomputable abbrev CC:Stmt:=top 43
noncomputable abbrev Bk:Stmt:=top 44
noncomputable abbrev Bu:Stmt:=top 45
noncomputable abbrev C_:Stmt:=top 46
noncomputable abbrev FF:Stmt:=top 47
noncomputable abbrev BA:Stmt:=PK (top 2)
noncomputable abbrev BF:Stmt:=PK (top 3)
structure Txt (K:Frag) (mg:Str->Option Value):Prop where
 n_ValueError:mg "ValueError"=none
 n_all:mg "all"=none
 n_bool:mg "bool"=none
 n_int:mg "int"=none
 n_isinstance:mg "isinstance"=none
 n_len:mg "len"=none
 n_list:mg "list"=none
 n_range:mg "range"=none
 n_repr:mg "repr"=none
 n_sorted:mg "sorted"=none
 n_tuple:mg "tuple"=none
 n_zip:mg "zip"=none
 x_NoPaper:∃C U,XC K "NoPaper" C U/\mg "NoPaper"=some (.ref C)
 x_NoLine:∃C U,XC K "NoLine" C U/\mg "NoLine"=some (.ref C)
 x_TooMany:∃C U,XC K "TooMany" C U/\mg "TooMany"=some (.ref C)
 x_Twice:∃C U,XC K "Twice" C U/\mg "Twice"=some (.ref C)
 x_NoPlace:∃C U,XC K "NoPlace" C U/\mg "NoPlace"=some (.ref C)
 x_NoTie:∃C U,XC K "NoTie" C U/\mg "NoTie"=some (.ref C)
 x_NoRow:∃C U,XC K "NoRow" C U/\mg "NoRow"=some (.ref C)
 x_ThinError:∃U,Q_ K U/\mg "ThinError"=some (.ref U)/\nsIn K mainGlobals "ThinError"=some (some (.ref U))
section
variable {P:Program}{w:World}{K:Frag}{mg:Str->Option Value}{base:Heap}
theorem sc__law_next:AT ["_law_feed_here","_law_many","_law_digit","_law_at","_law_cell","_law_first"] ["_law_feed_here","_law_many"] (AD Bo):=⟨rfl,rfl,rfl,by decide +kernel,rfl,by decide +kernel,by decide +kernel⟩
theorem OI{f:Addr}{fd:FuncData}(F:Fun K "_law_next" "_law_next" Bo f fd)(ml:mg "len"=none):A1 P w K mg base Bn 1 f fd ["_law_feed_here","_law_many"] (Ef K .sh A4 2):=by
 refine F.ok sc__law_next (λvs H Q E h=>h.1) (λcdv A outer s H vs Q E hr h=>?_)
 obtain⟨hl,F0,U,V',M,n,ss,Pd,ra,⟨m,rfl,hm1,hm2,hn,hP⟩,q⟩:=h
 obtain⟨dom,fU,uV,vM,fd0,pa⟩:=ra
 cases pa with
 | cons r1 pa =>
 cases pa with
 | cons r2 pa =>
 cases pa
 obtain⟨⟨f0,c⟩,e0,hF⟩:=r1.1
 cases e0
 obtain⟨v2,e2,h2⟩:=r2.1
 cases e2
 cases (show _=V.int m from h2)
 obtain⟨a,r,cells,hf,hcf,hc,hcl,ha0,han⟩:=fd0 (f0,c) hF
 have fin:∀(a' r' z:Int) (H':Hp),(∀b o,H b=some o->b≠f0->H' b=some o)->H' f0=some (.lst [.ref c,.int a',.int r'])->0<=a'->a'<=a+1->0<=z->z<m->Q (.int z) H':=by
  intro a' r' z H' hk hf' h0 h1 hz0 hz1
  refine q (.int z) H' (.int z) (n - 1) (λb o e=>?_) (λg hg=>?_) rfl (hP z hz0 hz1)
  ·by_cases hb:b=f0
   ·subst hb
    exact⟨_,hf',λnu=>absurd (fU (b,c) hF) nu,λvs z=>by rw [z,hf] at e; cases e⟩
   ·exact⟨o,hk b o e hb,λ_=>rfl,λ_ _=>rfl⟩
  ·have:g=(f0,c):=Rs (hg.symm.trans hF)
   subst this
   exact⟨a',r',cells,hf',hcf,⟨hc.1,hk c _ hc.2 hcf⟩,hcl,h0,by omega⟩
 have hu:(A.deeper (envOfC "_law_next" (AD Bo) s.heap.objs.size f cdv)).units<cLine:=hr.units0
 have hsq:∀{H':Hp} {xs:List V},H' f0=some (.lst xs)->SqL K H' f0 xs:=λh=>SqL.of h
 have ed:∀z:Int,0<=z % m/\z % m<m:=λz=>⟨Int.emod_nonneg _ (by omega),Int.emod_lt_of_pos _ (by omega)⟩
 refine⟨_,Ay (KY (DX Rj (Cu ix_list (pv 0) Ab (λ_ _=>rfl)) Ab (Ah _))
   (Ay (DA (i:=2) sc__law_next.nd rfl (Tw rfl) (BB Bx (Cu ix_list (pv 0) Ab (λ_ _=>rfl)) (pv 1)))
   (Ay (Jl (BB G8 (Cu ix_list (pv 0) Ab (λ_ _=>rfl)) (pv 1)) (Jo (pv 0) Ab set_list))
   (Bp (FJ (pv 2))))) Eo)
  (Ay (DA (i:=3) sc__law_next.nd rfl (Tw rfl) (Cu ix_list (pv 0) Ab (λ_ _=>rfl)))
  (Ay (Jl (BB op_add (pv 3) Ab) (Jo (pv 0) Ab set_list))
  (Ay (DA (i:=4) sc__law_next.nd rfl (Tw rfl) (IM (DX (Le hu) (Cu ix_list (pv 0) Ab (λ_ _=>rfl)) (Jp BU) (Ah _))
   (Cu ix_list (Cu ix_list (pv 0) Ab (λ_ _=>rfl)) (BB Bx (pv 3) (B5 BS rfl ml PySem.boot_len (Az (Cu ix_list (pv 0) Ab (λ_ _=>rfl)) BU))) (λ_ _=>rfl)) Ab))
  (Ay (KY (PW.pt (Mb (DX Rk (pv 4) (BB D4 Ab Ab) (Ah _)) (KW (DX op_lt (pv 3) (B5 BS rfl ml PySem.boot_len (Az (Cu ix_list (pv 0) Ab (λ_ _=>rfl)) BU)) (Ah _)))))
   (Ay (Jl (BB G8 (pv 4) (pv 1)) (Jo (pv 0) Ab set_list))
   (Bp (FJ (BB Bx (pv 4) (pv 1))))) Eo)
  (Ay (DA (i:=5) sc__law_next.nd rfl (Tw rfl) (BB Bx (BB op_mul (BB op_add (BB op_add (BB op_add (BB Bx (pv 4) Ab) (BB op_mul (BB op_mul Ab (pv 3)) (pv 3))) (BB op_mul Ab (pv 3))) Ab) Ab) Ab))
  (Bp (FJ (BB Bx (BB G8 (BB Bx (BB op_mul (BB op_add (pv 5) (BB op_mul Ab (pv 3))) Ab) Ab) Ab) (pv 1))))))))),?_⟩
 refine⟨_,rfl,f0,_,2,_,rfl,rfl,hsq hf,rfl,_,_,rfl,rfl,_,rfl,?_⟩
 refine CL (λc1=>?_) (λc1=>?_)
 ·refine⟨_,rfl,f0,_,2,_,rfl,rfl,hsq hf,rfl,_,rfl,_,_,rfl,rfl,(by show (0:Int)<m; omega),?_⟩
  refine⟨_,rfl,f0,_,2,_,rfl,rfl,hsq hf,rfl,_,rfl,_,_,rfl,rfl,⟨(by show (0:Int)<m; omega),hm2⟩,_,rfl,f0,_,2,2,rfl,rfl,hf,rfl,?_⟩
  refine⟨_,rfl,?_⟩
  exact fin a _ _ _ (λb o e hb=>by rw [AH hb]; exact e) AJ ha0 (by omega) (ed _).1 (ed _).2
 ·-- at=feed[1]; feed[1]=at+1
  refine⟨_,rfl,f0,_,1,_,rfl,rfl,hsq hf,rfl,?_⟩
  refine⟨_,rfl,_,_,rfl,rfl,_,rfl,f0,_,1,1,rfl,rfl,hf,rfl,?_⟩
  generalize hH1:Ac H f0 (.lst ([V.ref c,V.int a,V.int r].set 1 (V.int (a+1))))=H1
  have f1:H1 f0=some (.lst [.ref c,.int (a+1),.int r]):=by rw [← hH1]; exact AJ
  have k1:∀b o,H b=some o->b≠f0->H1 b=some o:=λb o e hb=>by rw [← hH1,AH hb]; exact e
  have c1':H1 c=some (.lst (cells.map V.int)):=k1 c _ hc.2 hcf
  have rest:∀(z:Int) (H2:Hp),(∀b o,H1 b=some o->H2 b=some o) ->
    (LM (RL (RQ (MO (B3 (En λi j=>V.bl (decide (j<=i))) (BP 4) (B3 (rI JJ λi j=>V.int (i ^ j.toNat)) (tC (V.int 10)) (tC (V.int 18))))) (MO (B3 (En λi j=>V.bl (decide (i<j))) (BP 3) (SN (λxs H Q=>∃x n,xs=[x]/\Q2 K x H n/\Q (V.int n) H) (KQ (B3 (P5 K) (BP 0) (tC (V.int 0))) Nz))))) (LM (JU (B3 (rI Oo λi j=>V.int (i / j)) (BP 4) (BP 1)) (Ro (BP 0) (tC (V.int 2)) O0)) (Nv (B3 (rI (λ_ j=>0<j) λi j=>V.int (i % j)) (BP 4) (BP 1)))) Ou) (LM (JU (B3 (rI (λ_ j=>0<j) λi j=>V.int (i % j)) (B3 (rI CMul λi j=>V.int (i*j)) (B3 (En λi j=>V.int (i+j)) (B3 (En λi j=>V.int (i+j)) (B3 (En λi j=>V.int (i+j)) (B3 (rI (λ_ j=>0<j) λi j=>V.int (i % j)) (BP 4) (tC (V.int 1000003))) (B3 (rI CMul λi j=>V.int (i*j)) (B3 (rI CMul λi j=>V.int (i*j)) (tC (V.int 41)) (BP 3)) (BP 3))) (B3 (rI CMul λi j=>V.int (i*j)) (tC (V.int 17)) (BP 3))) (tC (V.int 3))) (tC (V.int 51749))) (tC (V.int 999917))) (GR 5)) (Nv (B3 (rI (λ_ j=>0<j) λi j=>V.int (i % j)) (B3 (rI Oo λi j=>V.int (i / j)) (B3 (rI (λ_ j=>0<j) λi j=>V.int (i % j)) (B3 (rI CMul λi j=>V.int (i*j)) (B3 (En λi j=>V.int (i+j)) (BP 5) (B3 (rI CMul λi j=>V.int (i*j)) (tC (V.int 8111)) (BP 3))) (tC (V.int 39373))) (tC (V.int 2097143))) (tC (V.int 3))) (BP 1)))))
     { nx:=λ_ H'=>Q .non H',rt:=Q } [some (.ref f0),some (.int m),none,some (.int a),some (.int z),none] H2:=by
   intro z H2 k2
   have f2:=k2 _ _ f1
   have c2:=k2 _ _ c1'
   have lastWay:∀H3:Hp,H3=H2->(LM (JU (B3 (rI (λ_ j=>0<j) λi j=>V.int (i % j)) (B3 (rI CMul λi j=>V.int (i*j)) (B3 (En λi j=>V.int (i+j)) (B3 (En λi j=>V.int (i+j)) (B3 (En λi j=>V.int (i+j)) (B3 (rI (λ_ j=>0<j) λi j=>V.int (i % j)) (BP 4) (tC (V.int 1000003))) (B3 (rI CMul λi j=>V.int (i*j)) (B3 (rI CMul λi j=>V.int (i*j)) (tC (V.int 41)) (BP 3)) (BP 3))) (B3 (rI CMul λi j=>V.int (i*j)) (tC (V.int 17)) (BP 3))) (tC (V.int 3))) (tC (V.int 51749))) (tC (V.int 999917))) (GR 5)) (Nv (B3 (rI (λ_ j=>0<j) λi j=>V.int (i % j)) (B3 (rI Oo λi j=>V.int (i / j)) (B3 (rI (λ_ j=>0<j) λi j=>V.int (i % j)) (B3 (rI CMul λi j=>V.int (i*j)) (B3 (En λi j=>V.int (i+j)) (BP 5) (B3 (rI CMul λi j=>V.int (i*j)) (tC (V.int 8111)) (BP 3))) (tC (V.int 39373))) (tC (V.int 2097143))) (tC (V.int 3))) (BP 1))))
     { nx:=λ_ H'=>Q .non H',rt:=Q } [some (.ref f0),some (.int m),none,some (.int a),some (.int z),none] H3:=by
    intro H3 e3
    subst e3
    have hb:CMul (41*a) a:=.inr ⟨by omega,by omega⟩
    refine⟨_,rfl,_,_,rfl,rfl,(by show (0:Int)<1000003; decide),_,rfl,_,_,rfl,rfl,.inl ⟨by decide,by decide⟩,_,rfl,_,_,rfl,rfl,hb,_,_,rfl,rfl,_,rfl,_,_,rfl,rfl,.inl ⟨by decide,by decide⟩,_,_,rfl,rfl,_,_,rfl,rfl,_,_,rfl,rfl,.inr ⟨by decide,by decide⟩,_,_,rfl,rfl,(by show (0:Int)<999917; decide),?_⟩
    refine⟨_,rfl,_,rfl,_,_,rfl,rfl,.inl ⟨by decide,by decide⟩,_,_,rfl,rfl,_,_,rfl,rfl,.inr ⟨by decide,by decide⟩,_,_,rfl,rfl,(by show (0:Int)<2097143; decide),_,_,rfl,rfl,⟨by decide,by decide⟩,_,rfl,_,_,rfl,rfl,(by show (0:Int)<m; omega),?_⟩
    exact fin (a+1) r _ _ (λb o e hb=>k2 b o (k1 b o e hb)) f2 (by omega) (by omega) (ed _).1 (ed _).2
   refine⟨_,rfl,_,_,rfl,rfl,⟨by decide,by decide,by decide⟩,_,_,rfl,rfl,_,rfl,?_⟩
   refine CL (λc3=>?_) (λc3=>?_)
   ·refine⟨_,rfl,_,rfl,f0,_,0,_,rfl,rfl,hsq f2,rfl,_,_,rfl,.inl ⟨_,SqL.of c2,rfl⟩,_,_,rfl,rfl,_,rfl,?_⟩
    refine CL (λc4=>?_) (λc4=>lastWay H2 rfl)
    refine⟨_,rfl,_,rfl,_,_,rfl,rfl,⟨(by show (0:Int)<m; omega),hm2⟩,_,rfl,f0,_,2,2,rfl,rfl,f2,rfl,?_⟩
    refine⟨_,rfl,_,rfl,_,_,rfl,rfl,(by show (0:Int)<m; omega),?_⟩
    exact fin (a+1) _ _ _ (λb o e hb=>by rw [AH hb]; exact k2 b o (k1 b o e hb)) AJ (by omega) (by omega) (ed _).1 (ed _).2
   ·refine CL (λc4=>absurd c4 (by simp)) (λ_=>lastWay H2 rfl)
  refine⟨_,rfl,f0,_,0,_,rfl,rfl,hsq f1,rfl,(by show 0<=sizeLine; decide),λp hp=>?_⟩
  have kp:∀b o,H1 b=some o->Ac H1 p (.lst []) b=some o:=λb o e=>by rw [AH (AU e hp)]; exact e
  refine⟨c,p,_,rfl,rfl,SqL.of (kp _ _ c1'),SqL.of AJ,_,rfl,?_⟩
  cases cells with
  | nil=>exact M5 (rest 0 _ kp)
  | cons z0 cs =>
   refine Qa ?_
   have hlen:(((z0::cs).map V.int).length:Int)=(cs.length:Int)+1:=by simp
   have hpos:(0:Int)<(((z0::cs).map V.int).length:Int):=by omega
   obtain⟨z,hz⟩:∃z,atI ((z0::cs).map V.int) (a % (((z0::cs).map V.int).length:Int))=some (.int z):=by
    have h1:=Int.emod_nonneg a (show (((z0::cs).map V.int).length:Int)≠0 by omega)
    have h2:=Int.emod_lt_of_pos a hpos
    generalize a % (((z0::cs).map V.int).length:Int)=j at h1 h2
    obtain⟨k,rfl⟩:∃k:Nat,j=(k:Int):=⟨j.toNat,by omega⟩
    have hk:k<(z0::cs).length:=by rw [Ev] at h2; omega
    refine⟨(z0::cs)[k],AY ?_⟩
    rw [UF,No hk]
    rfl
   refine⟨_,rfl,f0,_,0,_,rfl,rfl,hsq (kp _ _ f1),rfl,_,rfl,_,rfl,f0,_,0,_,rfl,rfl,hsq (kp _ _ f1),rfl,_,_,rfl,.inl ⟨_,SqL.of (kp _ _ c1'),rfl⟩,_,_,rfl,rfl,hpos,c,_,_,_,rfl,rfl,SqL.of (kp _ _ c1'),hz,?_⟩
   exact rest z _ kp
end
end K17
namespace Nt
open PySem PySem.Spec PyProof.Rows L2 Dp
noncomputable abbrev EE(Pd:D->Nat->Prop):E2:={ nx:=λn _=>Kd.sh=.sh/\Pd .non n,rt:=Pd }
theorem D8{b:BW}{te:DW}{P:List D->Nat->Prop}(g:D->D)(I:List Slot->Prop):∀(ds acc:List D) (n:Nat) (ρ:List Slot),
  (∀d∈ds,∀(ρ:List Slot) (n:Nat) (nx:D->Nat->List Slot->Prop),I ρ->(∀ρ',I ρ'->nx (g d) n ρ')->b d ρ λρ1=>te n ρ1 λy n2=>nx y n2 ρ1)->I ρ->P (acc++ds.map g) n->Bl b C4 te P ds acc n ρ
 | [],acc,n,ρ,_,_,h=>by rw [WA,UL] at h; exact h
 | d::ds,acc,n,ρ,ht,hρ,h=>ht d Tv ρ n (λy n2 ρ1=>Bl b C4 te P ds (acc++[y]) n2 ρ1) hρ λρ' hρ' =>
  D8 g I ds (acc++[g d]) n ρ' (λd hd=>ht d (Op _ hd)) hρ' (by rw [U6]; exact h)
theorem NH{α:Type}{l:List α}{p:α->Bool}{P:D->Prop}(h:P (.bl (l.all p))):NI [.lst (l.map λa=>.bl (p a))] P :=
 ⟨_,_,rfl,Fu p l,by rw [XJ]; exact h⟩
theorem NY{b1 b2:Bool}{P:D->Nat->Prop}{n:Nat}{k:(D->Nat->Prop)->Prop}(hk:b1=true->P (.bl b2) n->k P)(h:P (.bl (b1&&b2)) n):(match (.bl b1:D) with | .bl true=>k P | .bl false=>P (.bl false) n | _=>False):=NW hk h
noncomputable abbrev Wb(g:D->Bool):W2:=O8 1 λds=>.bl (g (ds.getD 0 .non))
theorem Wb.out{g:D->Bool}{ss:List Slot}{n:Nat}{P:D->Nat->Prop}(h:Wb g ss n P):∃d,ss=[.sh d]/\P (.bl (g d)) n:=by
 obtain⟨ds,hl,rfl,h⟩:=h
 match ds,hl with
 | [d],_=>exact⟨d,rfl,h⟩
noncomputable def MI:D->Bool
 | .int _=>true
 | _=>false
noncomputable def tupleOfB(k:Int):D->Bool
 | .tup xs=>((xs.length:Int)==k)
 | _=>false
noncomputable def Ms(d e:D):Option Bool:=match d,e with
 | .int i,.int j=>some (decide (i<j))
 | .str i,.str j=>some (decide (cs i<cs j))
 | .tup xs,.tup ys=>match Dd xs,Dd ys with
  | some ks,some ls=>if BJ ks ls then some (DD ks ls) else none
  | _,_=>none
 | _,_=>none
theorem OW{d e:D}{b:Bool}{P:D->Prop}(h:Ms d e=some b)(p:P (.bl b)):Fe d e P:=by
 unfold Ms at h
 split at h
 ·cases h; exact p
 ·cases h; exact p
 ·rename_i xs ys
  split at h
  ·rename_i ks ls h1 h2
   split at h
   ·rename_i hs
    cases h
    exact⟨ks,ls,h1,h2,hs,p⟩
   ·cases h
  ·cases h
 ·cases h
noncomputable def Og:List D->Bool
 | x::y::r=>(Ms x y==some true)&&Og (y::r)
 | _=>true
noncomputable abbrev Hf:W2:=Wb MI
noncomputable abbrev B8:W2:=λss n P=>∃k d,ss=[.sh (.int k),.sh d]/\P (.bl (tupleOfB k d)) n
noncomputable abbrev Ew:W2:=λss n P=>∃d xs,ss=[.sh d]/\JZ d=some xs/\xs.length<=1000/\(∀x∈xs,∀y∈xs,∃b,Ms x y=some b)/\P (.bl (Og xs)) n
noncomputable def KG:AW:=(BO (LI (ML "int" (AG 0)) (RC (ML "bool" (AG 0)))))
noncomputable def GA:AW:=(BO (LI (ML "tuple" (AG 1)) (Ag (GX false) (F2 Ii (AC (AG 1) AO)) (AG 0))))
noncomputable def JB:AW:=(BO (F2 NI (AC (CM [none,none] (RA (AC (AG 0) (AC (Nj Fd (AG 0) (B1 (wC (D.int 1))) CA) AO))) (Qs 2 (Fo (BC 0) (Fo (BC 1) NX))) C4 (Ag Fe (AG 0) (AG 1))) AO)))
section
variable {ss:List Slot}{n:Nat}{Pd:D->Nat->Prop}
theorem IJ(h:Hf ss n Pd):KG (EE Pd) n (ss++Is 0 .no):=by
 obtain⟨d,rfl,q⟩:=h.out
 cases d <;> exact q
theorem FH(h:B8 ss n Pd):GA (EE Pd) n (ss++Is 0 .no):=by
 obtain⟨k,d,rfl,h⟩:=h
 cases d with
 | tup xs=>exact⟨_,_,rfl,rfl,h⟩
 | _=>exact h
theorem R0{α:Type}(xs:List α):Dp.cutD xs (some 1) none=xs.drop 1:=by
 unfold Dp.cutD
 rw [HT.sIx_none,show (1:Int)=((1:Nat):Int) from rfl,HT.sIx_nat]
 by_cases h:1<=xs.length
 ·rw [Nat.min_eq_left h]
  exact Wy (by rw [V1]; exact Go _)
 ·have:xs=[]:=VB.mp (by omega)
  subst this
  rfl
theorem K9:∀xs:List D,((Dv xs (xs.drop 1)).all λd=>match d with | .tup [a,b]=>Ms a b==some true | _=>false)=Og xs
 | []=>rfl
 | [x]=>rfl
 | x::y::r=>by
  have ih:=K9 (y::r)
  show ((Dv (x::y::r) (y::r)).all _)=_
  unfold Dv Og
  rw [List.zipWith_cons_cons,W6]
  congr 1
theorem Nl{xs ys:List D}{d:D}(h:d∈Dv xs ys):∃a∈xs,∃b∈ys,d=.tup [a,b]:=by
 unfold Dv at h
 obtain⟨i,hi⟩:=List.getElem?_of_mem h
 rw [W0] at hi
 cases q1:xs[i]? with
 | none=>rw [q1] at hi; simp at hi
 | some a =>
  cases q2:ys[i]? with
  | none=>rw [q1,q2] at hi; simp at hi
  | some b =>
   rw [q1,q2] at hi
   exact⟨a,Uh q1,b,Uh q2,(Rs hi).symm⟩
theorem G6(h:Ew ss n Pd):JB (EE Pd) n (ss++Is 0 .no):=by
 obtain⟨d,xs,rfl,hd,hl,hlt,h⟩:=h
 have go:(Dv xs (xs.drop 1)).length<=10000000/\Bl (Qs 2 (Fo (BC 0) (Fo (BC 1) NX))) C4 (Ag Fe (AG 0) (AG 1)) (λacc n2=>NI [.lst acc] λz=>Pd z n2) (Dv xs (xs.drop 1)) [] n [.no,.no]:=by
  refine⟨by unfold Dv; rw [List.length_zipWith]; omega,?_⟩
  refine D8 (λd=>.bl (match d with | .tup [a,b]=>Ms a b==some true | _=>false)) (λρ=>∃s t,ρ=[s,t]) _ _ _ _ ?_ ⟨_,_,rfl⟩ ?_
  ·rintro z hz ρ m nx ⟨s,t,rfl⟩ hnx
   obtain⟨a,ha,b,hb,rfl⟩:=Nl hz
   obtain⟨r,hr⟩:=hlt a ha b (List.mem_of_mem_drop hb)
   refine⟨rfl,rfl,?_⟩
   show Fe a b λy=>nx y m [.sh a,.sh b]
   refine OW hr ?_
   have this:nx (.bl (Ms a b==some true)) m [.sh a,.sh b]:=hnx [.sh a,.sh b] ⟨_,_,rfl⟩
   rw [hr] at this
   cases r <;> exact this
  ·rw [U3]
   refine NH (p:=fun(d:D)=>match d with | .tup [a,b]=>Ms a b==some true | _=>false) ?_
   rw [K9]
   exact h
 cases d with
 | lst ys =>
  cases hd
  exact⟨_,_,xs,xs.drop 1,rfl,rfl,by rw [R0]; rfl,go⟩
 | tup ys =>
  cases hd
  exact⟨_,_,xs,xs.drop 1,rfl,rfl,by rw [R0]; rfl,go⟩
 | _=>cases hd
end
theorem Qt{α:Type}(p:α->Bool)(l:List α):(l.map p).all id=l.all p:=by rw [XJ]; rfl
theorem H_{x:Str}(h:∀c∈cs x,c<1114112):PyData.strOk x=true:=by
 unfold PyData.strOk
 rw [← Array.all_toList,VV]
 intro c hc
 exact decide_eq_true (h c hc)
theorem Mv{x:Str}(h:OR x):Ej (.str x):=⟨rfl,H_ λc hc=>by have:=h.2.2 c hc; omega,UI _⟩
theorem IY{ps:List Str}(h:∀p∈ps,OR p):CD (ps.map .str)=true/\VO (Ak (ps.map .str))=true/\Um (Ak (ps.map .str))=0:=by
 induction ps with
 | nil=>exact⟨rfl,rfl,rfl⟩
 | cons p r ih =>
  obtain⟨h1,h2,h3⟩:=ih λq hq=>h q (Op _ hq)
  have hp:=Mv (h p Tv)
  refine⟨by rw [UG,CD,h1]; rfl,?_,?_⟩
  ·rw [UG,Ak,VO,h2,W7]
   exact hp.2.1
  ·rw [UG,Ak,Um,h3]
   rfl
theorem Lp{ps:List Str}(h:∀p∈ps,OR p):Ej (.tup (ps.map .str)):=by
 obtain⟨h1,h2,h3⟩:=IY h
 refine⟨h1,h2,?_⟩
 show Um (Ak (ps.map .str))+1<=100
 rw [h3]; decide
section
variable {ss:List Slot}{n:Nat}{Pd:D->Nat->Prop}
theorem Sj{d:D}(h:tupleOfB 2 d=true):∃a b,d=.tup [a,b]:=by
 cases d with
 | tup xs =>
  have:(xs.length:Int)=2:=eq_of_beq h
  match xs,this with
  | [a,b],_=>exact⟨a,b,rfl⟩
  | [],h=>cases h
  | [_],h=>cases h
  | _::_::_::r,h=>simp only [Tk] at h; omega
 | _=>cases h
end
mutual
noncomputable def EB(B:Nat):D->Prop
 | .int i=>i.natAbs<=B
 | .str x=>∀c∈cs x,c<1114112
 | .tup ds=>EV B ds
 | .lst ds=>EV B ds
 | .dic _ _=>False
 | .fdi _ _=>False
 | .dit _ _=>False
 | _=>True
noncomputable def EV(B:Nat):List D->Prop
 | []=>True
 | d::ds=>EB B d/\EV B ds
end
mutual
noncomputable def JW:D->Nat
 | .int _=>200
 | .str x=>x.length
 | .tup ds=>JK ds
 | .lst ds=>JK ds
 | _=>0
noncomputable def JK:List D->Nat
 | []=>0
 | d::ds=>JW d+1+JK ds
end
mutual
noncomputable def J_:D->Nat
 | .tup ds=>F9 ds+1
 | .lst ds=>F9 ds+1
 | _=>0
noncomputable def F9:List D->Nat
 | []=>0
 | d::ds=>max (J_ d) (F9 ds)
end
theorem fines_iff{B:Nat}:∀{ds:List D},EV B ds↔∀d∈ds,EB B d
 | []=>⟨(λ_ d h=>by cases h),λ_=>trivial⟩
 | d::ds=>by
  have ih:=@fines_iff B ds
  constructor
  ·rintro ⟨h1,h2⟩ e he
   rcases TM.mp he with rfl | he
   ·exact h1
   ·exact ih.mp h2 e he
  ·exact λh=>⟨h d Tv,ih.mpr λe he=>h e (Op _ he)⟩
theorem dps_le{k:Nat}:∀{ds:List D},F9 ds<=k↔∀d∈ds,J_ d<=k
 | []=>⟨(λ_ d h=>by cases h),λ_=>UI _⟩
 | d::ds=>by
  have ih:=@dps_le k ds
  show max (J_ d) (F9 ds)<=k↔_
  rw [Nat.max_le,ih]
  constructor
  ·rintro ⟨h1,h2⟩ e he
   rcases TM.mp he with rfl | he
   ·exact h1
   ·exact h2 e he
  ·exact λh=>⟨h d Tv,λe he=>h e (Op _ he)⟩
theorem GV{B C:Nat}(h:B<=C):∀(n:Nat),(∀d:D,sizeOf d<=n->EB B d->EB C d)/\∀ds:List D,sizeOf ds<=n->EV B ds->EV C ds:=by
 intro n
 induction n with
 | zero =>
  refine⟨λd hd _=>?_,λds hd _=>?_⟩
  ·cases d <;> simp at hd
  ·cases ds <;> simp at hd
 | succ n ih =>
  refine⟨λd hd hf=>?_,λds hd hf=>?_⟩
  ·cases d with
   | int i=>exact T6 (show i.natAbs<=B from hf) h
   | str x=>exact hf
   | tup ds=>exact ih.2 ds (by simp at hd; omega) hf
   | lst ds=>exact ih.2 ds (by simp at hd; omega) hf
   | dic ks ds=>exact(show False from hf).elim
   | fdi ks ds=>exact(show False from hf).elim
   | dit ks ds=>exact(show False from hf).elim
   | non=>trivial
   | bl b=>trivial
  ·cases ds with
   | nil=>trivial
   | cons d ds=>exact⟨ih.1 d (by simp at hd; omega) hf.1,ih.2 ds (by simp at hd; omega) hf.2⟩
mutual
theorem HJ{B:Nat}(hB:B<10 ^ 45):∀{d:D},EB B d->ER d=true/\(toPy d).showable=true/\(toPy d).canLay0=true/\(toPy d).depth=J_ d/\(toPy d).leavesShort 60=true/\(toPy d).weight<=JW d
 | .non,_=>⟨rfl,rfl,rfl,rfl,rfl,Go _⟩
 | .bl b,_=>⟨rfl,rfl,rfl,rfl,rfl,Go _⟩
 | .int i,h=>by
  have h':i.natAbs<=B:=h
  have hlt:i.natAbs<10 ^ 45:=Nat.lt_of_le_of_lt h' hB
  have h2:i.natAbs<2 ^ 150:=Nat.lt_trans hlt (by decide)
  have hl:i.natAbs.log2<150:=by
   by_cases h0:i.natAbs=0
   ·rw [h0]; decide
   ·exact(Nat.log2_lt h0).mpr h2
  refine⟨rfl,?_,rfl,rfl,?_,?_⟩
  ·show decide (i.natAbs.log2<1920)=true
   exact decide_eq_true (by omega)
  ·show decide ((PyData.shown (.int i)).length<=60)=true
   refine decide_eq_true ?_
   have:=int_text_length_le10 (a:=i) (k:=45) (by decide) hlt
   show (UM (toString i)).length<=60
   rw [PySem.ofString_length]
   omega
  ·show (if i==0 then 0 else i.natAbs.log2+1)<=200
   split <;> omega
 | .str x,h=>by
  have h':∀c∈cs x,c<1114112:=h
  refine⟨rfl,rfl,H_ h',rfl,?_,Go _⟩
  show (x.cps.toList.all λc=>decide (c<16 ^ 8))=true
  rw [VV]
  intro c hc
  exact decide_eq_true (Nat.lt_trans (h' c hc) (by decide))
 | .tup ds,h=>by
  obtain⟨h1,h2,h3,h4,h5,h6⟩:=Fb hB (ds:=ds) h
  refine⟨h1,h2,h3,?_,h5,h6⟩
  show Um (Ak ds)+1=F9 ds+1
  rw [h4]
 | .lst ds,h=>by
  obtain⟨h1,h2,h3,h4,h5,h6⟩:=Fb hB (ds:=ds) h
  refine⟨h1,h2,h3,?_,h5,h6⟩
  show Um (Ak ds)+1=F9 ds+1
  rw [h4]
 | .dic ks ds,h=>(show False from h).elim
 | .fdi ks ds,h=>(show False from h).elim
 | .dit ks ds,h=>(show False from h).elim
theorem Fb{B:Nat}(hB:B<10 ^ 45):∀{ds:List D},EV B ds->CD ds=true/\PyData.showableAll (Ak ds)=true/\VO (Ak ds)=true/\Um (Ak ds)=F9 ds/\W1 60 (Ak ds)=true/\PyData.weightAll (Ak ds)<=JK ds
 | [],_=>⟨rfl,rfl,rfl,rfl,rfl,Go _⟩
 | d::ds,h=>by
  obtain⟨h1,h2,h3,h4,h5,h6⟩:=HJ hB (d:=d) h.1
  obtain⟨g1,g2,g3,g4,g5,g6⟩:=Fb hB (ds:=ds) h.2
  refine⟨?_,?_,?_,?_,?_,?_⟩
  ·show (ER d&&CD ds)=true
   rw [h1,g1]; rfl
  ·show ((toPy d).showable&&PyData.showableAll (Ak ds))=true
   rw [h2,g2]; rfl
  ·show ((toPy d).canLay0&&VO (Ak ds))=true
   rw [h3,g3]; rfl
  ·show max (toPy d).depth (Um (Ak ds))=max (J_ d) (F9 ds)
   rw [h4,g4]
  ·show ((toPy d).leavesShort 60&&W1 60 (Ak ds))=true
   rw [h5,g5]; rfl
  ·show (toPy d).weight+1+PyData.weightAll (Ak ds)<=JW d+1+JK ds
   omega
end
theorem KR{B:Nat}{d:D}(hB:B<10 ^ 45)(h:EB B d)(hd:J_ d<=100)(hs:JW d<=200000):KS d:=by
 obtain⟨h1,h2,h3,h4,h5,h6⟩:=HJ hB h
 refine⟨h1,h2,by rw [h4]; exact hd,?_⟩
 have:=PyData.shown_le 60 (by decide) (toPy d) h5
 rw [PySem.sizeLine_eq]
 have:62*(toPy d).weight<=62*200000:=Nat.mul_le_mul_left _ (by omega)
 omega
theorem FZ{B:Nat}{d:D}(hB:B<10 ^ 45)(h:EB B d)(hd:J_ d<=100):Ej d:=by
 obtain⟨h1,h2,h3,h4,h5,h6⟩:=HJ hB h
 exact⟨h1,h3,by rw [h4]; exact hd⟩
section
variable {ss:List Slot}{n:Nat}{Pd:D->Nat->Prop}
end
section
variable {ss:List Slot}{n:Nat}{Pd:D->Nat->Prop}
end
section
variable {ss:List Slot}{n:Nat}{Pd:D->Nat->Prop}
end
noncomputable def item(d:D):Prop:=EB 1000001 d/\JW d<=450/\J_ d<=1
theorem JV{k:Nat}:∀{ds:List D},(∀d∈ds,JW d+1<=k)->JK ds<=k*ds.length
 | [],_=>UI _
 | d::ds,h=>by
  have h1:=h d Tv
  have h2:=JV (ds:=ds) λe he=>h e (Op _ he)
  show JW d+1+JK ds<=k*(ds.length+1)
  rw [Nat.mul_succ]; omega
theorem Dh{B:Nat}{xs:List D}(h:∀d∈xs,EB B d):EB B (.tup xs):=fines_iff.mpr h
theorem item_str{x:Str}(h1:x.length<=8)(h2:∀c∈cs x,c<1114112):item (.str x):=⟨h2,by show x.length<=450; omega,UI _⟩
theorem EA{x:Str}(h:OR x):item (.str x):=item_str h.2.1 λc hc=>by have:=h.2.2 c hc; omega
theorem Mz{a b:Str}{l:Int}(ha:item (.str a))(hb:item (.str b))(la:a.length<=8)(lb:b.length<=8)(hl:l.natAbs<=1000001):item (.tup [.str a,.str b,.int l]):=by
 refine⟨Dh λd hd=>?_,?_,?_⟩
 ·simp only [TM,UA,or_false] at hd
  rcases hd with rfl | rfl | rfl
  ·exact ha.1
  ·exact hb.1
  ·exact hl
 ·show a.length+1+(b.length+1+(200+1+0))<=450
  omega
 ·show max 0 (max 0 (max 0 0))+1<=1
  decide
theorem De{N:Net}(ok:N.Ok):∀d∈N.ts.map Aw,item d:=λd hd=>by
 obtain⟨t,ht,rfl⟩:=T2.mp hd
 obtain⟨h1,h2,_,h3,h4⟩:=ok.tin t ht
 have n1:=ok.names _ h1
 have n2:=ok.names _ h2
 exact Mz (EA n1) (EA n2) n1.2.1 n2.2.1 (by omega)
theorem Kl{N:Net}(ok:N.Ok):∀d∈N.ps.map D.str,item d:=λd hd=>by
 obtain⟨x,hx,rfl⟩:=T2.mp hd
 exact EA (ok.names x hx)
theorem MM{xs ys:List D}(hx:∀d∈xs,item d)(hy:∀d∈ys,item d)(lx:xs.length<=26)(ly:ys.length<=80):EB 1000001 (.tup [.tup xs,.tup ys])/\JW (.tup [.tup xs,.tup ys])<=48000/\J_ (.tup [.tup xs,.tup ys])<=3:=by
 have s1:=JV (k:=451) λd hd=>Nat.succ_le_succ (hx d hd).2.1
 have s2:=JV (k:=451) λd hd=>Nat.succ_le_succ (hy d hd).2.1
 have d1:F9 xs<=1:=dps_le.mpr λd hd=>(hx d hd).2.2
 have d2:F9 ys<=1:=dps_le.mpr λd hd=>(hy d hd).2.2
 refine⟨Dh λd hd=>?_,?_,?_⟩
 ·simp only [TM,UA,or_false] at hd
  rcases hd with rfl | rfl
  ·exact Dh λd hd=>(hx d hd).1
  ·exact Dh λd hd=>(hy d hd).1
 ·show JK xs+1+(JK ys+1+0)<=48000
  omega
 ·show max (F9 xs+1) (max (F9 ys+1) 0)+1<=3
  omega
theorem JC{p:D->Prop}{xs:List D}(h:∀d∈xs,p d){o:Int}(h0:0<=o)(h1:o<(xs.length:Int)):∃z,atI xs o=some z/\p z:=by
 obtain⟨k,rfl⟩:∃k:Nat,o=(k:Int):=⟨o.toNat,by omega⟩
 have hk:k<xs.length:=by omega
 exact⟨xs[k],AY (No hk),h _ (VX hk)⟩
theorem Bi(x:Str):¬cs x<cs x:=List.lt_irrefl _
theorem z1:1<=sizeLine:=by decide
theorem z2:2<=sizeLine:=by decide
theorem z3:3<=sizeLine:=by decide
theorem S9:JJ 10 6:=⟨by decide,by decide,by decide⟩
section
variable {ss:List Slot}{n:Nat}{Pd:D->Nat->Prop}
end
noncomputable def RG(s t:Cs):Decidable (s=t) :=
 if h:s.a=t.a/\s.b=t.b/\s.len=t.len then .isTrue (by obtain⟨a,b,l⟩:=s; obtain⟨a',b',l'⟩:=t; obtain⟨h1,h2,h3⟩:=h; simp only at h1 h2 h3; subst h1 h2 h3; rfl) else .isFalse λe=>h (by rw [e]; exact⟨rfl,rfl,rfl⟩)
noncomputable instance:DecidableEq Cs:=RG
noncomputable abbrev EF(Pd:D->Nat->Prop):E2:={ nx:=λn _=>Kd.fr=.sh/\Pd .non n,rt:=Pd }
noncomputable def MU(t:Cs):List Key:=[.inl t.len,.inr t.a,.inr t.b]
noncomputable def KD(ts:List Cs):Prop:=ts.Pairwise λs t=>Bb (MU t) (MU s)=false
noncomputable def Ow:D->D
 | .tup [x,y,z]=>.tup [z,x,y]
 | d=>d
noncomputable abbrev LB:W2:=λss n P=>∃x y z:D,ss=[.sh (.tup [x,y,z])]/\P (.tup [z,x,y]) n
noncomputable def Hj:W2:=λss n P=>∃(d:D) (ts:List Cs),ss=[.sh d]/\JZ d=some (ts.map Aw)/\ts.length<64/\∀ts':List Cs,ts'.Perm ts->KD ts'->P (.lst (ts'.map Aw)) n
noncomputable def Gh:AW:=(BO (BN (AC (Ag DK (AG 0) (wC (D.int 2))) (AC (Ag DK (AG 0) (wC (D.int 0))) (AC (Ag DK (AG 0) (wC (D.int 1))) AO)))))
noncomputable def Fp:AW:=(BO (MK LB (AG 0)))
theorem RD{α:Type}{f:α->D}{g:D->α}(hg:∀x,g (f x)=x){xs:List D}{ts:List α}(h:xs.Perm (ts.map f)):∃ts':List α,ts'.Perm ts/\xs=ts'.map f:=by
 refine⟨xs.map g,?_,?_⟩
 ·have:=h.map g
  rw [Vn,show g∘f=id from funext hg,List.map_id] at this
  exact this
 ·rw [Vn]
  have:∀x∈xs,(f∘g) x=x:=λx hx=>by
   obtain⟨t,_,rfl⟩:=T2.mp (h.mem_iff.mp hx)
   show f (g (f t))=f t
   rw [hg]
  rw [WL this,List.map_id']
noncomputable def S8:D->Cs
 | .tup [.str a,.str b,.int l]=>⟨a,b,l⟩
 | _=>⟨"","",0⟩
section
variable {ss:List Slot}{n:Nat}{Pd:D->Nat->Prop}
theorem Je(h:LB ss n Pd):Gh (EE Pd) n (ss++Is 0 .no):=by
 obtain⟨x,y,z,rfl,p⟩:=h
 unfold Gh
 exact⟨_,AY (j:=2) rfl,_,AY (j:=0) rfl,_,AY (j:=1) rfl,z3,p⟩
theorem Mn{ts:List Cs}(h:JH (λx=>D_ (Ow x)) (ts.map Aw)):KD ts:=by
 unfold JH at h
 rw [Wg] at h
 exact h.imp λ{s t} z=>z _ _ rfl rfl
theorem IH(h:Hj ss n Pd):Fp (EF Pd) n (ss++Is 0 .no):=by
 obtain⟨d,ts,rfl,hd,h64,p⟩:=h
 unfold Fp
 refine⟨ts.map Aw,Ow,hd,by rw [Ev]; exact h64,λx hx Q hq=>?_,⟨λx hx=>?_,λx hx y hy ka kb ea eb=>?_⟩,λxs' hp ho=>?_⟩
 ·obtain⟨t,_,rfl⟩:=T2.mp hx
  exact⟨_,_,_,rfl,hq⟩
 ·obtain⟨t,_,rfl⟩:=T2.mp hx
  exact⟨MU t,rfl,List.cons_ne_nil _ _⟩
 ·obtain⟨t,_,rfl⟩:=T2.mp hx
  obtain⟨u,_,rfl⟩:=T2.mp hy
  cases (show some (MU t)=some ka from ea)
  cases (show some (MU u)=some kb from eb)
  rfl
 ·obtain⟨ts',h1,rfl⟩:=RD (g:=S8) (λ_=>rfl) hp
  exact p ts' h1 (Mn ho)
theorem Kr(s t:Cs):Ij (Aw s) (Aw t)=true↔s=t:=by
 obtain⟨a,b,l⟩:=s
 obtain⟨a',b',l'⟩:=t
 show (a==a'&&(b==b'&&(l==l'&&true)))=true↔_
 rw [W7,Tu,Tu,beq_iff_eq,beq_iff_eq,beq_iff_eq]
 constructor
 ·rintro ⟨rfl,rfl,rfl⟩; rfl
 ·rintro h; cases h; exact⟨rfl,rfl,rfl⟩
theorem Lo{xs:List D}(h:∀d∈xs,item d):Ej (.lst xs):=by
 have d1:F9 xs<=1:=dps_le.mpr λd hd=>(h d hd).2.2
 exact FZ (B:=1000001) (by decide) (fines_iff.mpr λd hd=>(h d hd).1) (by show F9 xs+1<=100; omega)
end
noncomputable def Hv(t:Cs):List Key:=[.inr t.a,.inr t.b,.inl t.len]
noncomputable def KJ(N:Net)(d:D):Prop:=∃ts:List Cs,d=.tup [.tup (N.ps.map .str),.tup (ts.map Aw)]/\(∀t∈ts,t∈N.ts)/\ts.Pairwise EC
noncomputable def DU(N:Net)(d:D):Bool:=@decide (KJ N d) (VC _)
theorem thinB_iff{N:Net}{d:D}:DU N d=true↔KJ N d:=by
 unfold DU
 exact @decide_eq_true_iff _ (VC _)
theorem NK{N:Net}{d:D}{b:Bool}(h:b=true↔KJ N d):b=DU N d:=by
 rw [U2,thinB_iff]
 exact h
noncomputable def RF(N:Net)(d:D):Prop:=∃s∈N.ts,d=Aw s
noncomputable def E6(N:Net)(d:D):Bool:=@decide (RF N d) (VC _)
theorem tofB_iff{N:Net}{d:D}:E6 N d=true↔RF N d:=by
 unfold E6
 exact @decide_eq_true_iff _ (VC _)
theorem PR{a:Str}{x:D}(h:Ij (.str a) x=true):x=.str a:=by
 cases x with
 | str b =>
  have h:(a==b)=true:=h
  rw [eq_of_beq h]
 | _=>cases h
theorem Rx{a:Str}{x:D}(h:Ij x (.str a)=true):x=.str a:=by
 cases x with
 | str b =>
  have h:(b==a)=true:=h
  rw [eq_of_beq h]
 | _=>cases h
theorem EW:∀{xs:List D} {ps:List Str},Wa (Ak xs) (Ak (ps.map .str))=true->xs=ps.map .str
 | [],[],_=>rfl
 | [],_::_,h=>by cases h
 | _::_,[],h=>by cases h
 | x::xs,p::ps,h=>by
  have h:(Ud (toPy x) (toPy (.str p))&&Wa (Ak xs) (Ak (ps.map .str)))=true:=h
  rw [Tu] at h
  rw [Rx (a:=p) (x:=x) h.1,EW h.2]
  rfl
theorem eqvAll_refl:∀ps:List Str,Wa (Ak (ps.map .str)) (Ak (ps.map .str))=true
 | []=>rfl
 | p::ps=>by
  show ((p==p)&&Wa (Ak (ps.map .str)) (Ak (ps.map .str)))=true
  rw [beq_self_eq_true,eqvAll_refl ps]
  rfl
theorem eqD_strs{p:D}{ps:List Str}:Ij p (.tup (ps.map .str))=true↔p=.tup (ps.map .str):=by
 constructor
 ·intro h
  cases p with
  | tup xs=>rw [EW (xs:=xs) (ps:=ps) h]
  | _=>cases h
 ·rintro rfl
  exact eqvAll_refl ps
theorem L4{s:Cs}{d:D}(h:Ij (Aw s) d=true):∃z,d=.tup [.str s.a,.str s.b,z]/\∀i,z=.int i->i=s.len:=by
 cases d with
 | tup xs =>
  match xs,h with
  | [x,y,z],h =>
   have h:(Ud (toPy (.str s.a)) (toPy x)&&(Ud (toPy (.str s.b)) (toPy y)&&(Ud (.int s.len) (toPy z)&&true)))=true:=h
   rw [W7,Tu,Tu] at h
   refine⟨z,by rw [PR (a:=s.a) (x:=x) h.1,PR (a:=s.b) (x:=y) h.2.1],λi e=>?_⟩
   subst e
   have h3:(s.len==i)=true:=h.2.2
   exact(eq_of_beq h3).symm
  | [],h=>cases h
  | [x],h=>exact absurd h (by show ¬((Ud (toPy (.str s.a)) (toPy x)&&false)=true); simp)
  | [x,y],h=>exact absurd h (by show ¬((Ud (toPy (.str s.a)) (toPy x)&&(Ud (toPy (.str s.b)) (toPy y)&&false))=true); simp)
  | x::y::z::u::r,h=>exact absurd h (by show ¬((Ud (toPy (.str s.a)) (toPy x)&&(Ud (toPy (.str s.b)) (toPy y)&&(Ud (.int s.len) (toPy z)&&false)))=true); simp)
 | _=>cases h
theorem Hb{f:Cs->D}{k:Cs->List Key}(hk:∀s t,Ms (f s) (f t)=some (Bb (k s) (k t))):∀{ts:List Cs},Og (ts.map f)=true↔ts.Pairwise λs t=>Bb (k s) (k t)=true
 | []=>⟨λ_=>.nil,λ_=>rfl⟩
 | [t]=>⟨λ_=>Vs _ _,λ_=>rfl⟩
 | s::t::r=>by
  have ih:=Hb hk (ts:=t::r)
  show ((Ms (f s) (f t)==some true)&&Og ((t::r).map f))=true↔_
  rw [Tu,ih,hk,VI (a:=s) (l:=t::r)]
  constructor
  ·rintro ⟨h1,h2⟩
   have h1:Bb (k s) (k t)=true:=Rs (eq_of_beq h1)
   refine⟨λu hu=>?_,h2⟩
   rcases TM.mp hu with rfl | hu
   ·exact h1
   ·exact CG _ _ _ h1 ((VI.mp h2).1 u hu)
  ·rintro ⟨h1,h2⟩
   exact⟨by rw [h1 t Tv]; rfl,h2⟩
theorem Jz(s t:Cs):Ms (Aw s) (Aw t)=some (Bb (Hv s) (Hv t)):=by
 show (if (true&&(true&&(true&&true)))=true then some (DD (Hv s) (Hv t)) else none)=_
 rw [if_pos (show (true&&(true&&(true&&true)))=true from rfl),HF _ _ rfl]
theorem Nu{s t:Cs}(h:EC s t):Bb (Hv s) (Hv t)=true:=by
 show (if (VP s.a:Key)=.inr t.a then (if (VP s.b:Key)=.inr t.b then (if (Vo s.len:Key)=.inl t.len then false else decide (s.len<t.len)) else decide (cs s.b<cs t.b)) else decide (cs s.a<cs t.a))=true
 rcases h with h | ⟨h,h'⟩
 ·rw [if_neg (λe=>Bi s.a (by rw [Vw e] at h ⊢; exact h)),decide_eq_true h]
 ·rw [if_pos (by rw [h]),if_neg (λe=>Bi s.b (by rw [Vw e] at h' ⊢; exact h')),decide_eq_true h']
theorem GH:∀{ts:List Cs},ts.Pairwise EC->∀s∈ts,∀t∈ts,s.a=t.a->s.b=t.b->s=t
 | [],_,s,hs,_,_,_,_=>by cases hs
 | x::ts,h,s,hs,t,ht,e1,e2=>by
  have h:=VI.mp h
  rcases TM.mp hs with es | hs
  ·rcases TM.mp ht with et | ht
   ·rw [es,et]
   ·rcases h.1 t ht with h | ⟨_,h⟩
    ·rw [← es,e1] at h; exact absurd h (Bi _)
    ·rw [← es,e2] at h; exact absurd h (Bi _)
  ·rcases TM.mp ht with et | ht
   ·rcases h.1 s hs with h | ⟨_,h⟩
    ·rw [← et,e1] at h; exact absurd h (Bi _)
    ·rw [← et,e2] at h; exact absurd h (Bi _)
   ·exact GH h.2 s hs t ht e1 e2
theorem OZ{N:Net}(ok:N.Ok){s t:Cs}(hs:s∈N.ts)(ht:t∈N.ts)(h:Bb (Hv s) (Hv t)=true):EC s t:=by
 have h:(if (VP s.a:Key)=.inr t.a then (if (VP s.b:Key)=.inr t.b then (if (Vo s.len:Key)=.inl t.len then false else decide (s.len<t.len)) else decide (cs s.b<cs t.b)) else decide (cs s.a<cs t.a))=true:=h
 by_cases h1:s.a=t.a
 ·rw [if_pos (by rw [h1])] at h
  by_cases h2:s.b=t.b
  ·rw [if_pos (by rw [h2]),if_pos (by rw [GH ok.trise s hs t ht h1 h2])] at h
   cases h
  ·rw [if_neg (λe=>h2 (Vw e)),decide_eq_true_eq] at h
   exact .inr ⟨h1,h⟩
 ·rw [if_neg (λe=>h1 (Vw e)),decide_eq_true_eq] at h
  exact .inl h
theorem GF{P:Cs->Prop}:∀{xs:List D},(∀d∈xs,∃s,P s/\d=Aw s)->∃ts:List Cs,xs=ts.map Aw/\∀t∈ts,P t
 | [],_=>⟨[],rfl,λt h=>by cases h⟩
 | d::xs,h=>by
  obtain⟨s,hs,rfl⟩:=h d Tv
  obtain⟨ts,rfl,ht⟩:=GF λe he=>h e (Op _ he)
  refine⟨s::ts,rfl,λt z=>?_⟩
  rcases TM.mp z with rfl | z
  ·exact hs
  ·exact ht t z
theorem Hx{N:Net}{xs:List D}(h:xs.all (E6 N)=true):∃ts:List Cs,xs=ts.map Aw/\∀t∈ts,t∈N.ts :=
 GF λd hd=>by
  obtain⟨s,hs,e⟩:=tofB_iff.mp (VV.mp h d hd)
  exact⟨s,hs,e⟩
theorem LL{N:Net}(ok:N.Ok)(p:D)(xs:List D):(Ij p (.tup (N.ps.map .str))&&(xs.all (E6 N)&&Og xs))=DU N (.tup [p,.tup xs]):=by
 refine NK ⟨λh=>?_,λh=>?_⟩
 ·rw [Tu,Tu] at h
  obtain⟨ts,rfl,hts⟩:=Hx h.2.1
  refine⟨ts,by rw [eqD_strs.mp h.1],hts,?_⟩
  have:=(Hb Jz).mp h.2.2
  exact this.imp_of_mem λ{s t} hs ht z=>OZ ok (hts s hs) (hts t ht) z
 ·obtain⟨ts,e,hts,hp⟩:=h
  cases e
  rw [Tu,Tu]
  refine⟨eqD_strs.mpr rfl,VV.mpr λd hd=>?_,(Hb Jz).mpr (hp.imp λ{s t} z=>Nu z)⟩
  obtain⟨t,ht,rfl⟩:=T2.mp hd
  exact tofB_iff.mpr ⟨t,hts t ht,rfl⟩
theorem Hw{N:Net}{d:D}(h:∀p xs,d≠.tup [p,.tup xs]):DU N d=false:=by
 rw [Vu]
 intro z
 obtain⟨ts,e,_⟩:=thinB_iff.mp z
 exact h _ _ e
end Nt
namespace L2
open PySem PySem.Spec PyProof.Rows PySem.W
section
variable {X:Cx}
end
end L2
namespace Dp
open PySem PySem.Spec PyProof.Rows L2
section
variable {X:Cx}{K:Frag}
end
end Dp
namespace Nt
open PySem PySem.Spec PyProof.Rows L2 Dp
section
variable {ss:List Slot}{n:Nat}{Pd:D->Nat->Prop}
theorem FV{b:BW}{tt:EM}{te:DW}{P:List D->Nat->Prop}(c:D->Bool)(g:D->D)(I:List Slot->Prop):∀(ds acc:List D) (n:Nat) (ρ:List Slot),
  (∀d∈ds,∀(ρ:List Slot) (n:Nat) (nx:D->Nat->List Slot->Prop) (sk:Nat->List Slot->Prop),I ρ->(∀ρ',I ρ'->c d=true->nx (g d) n ρ')->(∀ρ',I ρ'->c d=false->sk n ρ')->b d ρ λρ1=>tt n ρ1 λc n1=>if c=true then te n1 ρ1 λy n2=>nx y n2 ρ1 else sk n1 ρ1)->I ρ->P (acc++(ds.filter c).map g) n->Bl b tt te P ds acc n ρ
 | [],acc,n,ρ,_,_,h=>by rw [List.filter_nil,WA,UL] at h; exact h
 | d::ds,acc,n,ρ,ht,hρ,h=>ht d Tv ρ n (λy n2 ρ1=>Bl b tt te P ds (acc++[y]) n2 ρ1) (λn2 ρ1=>Bl b tt te P ds acc n2 ρ1) hρ
  (λρ' hρ' hc=>FV c g I ds (acc++[g d]) n ρ' (λd hd=>ht d (Op _ hd)) hρ' (by rw [List.filter_cons_of_pos hc] at h; rw [U6]; exact h))
  (λρ' hρ' hc=>FV c g I ds acc n ρ' (λd hd=>ht d (Op _ hd)) hρ' (by rw [List.filter_cons_of_neg (by rw [hc]; decide)] at h; exact h))
end
noncomputable def Oh:W2:=λss n P=>∃(N:Net) (d:D),ss=[.sh (Ik N),.sh d]/\N.Ok/\Ej d/\P (.bl (E6 N d)) n
noncomputable def JF:W2:=λss n P=>∃(N:Net) (d:D),ss=[.sh (Ik N),.sh d]/\N.Ok/\N.ps.length<=24/\N.ts.length<=60/\EB (10 ^ 41) d/\JW d<=200000/\J_ d<=90/\P (.bl (DU N d)) n
noncomputable def LC:W2:=λss n P=>∃(N:Net) (ts:List Cs),ss=[.sh (Ik N),.sh (Ik ⟨N.ps,ts⟩)]/\N.Ok/\N.ts.length<64/\(∀t∈ts,t∈N.ts)/\∀ts':List Cs,ts'.Perm (N.ts.filter λt=>decide (t∉ts))->KD ts'->P (.lst (ts'.map Aw)) n
noncomputable def Ea:AW:=(BO (LI (Ag (Qg false) (AG 1) (Ag DK (AG 0) (wC (D.int 1)))) (AZ Hf (AF (AQ (Ag DK (AG 1) (wC (D.int 2)))) AX))))
noncomputable def Gi:AW:=(Ae (DQ (Nn (E3 (Ap (AZ B8 (AF (AQ (wC (D.int 2))) (AF (AQ (AG 1)) AX))))) (E3 (Ap (ML "tuple" (Ag DK (AG 1) (wC (D.int 1))))))) (BO (wC (D.bl false))) B2)
 (BO (LI (Ag Rv (Ag DK (AG 1) (wC (D.int 0))) (Ag DK (AG 0) (wC (D.int 0)))) (LI (F2 NI (AC (CM [some 0,none] (JO (Ag DK (AG 1) (wC (D.int 1)))) (BC 1) C4 (AZ Oh (AF (AQ (AG 0)) (AF (AQ (AG 1)) AX)))) AO)) (AZ Ew (AF (AQ (Ag DK (AG 1) (wC (D.int 1)))) AX))))))
noncomputable def Fq:AW:=(BO (AZ Hj (AF (AQ (CM [some 1,none] (JO (Ag DK (AG 0) (wC (D.int 1)))) (BC 1) (Ap (Ag (Qg true) (AG 1) (Ag DK (AG 0) (wC (D.int 1))))) (AG 1))) AX)))
theorem IX{N:Net}(ok:N.Ok){ts:List Cs}(h:∀t∈ts,t∈N.ts):Ej (.tup (ts.map Aw))/\Ej (.lst (ts.map Aw)):=by
 have it:∀d∈ts.map Aw,item d:=λd hd=>by
  obtain⟨t,ht,rfl⟩:=T2.mp hd
  exact De ok _ (T2.mpr ⟨t,h t ht,rfl⟩)
 have d1:F9 (ts.map Aw)<=1:=dps_le.mpr λd hd=>(it d hd).2.2
 exact⟨FZ (B:=1000001) (by decide) (fines_iff.mpr λd hd=>(it d hd).1) (by show F9 (ts.map Aw)+1<=100; omega),Lo it⟩
theorem OO{N:Net}(ok:N.Ok){t:Cs}(h:t∈N.ts):Ej (Aw t):=by
 have it:=De ok _ (T2.mpr ⟨t,h,rfl⟩)
 exact FZ (B:=1000001) (by decide) it.1 (by have:=it.2.2; omega)
theorem K6{ts:List Cs}{t:Cs}:((ts.map Aw).any λy=>Ij y (Aw t))=decide (t∈ts):=by
 rw [U2,List.any_eq_true,decide_eq_true_eq]
 constructor
 ·rintro ⟨d,hd,e⟩
  obtain⟨s,hs,rfl⟩:=T2.mp hd
  rw [← (Kr s t).mp e]
  exact hs
 ·intro h
  exact⟨Aw t,T2.mpr ⟨t,h,rfl⟩,(Kr t t).mpr rfl⟩
theorem Kj:∀xs:List D,xs.length<=JK xs
 | []=>UI _
 | x::xs=>by
  have:=Kj xs
  show xs.length+1<=JW x+1+JK xs
  omega
theorem IW:∀ts:List Cs,200*ts.length<=JK (ts.map Aw)
 | []=>UI _
 | t::ts=>by
  have:=IW ts
  show 200*(ts.length+1)<=t.a.length+1+(t.b.length+1+(200+1+0))+1+JK (ts.map Aw)
  omega
section
variable {ss:List Slot}{n:Nat}{Pd:D->Nat->Prop}
theorem G5(h:Oh ss n Pd):Ea (EE Pd) n (ss++Is 0 .no):=by
 obtain⟨N,d,rfl,ok,hl,p⟩:=h
 unfold Ea
 refine⟨_,AY (j:=1) rfl,hl,(IX ok λ_ h=>h).1,_,rfl,?_⟩
 cases c:(N.ts.map Aw).any λy=>Ij y d with
 | false =>
  have:E6 N d=false:=by
   rw [Vu]
   intro z
   obtain⟨s,hs,rfl⟩:=tofB_iff.mp z
   rw [K6,decide_eq_true hs] at c
   cases c
  rw [this] at p
  exact p
 | true =>
  obtain⟨e,he,q⟩:=List.any_eq_true.mp c
  obtain⟨s,hs,rfl⟩:=T2.mp he
  obtain⟨z,rfl,hz⟩:=L4 q
  refine⟨_,AY (j:=2) rfl,[z],rfl,rfl,?_⟩
  have:E6 N (.tup [.str s.a,.str s.b,z])=MI z:=by
   rw [U2,tofB_iff]
   constructor
   ·rintro ⟨t,_,e⟩
    have e:z=.int t.len:=by injection e with e; injection e with _ e; injection e with _ e; injection e
    rw [e]
    rfl
   ·intro hw
    cases z with
    | int i=>exact⟨s,hs,by rw [hz i rfl]; rfl⟩
    | _=>cases hw
  rw [this] at p
  exact p
theorem Jg(h:JF ss n Pd):Gi (EE Pd) n (ss++Is 0 .no):=by
 obtain⟨N,d,rfl,ok,l1,l2,hf,hs,hd,p⟩:=h
 unfold Gi
 refine⟨2,d,rfl,?_⟩
 cases h2:tupleOfB 2 d with
 | false =>
  rw [Hw (λp xs e=>by rw [e] at h2; cases h2)] at p
  exact Qa p
 | true =>
  obtain⟨x,y,rfl⟩:=Sj h2
  refine M5 ⟨_,AY (j:=1) rfl,?_⟩
  cases y with
  | tup xs =>
   rw [← LL ok] at p
   have f1:EB (10 ^ 41) x:=hf.1
   have f2:EV (10 ^ 41) xs:=hf.2.1
   have hd':max (J_ x) (max (F9 xs+1) 0)+1<=90:=hd
   have hs':JW x+1+(JK xs+1+0)<=200000:=hs
   refine M5 ⟨_,AY (j:=0) rfl,_,AY (j:=0) rfl,FZ (B:=10 ^ 41) (by decide) f1 (by omega),Lp ok.names,?_⟩
   refine NY (b1:=Ij x (.tup (N.ps.map .str))) (b2:=xs.all (E6 N)&&Og xs) (P:=Pd) (n:=n) (k:=λP=>_) (λ_ hp=>?_) p
   refine⟨_,AY (j:=1) rfl,by show xs.length<=10000000; have:=Kj xs; omega,?_⟩
   refine D8 (λd=>.bl (E6 N d)) (λρ=>∃s,ρ=[.sh (Ik N),s]) _ _ _ _ ?_ ⟨_,rfl⟩ ?_
   ·rintro e he ρ m nx ⟨s,rfl⟩ hnx
    have dx:F9 xs<=88:=by omega
    exact⟨N,e,rfl,ok,FZ (B:=10 ^ 41) (by decide) (fines_iff.mp f2 e he) (by have:=dps_le.mp dx e he; omega),hnx _ ⟨_,rfl⟩⟩
   rw [U3]
   refine⟨_,_,rfl,Fu (E6 N) xs,?_⟩
   rw [Qt]
   refine NY (b1:=xs.all (E6 N)) (b2:=Og xs) (P:=Pd) (n:=n) (k:=λP=>_) (λha hp=>?_) hp
   obtain⟨ts,rfl,hts⟩:=Hx ha
   have:=IW ts
   refine⟨_,AY (j:=1) rfl,_,_,rfl,rfl,by rw [Ev]; omega,λa ha b hb=>?_,hp⟩
   obtain⟨s,_,rfl⟩:=T2.mp ha
   obtain⟨t,_,rfl⟩:=T2.mp hb
   exact⟨_,Jz s t⟩
  | _ =>
   rw [Hw (λp xs e=>by cases e)] at p
   exact Qa p
theorem II(h:LC ss n Pd):Fq (EF Pd) n (ss++Is 0 .no):=by
 obtain⟨N,ts,rfl,ok,h64,hts,p⟩:=h
 unfold Fq
 refine⟨_,AY (j:=1) rfl,by show (N.ts.map Aw).length<=10000000; rw [Ev]; omega,?_⟩
 refine FV (λd=>!((ts.map Aw).any λy=>Ij y d)) id (λρ=>∃s,ρ=[.sh (Ik ⟨N.ps,ts⟩),s]) _ _ _ _ ?_ ⟨_,rfl⟩ ?_
 ·rintro d hd ρ m nx sk ⟨s,rfl⟩ h1 h2
  obtain⟨t,ht,rfl⟩:=T2.mp hd
  refine⟨_,AY (j:=1) rfl,OO ok ht,(IX ok hts).1,_,rfl,?_⟩
  exact CL (λc=>h1 _ ⟨_,rfl⟩ c) λc=>h2 _ ⟨_,rfl⟩ (Vu.mpr c)
 ·rw [U3,List.map_id]
  have e:(N.ts.map Aw).filter (λd=>!((ts.map Aw).any λy=>Ij y d))=(N.ts.filter λt=>decide (t∉ts)).map Aw:=by
   rw [List.filter_map]
   congr 1
   refine List.filter_congr λt _=>?_
   show (!((ts.map Aw).any λy=>Ij y (Aw t)))=decide (t∉ts)
   rw [K6,decide_not]
  rw [e]
  exact⟨_,_,rfl,rfl,Nat.lt_of_le_of_lt (List.length_filter_le _ _) h64,p⟩
end
section
variable {ss:List Slot}{n:Nat}{Pd:D->Nat->Prop}
end
noncomputable def Hg:W2:=λss n P=>ss=[.fd]/\3<=n/\∀(t b:Int) (n':Nat),1<=b->b<=t->t<=1000000->n - 3<=n'->P (.tup [.int t,.int b]) n'
noncomputable def Dq:AW:=(Ae (A7 1 (Cq (AC (BN (AC (wC (D.int 2)) (AC (wC (D.int 1)) AO))) (AC (BN (AC (wC (D.int 3)) (AC (wC (D.int 2)) AO))) (AC (BN (AC (wC (D.int 1)) (AC (wC (D.int 1)) AO))) (AC (BN (AC (wC (D.int 3)) (AC (wC (D.int 1)) AO))) (AC (BN (AC (wC (D.int 5)) (AC (wC (D.int 2)) AO))) (AC (BN (AC (wC (D.int 1000)) (AC (wC (D.int 999)) AO))) (AC (BN (AC (Ag (L0 JJ λi j=>D.int (i ^ j.toNat)) (wC (D.int 10)) (wC (D.int 6))) (AC (wC (D.int 1)) AO))) (AC (BN (AC (Ag (L0 JJ λi j=>D.int (i ^ j.toNat)) (wC (D.int 10)) (wC (D.int 6))) (AC (Ag (L0 JJ λi j=>D.int (i ^ j.toNat)) (wC (D.int 10)) (wC (D.int 6))) AO))) AO))))))))))
 (Ae (A7 2 (AZ A4 (AF (Ax 0) (AF (AQ (wC (D.int 12))) AX))))
 (Ae (DQ (Ap (Ag Fe (AG 2) (wC (D.int 8)))) (BO (Ag DK (AG 1) (AG 2))) B2)
 (Ae (A7 3 (Ag Aq (wC (D.int 1)) (AZ A4 (AF (Ax 0) (AF (AQ (wC (D.int 20))) AX)))))
 (BO (BN (AC (Ag Aq (AG 3) (AZ A4 (AF (Ax 0) (AF (AQ (Ag GW (wC (D.int 3)) (AG 3))) AX)))) (AC (AG 3) AO))))))))
section
variable {ss:List Slot}{n:Nat}{Pd:D->Nat->Prop}
theorem Tp{i j:Int}(h0:0<=i)(h1:i<=1000000):CMul i j:=.inl ⟨by omega,by omega⟩
theorem G4(h:Hg ss n Pd):Dq (EE Pd) n (ss++Is 3 .no):=by
 obtain⟨rfl,hn,p⟩:=h
 unfold Dq
 refine⟨z2,z2,z2,z2,z2,z2,S9,z2,S9,S9,z2,(by decide:8<=sizeLine),?_⟩
 refine⟨12,rfl,by decide,by decide,by omega,λr r0 r1=>?_⟩
 refine CL (λc=>?_) λc=>?_
 ·have c:r<8:=of_decide_eq_true c
  obtain⟨z,hz,t,b,rfl,b0,bt,t1⟩:=JC (p:=λd=>∃t b:Int,d=.tup [.int t,.int b]/\1<=b/\b<=t/\t<=1000000) (xs:=[.tup [.int 2,.int 1],.tup [.int 3,.int 2],.tup [.int 1,.int 1],.tup [.int 3,.int 1],.tup [.int 5,.int 2],.tup [.int 1000,.int 999],.tup [.int ((10:Int) ^ (6:Int).toNat),.int 1],.tup [.int ((10:Int) ^ (6:Int).toNat),.int ((10:Int) ^ (6:Int).toNat)]]) (λd hd=>by
   simp only [TM,UA,or_false] at hd
   rcases hd with rfl | rfl | rfl | rfl | rfl | rfl | rfl | rfl <;> exact⟨_,_,rfl,by decide,by decide,by decide⟩) r0 (by show r<8; exact c)
  exact⟨_,hz,p t b _ b0 bt t1 (by omega)⟩
 ·refine⟨20,rfl,by decide,by decide,by omega,λs s0 s1=>?_⟩
  refine⟨Tp (by decide) (by decide),_,rfl,by omega,by omega,by omega,λu u0 u1=>⟨z2,p _ _ _ (by omega) (by omega) (by omega) (by omega)⟩⟩
end
end Nt
set_option maxHeartbeats 400000
namespace Nt
open PySem PySem.Spec PyProof.Rows L2 Dp
noncomputable def Iw:List Str:=["NoPaper","NoLine","TooMany","Twice","NoPlace","NoTie","NoRow"]
noncomputable def Ba:W2:=λss n P=>∃(a:Addr) (nm:Str) (ks:List Str) (ds:List D) (j:Nat),ss=[.ex a nm ks ds]/\j<7/\Iw[j]?=some nm/\P (.lst [.int j]) n
noncomputable def CN(j:Nat)(x:Str)(m:Int):D:=.tup [.lst [.int j],if j=0 then .tup [.str x,.int m] else if j=1 then .tup [.int m,.int (m+1)] else .non]
noncomputable def Ex:W2:=λss n P=>∃(j:Nat) (x:Str) (m:Int),ss=[.sh (.int j),.sh (.str x),.sh (.int m)]/\j<7/\P (CN j x m) n
noncomputable def noPaper(k:Nat)(d:D):Prop:=d=.non\/d=.str "ways"\/∃m:Nat,d=.tup (Is m .non)/\1<=m/\m<=100/\m≠k
noncomputable def Cd(g:Bool):WX:=λss n P Pr=>∃(N:Net) (t b:Int) (d:D),ss=[.sh (Ik N),.sh (.tup [.int t,.int b]),.sh (Ik N),.sh d]/\N.Ok/\N.ps.length<=24/\N.ts.length<=60/\noPaper (if g=true then N.ts.length else 0) d/\Pr "NoPaper" ["word","number"] [.str "shape",.int 0] n
noncomputable def DV:D:=.tup [.lst [.int 0],.tup [.str "shape",.int 0]]
noncomputable def Hk:W2:=λss n P=>∃(j:Nat) (N:Net) (t b:Int) (d:D),ss=[.sh (.int j),.sh (Ik N),.sh (.tup [.int t,.int b]),.sh d]/\j<2/\N.Ok/\N.ps.length<=24/\N.ts.length<=60/\noPaper 0 d/\noPaper N.ts.length d/\P DV n
noncomputable def B7:AW:=(Ae (A7 1 (Cq (AC (Gp 0 "NoPaper") (AC (Gp 0 "NoLine") (AC (Gp 0 "TooMany") (AC (Gp 0 "Twice") AO))))))
 (Ae (A7 1 (Ag Aq (AG 1) (Cq (AC (Gp 0 "NoPlace") (AC (Gp 0 "NoTie") (AC (Gp 0 "NoRow") AO))))))
 (BO (Sg (Ap (MJ 0)) (CM [some 1,none] (Bj (AC (wC (D.int 7)) AO)) (BC 1) (Ap (Ag DK (AG 0) (AG 1))) (AG 1)) (Cq AO)))))
noncomputable def CJ:AW:=(Ae (A7 3 (BN (AC (Cq AO) (AC (wC D.non) AO))))
 (Ae (Pm (JQ (Ap (Ag (GX false) (AG 0) (wC (D.int 0)))) (Br "NoPaper" ["word","number"] (AC (AG 1) (AC (AG 2) AO)))
 (JQ (Ap (Ag (GX false) (AG 0) (wC (D.int 1)))) (Br "NoLine" ["row","word"] (AC (AG 2) (AC (Ag Aq (AG 2) (wC (D.int 1))) AO)))
 (JQ (Ap (Ag (GX false) (AG 0) (wC (D.int 2)))) (Br "TooMany" [] (AC (AG 1) AO))
 (JQ (Ap (Ag (GX false) (AG 0) (wC (D.int 3)))) (Br "Twice" [] (AC (AG 1) AO))
 (JQ (Ap (Ag (GX false) (AG 0) (wC (D.int 4)))) (Br "NoPlace" [] (AC (AG 1) AO))
 (JQ (Ap (Ag (GX false) (AG 0) (wC (D.int 5)))) (Br "NoTie" [] (AC (AG 1) AO))
 (Br "NoRow" [] (AC (AG 1) AO))))))))
 (E4 "NoPaper" 4 (λa=>(A7 3 (BN (AC (Dw a 4 Ba (AF (E5 4) AX)) (AC (BN (AC (Ni 4 "word") (AC (Ni 4 "number") AO))) AO)))))
 (E4 "NoLine" 4 (λa=>(A7 3 (BN (AC (Dw a 4 Ba (AF (E5 4) AX)) (AC (BN (AC (Ni 4 "row") (AC (Ni 4 "word") AO))) AO)))))
 (E4 "ThinError" 4 (λa=>(A7 3 (BN (AC (Dw a 4 Ba (AF (E5 4) AX)) (AC (wC D.non) AO)))))
 Gq))))
 (BO (AG 3))))
noncomputable def Dr:AW:=(Ae (A7 4 (wC D.non))
 (Ae (Pm (Pn (Ap (Ag (GX false) (AG 0) (wC (D.int 0)))) (JR (JS (Cd false) (AF (AQ (AG 1)) (AF (AQ (AG 2)) (AF (AQ (AG 1)) (AF (AQ (AG 3)) AX)))))) (JR (JS (Cd true) (AF (AQ (AG 1)) (AF (AQ (AG 2)) (AF (AQ (AG 1)) (AF (AQ (AG 3)) AX)))))))
 (E4 "NoPaper" 5 (λa=>(A7 4 (BN (AC (Dw a 5 Ba (AF (E5 5) AX)) (AC (BN (AC (Ni 5 "word") (AC (Ni 5 "number") AO))) AO)))))
 Gq))
 (BO (AG 4))))
noncomputable def B0(Pr:PX):AW:=(Ae (DQ (Nn (E3 (Ap (AZ JF (AF (AQ (AG 0)) (AF (AQ (AG 2)) AX))))) (E3 (Ap (AZ B8 (AF (AQ (F2 Ii (AC (AZ LC (AF (AQ (AG 0)) (AF (AQ (AG 2)) AX))) AO))) (AF (AQ (AG 3)) AX)))))) (λD2=>(Br "NoPaper" ["word","number"] (AC (wC (D.str "shape")) (AC (wC (D.int 0)) AO))) D2 Pr) B2) JP)
noncomputable def Bc(Pr:PX):AW:=(Ae (DQ (Nn (E3 (Ap (AZ JF (AF (AQ (AG 0)) (AF (AQ (AG 2)) AX))))) (E3 (Ap (AZ B8 (AF (AQ (F2 Ii (AC (Ag DK (AG 0) (wC (D.int 1))) AO))) (AF (AQ (AG 3)) AX)))))) (λD2=>(Br "NoPaper" ["word","number"] (AC (wC (D.str "shape")) (AC (wC (D.int 0)) AO))) D2 Pr) B2) JP)
noncomputable def K3:AW:=(Ae (Gr (Bj (AC (wC (D.int 3)) AO)) (BC 2) (Ae (A7 3 (Ag DK (Cq (AC (wC (D.str "way")) (AC (wC (D.str "far")) (AC (wC (D.str "shape")) (AC (wC (D.str "")) (AC (wC (D.str "in")) AO)))))) (AZ A4 (AF (Ax 1) (AF (AQ (wC (D.int 5))) AX)))))
 (Ae (A7 4 (AZ A4 (AF (Ax 1) (AF (AQ (wC (D.int 100))) AX))))
 (Ae (A7 5 (Cq (AC (BN (AC (AG 3) (AC (AG 4) AO))) (AC (BN (AC (AG 4) (AC (Ag Aq (AG 4) (wC (D.int 1))) AO))) (AC (wC D.non) (AC (wC D.non) (AC (wC D.non) (AC (wC D.non) (AC (wC D.non) AO)))))))))
 (Ae (Gr (Bj (AC (wC (D.int 7)) AO)) (BC 6) (DQ (Ap (Ag (GX true) (F2 Ih (AC (AZ Ex (AF (AQ (AG 6)) (AF (AQ (AG 3)) (AF (AQ (AG 4)) AX)))) AO)) (F2 Ih (AC (BN (AC (Cq (AC (AG 6) AO)) (AC (Ag DK (AG 5) (AG 6)) AO))) AO)))) (BO (wC (D.bl false))) B2))
 (Ae (A7 7 (AZ Oi (AF (Ax 1) (AF (AQ (wC (D.int 6))) (AF (AQ (wC (D.int 8))) AX)))))
 (Gr (Bj (AC (wC (D.int 2)) AO)) (BC 6) (Ae (A7 8 (Ag DK (Cq (AC (wC D.non) (AC (wC (D.str "ways")) (AC (Ag NE (BN (AC (wC D.non) AO)) (Ag Aq (F2 Ii (AC (Ag DK (AG 7) (wC (D.int 1))) AO)) (wC (D.int 1)))) AO)))) (AG 2)))
 (DQ (Ap (Ag (GX true) (F2 Ih (AC (AZ Hk (AF (AQ (AG 6)) (AF (AQ (AG 7)) (AF (AQ (AZ Hg (AF (Ax 1) AX))) (AF (AQ (AG 8)) AX))))) AO)) (F2 Ih (AC (BN (AC (Cq (AC (wC (D.int 0)) AO)) (AC (BN (AC (wC (D.str "shape")) (AC (wC (D.int 0)) AO))) AO))) AO)))) (BO (wC (D.bl false))) B2)))))))))
 (BO (wC (D.bl true))))
section
variable {ss:List Slot}{n:Nat}{Pd:D->Nat->Prop}{Pr:PX}
theorem PL{c A B:Prop}[Decidable c](h:c)(x:A):if c then A else B:=by rw [if_pos h]; exact x
theorem NB{c A B:Prop}[Decidable c](h:¬c)(x:B):if c then A else B:=by rw [if_neg h]; exact x
theorem Qo:∀i j:Fin 7,decide (Iw[j.val]?=Iw[i.val]?)=decide (j.val=i.val):=by decide +kernel
theorem CH{nm c:Str}{j:Nat}(i:Nat)(hi:i<7)(hj:j<7)(e:Iw[j]?=some nm)(ec:Iw[i]?=some c):decide (nm=c)=decide (j=i):=by
 have h:=Qo ⟨i,hi⟩ ⟨j,hj⟩
 dsimp only at h
 rw [e,ec] at h
 rw [← h]
 simp
theorem G7(h:Ba ss n Pd):B7 (EE Pd) n (ss++Is 1 .no):=by
 obtain⟨a,nm,ks,ds,j,rfl,hj,e,p⟩:=h
 have e0:=CH (c := "NoPaper") 0 (by decide) hj e rfl
 have e1:=CH (c := "NoLine") 1 (by decide) hj e rfl
 have e2:=CH (c := "TooMany") 2 (by decide) hj e rfl
 have e3:=CH (c := "Twice") 3 (by decide) hj e rfl
 have e4:=CH (c := "NoPlace") 4 (by decide) hj e rfl
 have e5:=CH (c := "NoTie") 5 (by decide) hj e rfl
 have e6:=CH (c := "NoRow") 6 (by decide) hj e rfl
 unfold B7
 refine⟨by show (4:Nat)<=sizeLine; decide,by show (3:Nat)<=sizeLine; decide,by show (4:Nat)+3<=sizeLine; decide,?_⟩
 rw [e0,e1,e2,e3,e4,e5,e6]
 refine⟨7,rfl,⟨by decide,by decide⟩,by decide,?_⟩
 rcases (by omega:j=0\/j=1\/j=2\/j=3\/j=4\/j=5\/j=6) with rfl | rfl | rfl | rfl | rfl | rfl | rfl
 all_goals
  iterate 7 refine⟨_,rfl,?_⟩
  exact p
theorem TV(d e:D):UU ("word" : Str) ((["word","number"]:List Str).zip [d,e])=some d:=rfl
theorem TU(d e:D):UU ("number" : Str) ((["word","number"]:List Str).zip [d,e])=some e:=by simp [UU]; rw [show (("number" : Str) == "word")=false by decide]
theorem To(d e:D):UU ("row" : Str) ((["row","word"]:List Str).zip [d,e])=some d:=rfl
theorem Tl(d e:D):UU ("word" : Str) ((["row","word"]:List Str).zip [d,e])=some e:=by simp [UU]; rw [show (("word" : Str) == "row")=false by decide]
theorem IG(h:Ex ss n Pd):CJ (EE Pd) n (ss++Is 2 .no):=by
 obtain⟨j,x,m,rfl,hj,p⟩:=h
 unfold CJ
 refine⟨by decide,by decide,?_⟩
 rcases (by omega:j=0\/j=1\/j=2\/j=3\/j=4\/j=5\/j=6) with rfl | rfl | rfl | rfl | rfl | rfl | rfl
 ·refine .inr ⟨rfl,rfl,?_⟩
  refine PL (Tw rfl) λa=>⟨⟨_,_,_,rfl⟩,a,_,_,_,0,rfl,by decide,rfl,?_⟩
  exact⟨_,TV _ _,_,TU _ _,(by decide:2<=sizeLine),(by decide:2<=sizeLine),p⟩
 ·refine .inr ⟨rfl,rfl,?_⟩
  refine NB (by decide) (PL (Tw rfl) λa=>⟨⟨_,_,_,rfl⟩,a,_,_,_,1,rfl,by decide,rfl,?_⟩)
  exact⟨_,To _ _,_,Tl _ _,(by decide:2<=sizeLine),(by decide:2<=sizeLine),p⟩
 ·refine .inl ⟨rfl,(by decide:1<=100),?_⟩
  exact NB (by decide) (NB (by decide) (PL (UH rfl) λa=>⟨⟨_,_,_,rfl⟩,a,_,_,_,2,rfl,by decide,rfl,(by decide:2<=sizeLine),p⟩))
 ·refine .inl ⟨rfl,(by decide:1<=100),?_⟩
  exact NB (by decide) (NB (by decide) (PL (UH rfl) λa=>⟨⟨_,_,_,rfl⟩,a,_,_,_,3,rfl,by decide,rfl,(by decide:2<=sizeLine),p⟩))
 ·refine .inl ⟨rfl,(by decide:1<=100),?_⟩
  exact NB (by decide) (NB (by decide) (PL (UH rfl) λa=>⟨⟨_,_,_,rfl⟩,a,_,_,_,4,rfl,by decide,rfl,(by decide:2<=sizeLine),p⟩))
 ·refine .inl ⟨rfl,(by decide:1<=100),?_⟩
  exact NB (by decide) (NB (by decide) (PL (UH rfl) λa=>⟨⟨_,_,_,rfl⟩,a,_,_,_,5,rfl,by decide,rfl,(by decide:2<=sizeLine),p⟩))
 ·refine .inl ⟨rfl,(by decide:1<=100),?_⟩
  exact NB (by decide) (NB (by decide) (PL (UH rfl) λa=>⟨⟨_,_,_,rfl⟩,a,_,_,_,6,rfl,by decide,rfl,(by decide:2<=sizeLine),p⟩))
theorem MV(h:Hk ss n Pd):Dr (EE Pd) n (ss++Is 2 .no):=by
 obtain⟨j,N,t,b,d,rfl,hj,ok,lp,lt,h0,h1,p⟩:=h
 unfold Dr
 have fin:∀m,m=n->E4 "NoPaper" 5 (λa=>(A7 4 (BN (AC (Dw a 5 Ba (AF (E5 5) AX)) (AC (BN (AC (Ni 5 "word") (AC (Ni 5 "number") AO))) AO))))) Gq { EE Pd with nx:=BO (AG 4) (EE Pd) } "NoPaper" ["word","number"] [.str "shape",.int 0] m [.sh (.int j),.sh (Ik N),.sh (.tup [.int t,.int b]),.sh d,.sh .non,.no]:=λm em=>by
  subst em
  refine PL (Tw rfl) λa=>⟨⟨_,_,_,rfl⟩,a,_,_,_,0,rfl,by decide,rfl,?_⟩
  exact⟨_,TV _ _,_,TU _ _,(by decide:2<=sizeLine),(by decide:2<=sizeLine),p⟩
 rcases (by omega:j=0\/j=1) with rfl | rfl
 ·exact⟨N,t,b,d,rfl,ok,lp,lt,h0,fin n rfl⟩
 ·exact⟨N,t,b,d,rfl,ok,lp,lt,h1,fin n rfl⟩
theorem noPaper.of{k:Nat}{d:D}(h:noPaper k d):tupleOfB k d=false:=by
 rcases h with rfl | rfl | ⟨m,rfl,_,_,ne⟩
 ·rfl
 ·rfl
 ·show ((((Is m D.non).length:Nat):Int)==(k:Int))=false
  rw [VS]
  simp
  omega
theorem GG{N:Net}(ok:N.Ok):DU N (Ik N)=true:=thinB_iff.mpr ⟨N.ts,rfl,λ_ h=>h,ok.trise⟩
theorem FG(h:Cd false ss n Pd Pr):B0 Pr (EE Pd) n (ss++Is 3 .no):=by
 obtain⟨N,t,b,d,rfl,ok,lp,lt,hd,p⟩:=h
 have sz:=MM (Kl ok) (De ok) (by rw [Ev]; omega) (by rw [Ev]; omega)
 unfold B0
 refine⟨N,Ik N,rfl,ok,lp,lt,(GV (by decide) _).1 _ (Go _) sz.1,by have:=sz.2.1; show JW (.tup [.tup _,.tup _])<=_; omega,by have:=sz.2.2; show J_ (.tup [.tup _,.tup _])<=_; omega,?_⟩
 show if (!DU N (Ik N))=true then _ else _
 rw [GG ok]
 refine M5 ⟨N,N.ts,rfl,ok,by omega,λ_ h=>h,λlo p1 p2=>⟨_,_,rfl,rfl,?_⟩⟩
 have e:lo=[]:=by
  have z:(N.ts.filter λt=>decide (t∉N.ts))=[]:=List.filter_eq_nil_iff.mpr λt ht=>by simp [ht]
  rw [z] at p1
  exact List.perm_nil.mp p1
 subst e
 refine⟨0,d,rfl,?_⟩
 show if (!tupleOfB 0 d)=true then _ else _
 rw [show tupleOfB 0 d=false from noPaper.of (k:=0) hd]
 exact .inr ⟨rfl,rfl,p⟩
theorem D1(h:Cd true ss n Pd Pr):Bc Pr (EE Pd) n (ss++Is 3 .no):=by
 obtain⟨N,t,b,d,rfl,ok,lp,lt,hd,p⟩:=h
 have sz:=MM (Kl ok) (De ok) (by rw [Ev]; omega) (by rw [Ev]; omega)
 unfold Bc
 refine⟨N,Ik N,rfl,ok,lp,lt,(GV (by decide) _).1 _ (Go _) sz.1,by have:=sz.2.1; show JW (.tup [.tup _,.tup _])<=_; omega,by have:=sz.2.2; show J_ (.tup [.tup _,.tup _])<=_; omega,?_⟩
 show if (!DU N (Ik N))=true then _ else _
 rw [GG ok]
 refine M5 ⟨_,AY (j:=1) rfl,_,_,rfl,rfl,(N.ts.length:Int),d,?_,?_⟩
 ·show [Slot.sh (D.int (((N.ts.map Aw).length:Nat):Int)),Slot.sh d]=_
  rw [Ev]
 ·show if (!tupleOfB (N.ts.length:Int) d)=true then _ else _
  rw [show tupleOfB (N.ts.length:Int) d=false from noPaper.of hd]
  exact .inr ⟨rfl,rfl,p⟩
noncomputable def MH(x:Str):Prop:=x.length<=5/\∀c∈cs x,c<1114112
theorem LP{j:Nat}{x:Str}{m:Int}(hj:j<7)(hx:MH x)(h0:0<=m)(h1:m<100):KS (CN j x m):=by
 have hl:=hx.1
 refine KR (B:=1000) (by decide) ?_ ?_ ?_
 ·unfold CN
  refine⟨⟨by show WJ _<=_; omega,trivial⟩,?_,trivial⟩
  split
  ·exact⟨hx.2,by show WJ _<=_; omega,trivial⟩
  ·split
   ·exact⟨by show WJ _<=_; omega,by show WJ _<=_; omega,trivial⟩
   ·trivial
 ·unfold CN
  split
  ·simp [J_,F9]
  ·split <;> simp [J_,F9]
 ·unfold CN
  split
  ·simp [JW,JK]; omega
  ·split <;> simp [JW,JK]
theorem E_:KS DV:=by
 refine KR (B:=1000) (by decide) ⟨⟨by show WJ 0<=1000; decide,trivial⟩,⟨by show ∀c∈cs "shape",c<1114112; decide,by show WJ 0<=1000; decide,trivial⟩,trivial⟩ (by decide) (by decide)
noncomputable def J9(x:Str)(y:Int):List D:=[.tup [.str x,.int y],.tup [.int y,.int (y+1)],.non,.non,.non,.non,.non]
theorem Qi{x:Str}{y:Int}{j:Nat}(hj:j<7):atI (J9 x y) (j:Int)=some (if j=0 then .tup [.str x,.int y] else if j=1 then .tup [.int y,.int (y+1)] else .non):=by
 refine AY ?_
 rcases (by omega:j=0\/j=1\/j=2\/j=3\/j=4\/j=5\/j=6) with rfl | rfl | rfl | rfl | rfl | rfl | rfl <;> rfl
theorem Mm{i k:Nat}(hi:i<3)(hk:k<=60):∃z,atI [.non,.str "ways",.tup (Is (k+1) .non)] (i:Int)=some z/\noPaper 0 z/\noPaper k z:=by
 rcases (by omega:i=0\/i=1\/i=2) with rfl | rfl | rfl
 ·exact⟨_,AY rfl,.inl rfl,.inl rfl⟩
 ·exact⟨_,AY rfl,.inr (.inl rfl),.inr (.inl rfl)⟩
 ·exact⟨_,AY rfl,.inr (.inr ⟨k+1,rfl,by omega,by omega,by omega⟩),.inr (.inr ⟨k+1,rfl,by omega,by omega,by omega⟩)⟩
theorem HE{d:D}{k:Nat}(h:d∈Bg 0 k):∃j:Nat,d=.int j/\j<k:=by
 unfold Bg at h
 obtain⟨j,hj,rfl⟩:=T2.mp h
 exact⟨j,by simp,UK.mp hj⟩
theorem Jf:K3 { nx:=λ_ _=>False,rt:=λd _=>d=.bl true } 9000 (.no::.fd::Is 7 .no):=by
 have szl:=PySem.sizeLine_eq
 unfold K3
 refine⟨3,rfl,⟨by decide,by decide⟩,?_⟩
 refine Cj (λk m ρ=>2000*k<=m/\∃s2 s3 s4 s5 s6 s7 s8,ρ=[.no,.fd,s2,s3,s4,s5,s6,s7,s8]) ?_ _ _ _ ?_ ⟨by rw [BG]; show 2000*3<=9000; omega,_,_,_,_,_,_,_,rfl⟩
 ·rintro m ρ ⟨hm,s2,s3,s4,s5,s6,s7,s8,rfl⟩
  rfl
 rintro k d m ρ nx hd ⟨hm,s2,s3,s4,s5,s6,s7,s8,rfl⟩ hnx
 obtain⟨i,rfl,hi⟩:=HE hd
 refine⟨(by decide:5<=sizeLine),5,rfl,by decide,by decide,by omega,λr r0 r1=>?_⟩
 obtain⟨z,hz,x,rfl,hx⟩:=JC (p:=λd=>∃x:Str,d=.str x/\MH x) (xs:=[.str "way",.str "far",.str "shape",.str "",.str "in"]) (λd hd=>by
  simp only [TM,UA,or_false] at hd
  rcases hd with rfl | rfl | rfl | rfl | rfl <;> exact⟨_,rfl,by decide,by decide⟩) r0 r1
 refine⟨_,hz,100,rfl,by decide,by decide,by omega,λy y0 y1=>?_⟩
 refine⟨z2,z2,(by decide:7<=sizeLine),?_⟩
 refine⟨7,rfl,⟨by decide,by decide⟩,?_⟩
 refine Cj (λ_ m' ρ=>m'=m - 1 - 1/\∃s6,ρ=[.no,.fd,.sh (.int i),.sh (.str x),.sh (.int y),.sh (.lst (J9 x y)),s6,s7,s8]) ?_ _ _ _ ?_ ⟨rfl,_,rfl⟩
 ·rintro m' ρ ⟨rfl,s6,rfl⟩
  refine⟨6,8,rfl,by decide,by decide,by omega,λN n1 ok l1 a1 b1 hn1=>?_⟩
  refine⟨2,rfl,⟨by decide,by decide⟩,?_⟩
  refine Cj (λk' m' ρ=>3*k'+(m - 1600)<=m'+6/\∃s6 s8,ρ=[.no,.fd,.sh (.int i),.sh (.str x),.sh (.int y),.sh (.lst (J9 x y)),s6,.sh (Ik N),s8]) ?_ _ _ _ ?_ ⟨by rw [BG]; show 3*2+(m - 1600)<=n1+6; omega,_,_,rfl⟩
  ·rintro m' ρ ⟨hm',s6,s8,rfl⟩
   exact hnx _ _ ⟨by omega,_,_,_,_,_,_,_,rfl⟩
  ·rintro k' d m' ρ nx2 hd ⟨hm',s6,s8,rfl⟩ hnx2
   obtain⟨j,rfl,hj⟩:=HE hd
   obtain⟨z,hz,np0,np1⟩:=Mm (i:=i) (k:=N.ts.length) hi (by omega)
   have hz':atI [.non,.str "ways",.tup (Is ((((Wo Aw N.ts).length:Nat):Int)+1).toNat .non)] (i:Int)=some z:=by
    rw [Ev,show ((N.ts.length:Int)+1).toNat=N.ts.length+1 by omega]
    exact hz
   have hl:(Wo Aw N.ts).length=N.ts.length:=Ev _
   refine⟨z1,_,AY (j:=1) rfl,_,(Wo Aw N.ts).length,rfl,rfl,?_⟩
   refine⟨?_,?_,(by decide:3<=sizeLine),?_⟩
   ·show (1:Int)<=(((Wo Aw N.ts).length:Nat):Int)+1
    omega
   ·show (((Wo Aw N.ts).length:Nat):Int)+1<1000000
    omega
   refine⟨z,hz',rfl,by omega,λt b n2 b1 bt tt hn2=>⟨j,N,t,b,z,rfl,hj,ok,by omega,by omega,np0,np1,DV,rfl,E_,?_⟩⟩
   generalize hY:Gw DV=Y
   refine⟨z1,z2,z2,DV,rfl,E_,?_⟩
   rw [hY]
   show if (!(Y==Y))=true then _ else _
   rw [beq_self_eq_true]
   exact hnx2 _ _ ⟨by omega,_,_,rfl⟩
 ·rintro k' d m' ρ nx2 hd ⟨rfl,s6,rfl⟩ hnx2
  obtain⟨j,rfl,hj⟩:=HE hd
  have sh:=LP hj hx y0 y1
  refine⟨j,x,y,rfl,hj,CN j x y,rfl,sh,?_⟩
  generalize hY:Gw (CN j x y)=Y
  refine⟨z1,_,Qi hj,z2,CN j x y,rfl,sh,?_⟩
  rw [hY]
  show if (!(Y==Y))=true then _ else _
  rw [beq_self_eq_true]
  exact hnx2 _ _ ⟨rfl,_,rfl⟩
end
end Nt
set_option maxHeartbeats 4000000
namespace K17
open PySem PySem.Spec PyProof.Rows L2 Dp Nt
section
variable (P:Program)(w:World)(K:Frag)(mg:Str->Option Value)(base:Heap)
noncomputable abbrev Fy:Prop:=Got P w K mg base "is_whole" 1 ["thing"] .sh Hf
noncomputable abbrev BZ:Prop:=Got P w K mg base "is_tuple_of" 1 ["count","thing"] .sh B8
noncomputable abbrev Ed:Prop:=Got P w K mg base "is_rising" 1 ["things"] .sh Ew
noncomputable abbrev Gj:Prop:=Got P w K mg base "rank_of" 1 ["tie"] .sh LB
noncomputable abbrev Fw:Prop:=Got P w K mg base "order_of" 4 ["ties"] .fr Hj
noncomputable abbrev Ec:Prop:=Got P w K mg base "is_tie_of" 2 ["net","thing"] .sh Oh
noncomputable abbrev EJ:Prop:=Got P w K mg base "is_thin" 3 ["net","thing"] .sh JF
noncomputable abbrev Fx:Prop:=Got P w K mg base "left_out" 5 ["net","thin"] .fr LC
noncomputable abbrev Cz:Prop:=Om P w K mg base "lets_greedy" 5 ["net","times","thin","paper"] .sh (Cd true)
noncomputable abbrev Eb:Prop:=Om P w K mg base "lets_ways" 6 ["net","times","thin","paper"] .sh (Cd false)
noncomputable abbrev BM:Prop:=Got P w K mg base "_law_next" 1 ["_law_feed_here","_law_many"] .sh A4
noncomputable abbrev C2:Prop:=Got P w K mg base "_law_places" 2 ["_law_feed_here","_law_many"] .fr Ey
noncomputable abbrev C3:Prop:=Got P w K mg base "_law_length" 2 ["_law_feed_here","_law_scale"] .sh Oj
noncomputable abbrev Fz:Prop:=Got P w K mg base "_law_net" 3 ["_law_feed_here","_law_most","_law_ties"] .sh Oi
noncomputable abbrev Ds:Prop:=Got P w K mg base "_law_times" 2 ["_law_feed_here"] .sh Hg
noncomputable abbrev Bm:Prop:=Q4 P w K mg base "_law_classes" 1 ["_law_e"] .sh Ba
noncomputable abbrev C1:Prop:=Got P w K mg base "_law_raised" 3 ["_law_which","_law_word","_law_number"] .sh Ex
noncomputable abbrev F1:Prop:=Got P w K mg base "_law_let" 7 ["_law_which","_law_net_here","_law_times_here","_law_paper"] .sh Hk
end
section
variable {P:Program}{w:World}{K:Frag}{mg:Str->Option Value}{base:Heap}
theorem Eg:AT ["self","word","number"] ["self","word","number"] (AD BA):=by constructor <;> first | rfl | decide +kernel
theorem Ei{f C U:Addr}{fd:FuncData}(c:XC K "NoPaper" C U)(F:Fun K "__init__" "NoPaper.__init__" BA f fd):A1 P w K mg base Bn 1 f fd ["self","word","number"] (Dx C "word" "number"):=by
 refine F.ok Eg (λvs H Q E h=>by obtain⟨a,v1,v2,rfl,_⟩:=h; rfl) (λcdv A outer s H vs Q E hr h=>?_)
 obtain⟨a,v1,v2,rfl,ha,hq⟩:=h
 refine⟨_,Ay (O_ c c.nw (pv 0) (pv 1) rfl) (Bp (O9 c c.nn (pv 0) (pv 2) rfl)),?_⟩
 refine⟨v1,rfl,V.ref a,rfl,a,rfl,ha,λd hd hne=>⟨v2,rfl,V.ref a,rfl,a,d,[(("word" : Str),v1)],rfl,AJ,?_,(by decide:1<1000),?_⟩⟩
 ·rw [AH hne,AJ]
 ·rw [show B4 "number" v2 [(("word" : Str),v1)]=[(("word" : Str),v1),(("number" : Str),v2)] from by unfold B4; rw [if_neg (by decide)]; rfl]
  exact hq d hd hne
theorem FE:AT ["self","row","word"] ["self","row","word"] (AD BF):=by constructor <;> first | rfl | decide +kernel
theorem FT{f C U:Addr}{fd:FuncData}(c:XC K "NoLine" C U)(F:Fun K "__init__" "NoLine.__init__" BF f fd):A1 P w K mg base Bn 1 f fd ["self","row","word"] (Dx C "row" "word"):=by
 refine F.ok FE (λvs H Q E h=>by obtain⟨a,v1,v2,rfl,_⟩:=h; rfl) (λcdv A outer s H vs Q E hr h=>?_)
 obtain⟨a,v1,v2,rfl,ha,hq⟩:=h
 refine⟨_,Ay (O_ c c.nr (pv 0) (pv 1) rfl) (Bp (O9 c c.nw (pv 0) (pv 2) rfl)),?_⟩
 refine⟨v1,rfl,V.ref a,rfl,a,rfl,ha,λd hd hne=>⟨v2,rfl,V.ref a,rfl,a,d,[(("row" : Str),v1)],rfl,AJ,?_,(by decide:1<1000),?_⟩⟩
 ·rw [AH hne,AJ]
 ·rw [show B4 "word" v2 [(("row" : Str),v1)]=[(("row" : Str),v1),(("word" : Str),v2)] from by unfold B4; rw [if_neg (by decide)]; rfl]
  exact hq d hd hne
theorem IE:AT ["thing"] ["thing"] (AD C8):=by constructor <;> first | rfl | decide +kernel
theorem IR{f:Addr}{fd:FuncData}(T:Txt K mg)(F:Fun K "is_whole" "is_whole" C8 f fd):A1 P w K mg base Bn 1 f fd ["thing"] (Ef K .sh Hf 1):=by
 exact Kn F IE (by decide) (λcdv A outer s H E hr=>(AR (An (Fj (HR OP (dv 0) rfl T.n_isinstance rfl T.n_int (by decide +kernel)) (HQ (Ql (HR Mx (dv 0) rfl T.n_isinstance rfl T.n_bool (by decide +kernel)))))))) (λss n Pd hl hw=>IJ hw)
theorem FC:AT ["count","thing"] ["count","thing"] (AD Bt):=by constructor <;> first | rfl | decide +kernel
theorem FP{f:Addr}{fd:FuncData}(T:Txt K mg)(F:Fun K "is_tuple_of" "is_tuple_of" Bt f fd):A1 P w K mg base Bn 1 f fd ["count","thing"] (Ef K .sh B8 2):=by
 exact Kn F FC (by decide) (λcdv A outer s H E hr=>(AR (An (Fj (HR kit_tuple (dv 1) rfl T.n_isinstance rfl T.n_tuple (by decide +kernel)) (HQ (HS B6 EI (As BS Fv rfl T.n_len PySem.boot_len (AN (dv 1) AV)) (dv 0) (Ah _))))))) (λss n Pd hl hw=>FH hw)
theorem Gz:AT ["things"] ["things"] (AD CS):=by constructor <;> first | rfl | decide +kernel
theorem HB{f:Addr}{fd:FuncData}(T:Txt K mg)(F:Fun K "is_rising" "is_rising" CS f fd):A1 P w K mg base Bn 1 f fd ["things"] (Ef K .sh Ew 1):=by
 exact Kn F Gz (by decide) (λcdv A outer s H E hr=>(AR (An (As (JA rfl) Pe rfl T.n_all W3 (AN (Co rfl [("ahead" : Str),("behind" : Str)] [none,none] (Oa rfl T.n_zip (AN (dv 0) (AN (Kx N1 LA (dv 0) (Dj AE) HN) AV))) (λ_ _ _ _ _=>(Qk rfl (Iq (A9 (i:=0) (show VY [("ahead" : Str),("behind" : Str)] by decide +kernel) rfl (Tw rfl)) (Iq (A9 (i:=1) (show VY [("ahead" : Str),("behind" : Str)] by decide +kernel) rfl (Tw rfl)) Ob)))) (λ_ _ _ _ _=>Dk) (λ_ _ _ _ _=>(HS (FN hr) JE (dv 0) (dv 1) (Ah _))) (by kernel_rfl)) AV))))) (λss n Pd hl hw=>G6 hw)
theorem Ja:AT ["tie"] ["tie"] (AD Dy):=by constructor <;> first | rfl | decide +kernel
theorem Jr{f:Addr}{fd:FuncData}(T:Txt K mg)(F:Fun K "rank_of" "rank_of" Dy f fd):A1 P w K mg base Bn 1 f fd ["tie"] (Ef K .sh LB 1):=by
 exact Kn F Ja (by decide) (λcdv A outer s H E hr=>(AR (An (Ai (AA (A_ Am Bh (dv 0) AE) (AA (A_ Am Bh (dv 0) AE) (AA (A_ Am Bh (dv 0) AE) AI))))))) (λss n Pd hl hw=>Je hw)
theorem IC:AT ["ties"] ["ties"] (AD C6):=by constructor <;> first | rfl | decide +kernel
theorem IP{f:Addr}{fd:FuncData}(T:Txt K mg)(G_rank_of:Gj P w K mg base)(F:Fun K "order_of" "order_of" C6 f fd):A1 P w K mg base Bn 4 f fd ["ties"] (Ef K .fr Hj 1):=by
 exact Kn F IC (by decide) (λcdv A outer s H E hr=>(AR (An (NQ G_rank_of (hr.mono (by decide)) rfl T.n_sorted rfl (dv 0))))) (λss n Pd hl hw=>IH hw)
theorem Gy:AT ["net","thing"] ["net","thing"] (AD CQ):=by constructor <;> first | rfl | decide +kernel
theorem HA{f:Addr}{fd:FuncData}(T:Txt K mg)(G_is_whole:Fy P w K mg base)(F:Fun K "is_tie_of" "is_tie_of" CQ f fd):A1 P w K mg base Bn 2 f fd ["net","thing"] (Ef K .sh Oh 2):=by
 exact Kn F Gy (by decide) (λcdv A outer s H E hr=>(AR (An (Fj (HS (QO hr) Pb (dv 1) (A_ Am Bh (dv 0) AE) (by with_unfolding_all rfl)) (HQ (AL G_is_whole (hr.mono (by decide)) rfl (AB (AS (A_ Am Bh (dv 1) AE)) AM))))))) (λss n Pd hl hw=>G5 hw)
theorem Jb:AT ["net","thing"] ["net","thing"] (AD Dz):=by constructor <;> first | rfl | decide +kernel
theorem Js{f:Addr}{fd:FuncData}(T:Txt K mg)(G_is_rising:Ed P w K mg base)(G_is_tie_of:Ec P w K mg base)(G_is_tuple_of:BZ P w K mg base)(F:Fun K "is_thin" "is_thin" Dz f fd):A1 P w K mg base Bn 3 f fd ["net","thing"] (Ef K .sh JF 2):=by
 exact Kn F Jb (by decide) (λcdv A outer s H E hr=>(AK (Di (DTW.dt (NM (ED (CY (AL G_is_tuple_of (hr.mono (by decide)) rfl (AB (AS AE) (AB (AS (dv 1)) AM))))) (J7 (ED (CY (HR kit_tuple (A_ Am Bh (dv 1) AE) rfl T.n_isinstance rfl T.n_tuple (by decide +kernel))))))) (AR (An Ky)) BR)
 (AR (An (Fj (HS (QP hr) R8 (A_ Am Bh (dv 1) AE) (A_ Am Bh (dv 0) AE) (Ah _)) (Fj (As (JA rfl) Pe rfl T.n_all W3 (AN (Co rfl [("net" : Str),("tie" : Str)] [some 0,none] (Kv (A_ Am Bh (dv 1) AE)) (λ_ _ _ _ _=>(A9 (i:=1) (show VY [("net" : Str),("tie" : Str)] by decide +kernel) rfl (Tw rfl))) (λ_ _ _ _ _=>Dk) (λ_ _ _ _ _=>(AL G_is_tie_of (hr.mono (by decide)) rfl (AB (AS (dv 0)) (AB (AS (dv 1)) AM)))) (by kernel_rfl)) AV)) (HQ (AL G_is_rising (hr.mono (by decide)) rfl (AB (AS (A_ Am Bh (dv 1) AE)) AM))))))))) (λss n Pd hl hw=>Jg hw)
theorem ID:AT ["net","thin"] ["net","thin"] (AD C7):=by constructor <;> first | rfl | decide +kernel
theorem IQ{f:Addr}{fd:FuncData}(T:Txt K mg)(G_order_of:Fw P w K mg base)(F:Fun K "left_out" "left_out" C7 f fd):A1 P w K mg base Bn 5 f fd ["net","thin"] (Ef K .fr LC 2):=by
 exact Kn F ID (by decide) (λcdv A outer s H E hr=>(AR (An (AL G_order_of (hr.mono (by decide)) rfl (AB (AS (Co rfl [("thin" : Str),("tie" : Str)] [some 1,none] (Kv (A_ Am Bh (dv 0) AE)) (λ_ _ _ _ _=>(A9 (i:=1) (show VY [("thin" : Str),("tie" : Str)] by decide +kernel) rfl (Tw rfl))) (λ_ _ _ _ _=>(Ku (A2 (Ld hr) Pb (dv 1) (A_ Am Bh (dv 0) AE) (by with_unfolding_all rfl)))) (λ_ _ _ _ _=>(dv 1)) (by kernel_rfl))) AM))))) (λss n Pd hl hw=>II hw)
theorem FA:AT ["net","times","thin","paper","number","tie","fault"] ["net","times","thin","paper"] (AD Bs):=by constructor <;> first | rfl | decide +kernel
theorem FO{f:Addr}{fd:FuncData}(T:Txt K mg)(G_is_thin:EJ P w K mg base)(G_is_tuple_of:BZ P w K mg base)(GX_NoPaper:B9 P w K mg base "NoPaper" ["word","number"] 1)(F:Fun K "lets_greedy" "lets_greedy" Bs f fd):A1 P w K mg base (MD P w) 5 f fd ["net","times","thin","paper"] (RR K .sh (Cd true) 4):=by
 exact fnX (wb:=λPr=>Bc Pr) F FA (by decide) (λcdv A outer s H E Pr F0 U M l hr=>(GY (NN (DTW.dt (NM (ED (CY (AL G_is_thin (hr.mono (by decide)) rfl (AB (AS (dv 0)) (AB (AS (dv 2)) AM))))) (J7 (ED (CY (AL G_is_tuple_of (hr.mono (by decide)) rfl (AB (AS (As BS Fv rfl T.n_len PySem.boot_len (AN (A_ Am Bh (dv 0) AE) AV))) (AB (AS (dv 3)) AM)))))))) (Im (Fh IN l (λ_ h=>h) (BD GX_NoPaper (hr.mono (by decide)) rfl (AA Ao (AA AE AI))))) (Ks BR)) Fg)) (λss n Pd Pr hl hw=>D1 hw)
theorem Gx:AT ["net","times","thin","paper","number","tie","fault"] ["net","times","thin","paper"] (AD CP):=by constructor <;> first | rfl | decide +kernel
theorem G_{f:Addr}{fd:FuncData}(T:Txt K mg)(G_is_thin:EJ P w K mg base)(G_is_tuple_of:BZ P w K mg base)(G_left_out:Fx P w K mg base)(GX_NoPaper:B9 P w K mg base "NoPaper" ["word","number"] 1)(F:Fun K "lets_ways" "lets_ways" CP f fd):A1 P w K mg base (MD P w) 6 f fd ["net","times","thin","paper"] (RR K .sh (Cd false) 4):=by
 exact fnX (wb:=λPr=>B0 Pr) F Gx (by decide) (λcdv A outer s H E Pr F0 U M l hr=>(GY (NN (DTW.dt (NM (ED (CY (AL G_is_thin (hr.mono (by decide)) rfl (AB (AS (dv 0)) (AB (AS (dv 2)) AM))))) (J7 (ED (CY (AL G_is_tuple_of (hr.mono (by decide)) rfl (AB (AS (As BS Fv rfl T.n_len PySem.boot_len (AN (AL G_left_out (hr.mono (by decide)) rfl (AB (AS (dv 0)) (AB (AS (dv 2)) AM))) AV))) (AB (AS (dv 3)) AM)))))))) (Im (Fh IN l (λ_ h=>h) (BD GX_NoPaper (hr.mono (by decide)) rfl (AA Ao (AA AE AI))))) (Ks BR)) Fg)) (λss n Pd Pr hl hw=>FG hw)
theorem sc__law_places:AT ["_law_feed_here","_law_many","_law_way","_law_words","_law_first","_law_letters","_law_word","_law_at","_law_names","_law_k","_law_sign"] ["_law_feed_here","_law_many"] (AD Bv):=by constructor <;> first | rfl | decide +kernel
theorem FR{f:Addr}{fd:FuncData}(T:Txt K mg)(G__law_next:BM P w K mg base)(F:Fun K "_law_places" "_law_places" Bv f fd):A1 P w K mg base Bn 2 f fd ["_law_feed_here","_law_many"] (Ef K .fr Ey 2):=by
 exact Kn F sc__law_places (by decide) (λcdv A outer s H E hr=>(AK (Ad (i:=2) sc__law_places.nd rfl (Tw rfl) (AL G__law_next (hr.mono (by decide)) rfl (AB (BE 0) (AB (AS AE) AM))))
 (AK (Ad (i:=3) sc__law_places.nd rfl (UH rfl) (BX (AA Ao (AA Ao (AA Ao (AA Ao (AA Ao (AA Ao (AA Ao (AA Ao (AA Ao (AA Ao (AA Ao (AA Ao AI))))))))))))))
 (AK (Di (DTW.dt (J8 (A2 B6 EI (dv 2) AE (Ah _)) (HM (A2 (FN hr) JE (dv 1) AE (Ah _))))) (AK (Ad (i:=4) sc__law_places.nd rfl (UH rfl) (AL G__law_next (hr.mono (by decide)) rfl (AB (BE 0) (AB (AS AE) AM))))
 (AR (An (As Fn K_ rfl T.n_sorted boot_sorted (AN (Co rfl [("_law_words" : Str),("_law_first" : Str),("_law_k" : Str)] [some 3,some 4,none] (DI.c (BL rfl T.n_range (AN (dv 1) AV))) (λ_ _ _ _ _=>(A9 (i:=2) (show VY [("_law_words" : Str),("_law_first" : Str),("_law_k" : Str)] by decide +kernel) rfl (Tw rfl))) (λ_ _ _ _ _=>Dk) (λ_ _ _ _ _=>(A_ Am Bh (dv 0) (Ar Bx CI (Ar Al A5 (dv 1) (dv 2)) AE))) (by kernel_rfl)) AV))))) BR)
 (AK (Ad (i:=5) sc__law_places.nd rfl (UH rfl) Ao)
 (AK (Ad (i:=6) sc__law_places.nd rfl (UH rfl) (Ry PySem.F.plainAttrs_str PySem.F.slot_str_join PySem.F.type_str_join OL Qw Ao (AN (Co rfl [("_law_letters" : Str),("_law_feed_here" : Str),("_law_k" : Str)] [some 5,some 0,none] (DI.c (BL rfl T.n_range (AN AE AV))) (λ_ _ _ _ _=>(A9 (i:=2) (show VY [("_law_letters" : Str),("_law_feed_here" : Str),("_law_k" : Str)] by decide +kernel) rfl (Tw rfl))) (λ_ _ _ _ _=>Dk) (λ_ _ _ _ _=>(A_ Am Bh (dv 0) (AL G__law_next (hr.mono (by decide)) rfl (AB (BE 1) (AB (AS AE) AM))))) (by kernel_rfl)) AV)))
 (AK (Di (DTW.dt (J8 (A2 B6 EI (dv 2) AE (Ah _)) (HM (A2 (FN hr) JE (dv 1) AE (Ah _))))) (AR (An (Co rfl [("_law_word" : Str),("_law_k" : Str)] [some 6,none] (DI.c (BL rfl T.n_range (AN (dv 1) AV))) (λ_ _ _ _ _=>(A9 (i:=1) (show VY [("_law_word" : Str),("_law_k" : Str)] by decide +kernel) rfl (Tw rfl))) (λ_ _ _ _ _=>Dk) (λ_ _ _ _ _=>(Kx N1 LA (dv 0) HN (Dj (Ar Al A5 AE (dv 1))))) (by kernel_rfl)))) BR)
 (AK (Ad (i:=7) sc__law_places.nd rfl (Tw rfl) (AL G__law_next (hr.mono (by decide)) rfl (AB (BE 0) (AB (AS AE) AM))))
 (AK (Ad (i:=4) sc__law_places.nd rfl (UH rfl) (AL G__law_next (hr.mono (by decide)) rfl (AB (BE 0) (AB (AS AE) AM))))
 (AK (Kt (i:=8) sc__law_places.nd rfl (Tw rfl) (BX AI))
 (AK (EG VJ rfl (BL rfl T.n_range (AN (dv 1) AV)) (A9 (i:=9) sc__law_places.nd rfl (Tw rfl)) (AK (Ad (i:=10) sc__law_places.nd rfl (Tw rfl) (A_ Am Bh (dv 5) (Ar Bx CI (Ar Al A5 (dv 4) (dv 9)) AE)))
 (AR (PU 8 PySem.F.plainAttrs_list PySem.F.slot_list_append PySem.F.type_list_append Cg Pc (pv 8) (AA (Ar Al A5 (Ar Al A5 (Ar Al A5 (Kx N1 LA (dv 6) HN (Dj (dv 7))) (dv 10)) (Kx N1 LA (dv 6) (Dj (Ar Al A5 (dv 7) AE)) (Dj AE))) (Ar Kf Na Ao (Ar Bx CI (dv 9) AE))) AI)))))
 (AR (An (As Fn K_ rfl T.n_sorted boot_sorted (AN (S7 8) AV))))))))))))))) (λss n Pd hl hw=>LR hw)
theorem FD:AT ["_law_feed_here","_law_scale"] ["_law_feed_here","_law_scale"] (AD Bw):=by constructor <;> first | rfl | decide +kernel
theorem FS{f:Addr}{fd:FuncData}(T:Txt K mg)(G__law_next:BM P w K mg base)(F:Fun K "_law_length" "_law_length" Bw f fd):A1 P w K mg base Bn 2 f fd ["_law_feed_here","_law_scale"] (Ef K .sh Oj 2):=by
 exact Kn F FD (by decide) (λcdv A outer s H E hr=>(AK (Di (A2 B6 EI (dv 1) AE (Ah _)) (AR (An (Ar Al A5 AE (AL G__law_next (hr.mono (by decide)) rfl (AB (BE 0) (AB (AS AE) AM)))))) BR)
 (AK (Di (A2 B6 EI (dv 1) AE (Ah _)) (AR (An (Ar Al A5 AE (AL G__law_next (hr.mono (by decide)) rfl (AB (BE 0) (AB (AS AE) AM)))))) BR)
 (AR (An (PV (A2 B6 EI (dv 1) AE (Ah _)) (Ar OD Qu (Ar D4 CI AE AE) (AL G__law_next (hr.mono (by decide)) rfl (AB (BE 0) (AB (AS AE) AM)))) (Ar Al A5 AE (AL G__law_next (hr.mono (by decide)) rfl (AB (BE 0) (AB (AS (Ar D4 CI AE AE)) AM)))))))))) (λss n Pd hl hw=>LS hw)
theorem sc__law_net:AT ["_law_feed_here","_law_most","_law_ties","_law_places_here","_law_few","_law_scale","_law_found","_law_one","_law_other"] ["_law_feed_here","_law_most","_law_ties"] (AD C9):=by constructor <;> first | rfl | decide +kernel
theorem IS{f:Addr}{fd:FuncData}(T:Txt K mg)(G__law_length:C3 P w K mg base)(G__law_next:BM P w K mg base)(G__law_places:C2 P w K mg base)(F:Fun K "_law_net" "_law_net" C9 f fd):A1 P w K mg base Bn 3 f fd ["_law_feed_here","_law_most","_law_ties"] (Ef K .sh Oi 3):=by
 exact Kn F sc__law_net (by decide) (λcdv A outer s H E hr=>(AK (Ad (i:=3) sc__law_net.nd rfl (Tw rfl) (AL G__law_places (hr.mono (by decide)) rfl (AB (BE 0) (AB (AS (Ar Al A5 AE (AL G__law_next (hr.mono (by decide)) rfl (AB (BE 0) (AB (AS (dv 1)) AM))))) AM))))
 (AK (Ad (i:=4) sc__law_net.nd rfl (Tw rfl) (Ar Al A5 AE (AL G__law_next (hr.mono (by decide)) rfl (AB (BE 0) (AB (AS AE) AM)))))
 (AK (Ad (i:=5) sc__law_net.nd rfl (Tw rfl) (AL G__law_next (hr.mono (by decide)) rfl (AB (BE 0) (AB (AS AE) AM))))
 (AK (Kt (i:=6) sc__law_net.nd rfl (Tw rfl) (BX AI))
 (AK (EG VJ rfl (BL rfl T.n_range (AN (As BS Fv rfl T.n_len PySem.boot_len (AN (dv 3) AV)) AV)) (A9 (i:=7) sc__law_net.nd rfl (Tw rfl)) (AR (EG VJ rfl (L5 rfl T.n_range (AN (Ar Al A5 (dv 7) AE) (AN (As BS Fv rfl T.n_len PySem.boot_len (AN (dv 3) AV)) AV))) (A9 (i:=8) sc__law_net.nd rfl (Tw rfl)) (AR (Di (DTW.dt (J8 (A2 QN R7 (AL G__law_next (hr.mono (by decide)) rfl (AB (BE 0) (AB (AS AE) AM))) (dv 4) (Ah _)) (HM (A2 (FN hr) JE (As BS Fv rfl T.n_len PySem.boot_len (AN (S7 6) AV)) (dv 2) (Ah _))))) (AR (PU 6 PySem.F.plainAttrs_list PySem.F.slot_list_append PySem.F.type_list_append Cg Pc (pv 6) (AA (Ai (AA (A_ Am Bh (dv 3) (dv 7)) (AA (A_ Am Bh (dv 3) (dv 8)) (AA (AL G__law_length (hr.mono (by decide)) rfl (AB (BE 0) (AB (AS (dv 5)) AM))) AI)))) AI))) BR)))))
 (AR (An (Ai (AA (Ga Cv JD rfl T.n_tuple boot_tuple (AN (dv 3) AV)) (AA (Ga Cv JD rfl T.n_tuple boot_tuple (AN (S7 6) AV)) AI))))))))))) (λss n Pd hl hw=>P2 hw)
theorem sc__law_times:AT ["_law_feed_here","_law_some","_law_at","_law_bottom"] ["_law_feed_here"] (AD CC):=by constructor <;> first | rfl | decide +kernel
theorem F6{f:Addr}{fd:FuncData}(T:Txt K mg)(G__law_next:BM P w K mg base)(F:Fun K "_law_times" "_law_times" CC f fd):A1 P w K mg base Bn 2 f fd ["_law_feed_here"] (Ef K .sh Hg 1):=by
 exact Kn F sc__law_times (by decide) (λcdv A outer s H E hr=>(AK (Ad (i:=1) sc__law_times.nd rfl (Tw rfl) (BX (AA (Ai (AA AE (AA AE AI))) (AA (Ai (AA AE (AA AE AI))) (AA (Ai (AA AE (AA AE AI))) (AA (Ai (AA AE (AA AE AI))) (AA (Ai (AA AE (AA AE AI))) (AA (Ai (AA AE (AA AE AI))) (AA (Ai (AA (Ar D4 CI AE AE) (AA AE AI))) (AA (Ai (AA (Ar D4 CI AE AE) (AA (Ar D4 CI AE AE) AI))) AI))))))))))
 (AK (Ad (i:=2) sc__law_times.nd rfl (Tw rfl) (AL G__law_next (hr.mono (by decide)) rfl (AB (BE 0) (AB (AS AE) AM))))
 (AK (Di (A2 (FN hr) JE (dv 2) AE (Ah _)) (AR (An (A_ Am Bh (dv 1) (dv 2)))) BR)
 (AK (Ad (i:=3) sc__law_times.nd rfl (Tw rfl) (Ar Al A5 AE (AL G__law_next (hr.mono (by decide)) rfl (AB (BE 0) (AB (AS AE) AM)))))
 (AR (An (Ai (AA (Ar Al A5 (dv 3) (AL G__law_next (hr.mono (by decide)) rfl (AB (BE 0) (AB (AS (Ar Kf Na AE (dv 3))) AM)))) (AA (dv 3) AI)))))))))) (λss n Pd hl hw=>G4 hw)
theorem sc__law_classes:AT ["_law_e","_law_some"] ["_law_e"] (AD Bk):=by constructor <;> first | rfl | decide +kernel
theorem Eh{f:Addr}{fd:FuncData}(T:Txt K mg)(F:Fun K "_law_classes" "_law_classes" Bk f fd):Gm P w K mg base 1 f fd ["_law_e"] (Ef K .sh Ba 1):=by
 obtain⟨C_NoLine,U_NoLine,xc_NoLine,xm_NoLine⟩:=T.x_NoLine
 obtain⟨C_NoPaper,U_NoPaper,xc_NoPaper,xm_NoPaper⟩:=T.x_NoPaper
 obtain⟨C_NoPlace,U_NoPlace,xc_NoPlace,xm_NoPlace⟩:=T.x_NoPlace
 obtain⟨C_NoRow,U_NoRow,xc_NoRow,xm_NoRow⟩:=T.x_NoRow
 obtain⟨C_NoTie,U_NoTie,xc_NoTie,xm_NoTie⟩:=T.x_NoTie
 obtain⟨C_TooMany,U_TooMany,xc_TooMany,xm_TooMany⟩:=T.x_TooMany
 obtain⟨C_Twice,U_Twice,xc_Twice,xm_Twice⟩:=T.x_Twice
 exact S3 F sc__law_classes (by decide) (λcdv A outer s H E hr hx=>(AK (Ad (i:=1) sc__law_classes.nd rfl (UH rfl) (BX (AA (DL (i:=0) (by decide) xc_NoPaper rfl xm_NoPaper rfl T.n_isinstance) (AA (DL (i:=0) (by decide) xc_NoLine rfl xm_NoLine rfl T.n_isinstance) (AA (DL (i:=0) (by decide) xc_TooMany rfl xm_TooMany rfl T.n_isinstance) (AA (DL (i:=0) (by decide) xc_Twice rfl xm_Twice rfl T.n_isinstance) AI))))))
 (AK (Ad (i:=1) sc__law_classes.nd rfl (UH rfl) (Ar Al A5 (dv 1) (BX (AA (DL (i:=0) (by decide) xc_NoPlace rfl xm_NoPlace rfl T.n_isinstance) (AA (DL (i:=0) (by decide) xc_NoTie rfl xm_NoTie rfl T.n_isinstance) (AA (DL (i:=0) (by decide) xc_NoRow rfl xm_NoRow rfl T.n_isinstance) AI))))))
 (AR (An (PV (CY (Od (i:=0) rfl T.n_ValueError rfl T.n_isinstance)) (DE.sh (NS hx [("_law_some" : Str),("_law_k" : Str)] [some 1,none] (Ip rfl T.n_range (AN AE AV)) (λ_ _ _ _ _=>(A9 (i:=1) (show VY [("_law_some" : Str),("_law_k" : Str)] by decide +kernel) rfl (Tw rfl))) (λ_ _ _ _ _=>(Ku (CY (A_ Am Bh (dv 0) (dv 1))))) (λ_ _ _ _ _=>(dv 1)) (by kernel_rfl))) (DE.sh (BX AI)))))))) (λss n Pd hl hw=>G7 hw)
theorem sc__law_raised:AT ["_law_which","_law_word","_law_number","_law_told","_law_e"] ["_law_which","_law_word","_law_number"] (AD Bu):=by constructor <;> first | rfl | decide +kernel
theorem FQ{f:Addr}{fd:FuncData}(T:Txt K mg)(G__law_classes:Bm P w K mg base)(GX_NoLine:B9 P w K mg base "NoLine" ["row","word"] 1)(GX_NoPaper:B9 P w K mg base "NoPaper" ["word","number"] 1)(GX_NoPlace:B9 P w K mg base "NoPlace" [] 1)(GX_NoRow:B9 P w K mg base "NoRow" [] 1)(GX_NoTie:B9 P w K mg base "NoTie" [] 1)(GX_TooMany:B9 P w K mg base "TooMany" [] 1)(GX_Twice:B9 P w K mg base "Twice" [] 1)(F:Fun K "_law_raised" "_law_raised" Bu f fd):A1 P w K mg base Bn 3 f fd ["_law_which","_law_word","_law_number"] (Ef K .sh Ex 3):=by
 obtain⟨C_NoLine,U_NoLine,xc_NoLine,xm_NoLine⟩:=T.x_NoLine
 obtain⟨C_NoPaper,U_NoPaper,xc_NoPaper,xm_NoPaper⟩:=T.x_NoPaper
 obtain⟨C_ThinError,xi_ThinError,xm_ThinError,xk_ThinError⟩:=T.x_ThinError
 exact Kn F sc__law_raised (by decide) (λcdv A outer s H E hr=>(AK (Ad (i:=3) sc__law_raised.nd rfl (Tw rfl) (Ai (AA (BX AI) (AA By AI))))
 (AK (NO rfl rfl (λ_ _ h=>h) (Cm (A2 B6 EI (dv 0) AE (Ah _)) (BH (BD GX_NoPaper (hr.mono (by decide)) rfl (AA (dv 1) (AA (dv 2) AI))))
 (Cm (A2 B6 EI (dv 0) AE (Ah _)) (BH (BD GX_NoLine (hr.mono (by decide)) rfl (AA (dv 2) (AA (Ar Al A5 (dv 2) AE) AI))))
 (Cm (A2 B6 EI (dv 0) AE (Ah _)) (BH (BD GX_TooMany (hr.mono (by decide)) rfl (AA (dv 1) AI)))
 (Cm (A2 B6 EI (dv 0) AE (Ah _)) (BH (BD GX_Twice (hr.mono (by decide)) rfl (AA (dv 1) AI)))
 (Cm (A2 B6 EI (dv 0) AE (Ah _)) (BH (BD GX_NoPlace (hr.mono (by decide)) rfl (AA (dv 1) AI)))
 (Cm (A2 B6 EI (dv 0) AE (Ah _)) (BH (BD GX_NoTie (hr.mono (by decide)) rfl (AA (dv 1) AI)))
 (BH (BD GX_NoRow (hr.mono (by decide)) rfl (AA (dv 1) AI)))))))))
 (Er (i:=4) sc__law_raised.nd rfl rfl rfl xm_NoPaper xc_NoPaper.at_ (UH ⟨by decide,_,xc_NoPaper⟩) rfl rfl (λa=>(AR (Ad (i:=3) sc__law_raised.nd rfl (Tw rfl) (Ai (AA (Dm (a:=a) 4 rfl G__law_classes ((hr.held (some (.ref a))).mono (by decide)) rfl (AB (Kz 4) AM)) (AA (Ai (AA (GZ (i:=4) (by decide)) (AA (GZ (i:=4) (by decide)) AI))) AI))))))
 (Er (i:=4) sc__law_raised.nd rfl rfl rfl xm_NoLine xc_NoLine.at_ (UH ⟨by decide,_,xc_NoLine⟩) rfl rfl (λa=>(AR (Ad (i:=3) sc__law_raised.nd rfl (Tw rfl) (Ai (AA (Dm (a:=a) 4 rfl G__law_classes ((hr.held (some (.ref a))).mono (by decide)) rfl (AB (Kz 4) AM)) (AA (Ai (AA (GZ (i:=4) (by decide)) (AA (GZ (i:=4) (by decide)) AI))) AI))))))
 (Er (i:=4) sc__law_raised.nd rfl rfl rfl xm_ThinError xk_ThinError (Tw ⟨rfl,xi_ThinError⟩) rfl rfl (λa=>(AR (Ad (i:=3) sc__law_raised.nd rfl (Tw rfl) (Ai (AA (Dm (a:=a) 4 rfl G__law_classes ((hr.held (some (.ref a))).mono (by decide)) rfl (AB (Kz 4) AM)) (AA By AI))))))
 NP))))
 (AR (An (dv 3)))))) (λss n Pd hl hw=>IG hw)
theorem sc__law_let:AT ["_law_which","_law_net_here","_law_times_here","_law_paper","_law_told","_law_e"] ["_law_which","_law_net_here","_law_times_here","_law_paper"] (AD C_):=by constructor <;> first | rfl | decide +kernel
theorem IT{f:Addr}{fd:FuncData}(T:Txt K mg)(G__law_classes:Bm P w K mg base)(GR_lets_greedy:Cz P w K mg base)(GR_lets_ways:Eb P w K mg base)(F:Fun K "_law_let" "_law_let" C_ f fd):A1 P w K mg base Bn 7 f fd ["_law_which","_law_net_here","_law_times_here","_law_paper"] (Ef K .sh Hk 4):=by
 obtain⟨C_NoPaper,U_NoPaper,xc_NoPaper,xm_NoPaper⟩:=T.x_NoPaper
 exact Kn F sc__law_let (by decide) (λcdv A outer s H E hr=>(AK (Ad (i:=4) sc__law_let.nd rfl (Tw rfl) By)
 (AK (NO rfl rfl (λ_ _ h=>h) (BH (Qj (A2 B6 EI (dv 0) AE (Ah _)) (BH (Il (Ir GR_lets_ways (hr.mono (by decide)) rfl (AB (AS (dv 1)) (AB (AS (dv 2)) (AB (AS (dv 1)) (AB (AS (dv 3)) AM))))))) (BH (Il (Ir GR_lets_greedy (hr.mono (by decide)) rfl (AB (AS (dv 1)) (AB (AS (dv 2)) (AB (AS (dv 1)) (AB (AS (dv 3)) AM)))))))))
 (Er (i:=5) sc__law_let.nd rfl rfl rfl xm_NoPaper xc_NoPaper.at_ (UH ⟨by decide,_,xc_NoPaper⟩) rfl rfl (λa=>(AR (Ad (i:=4) sc__law_let.nd rfl (Tw rfl) (Ai (AA (Dm (a:=a) 5 rfl G__law_classes ((hr.held (some (.ref a))).mono (by decide)) rfl (AB (Kz 5) AM)) (AA (Ai (AA (GZ (i:=5) (by decide)) (AA (GZ (i:=5) (by decide)) AI))) AI))))))
 NP))
 (AR (An (dv 4)))))) (λss n Pd hl hw=>MV hw)
end
section
variable {P:Program}{w:World}{K:Frag}{mg:Str->Option Value}{base:Heap}
theorem G0:AT ["_law_script"] ["_law_script"] (AD CT):=by constructor <;> first | rfl | decide +kernel
theorem HC{f:Addr}{fd:FuncData}(T:Txt K mg)(F:Fun K "_law_feed" "_law_feed" CT f fd):A1 P w K mg base Bn 1 f fd ["_law_script"] (Gs K):=by
 refine F.ok G0 (λvs H Q E h=>?_) (λcdv A outer s H vs Q E hr h=>?_)
 ·obtain⟨a,ns,rfl,_⟩:=h
  rfl
 ·obtain⟨a,ns,rfl,⟨hl,hS⟩,q⟩:=h
  refine⟨_,Bp (FJ (Jp (Az (GK HW rfl T.n_list boot_list (Az (IL sl_list (pv 0) Ka (KZ Ab)) BU)) (Az Ab (Az Ab BU))))),?_⟩
  refine⟨_,rfl,63,rfl,a,_,rfl,hS,λp hp=>⟨p,_,rfl,.inl (SqL.of AJ),λc hc=>⟨by show 3<=sizeLine; decide,λg hg=>?_⟩⟩⟩
  rw [Rz hl] at hg ⊢
  have ncg:c≠g:=λz=>by rw [← z,AJ] at hg; cases hg
  exact q c g _ ncg (by rw [AH ncg,AJ]) AJ
theorem sc_law:AT ["_law_script","_law_feed_here","_law_k","_law_word","_law_number","_law_dues","_law_which","_law_net_here","_law_paper"] ["_law_script"] (AD FF):=by constructor <;> first | rfl | decide +kernel
theorem QQ{f ff:Addr}{fd fdf:FuncData}(T:Txt K mg)(Gf:A1 P w K mg base Bn 1 ff fdf ["_law_script"] (Gs K))(mf:mg "_law_feed"=some (.ref ff))(kf:keepIn K (.ref ff)=true)(bf:Binds K fdf ["_law_script"] [])
  (G__law_let:F1 P w K mg base) (G__law_net:Fz P w K mg base) (G__law_next:BM P w K mg base) (G__law_raised:C1 P w K mg base) (G__law_times:Ds P w K mg base) (F:Fun K "law" "law" FF f fd):A1 P w K mg base Bn 8 f fd ["_law_script"] (IA K):=by
 exact Rq (n0:=9000) F sc_law rfl (by decide) (λcdv A outer s H E hr=>DA (i:=1) sc_law.nd rfl (Tw rfl) (Kb Gf (hr.mono (by decide)) rfl mf kf bf .nil PC (Az (pv 0) BU)))
  (λcdv A outer s H E hr=>(AK (EG VJ rfl (BL rfl T.n_range (AN AE AV)) (A9 (i:=2) sc_law.nd rfl (Tw rfl)) (AK (Ad (i:=3) sc_law.nd rfl (Tw rfl) (A_ Am Bh (BX (AA Ao (AA Ao (AA Ao (AA Ao (AA Ao AI)))))) (AL G__law_next (hr.mono (by decide)) rfl (AB (BE 1) (AB (AS AE) AM)))))
 (AK (Ad (i:=4) sc_law.nd rfl (Tw rfl) (AL G__law_next (hr.mono (by decide)) rfl (AB (BE 1) (AB (AS AE) AM))))
 (AK (Ad (i:=5) sc_law.nd rfl (Tw rfl) (BX (AA (Ai (AA (dv 3) (AA (dv 4) AI))) (AA (Ai (AA (dv 4) (AA (Ar Al A5 (dv 4) AE) AI))) (AA By (AA By (AA By (AA By (AA By AI)))))))))
 (AK (EG VJ rfl (BL rfl T.n_range (AN AE AV)) (A9 (i:=6) sc_law.nd rfl (Tw rfl)) (AR (Di (A2 PD R6 (As (Cp hr) Hc rfl T.n_repr boot_repr (AN (AL G__law_raised (hr.mono (by decide)) rfl (AB (AS (dv 6)) (AB (AS (dv 3)) (AB (AS (dv 4)) AM)))) AV)) (As (Cp hr) Hc rfl T.n_repr boot_repr (AN (Ai (AA (BX (AA (dv 6) AI)) (AA (A_ Am Bh (dv 5) (dv 6)) AI))) AV)) (Ah _)) (AR (An Ky)) BR)))
 (AK (Ad (i:=7) sc_law.nd rfl (Tw rfl) (AL G__law_net (hr.mono (by decide)) rfl (AB (BE 1) (AB (AS AE) (AB (AS AE) AM)))))
 (AR (EG VJ rfl (BL rfl T.n_range (AN AE AV)) (A9 (i:=6) sc_law.nd rfl (Tw rfl)) (AK (Ad (i:=8) sc_law.nd rfl (Tw rfl) (A_ Am Bh (BX (AA By (AA Ao (AA (Ar OF Qv (Ai (AA By AI)) (Ar Al A5 (As BS Fv rfl T.n_len PySem.boot_len (AN (A_ Am Bh (dv 7) AE) AV)) AE)) AI)))) (dv 2)))
 (AR (Di (A2 PD R6 (As (Cp hr) Hc rfl T.n_repr boot_repr (AN (AL G__law_let (hr.mono (by decide)) rfl (AB (AS (dv 6)) (AB (AS (dv 7)) (AB (AS (AL G__law_times (hr.mono (by decide)) rfl (AB (BE 1) AM))) (AB (AS (dv 8)) AM))))) AV)) (As (Cp hr) Hc rfl T.n_repr boot_repr (AN (Ai (AA (BX (AA AE AI)) (AA (Ai (AA Ao (AA AE AI))) AI))) AV)) (Ah _)) (AR (An Ky)) BR)))))))))))
 (AR (An Ky)))) Jf
end
theorem F8{β:Type}{n:Nat}(g k:List Value->β)(us:List Value)(h:us.length=n+1)(c:∀(a:Value) (r:List Value),r.length=n->g (a::r)=k (a::r)):g us=k us:=by
 cases us with
 | nil=>cases h
 | cons a r=>exact c a r (Nat.succ.inj h)
theorem len0{β:Type}(g k:List Value->β)(us:List Value)(h:us.length=0)(c:g []=k []):g us=k us:=by
 cases us with
 | nil=>exact c
 | cons a r=>cases h
theorem Qr{d:FuncData}{ps:List Str}(c:∀a0:Value,bindArgs d ⟨[a0],[]⟩=pure (ps.zip [a0]))(us:List Value)(h:us.length=1):bindArgs d ⟨us,[]⟩=pure (ps.zip us):=F8 (λr=>bindArgs d ⟨r,[]⟩) (λr=>pure (ps.zip (r))) us h λa0 r h=>len0 (λr=>bindArgs d ⟨a0::r,[]⟩) (λr=>pure (ps.zip (a0::r))) r h (c a0)
theorem Qq{d:FuncData}{ps:List Str}(c:∀a0 a1:Value,bindArgs d ⟨[a0,a1],[]⟩=pure (ps.zip [a0,a1]))(us:List Value)(h:us.length=2):bindArgs d ⟨us,[]⟩=pure (ps.zip us):=F8 (λr=>bindArgs d ⟨r,[]⟩) (λr=>pure (ps.zip (r))) us h λa0 r h=>F8 (λr=>bindArgs d ⟨a0::r,[]⟩) (λr=>pure (ps.zip (a0::r))) r h λa1 r h=>len0 (λr=>bindArgs d ⟨a0::a1::r,[]⟩) (λr=>pure (ps.zip (a0::a1::r))) r h (c a0 a1)
theorem SV{d:FuncData}{ps:List Str}(c:∀a0 a1 a2:Value,bindArgs d ⟨[a0,a1,a2],[]⟩=pure (ps.zip [a0,a1,a2]))(us:List Value)(h:us.length=3):bindArgs d ⟨us,[]⟩=pure (ps.zip us):=F8 (λr=>bindArgs d ⟨r,[]⟩) (λr=>pure (ps.zip (r))) us h λa0 r h=>F8 (λr=>bindArgs d ⟨a0::r,[]⟩) (λr=>pure (ps.zip (a0::r))) r h λa1 r h=>F8 (λr=>bindArgs d ⟨a0::a1::r,[]⟩) (λr=>pure (ps.zip (a0::a1::r))) r h λa2 r h=>len0 (λr=>bindArgs d ⟨a0::a1::a2::r,[]⟩) (λr=>pure (ps.zip (a0::a1::a2::r))) r h (c a0 a1 a2)
theorem S_{d:FuncData}{ps:List Str}(c:∀a0 a1 a2 a3:Value,bindArgs d ⟨[a0,a1,a2,a3],[]⟩=pure (ps.zip [a0,a1,a2,a3]))(us:List Value)(h:us.length=4):bindArgs d ⟨us,[]⟩=pure (ps.zip us):=F8 (λr=>bindArgs d ⟨r,[]⟩) (λr=>pure (ps.zip (r))) us h λa0 r h=>F8 (λr=>bindArgs d ⟨a0::r,[]⟩) (λr=>pure (ps.zip (a0::r))) r h λa1 r h=>F8 (λr=>bindArgs d ⟨a0::a1::r,[]⟩) (λr=>pure (ps.zip (a0::a1::r))) r h λa2 r h=>F8 (λr=>bindArgs d ⟨a0::a1::a2::r,[]⟩) (λr=>pure (ps.zip (a0::a1::a2::r))) r h λa3 r h=>len0 (λr=>bindArgs d ⟨a0::a1::a2::a3::r,[]⟩) (λr=>pure (ps.zip (a0::a1::a2::a3::r))) r h (c a0 a1 a2 a3)
noncomputable def Ht(K:Frag)(x:Str)(st:Stmt):Prop:=∃(f:Addr) (oc:Value) (od an:Option Addr) (sl:Array (Option Value)) (kV dc pm cd ct:Value),nsIn K mainGlobals x=some (some (.ref f))/\K.lookup f=some ⟨oc,od,.func (fnOf x x (BI st) (Av st) (AD st) .none kV dc pm an cd ct),sl⟩/\codeIn K cd x=true/\keepIn K (.ref f)=true
noncomputable def Hn(K:Frag)(x:Str):Prop:=nsIn K mainGlobals x=some none
theorem Ht.mk{K:Frag}{x:Str}{st:Stmt}{f:Addr}{oc:Value}{od an:Option Addr}{sl:Array (Option Value)}{kV dc pm cd ct:Value}(a:nsIn K mainGlobals x=some (some (.ref f)))(l:K.lookup f=some ⟨oc,od,.func (fnOf x x (BI st) (Av st) (AD st) .none kV dc pm an cd ct),sl⟩)(c:codeIn K cd x=true)(k:keepIn K (.ref f)=true):Ht K x st:=⟨f,oc,od,an,sl,kV,dc,pm,cd,ct,a,l,c,k⟩
theorem Hn.mk{K:Frag}{x:Str}(a:nsIn K mainGlobals x=some none):Hn K x:=a
section
variable {P:Program}{w:World}{K:Frag}{mg:Str->Option Value}{h base:Heap}{x:Str}{st:Stmt}
theorem Ht.fn(X:K.In h)(G:h.Ns mainGlobals mg)(H:Ht K x st):∃f fd,mg x=some (.ref f)/\Fun K x x st f fd:=by
 obtain⟨f,oc,od,an,sl,kV,dc,pm,cd,ct,a,l,c,k⟩:=H
 exact⟨f,_,mg_of X G a,HI (st:=st) l c k⟩
theorem Ht.got{k:Nat}{ps:List Str}{κ:Kd}{W:W2}(X:K.In h)(G:h.Ns mainGlobals mg)(H:Ht K x st)(hW:∀ss n P,W ss n P->ss.length=ps.length)
  (hb:∀(kV doc pm:Value) (an:Option Addr) (cdv ct:Value) (us:List Value),us.length=ps.length->bindArgs (fnOf x x (BI st) (Av st) (AD st) .none kV doc pm an cdv ct) ⟨us,[]⟩=pure (ps.zip us))
  (ok:∀{f:Addr} {fd:FuncData},Fun K x x st f fd->mg x=some (.ref f)->Binds K fd ps []->A1 P w K mg base Bn k f fd ps (Ef K κ W ps.length)):Got P w K mg base x k ps κ W:=by
 obtain⟨f,fd,m,F⟩:=H.fn X G
 have b:=F.binds hb
 exact Qe F m b hW (ok F m b)
end
theorem xc_mk{K:Frag}{nm q q2:Str}{C U N N2:Addr}{bs bs2 sub sub2:List Value}{sn sn2:List Str}{ab ab2 hd2:Bool}{col col2:Option Bool}{dd dd2:Option Addr}{k0 k1 k2 k3 k5 l0 l1 l2 l3 l5:Option Value}(at_:nsIn K mainGlobals nm=some (some (.ref C)))(atU:nsIn K mainGlobals "ThinError"=some (some (.ref U)))
  (o:K.lookup C=some (excClassObj nm q C N bs (.ref U::[.type "ValueError",.type "Exception",.type "BaseException",.type "object"]) true sn sub ab col dd k0 k1 k2 k3 k5 "ValueError.__new__"))
  (u:K.lookup U=some (excClassObj "ThinError" q2 U N2 bs2 [.type "ValueError",.type "Exception",.type "BaseException",.type "object"] hd2 sn2 sub2 ab2 col2 dd2 l0 l1 l2 l3 l5 "ValueError.__new__"))
  (kp:keepIn K (.ref C)=true) (ga:PySem.W.findIn K (.ref C) "__getattribute__"=some (some (.builtin "BaseException.__getattribute__"))) (gt:PySem.W.findIn K (.ref C) "__getattr__"=some none) (sa:PySem.W.findIn K (.ref C) "__setattr__"=some (some (.builtin "object.__setattr__"))) (ca:PySem.W.findIn K (.ref C) "__class__"=some (some (.builtin "object.__class__")))
  (nw:PySem.W.findIn K (.ref C) "word"=some none) (nn:PySem.W.findIn K (.ref C) "number"=some none) (nr:PySem.W.findIn K (.ref C) "row"=some none):XC K nm C U :=
 ⟨⟨q,N,bs,sn,sub,ab,col,dd,k0,k1,k2,k3,k5,o⟩,⟨q2,N2,bs2,sn2,sub2,ab2,col2,dd2,l0,l1,l2,l3,l5,hd2,u⟩,kp,ga,gt,sa,at_,atU,ca,nw,nn,nr⟩
noncomputable def H0(K:Frag)(nm:Str):Prop:=∃C U,XC K nm C U/\PySem.W.findIn K (.ref C) "__init__"=some (some (.builtin "ValueError.__init__"))
noncomputable def H2(K:Frag)(nm qual:Str)(st:Stmt):Prop:=∃C U,XC K nm C U/\∃(f:Addr) (oc:Value) (od an:Option Addr) (sl:Array (Option Value)) (kV dc pm cd ct:Value),PySem.W.findIn K (.ref C) "__init__"=some (some (.ref f))/\PySem.W.typeIn K (.ref f)=some (.type "function")/\K.lookup f=some ⟨oc,od,.func (fnOf "__init__" qual (BI st) (Av st) (AD st) .none kV dc pm an cd ct),sl⟩/\codeIn K cd qual=true/\keepIn K (.ref f)=true
theorem H0.mk{K:Frag}{nm:Str}{C U:Addr}(c:XC K nm C U)(i:PySem.W.findIn K (.ref C) "__init__"=some (some (.builtin "ValueError.__init__"))):H0 K nm:=⟨C,U,c,i⟩
theorem H2.mk{K:Frag}{nm qual:Str}{st:Stmt}{C U f:Addr}{oc:Value}{od an:Option Addr}{sl:Array (Option Value)}{kV dc pm cd ct:Value}(c:XC K nm C U)(i:PySem.W.findIn K (.ref C) "__init__"=some (some (.ref f)))(ty:PySem.W.typeIn K (.ref f)=some (.type "function"))
  (l:K.lookup f=some ⟨oc,od,.func (fnOf "__init__" qual (BI st) (Av st) (AD st) .none kV dc pm an cd ct),sl⟩) (cc:codeIn K cd qual=true) (k:keepIn K (.ref f)=true):H2 K nm qual st:=⟨C,U,c,f,oc,od,an,sl,kV,dc,pm,cd,ct,i,ty,l,cc,k⟩
section
variable {P:Program}{w:World}{K:Frag}{mg:Str->Option Value}{h base:Heap}{x:Str}{st:Stmt}
theorem H0.xm{nm:Str}(X:K.In h)(G:h.Ns mainGlobals mg)(H:H0 K nm):∃C U,XC K nm C U/\mg nm=some (.ref C):=let ⟨C,U,c,_⟩:=H; ⟨C,U,c,mg_of X G c.at_⟩
theorem H2.xm{nm qual:Str}(X:K.In h)(G:h.Ns mainGlobals mg)(H:H2 K nm qual st):∃C U,XC K nm C U/\mg nm=some (.ref C):=let ⟨C,U,c,_⟩:=H; ⟨C,U,c,mg_of X G c.at_⟩
theorem H2.u{nm qual:Str}(X:K.In h)(G:h.Ns mainGlobals mg)(H:H2 K nm qual st):∃U,Q_ K U/\mg "ThinError"=some (.ref U)/\nsIn K mainGlobals "ThinError"=some (some (.ref U)):=let ⟨C,U,c,_⟩:=H; ⟨U,c.isU,mg_of X G c.atU,c.atU⟩
theorem H0.g{nm:Str}(X:K.In h)(G:h.Ns mainGlobals mg)(H:H0 K nm):B9 P w K mg base nm [] 1:=let ⟨C,U,c,i⟩:=H; ⟨C,U,c,mg_of X G c.at_,.inl ⟨rfl,i⟩⟩
theorem Ht.gotH{k:Nat}{ps:List Str}{κ:Kd}{W:W2}(X:K.In h)(G:h.Ns mainGlobals mg)(H:Ht K x st)(hW:∀ss n P,W ss n P->ss.length=ps.length)
  (hb:∀(kV doc pm:Value) (an:Option Addr) (cdv ct:Value) (us:List Value),us.length=ps.length->bindArgs (fnOf x x (BI st) (Av st) (AD st) .none kV doc pm an cdv ct) ⟨us,[]⟩=pure (ps.zip us))
  (ok:∀{f:Addr} {fd:FuncData},Fun K x x st f fd->Gm P w K mg base k f fd ps (Ef K κ W ps.length)):Q4 P w K mg base x k ps κ W:=by
 obtain⟨f,fd,m,F⟩:=H.fn X G
 exact⟨f,fd,ok F,m,F.kp,F.binds hb,hW⟩
theorem Ht.gotR{k:Nat}{ps:List Str}{κ:Kd}{W:WX}(X:K.In h)(G:h.Ns mainGlobals mg)(H:Ht K x st)(hW:∀ss n P Pr,W ss n P Pr->ss.length=ps.length)
  (hb:∀(kV doc pm:Value) (an:Option Addr) (cdv ct:Value) (us:List Value),us.length=ps.length->bindArgs (fnOf x x (BI st) (Av st) (AD st) .none kV doc pm an cdv ct) ⟨us,[]⟩=pure (ps.zip us))
  (ok:∀{f:Addr} {fd:FuncData},Fun K x x st f fd->A1 P w K mg base (MD P w) k f fd ps (RR K κ W ps.length)):Om P w K mg base x k ps κ W:=by
 obtain⟨f,fd,m,F⟩:=H.fn X G
 exact⟨f,fd,ok F,m,F.kp,F.binds hb,hW⟩
end
theorem J5{P:Program}{w:World}{K:Frag}{mg:Str->Option Value}{h base:Heap}(X:K.In h)(G:h.Ns mainGlobals mg)(H:H2 K "NoPaper" "NoPaper.__init__" BA):B9 P w K mg base "NoPaper" ["word","number"] 1:=by
 obtain⟨C,U,c,f,oc,od,an,sl,kV,dc,pm,cd,ct,i,ty,l,cc,k⟩:=H
 have F:=HI (st:=BA) l cc k
 exact⟨C,U,c,mg_of X G c.at_,.inr ⟨_,_,f,_,_,_,_,rfl,i,ty,Ei c F,F.binds λ_ _ _ _ _ _=>SV λ_ _ _=>rfl⟩⟩
theorem Ly{P:Program}{w:World}{K:Frag}{mg:Str->Option Value}{h base:Heap}(X:K.In h)(G:h.Ns mainGlobals mg)(H:H2 K "NoLine" "NoLine.__init__" BF):B9 P w K mg base "NoLine" ["row","word"] 1:=by
 obtain⟨C,U,c,f,oc,od,an,sl,kV,dc,pm,cd,ct,i,ty,l,cc,k⟩:=H
 have F:=HI (st:=BF) l cc k
 exact⟨C,U,c,mg_of X G c.at_,.inr ⟨_,_,f,_,_,_,_,rfl,i,ty,FT c F,F.binds λ_ _ _ _ _ _=>SV λ_ _ _=>rfl⟩⟩
theorem all_mk{l:PySem.W.OpenLaw}{w:World}{K:Frag}{h:Heap}{mg:Str->Option Value}{fa:Addr}(X:K.In h)(G:h.Ns mainGlobals mg)(hfa:mg "law"=some (.ref fa))
  (h0:Ht K "is_whole" C8) (h1:Ht K "is_tuple_of" Bt) (h2:Ht K "is_rising" CS) (h3:Ht K "rank_of" Dy) (h4:Ht K "order_of" C6) (h5:Ht K "is_tie_of" CQ) (h6:Ht K "is_thin" Dz) (h7:Ht K "left_out" C7) (h8:Ht K "lets_greedy" Bs) (h9:Ht K "lets_ways" CP) (h10:Ht K "_law_feed" CT) (h11:Ht K "_law_next" Bo) (h12:Ht K "_law_places" Bv) (h13:Ht K "_law_length" Bw) (h14:Ht K "_law_net" C9) (h15:Ht K "_law_times" CC) (h16:Ht K "_law_classes" Bk) (h17:Ht K "_law_raised" Bu) (h18:Ht K "_law_let" C_) (h19:Ht K "law" FF)
  (z0:Hn K "ValueError") (z1:Hn K "all") (z2:Hn K "bool") (z3:Hn K "int") (z4:Hn K "isinstance") (z5:Hn K "len") (z6:Hn K "list") (z7:Hn K "range") (z8:Hn K "repr") (z9:Hn K "sorted") (z10:Hn K "tuple") (z11:Hn K "zip") 
  (y0:H2 K "NoPaper" "NoPaper.__init__" BA) (y1:H2 K "NoLine" "NoLine.__init__" BF) (y2:H0 K "TooMany") (y3:H0 K "Twice") (y4:H0 K "NoPlace") (y5:H0 K "NoTie") (y6:H0 K "NoRow")
  : ∃fd:FuncData,(∀(s:Shared) (v:Value),BindsTo s fd ⟨[v],[]⟩ [("_law_script",v)])/\∀base:Heap,K.In base->base.Ns mainGlobals mg->A1 l.prog w K mg base Bn 8 fa fd ["_law_script"] (IA K):=by
 have T:Txt K mg:=⟨mg_none_of X G z0,mg_none_of X G z1,mg_none_of X G z2,mg_none_of X G z3,mg_none_of X G z4,mg_none_of X G z5,mg_none_of X G z6,mg_none_of X G z7,mg_none_of X G z8,mg_none_of X G z9,mg_none_of X G z10,mg_none_of X G z11,y0.xm X G,y1.xm X G,y2.xm X G,y3.xm X G,y4.xm X G,y5.xm X G,y6.xm X G,y0.u X G⟩
 obtain⟨ff,ffd,mf,Ff⟩:=h10.fn X G
 have bf:=Ff.binds (ps:=["_law_script"]) λ_ _ _ _ _ _=>Qr λ_=>rfl
 obtain⟨f,oc,od,an,sl,kV,dc,pm,cd,ct,a,l',c,k⟩:=h19
 have e:=hfa.symm.trans (mg_of X G a)
 cases e
 refine⟨fnOf "law" "law" (BI FF) (Av FF) (AD FF) .none kV dc pm an cd ct,λs v=>.of_eq rfl,λbase _ _=>?_⟩
 have GX_NoPaper:B9 l.prog w K mg base "NoPaper" ["word","number"] 1:=J5 X G y0
 have GX_NoLine:B9 l.prog w K mg base "NoLine" ["row","word"] 1:=Ly X G y1
 have GX_TooMany:B9 l.prog w K mg base "TooMany" [] 1:=y2.g X G
 have GX_Twice:B9 l.prog w K mg base "Twice" [] 1:=y3.g X G
 have GX_NoPlace:B9 l.prog w K mg base "NoPlace" [] 1:=y4.g X G
 have GX_NoTie:B9 l.prog w K mg base "NoTie" [] 1:=y5.g X G
 have GX_NoRow:B9 l.prog w K mg base "NoRow" [] 1:=y6.g X G
 have G_is_whole:Fy l.prog w K mg base:=h0.got X G (λ_ _ _ h=>LV h) (λ_ _ _ _ _ _=>Qr λ_=>rfl) λF m b=>IR T   F
 have G_is_tuple_of:BZ l.prog w K mg base:=h1.got X G (λ_ _ _ h=>by obtain⟨_,_,e,_⟩:=h; rw [e]; rfl) (λ_ _ _ _ _ _=>Qq λ_ _=>rfl) λF m b=>FP T   F
 have G_is_rising:Ed l.prog w K mg base:=h2.got X G (λ_ _ _ h=>by obtain⟨_,_,e,_⟩:=h; rw [e]; rfl) (λ_ _ _ _ _ _=>Qr λ_=>rfl) λF m b=>HB T   F
 have G_rank_of:Gj l.prog w K mg base:=h3.got X G (λ_ _ _ h=>by obtain⟨_,_,_,e,_⟩:=h; rw [e]; rfl) (λ_ _ _ _ _ _=>Qr λ_=>rfl) λF m b=>Jr T   F
 have G_order_of:Fw l.prog w K mg base:=h4.got X G (λ_ _ _ h=>by obtain⟨_,_,e,_⟩:=h; rw [e]; rfl) (λ_ _ _ _ _ _=>Qr λ_=>rfl) λF m b=>IP T G_rank_of  F
 have G_is_tie_of:Ec l.prog w K mg base:=h5.got X G (λ_ _ _ h=>by obtain⟨_,_,e,_⟩:=h; rw [e]; rfl) (λ_ _ _ _ _ _=>Qq λ_ _=>rfl) λF m b=>HA T G_is_whole  F
 have G_is_thin:EJ l.prog w K mg base:=h6.got X G (λ_ _ _ h=>by obtain⟨_,_,e,_⟩:=h; rw [e]; rfl) (λ_ _ _ _ _ _=>Qq λ_ _=>rfl) λF m b=>Js T G_is_rising G_is_tie_of G_is_tuple_of  F
 have G_left_out:Fx l.prog w K mg base:=h7.got X G (λ_ _ _ h=>by obtain⟨_,_,e,_⟩:=h; rw [e]; rfl) (λ_ _ _ _ _ _=>Qq λ_ _=>rfl) λF m b=>IQ T G_order_of  F
 have GR_lets_greedy:Cz l.prog w K mg base:=h8.gotR X G (λ_ _ _ _ h=>by obtain⟨_,_,_,_,e,_⟩:=h; rw [e]; rfl) (λ_ _ _ _ _ _=>S_ λ_ _ _ _=>rfl) λF=>FO T G_is_thin G_is_tuple_of GX_NoPaper F
 have GR_lets_ways:Eb l.prog w K mg base:=h9.gotR X G (λ_ _ _ _ h=>by obtain⟨_,_,_,_,e,_⟩:=h; rw [e]; rfl) (λ_ _ _ _ _ _=>S_ λ_ _ _ _=>rfl) λF=>G_ T G_is_thin G_is_tuple_of G_left_out GX_NoPaper F
 have Gf:=HC (P:=l.prog) (w:=w) (base:=base) T Ff
 have G__law_next:BM l.prog w K mg base:=h11.got X G (λ_ _ _ h=>by obtain⟨_,e,_⟩:=h; rw [e]; rfl) (λ_ _ _ _ _ _=>Qq λ_ _=>rfl) λF m b=>OI F T.n_len
 have G__law_places:C2 l.prog w K mg base:=h12.got X G (λ_ _ _ h=>by obtain⟨_,e,_⟩:=h; rw [e]; rfl) (λ_ _ _ _ _ _=>Qq λ_ _=>rfl) λF m b=>FR T G__law_next  F
 have G__law_length:C3 l.prog w K mg base:=h13.got X G (λ_ _ _ h=>by obtain⟨_,e,_⟩:=h; rw [e]; rfl) (λ_ _ _ _ _ _=>Qq λ_ _=>rfl) λF m b=>FS T G__law_next  F
 have G__law_net:Fz l.prog w K mg base:=h14.got X G (λ_ _ _ h=>by obtain⟨_,_,e,_⟩:=h; rw [e]; rfl) (λ_ _ _ _ _ _=>SV λ_ _ _=>rfl) λF m b=>IS T G__law_length G__law_next G__law_places  F
 have G__law_times:Ds l.prog w K mg base:=h15.got X G (λ_ _ _ h=>by obtain⟨e,_⟩:=h; rw [e]; rfl) (λ_ _ _ _ _ _=>Qr λ_=>rfl) λF m b=>F6 T G__law_next  F
 have G__law_classes:Bm l.prog w K mg base:=h16.gotH X G (λ_ _ _ h=>by obtain⟨_,_,_,_,_,e,_⟩:=h; rw [e]; rfl) (λ_ _ _ _ _ _=>Qr λ_=>rfl) λF=>Eh T   F
 have G__law_raised:C1 l.prog w K mg base:=h17.got X G (λ_ _ _ h=>by obtain⟨_,_,_,e,_⟩:=h; rw [e]; rfl) (λ_ _ _ _ _ _=>SV λ_ _ _=>rfl) λF m b=>FQ T G__law_classes GX_NoLine GX_NoPaper GX_NoPlace GX_NoRow GX_NoTie GX_TooMany GX_Twice F
 have G__law_let:F1 l.prog w K mg base:=h18.got X G (λ_ _ _ h=>by obtain⟨_,_,_,_,_,e,_⟩:=h; rw [e]; rfl) (λ_ _ _ _ _ _=>S_ λ_ _ _ _=>rfl) λF m b=>IT T G__law_classes GR_lets_greedy GR_lets_ways  F
 exact QQ T Gf mf Ff.kp bf G__law_let G__law_net G__law_next G__law_raised G__law_times (HI (st:=FF) l' c k)
theorem walk{l:PySem.W.OpenLaw}{q:Program}{loose:List Str}{XP:(Str->Option Value)->Heap->Prop}{YP:World->Heap->Prop}{d:DefRec}{K:Params->Frag}(hn:l.most=some 63)(hdf:d.params.defaults=[])
  (hY:∀(w:World) (h:Heap),YP w h->(K w.params).In h)
  (F:∀(w:World) (mg:Str->Option Value) (fa:Addr) (h:Heap),(K w.params).In h->h.Ns mainGlobals mg->mg d.name=some (.ref fa) ->
   ∃fd:FuncData,(∀(s:Shared) (u:Value),BindsTo s fd ⟨[u],[]⟩ [("_law_script",u)])/\∀base:Heap,(K w.params).In base->base.Ns mainGlobals mg->A1 l.prog w (K w.params) mg base Bn 8 fa fd ["_law_script"] (IA (K w.params))) :
  PySem.W.WalkO q loose XP YP l.row.toRowW d [] (λf vs=>PySem.call f vs) :=
 L2.KO (n:=63) (k:=8) (x := "_law_script") (CX:=λ_=>Bn) (sp:=λw=>IA (K w.params)) hn (by decide) hdf ⟨rfl,by decide,by decide,rfl⟩ hY F (λ_ _ a ns hl _ hS=>⟨a,ns,rfl,⟨hl,hS⟩,λ_=>rfl⟩) λ_ _ _ _ _ z=>z
end K17
end _p
namespace PySem.W.Fast
theorem tw8942729433998688475:True:=⟨⟩
theorem tw6255720361289809017:True:=⟨⟩
theorem tw2309960755030427077:True:=⟨⟩
theorem tw199925975193258784:True:=⟨⟩
theorem tw15225658644277070740:True:=⟨⟩
theorem tw16157078939797720370:True:=⟨⟩
theorem tw17897542686830624916:True:=⟨⟩
theorem tw13722484137743314887:True:=⟨⟩
theorem tw17600438077208449261:True:=⟨⟩
theorem tw8580911396832744848:True:=⟨⟩
theorem tw17431227325813527999:True:=⟨⟩
theorem tw8447203246791646580:True:=⟨⟩
theorem tw131899426186306984:True:=⟨⟩
theorem tw517877834021604725:True:=⟨⟩
theorem tw11716890740375135386:True:=⟨⟩
theorem tw10855054799847731248:True:=⟨⟩
theorem tw244754389086697359:True:=⟨⟩
theorem tw9990172078346327629:True:=⟨⟩
theorem tw14962069461271569327:True:=⟨⟩
theorem tw14600825691563656112:True:=⟨⟩
theorem tw5151515682659838044:True:=⟨⟩
theorem tw15736802234157110633:True:=⟨⟩
theorem tw8717254993070890297:True:=⟨⟩
theorem tw12880950734343388333:True:=⟨⟩
theorem tw16664672159818307952:True:=⟨⟩
theorem tw9739279822116829566:True:=⟨⟩
theorem tw7868430057610682626:True:=⟨⟩
theorem tw15439706625889940684:True:=⟨⟩
end PySem.W.Fast
open _p
open PySem PySem.W PyProof.Rows
set_option maxRecDepth 100000 in
set_option maxHeartbeats 0 in
theorem PySem.Challenge.cw_thinnet_k17_refusals_apart_holds : PySem.Challenge.rw_thinnet_k17_refusals_apart.Holds := by
 w_on; o_law; k_head; (case hw=>w_witness2)
 k_fill
 refine K17.walk (l:=PySem.Challenge.rw_thinnet_k17_refusals_apart) rfl rfl (λw h Y=>PySem.W.kIn_of Y) ?F
 case F =>
  intro w mg fa h KX G hmg
  refine' K17.all_mk KX G hmg ?_ ?_ ?_ ?_ ?_ ?_ ?_ ?_ ?_ ?_ ?_ ?_ ?_ ?_ ?_ ?_ ?_ ?_ ?_ ?_ ?_ ?_ ?_ ?_ ?_ ?_ ?_ ?_ ?_ ?_ ?_ ?_ ?_ ?_ ?_ ?_ ?_ ?_ ?_
  all_goals first
   | (refine' K17.Ht.mk ?a ?l ?c ?k; (case a=>k_is); (case l=>k_is); (case c=>k_is); (case k=>k_is))
   | (refine' K17.Hi.mk ?a; (case a=>k_is))
   | (refine' K17.Hn.mk ?a; (case a=>k_is))
   | skip
  ·(refine' K17.H2.mk ?c ?i ?ty ?l ?cc ?k; (case c=>(refine' K17.xc_mk ?at_ ?atU ?o ?u ?kp ?ga ?gt ?sa ?ca ?nw ?nn ?nr; (case at_=>k_is); (case atU=>k_is); (case o=>k_is); (case u=>k_is); (case kp=>k_is); (case ga=>k_is); (case gt=>k_is); (case sa=>k_is); (case ca=>k_is); (case nw=>k_is); (case nn=>k_is); (case nr=>k_is))); (case i=>k_is); (case ty=>k_is); (case l=>k_is); (case cc=>k_is); (case k=>k_is))
  ·(refine' K17.H2.mk ?c ?i ?ty ?l ?cc ?k; (case c=>(refine' K17.xc_mk ?at_ ?atU ?o ?u ?kp ?ga ?gt ?sa ?ca ?nw ?nn ?nr; (case at_=>k_is); (case atU=>k_is); (case o=>k_is); (case u=>k_is); (case kp=>k_is); (case ga=>k_is); (case gt=>k_is); (case sa=>k_is); (case ca=>k_is); (case nw=>k_is); (case nn=>k_is); (case nr=>k_is))); (case i=>k_is); (case ty=>k_is); (case l=>k_is); (case cc=>k_is); (case k=>k_is))
  ·(refine' K17.H0.mk ?c ?i; (case c=>(refine' K17.xc_mk ?at_ ?atU ?o ?u ?kp ?ga ?gt ?sa ?ca ?nw ?nn ?nr; (case at_=>k_is); (case atU=>k_is); (case o=>k_is); (case u=>k_is); (case kp=>k_is); (case ga=>k_is); (case gt=>k_is); (case sa=>k_is); (case ca=>k_is); (case nw=>k_is); (case nn=>k_is); (case nr=>k_is))); (case i=>k_is))
  ·(refine' K17.H0.mk ?c ?i; (case c=>(refine' K17.xc_mk ?at_ ?atU ?o ?u ?kp ?ga ?gt ?sa ?ca ?nw ?nn ?nr; (case at_=>k_is); (case atU=>k_is); (case o=>k_is); (case u=>k_is); (case kp=>k_is); (case ga=>k_is); (case gt=>k_is); (case sa=>k_is); (case ca=>k_is); (case nw=>k_is); (case nn=>k_is); (case nr=>k_is))); (case i=>k_is))
  ·(refine' K17.H0.mk ?c ?i; (case c=>(refine' K17.xc_mk ?at_ ?atU ?o ?u ?kp ?ga ?gt ?sa ?ca ?nw ?nn ?nr; (case at_=>k_is); (case atU=>k_is); (case o=>k_is); (case u=>k_is); (case kp=>k_is); (case ga=>k_is); (case gt=>k_is); (case sa=>k_is); (case ca=>k_is); (case nw=>k_is); (case nn=>k_is); (case nr=>k_is))); (case i=>k_is))
  ·(refine' K17.H0.mk ?c ?i; (case c=>(refine' K17.xc_mk ?at_ ?atU ?o ?u ?kp ?ga ?gt ?sa ?ca ?nw ?nn ?nr; (case at_=>k_is); (case atU=>k_is); (case o=>k_is); (case u=>k_is); (case kp=>k_is); (case ga=>k_is); (case gt=>k_is); (case sa=>k_is); (case ca=>k_is); (case nw=>k_is); (case nn=>k_is); (case nr=>k_is))); (case i=>k_is))
  ·(refine' K17.H0.mk ?c ?i; (case c=>(refine' K17.xc_mk ?at_ ?atU ?o ?u ?kp ?ga ?gt ?sa ?ca ?nw ?nn ?nr; (case at_=>k_is); (case atU=>k_is); (case o=>k_is); (case u=>k_is); (case kp=>k_is); (case ga=>k_is); (case gt=>k_is); (case sa=>k_is); (case ca=>k_is); (case nw=>k_is); (case nn=>k_is); (case nr=>k_is))); (case i=>k_is))
#print axioms PySem.Challenge.cw_thinnet_k17_refusals_apart_holds

import PyProof.Rows.All
import Wide.All
import OpenK.AllK
import Wide.FinOn
import Lean
import PyProof.EqAt
import PyProof.EqKinds
import PyProof.TupleCall
import PyProof.StationsW
import PyProof.PassesOwn
import PyProof.RulesAs
import PyProof.ExcClass3
import PyProof.Rows.CatchOwn
import OpenK.KMake
import OpenK.KWalk
import PyProof.InstStoreFacts
import PyProof.ExcBaseAll.ValueError
import PyProof.RangeIter
import OpenK.KRaise
import PyProof.NsDelKeeps
import KE.KIsAll
import PyProof.P3In
import PyProof.NeData
import PyProof.ReprLen
import PyProof.CompUse
import KE.KSortTup
import PyProof.SumAny
import PyProof.Rows.SeqCalls
import KE.KRevIter
import PyProof.TupleOfGen
import PyProof.CollectIter
import PyProof.ListNew
import PyProof.AttrMissHeap
import PyProof.FactsAll.dict
import KE.KEqDict
import PyProof.FactsAll.zip
import KE.KDictSum
import PyProof.ConsumeS
import PyProof.WalkInts
import PyProof.Draws
import PyProof.EnumMake
import PySem.Challenge.RW_thinnet_k61_cases_shown
open PySem.W (Frag nsIn keepIn fnOf codeIn mg_of mg_none_of)
set_option compiler.extract_closed false
set_option Elab.async false
set_option linter.all false
set_option maxRecDepth 100000
open Array renaming length_toList->YY,getElem?_eq_getElem->Z_,getElem?_toList->aS,getElem?_eq_none->cA
open Array.Perm renaming refl->cT
open Bool renaming false_ne_true->Uf,and_eq_true->YA,false_eq_true->Yd,true_and->Yh,eq_iff_iff->ZC,or_false->bH,and_true->bL,eq_false_iff->bP
open Classical renaming propDecidable->Zk
open False renaming elim->ZZ
open ForInStep renaming yield->ZE
open Int renaming toNat_natCast->Yg,zero_add->Yw,le_refl->ZO,mul_le_mul_of_nonneg_right->Zq,mul_le_mul_of_nonneg_left->aj,emod_lt_of_pos->bA,eq_ofNat_of_zero_le->bi,emod_nonneg->bo
open List renaming length_map->Db,getElem?_eq_getElem->FM,getElem?_map->On,mem_cons_self->Op,replicate->Re,length_append->Rs,mem_cons_of_mem->Sc,size_toArray->TM,mem_map->XV,getElem?_eq_some_iff->X4,length_cons->X5,map_cons->X6,mem_singleton->X7,getD_eq_getElem?_getD->X8,length_singleton->X9,mem_cons->X_,mem_append_right->YC,not_mem_nil->YG,mem_append->YI,range->YN,nil_append->YQ,map_append->YU,mem_of_getElem?->YW,nodup_cons->YX,toArray->Yb,mem_append_left->Yc,map_congr_left->Yf,pairwise_cons->Yi,append_assoc->Ym,length_range->Yo,length_nil->Yr,map_map->Ys,mem_range->Yt,append_nil->Yv,nodup_nil->Yz,Nodup->Y1,all_eq_true->Y8,mem_iff_getElem?->Y_,drop_eq_getElem_cons->ZB,length_set->ZD,length_take->ZI,length_drop->ZJ,lookup_cons->ZK,getElem_mem->ZL,mem_filter->ZQ,forIn_cons->ZT,getElem?_append_right->ZU,nodup_append->ZX,mem_flatMap->Zf,any_eq_true->Zg,replicate_succ->Zi,any_cons->Zl,of_mem_zip->Zn,find?_cons->Zo,length_zip->Zr,take_of_length_le->Zs,map_nil->Zv,lt_irrefl->Zx,singleton_append->Zy,mem_iff_getElem->Z0,pairwise_append->Z1,getElem?_append_left->Z6,pairwise_iff_getElem->Z9,idxOf_lt_length_iff->aE,getElem?_replicate->aF,length_eq_zero_iff->aG,flatten_cons->aH,getElem?_set->aI,take_append_drop->aT,getElem?_eq_none->aU,zipWith->ag,filterMap_cons->al,getElem?_range->am,filter_sublist->ao,drop_zero->aq,forIn_nil->av,zip_cons_cons->a9,getElem_idxOf->bC,getLast?_eq_none_iff->bT,getLast?_eq_some_iff->bU,getElem_inj->bV,drop_length->bY,getElem_map->bc,perm_middle->bd,getElem?_cons_succ->be,pairwise_singleton->bg,foldl_cons->bj,getElem?_set_self->bv,length->bx,map_id->b9,length_replicate->cB,length_filter_le->cD,getElem?_toArray->cF,all_cons->cK
open List.Pairwise renaming nil->Zu
open List.Perm renaming append_left->ZA,trans->ZG,refl->aw
open List.Sublist renaming refl->cS
open Nat renaming le_refl->No,zero_le->YB,ne_of_lt->YE,lt_of_lt_of_le->YF,le_trans->YH,lt_irrefl->Yy,le_succ->Zb,pow_le_pow_right->Z2,le_of_lt->aA,min_le_right->aM,succ_le_succ->aO,ne_of_gt->aW,sub_zero->aY,sub_self->ac,pow_succ->af,min_eq_left->ai,lt_of_le_of_lt->az,lt_succ_of_lt->bN,le_of_eq->bX,two_pow_pos->bq,mod_lt->cJ
open Ne renaming symm->Yq
open Option renaming map_eq_some_iff->YD
open Option.some renaming inj->TW
open Or renaming inl->T0,inr->Y2
open PyProof.Rows renaming slot_tuple_getitem->Ya,callWith_type1->Y4,assignInOrder_cons->ay,listUpdate_at->bM,get?_update_seq->bp,lt_int->bw,boot_all->cH
open PyProof.Rows.KeyOrd renaming kle_refl->Y5,kle_of_klt->aK,kle_trans->aP,kle_antisymm->cL
open PySem renaming wpAny_bind->Ch,wpAny_pure->Go,wpAny_field->YS,wpAny_callSpecial?_slot->YT,wpAny_newObj_type->YZ,sizeLine_eq->Yj,wpAny_call_entry->Yk,wpAny_mono->Yl,wpAny_holding->Yp,wpAny_seqItems->Yu,wpAny_setField_rec->Y9,wpAny_typeNameOfWhole_keyiter->ZH,wpAny_passesOwn->ZR,wpAny_pyIter_list->ZW,wpAny_typeNameOf_keyiter->Zh,wpAny_getItem_str_slice->Zj,wpAny_Call_Name_kw->Zm,wpAny_pyIter_tuple->Zp,wpAny_truthy_bool->Zt,wpAny_rule->Zz,wpAny_attempt->Z4,codeAny_builtin->Z8,wpAny_typeOf->aB,wpAny_execs_nil->aV,post_val_or_str->aX,wpAny_updateSeq_pair->aZ,wpAny_setField->au,wpAny_standAt->bE,wpAny_onRaise->bJ,wpAny_dictEntries->bQ,call_meets->bS,noFill_tuple_add->bW,wpAny_isInstance->bZ,wpAny_loadPart'->bn,wpAny_dictEpoch->bu
open PySem.Around renaming under_plainId->ae
open PySem.Builtin.Dict renaming updateFrom->bh,pairItems->b_,showsAll->cG
open PySem.Builtin.Dict_items renaming ownsTuple->ax
open PySem.Builtin.List renaming listTooLong->Ze,listExtendWith->bB
open PySem.Builtin.Slice renaming slicePlaces->Za,sliceAdjust->Z7,sliceApplied->bF
open PySem.Builtin.SmallTypes renaming ownedTupleIsFree->YK,nextOf->YL,ownedTupleHandOut->aD
open PySem.Builtin.Tuple renaming tupleExact->Zd,tupleItemsOf->bG,tupleIsExact->bK
open PySem.Calls renaming Name_function_global->bD,callWith_builtin->bz,evalArgs_plain->cI
open PySem.Expr renaming Call->cR
open PySem.F renaming slot_dict_keyiterator_next->Y0,slot_zip_next->ZF,slot_tuple_iterator_next->ZV,args_zip_next_1->aJ,entry_zip_next->aN,args_dict_keyiterator_next_1->ah,entry_dict_keyiterator_next->ak,args_tuple_iterator_next_1->ar,entry_tuple_iterator_next->a_
open PySem.Heap renaming get?_push_of_some->Ev,lt_size->Tk,get?_push_size->UF,get?_update_other->ZN,SameBut->ZP,size_push->Zc,get?_update_self->aR,ExtBut->b8,IsTuple->cQ
open PySem.Heap.SameBut renaming update->Z5
open PySem.NameKind renaming free->YR,cell->Z3
open PySem.Obj renaming mapSeq->Y7,data_mapFields->aC
open PySem.PassesOwn renaming never->YV
open PySem.PyData renaming depthAll->Ye,eqv->Yn,canLayAll0->Y3,hasDict->Zw,hasDictAll->bO,leavesShortAll->cC
open PySem.SeqAt.EqAt renaming int_str->cO,str_int->cP
open PySem.Shared renaming heap->aL
open PySem.Str renaming ofString->Y6
open PySem.Value renaming none->YM,ref->YO,bool->ZY,type->bR,int->cM,str->cN
open Std.Legacy.Range renaming size->cE
open Sum renaming inr->YJ,inl->aQ
open Sum.inr renaming inj->Yx
open True renaming intro->ZM
namespace _p
theorem zau0 (h : True := by first | exact .inl rfl | exact .inr rfl | assumption) : True := h
theorem zau1 (h : True := by decide) : True := h
theorem zau2 (h : True := by intro _; rfl) : True := h
theorem zau3 (h : True := by rfl) : True := h
theorem zau4 (h : True := by first | exact T0 rfl | exact Y2 (T0 rfl) | exact Y2 (Y2 rfl)) : True := h
theorem zau5 (h : True := by intro _ _; rfl) : True := h
theorem zau6 (h : True := by intro z; cases z) : True := h
theorem zau7 (h : True := by intro _ z; cases z) : True := h
theorem zau8 (h : True := by size_fits) : True := h
namespace L2
open PySem PySem.Spec PyProof.Rows
noncomputable abbrev Key:=Sum Int Str
noncomputable def Jv:Key->Value->Bool
 | .inl k,v=>Value.isInt k v
 | .inr x,v=>Value.isStrOf x v
noncomputable def W6(w:World):Key->Int
 | .inl k=>hashInt k
 | .inr x=>hashStr w x
theorem BL:∀{k:Key} {v:Value},Jv k v=true->(∃i t,k=aQ i/\v=cM i t)\/(∃x t,k=YJ x/\v=cN x t)
 | .inl i,v,h=>by
  obtain⟨t,e⟩:=Value.isInt_shape (k:=i) (v:=v) h
  exact .inl ⟨i,t,rfl,e⟩
 | .inr x,v,h=>by
  obtain⟨t,e⟩:=Value.isStrOf_shape (x:=x) (v:=v) h
  exact .inr ⟨x,t,rfl,e⟩
theorem PL(i:Int)(t:Tok):Jv (.inl i) (.int i t)=true:=by simp [Jv,Value.isInt]
theorem PK(x:Str)(t:Tok):Jv (.inr x) (.str x t)=true:=by simp [Jv,Value.isStrOf]
theorem Uh(a b:Int):decide ((aQ a:Key)=aQ b)=(a==b):=by
 by_cases e:a=b
 ·subst e; simp
 ·have h:¬(aQ a:Key)=aQ b:=λq=>e (Sum.inl.inj q)
  rw [decide_eq_false h]
  exact(beq_eq_false_iff_ne.mpr e).symm
theorem Ud(a b:Str):decide ((YJ a:Key)=YJ b)=decide (a=b):=by
 by_cases e:a=b
 ·subst e; simp
 ·have h:¬(YJ a:Key)=YJ b:=λq=>e (Yx q)
  rw [decide_eq_false h,decide_eq_false e]
theorem Ug(a:Int)(b:Str):decide ((aQ a:Key)=YJ b)=false:=decide_eq_false (λq=>nomatch q)
theorem Ue(a:Str)(b:Int):decide ((YJ a:Key)=aQ b)=false:=decide_eq_false (λq=>nomatch q)
noncomputable def BK(prog:Program)(w:World):PySem.KeyKind prog w Key where
 is:=Jv
 hash:=W6 w
 inj:=λv a b ha hb=>by
  rcases BL ha with ⟨i,t,rfl,rfl⟩ | ⟨x,t,rfl,rfl⟩
  ·rcases BL hb with ⟨j,u,rfl,e⟩ | ⟨y,u,rfl,e⟩
   ·injection e with e1 _; rw [e1]
   ·exact nomatch e
  ·rcases BL hb with ⟨j,u,rfl,e⟩ | ⟨y,u,rfl,e⟩
   ·exact nomatch e
   ·injection e with e1 _; rw [e1]
 byValue:=λk v h=>by
  rcases BL h with ⟨i,t,rfl,rfl⟩ | ⟨x,t,rfl,rfl⟩ <;> rfl
 pyHash:=λhv h=>by
  rcases BL hv with ⟨i,t,rfl,rfl⟩ | ⟨x,t,rfl,rfl⟩
  ·exact wpAny_pyHash_int h
  ·exact wpAny_pyHash_str h
 eqBool:=λhu hv h=>by
  rcases BL hu with ⟨i,t,rfl,rfl⟩ | ⟨x,t,rfl,rfl⟩
  ·rcases BL hv with ⟨j,u,rfl,rfl⟩ | ⟨y,u,rfl,rfl⟩
   ·rw [Uh] at h; exact wpAny_eqBool_int h
   ·rw [Ug] at h; exact cO i t y u _ _ _ _ h
  ·rcases BL hv with ⟨j,u,rfl,rfl⟩ | ⟨y,u,rfl,rfl⟩
   ·rw [Ue] at h; exact cP x t j u _ _ _ _ h
   ·rw [Ud] at h; exact wpAny_eqBool_str h
 «strs»:=λk x t v h=>by
  rcases BL h with ⟨i,u,rfl,e⟩ | ⟨y,u,rfl,e⟩
  ·exact nomatch e
  ·injection e with e1 _
   subst e1
   cases v <;> rfl
theorem L1(prog:Program)(w:World)(i:Int)(t:Tok):(BK prog w).is (.inl i) (.int i t)=true:=PL i t
theorem L0(prog:Program)(w:World)(x:Str)(t:Tok):(BK prog w).is (.inr x) (.str x t)=true:=PK x t
inductive V where
 | non | bl (b:Bool) | int (i:Int) | str (x:Str) | byt (b:Array UInt8) | flt (b:UInt64) | ref (a:Addr) | ty (n:String)
 deriving DecidableEq
noncomputable def RelV:V->Value->Prop
 | .non,u=>u=YM
 | .bl b,u=>u=ZY b
 | .int i,u=>∃t,u=cM i t
 | .str x,u=>∃t,u=cN x t
 | .byt b,u=>∃t,u=Value.bytes b t
 | .flt b,u=>∃t,u=Value.float b t
 | .ref a,u=>u=YO a
 | .ty n,u=>u=bR n
noncomputable abbrev Vals:List V->List Value->Prop:=Paired RelV
theorem Vals.length{xs:List V}{us:List Value}(r:Vals xs us):xs.length=us.length:=Paired.length r
theorem Vals.get:∀{xs:List V} {us:List Value} {i:Nat} {x:V},Vals xs us->xs[i]?=some x->∃u,us[i]?=some u/\RelV x u
 | _,_,_,_,.nil,e=>by simp at e
 | _,_,0,_,.cons r _,e=>by simp at e; subst e; exact⟨_,rfl,r⟩
 | _,_,i+1,x,.cons _ t,e=>by
  obtain⟨u,h1,h2⟩:=Vals.get (i:=i) (x:=x) t (by simpa using e)
  exact⟨u,by simpa using h1,h2⟩
theorem Vals.set{x:V}{u:Value}(r:RelV x u):∀{xs:List V} {us:List Value} (i:Nat),Vals xs us->Vals (xs.set i x) (us.set i u)
 | _,_,_,.nil=>.nil
 | _,_,0,.cons _ t=>.cons r t
 | _,_,i+1,.cons q t=>.cons q (Vals.set r i t)
theorem Vals.append:∀{xs ys:List V} {us ws:List Value},Vals xs us->Vals ys ws->Vals (xs++ys) (us++ws)
 | _,_,_,_,.nil,s=>s
 | _,_,_,_,.cons r t,s=>.cons r (Vals.append t s)
theorem Vals.take:∀{xs:List V} {us:List Value} (n:Nat),Vals xs us->Vals (xs.take n) (us.take n)
 | _,_,0,_=>.nil
 | _,_,_+1,.nil=>.nil
 | _,_,n+1,.cons r t=>.cons r (Vals.take n t)
theorem Vals.drop:∀{xs:List V} {us:List Value} (n:Nat),Vals xs us->Vals (xs.drop n) (us.drop n)
 | _,_,0,r=>r
 | _,_,_+1,.nil=>.nil
 | _,_,n+1,.cons _ t=>Vals.drop n t
noncomputable def RelO:Option V->Option Value->Prop
 | some v,some u=>RelV v u
 | none,none=>True
 | _,_=>False
noncomputable def KV{κ:Type}:List (κ×V)->List (κ×Value)->Prop:=Paired fun(p:κ×V) (q:κ×Value)=>p.1=q.1/\RelV p.2 q.2
noncomputable def kV:Key->V
 | .inl i=>.int i
 | .inr x=>.str x
inductive HO where
 | lst (xs:List V)
 | tup (xs:List V)
 | dK (kvs:List (Key×V)) | dT (kvs:List (List Key×V))
 | set (S:Int->Bool) (n:Nat)
 | ins (C dx:Addr) (fs:List (Str×V))
 | own (x:Addr)
 | xd (fs:List (Str×V))
 | met (f x:Addr)
 | rng (lo hi:Int)
 | frz (o:Obj) (u:HO)
 | tbl (ps:Array Value)
 | ext (φ:Heap->Prop)
noncomputable abbrev Hp:=Addr->Option HO
noncomputable def BB(H:Hp)(a:Addr)(o:HO):Hp:=λb=>if b=a then some o else H b
theorem AY{H:Hp}{a:Addr}{o:HO}:BB H a o a=some o:=by unfold BB; rw [if_pos rfl]
theorem AT{H:Hp}{a b:Addr}{o:HO}(h:b≠a):BB H a o b=H b:=by unfold BB; rw [if_neg h]
theorem V5{H:Hp}{a b:Addr}{o u:HO}(h:H a=some o)(h':H b=some u)(d:o≠u):a≠b:=by
 intro e; subst e; rw [h] at h'; exact d (TW h')
theorem A1{H:Hp}{a b:Addr}{o:HO}(h:H a=some o)(h':H b=none):a≠b:=by
 intro e; subst e; rw [h] at h'; cases h'
noncomputable def IsTupN(h:Heap)(a:Addr)(items:Array Value):Prop:=∃o,h.get? a=some o/\o.cls=.type "tuple"/\∃n,o.data=.seq items n/\o.dict=none/\o.slots=#[]
theorem IsTupN.tup{h:Heap}{a:Addr}{items:Array Value}(x:IsTupN h a items):IsTup h a items:=let ⟨o,h1,h2,n,h3,_⟩:=x; ⟨o,h1,h2,n,h3⟩
theorem IsTupN.new(h:Heap)(items:Array Value):IsTupN (h.push { cls:=.type "tuple",data:=.seq items }) h.objs.size items:=⟨_,UF _ rfl,rfl,_,rfl,rfl,rfl⟩
section
variable (P:Program)(w:World)
noncomputable def ObjOk(H:Hp)(h:Heap)(a:Addr):HO->Prop
 | .lst xs=>xs.length<=sizeLine/\∃(its:List Value) (n:Nat),Vals xs its/\h.get? a=some { cls:=.type "list",data:=.seq its.toArray n }
 | .tup xs=>xs.length<=sizeLine/\∃its:List Value,Vals xs its/\IsTupN h a its.toArray
 | .dK kvs=>kvs.length<=sizeLine/\(a==sysModules)=false/\∃vs,KV kvs vs/\h.DictOf (BK P w) a vs
 | .dT kvs=>kvs.length<=sizeLine/\(a==sysModules)=false/\∃xs:List (List Key×Addr×Value),
   Paired (fun(p:List Key×V) (q:List Key×Addr×Value)=>p.1=q.1/\H q.2.1=some (.tup (p.1.map kV))/\RelV p.2 q.2.2) kvs xs /\
   ∃o es ep,h.get? a=some o/\o.ExactDict/\o.data=.dict es ep/\es.toList=xs.map (entryOfKey (tupleKind (BK P w)))/\(xs.map (·.1)).Nodup
 | .set S n=>h.SetOf (intKind P w) a S n
 | .ins C dx fs=>H dx=some (.own a)/\fs.length<=1000/\dx≠a/\h.get? a=some (PySem.W.instObj C dx) /\
   ∃mA,h.Ns1 dx mA/\(∀f,RelO (fs.lookup f) (mA f))/\PySem.Within mA (fs.map (·.1))
 | .own _=>∃o,h.get? a=some o
 | .xd fs=>∃mA,h.Ns1 a mA/\∀f,RelO (fs.lookup f) (mA f)
 | .rng lo hi=>∃t u v,h.get? a=some { cls:=.type "range",data:=.fields #[.int lo t,.int hi u,.int 1 v] }
 | .frz o u=>h.get? a=some o/\ObjOk H h a u
 | .tbl ps=>h.get? a=some { cls:=.none,data:=.fields ps }
 | .met f x=>h.get? a=some (PySem.W.methodObj (.ref f) (.ref x))
 | .ext φ=>φ h/\(∃o,h.get? a=some o)/\∀h1 h2:Heap,φ h1->(∀o,h1.get? a=some o->h2.get? a=some o)->φ h2
noncomputable def HOk(H:Hp)(h:Heap):Prop:=∀a o,H a=some o->ObjOk P w H h a o
end
section
variable {P:Program}{w:World}{H H':Hp}{h h':Heap}{a:Addr}{o:HO}
theorem ObjOk.lt(x:ObjOk P w H h a o):a<h.objs.size:=by
 cases o with
 | lst xs=>obtain⟨_,_,_,_,e⟩:=x; exact Tk e
 | tup xs=>obtain⟨_,_,_,p⟩:=x; exact p.tup.lt
 | dK kvs=>obtain⟨_,_,_,_,o,_,_,e,_⟩:=x; exact Tk e
 | dT kvs=>obtain⟨_,_,_,_,o,_,_,e,_⟩:=x; exact Tk e
 | set S n=>obtain⟨o,_,_,_,e,_⟩:=x; exact Tk e
 | ins C dx fs=>obtain⟨_,_,_,e,_⟩:=x; exact Tk e
 | own y=>obtain⟨_,e⟩:=x; exact Tk e
 | xd fs=>obtain⟨_,⟨_,_,_,e,_⟩,_⟩:=x; exact Tk e
 | rng lo hi=>obtain⟨_,_,_,e⟩:=x; exact Tk e
 | frz ob u=>obtain⟨e,_⟩:=x; exact Tk e
 | tbl ps=>exact Tk (show h.get? a=some _ from x)
 | met f y=>exact Tk (show h.get? a=some _ from x)
 | ext φ=>obtain⟨_,⟨_,e⟩,_⟩:=x; exact Tk e
theorem Paired.mapP{α β:Type}{F G:α->β->Prop}:∀{l₁:List α} {l₂:List β},Paired F l₁ l₂->(∀a b,F a b->G a b)->Paired G l₁ l₂
 | _,_,.nil,_=>.nil
 | _,_,.cons r t,f=>.cons (f _ _ r) (Paired.mapP t f)
theorem ObjOk.stay(x:ObjOk P w H h a o)(k:∀b u,(b=a\/H b=some (.own a))->h.get? b=some u->h'.get? b=some u)
  (ho:∀b,H b=some (.own a)->H' b=some (.own a)) (ht:∀b xs,H b=some (.tup xs)->H' b=some (.tup xs)):ObjOk P w H' h' a o:=by
 induction o with
 | lst xs=>obtain⟨z,its,n,r,e⟩:=x; exact⟨z,its,n,r,k _ _ (.inl rfl) e⟩
 | tup xs=>obtain⟨z,its,r,ob,e,c⟩:=x; exact⟨z,its,r,ob,k _ _ (.inl rfl) e,c⟩
 | dK kvs=>obtain⟨z,y,vs,r,ob,es,ep,e,c⟩:=x; exact⟨z,y,vs,r,ob,es,ep,k _ _ (.inl rfl) e,c⟩
 | dT kvs =>
  obtain⟨z,y,xs,r,ob,es,ep,e,c⟩:=x
  exact⟨z,y,xs,Paired.mapP r λp q z=>⟨z.1,ht _ _ z.2.1,z.2.2⟩,ob,es,ep,k _ _ (.inl rfl) e,c⟩
 | set S n=>obtain⟨ob,es,ep,t,e,c⟩:=x; exact⟨ob,es,ep,t,k _ _ (.inl rfl) e,c⟩
 | ins C dx fs =>
  obtain⟨d,z,ne,e,mA,⟨od,es,ep,e2,c⟩,r⟩:=x
  exact⟨ho _ d,z,ne,k _ _ (.inl rfl) e,mA,⟨od,es,ep,k _ _ (.inr d) e2,c⟩,r⟩
 | own y=>obtain⟨ob,e⟩:=x; exact⟨ob,k _ _ (.inl rfl) e⟩
 | xd fs=>obtain⟨mA,⟨od,es,ep,e,c⟩,r⟩:=x; exact⟨mA,⟨od,es,ep,k _ _ (.inl rfl) e,c⟩,r⟩
 | rng lo hi=>obtain⟨t,u,v,e⟩:=x; exact⟨t,u,v,k _ _ (.inl rfl) e⟩
 | frz ob u ih=>obtain⟨e,q⟩:=x; exact⟨k _ _ (.inl rfl) e,ih q⟩
 | tbl ps =>
  have e:h.get? a=some { cls:=.none,data:=.fields ps }:=x
  show h'.get? a=some { cls:=.none,data:=.fields ps }
  exact k a _ (.inl rfl) e
 | met f y =>
  have e:h.get? a=some (PySem.W.methodObj (.ref f) (.ref y)):=x
  show h'.get? a=some (PySem.W.methodObj (.ref f) (.ref y))
  exact k a _ (.inl rfl) e
 | ext φ=>obtain⟨p,⟨o,e⟩,st⟩:=x; exact⟨st _ _ p λo q=>k _ _ (.inl rfl) q,⟨o,k _ _ (.inl rfl) e⟩,st⟩
theorem HOk.lt(x:HOk P w H h)(e:H a=some o):a<h.objs.size:=(x a o e).lt
theorem HOk.fresh(x:HOk P w H h)(e:h.objs.size<=a):H a=none:=by
 cases q:H a with
 | none=>rfl
 | some u=>exact absurd (YF (x.lt q) e) (Yy _)
theorem HOk.kept(x:HOk P w H h)(k:∀b u,h.get? b=some u->h'.get? b=some u):HOk P w H h':=λa o e =>
 (x a o e).stay (λb u _ q=>k b u q) (λ_ q=>q) λ_ _ q=>q
theorem HOk.laid(x:HOk P w H h)(k:∀b u,h.get? b=some u->h'.get? b=some u)(hp:h.objs.size<=a)(new:ObjOk P w (BB H a o) h' a o):HOk P w (BB H a o) h':=λb u e=>by
 have hn:=x.fresh hp
 by_cases hb:b=a
 ·subst hb; rw [AY] at e; cases e; exact new
 ·rw [AT hb] at e
  exact(x b u e).stay (λc v _ q=>k c v q) (λc q=>by rw [AT (A1 q hn)]; exact q) λc xs q=>by rw [AT (A1 q hn)]; exact q
end
noncomputable def Rd(H:Hp)(a:Addr)(u:HO):Prop:=H a=some u\/∃o,H a=some (.frz o u)
theorem Rd.ok{P:Program}{w:World}{H:Hp}{h:Heap}{a:Addr}{u:HO}(r:Rd H a u)(x:HOk P w H h):ObjOk P w H h a u:=by
 rcases r with r | ⟨o,r⟩
 ·exact x a u r
 ·obtain⟨_,q⟩:=x a _ r
  exact q
noncomputable def WT:Option HO->Prop
 | some (.lst _)=>True
 | some (.dK _)=>True
 | some (.dT _)=>True
 | some (.set _ _)=>True
 | some (.ins _ _ _)=>True
 | some (.ext _)=>True
 | _=>False
section
variable {P:Program}{w:World}{H:Hp}{h h':Heap}{x e:Addr}{o':HO}
theorem HOk.write(ok:HOk P w H h)(mu:WT (H x))(he:e=x\/H e=some (.own x))(k:∀b u,b≠e->h.get? b=some u->h'.get? b=some u)(heo:∃u,h'.get? e=some u)
  (new:ObjOk P w (BB H x o') h' x o'):HOk P w (BB H x o') h':=λb u q=>by
 have nown:∀c y,H c=some (.own y)->c≠x:=λc y r z=>by subst z; rw [r] at mu; exact mu
 have ntup:∀c xs,H c=some (.tup xs)->c≠x:=λc xs r z=>by subst z; rw [r] at mu; exact mu
 by_cases hb:b=x
 ·subst hb; rw [AY] at q; cases q; exact new
 ·rw [AT hb] at q
  by_cases hbe:b=e
  ·have q':H b=some (.own x):=by
    rcases he with z | z
    ·exact absurd (hbe.trans z) hb
    ·rw [hbe]; exact z
   rw [q] at q'; cases q'
   obtain⟨v,hv⟩:=heo
   exact⟨v,by rw [hbe]; exact hv⟩
  ·refine(ok b u q).stay (λc v hc r=>k c v ?_ r) (λc r=>by rw [AT (nown c b r)]; exact r) λc xs r=>by rw [AT (ntup c xs r)]; exact r
   rcases hc with rfl | hc
   ·exact hbe
   ·rintro rfl
    rcases he with z | z
    ·exact nown c b hc z
    ·rw [hc] at z; cases z; exact hb rfl
end
structure Un (fs ex:List Addr) (H H':Hp) (h h':Heap):Prop where
 keep:∀b o,h.get? b=some o->H b=none->b∉fs->b∉ex->h'.get? b=some o
 slot:∀b o,h.get? b=some o->H b=none->b∈fs->b∉ex->∃sl,h'.get? b=some { o with slots:=sl }
 free:∀b o,h.get? b=some o->H b=none->b∉ex->H' b=none
 there:∀b o,h.get? b=some o->b∉ex->∃o',h'.get? b=some o'
 tups:∀b xs,H b=some (.tup xs)->H' b=some (.tup xs)
 frzs:∀b o u,H b=some (.frz o u)->H' b=some (.frz o u)
 tbls:∀b ps,H b=some (.tbl ps)->∃more,H' b=some (.tbl (ps++more))
section
variable {fs fs' ex ex':List Addr}{H H1 H2:Hp}{h h1 h2 h':Heap}{a x e:Addr}{o:HO}
theorem Un.any(u:Un fs ex H H1 h h1){b:Addr}{ob:Obj}(q:h.get? b=some ob)(n:H b=none)(hx:b∉ex):∃sl,h1.get? b=some { ob with slots:=sl }:=by
 by_cases hb:b∈fs
 ·exact u.slot b ob q n hb hx
 ·exact⟨ob.slots,u.keep b ob q n hb hx⟩
theorem Un.kept(k:∀b u,h.get? b=some u->h'.get? b=some u):Un fs ex H H h h' :=
 ⟨λb ob q _ _ _=>k b ob q,λb ob q _ _ _=>⟨ob.slots,k b ob q⟩,λ_ _ _ n _=>n,λb ob q _=>⟨ob,k b ob q⟩,λ_ _ q=>q,λ_ _ _ q=>q,λ_ ps q=>⟨#[],by rw [q]; simp⟩⟩
theorem Un.refl:Un fs ex H H h h:=Un.kept λ_ _ q=>q
theorem Un.laid(k:∀b u,h.get? b=some u->h'.get? b=some u)(hp:h.objs.size<=a)(hn:H a=none):Un fs ex H (BB H a o) h h' where
 keep:=λb u q _ _ _=>k b u q
 slot:=λb u q _ _ _=>⟨u.slots,k b u q⟩
 free:=λb u q n _=>by rw [AT (YE (YF (Tk q) hp))]; exact n
 there:=λb u q _=>⟨u,k b u q⟩
 tups:=λb xs q=>by rw [AT (A1 q hn)]; exact q
 frzs:=λb u xs q=>by rw [AT (A1 q hn)]; exact q
 tbls:=λb ps q=>⟨#[],by rw [AT (A1 q hn),q]; simp⟩
theorem Un.write(mu:WT (H x))(he:e=x\/H e=some (.own x))(k:∀b u,b≠e->h.get? b=some u->h'.get? b=some u)(heo:∃u,h'.get? e=some u):Un fs ex H (BB H x o) h h':=by
 have hx:∀b,H b=none->b≠x:=λb n z=>by subst z; rw [n] at mu; exact mu
 have hb:∀b,H b=none->b≠e:=λb n z=>by
  subst z
  rcases he with r | r
  ·exact hx b n r
  ·rw [n] at r; cases r
 have hm:∀b u,H b=some u->¬WT (some u)->b≠x:=λb u q nm z=>by subst z; rw [q] at mu; exact nm mu
 refine⟨λb u q n _ _=>k b u (hb b n) q,λb u q n _ _=>⟨u.slots,k b u (hb b n) q⟩,λb u q n _=>by rw [AT (hx b n)]; exact n,λb u q _=>?_,
  λb xs q=>by rw [AT (hm b _ q λz=>z)]; exact q,λb u xs q=>by rw [AT (hm b _ q λz=>z)]; exact q,λb ps q=>⟨#[],by rw [AT (hm b _ q λz=>z),q]; simp⟩⟩
 by_cases hbe:b=e
 ·subst hbe; exact heo
 ·exact⟨u,k b u hbe q⟩
end
noncomputable def Wa(h:Heap)(H:Hp):List Addr:=(YN h.objs.size).filter λa=>(H a).isSome
noncomputable def K2(h:Heap)(H:Hp):Heap:=PySem.W.hideAll h (Wa h H)
theorem PQ(h:Heap)(H:Hp):(K2 h H).objs.size=h.objs.size:=PySem.W.hideAll_size _ _
theorem Qv{h:Heap}{H:Hp}{b:Addr}{o:Obj}(e:h.get? b=some o)(n:H b=none):(K2 h H).get? b=some o :=
 PySem.W.hideAll_get _ e λhm=>by
  have q:(H b).isSome=true:=(ZQ.mp hm).2
  rw [n] at q; simp at q
theorem Sa{h:Heap}{H:Hp}{b:Addr}{o:Obj}(e:(K2 h H).get? b=some o):h.get? b=some o/\H b=none:=by
 have e':h.get? b=some o:=PySem.W.of_hideAll (Wa h H) e
 refine⟨e',?_⟩
 cases q:H b with
 | none=>rfl
 | some x =>
  have hm:b∈Wa h H:=ZQ.mpr ⟨Yt.mpr (Tk e'),by simp [q]⟩
  have z:(K2 h H).get? b=none:=PySem.W.hideAll_none (Wa h H) hm
  rw [z] at e; cases e
structure Mod (K:Frag) (mg:Str->Option Value) (base:Heap):Prop where
 kin:K.In base
 glob:base.Ns mainGlobals mg
 blt:∃mb,base.Ns builtinsNs mb/\∀x:Str,x ≠ "__name__"->mb x=bootBuiltins x
 nolimit:base.NoLimit
/-- the context: a def's body (or a comprehension's block) running. base: fixed through the whole law; s₀, H₀: the entry; outer: the frames whose slots others may change (a def's callers); stack: all frames that run;
   ex: iterators that were made ahead of the entry and are walked here (a comprehension's); fn: the names whose cells were made at the entry (a def: all; a comprehension's block: its own); calm: not within an except suite; pn: pins that every state bears; xe: what is wanted of an exception that leaves the code -/
structure Cx where
 prog:Program
 w:World
 K:Frag
 mg:Str->Option Value
 base:Heap
 A:Around
 N:List Str
 s₀:Shared
 H₀:Hp
 env:Env
 outer:List Env
 stack:List Env
 ex:List Addr
 fn:Str->Bool
 calm:Bool
 pn:List (Addr×Obj)
 xe:Value->Shared->Prop
noncomputable def PR(l:List Env):List Addr:=l.filterMap (·.frame)
noncomputable abbrev Cx.fs(X:Cx):List Addr:=PR X.outer
noncomputable def VF(sc:Scope)(x:Str):Prop:=sc.names.lookup x=some .local\/sc.names.lookup x=some .cell\/sc.names.lookup x=some .free
noncomputable def Loc(sc:Scope)(x:Str):Prop:=sc.names.lookup x=some .local\/sc.names.lookup x=some .cell
noncomputable def Look(env:Env)(h:Heap)(m:Str->Option Value)(x:Str)(u:Value):Prop :=
 (env.kindOf x=some .local/\m x=some u)\/((env.kindOf x=some .cell\/env.kindOf x=some .free)/\∃c,env.cells.lookup x=some c/\h.IsCell c (some u))
structure Cx.Ok (X:Cx):Prop where
 mod:Mod X.K X.mg X.base
 kind:X.env.scope.kind=.function
 glob:X.env.globals=mainGlobals
 blt:X.env.builtins=builtinsNs
 above:X.s₀.heap.objs.size<=X.env.locals
 inj:∀x y c,X.env.cells.lookup x=some c->X.env.cells.lookup y=some c->x=y
 has:∀x,(X.env.kindOf x=some .cell\/X.env.kindOf x=some .free)->∃c,X.env.cells.lookup x=some c
 cab:∀x c,X.fn x=true->X.env.cells.lookup x=some c->X.s₀.heap.objs.size<=c
 hd:X.calm=true->X.A.handled=none
 frames:X.A.frames=some X.stack
 stk:X.stack=X.outer\/(X.stack=X.env::X.outer/\X.env.frame=some X.env.locals)
 exf:∀b∈X.ex,b≠X.env.locals/\∀x c,X.env.cells.lookup x=some c->c≠b
 bs:∀b o,X.base.get? b=some o->X.s₀.heap.get? b=some o/\X.H₀ b=none
 bsz:X.base.objs.size<=X.s₀.heap.objs.size
 noex:∀b o,X.base.get? b=some o->b∉X.ex
 exfs:∀b∈X.ex,b∉X.fs
 funs:X.s₀.heap.FunFrames X.base X.outer
 frf:∀b∈X.fs,X.H₀ b=none
structure Inv (X:Cx) (pins:List (Addr×Obj)) (σ:List (Option V)) (H:Hp) (s:Shared):Prop where
 ok:X.Ok
 os:s.os=X.s₀.os
 bare:AllBare s.gens
 base:Un X.fs X.ex X.H₀ H X.s₀.heap s.heap
 loc:∃m,s.heap.Ns X.env.locals m/\∀(i:Nat) (x:Str) (v:V),X.N[i]?=some x->σ[i]?=some (some v)->VF X.env.scope x->∃u,RelV v u/\Look X.env s.heap m x u
 cell:∀x c,X.env.cells.lookup x=some c->∃v,s.heap.IsCell c v
 free:H X.env.locals=none
 freeC:∀x c,X.env.cells.lookup x=some c->H c=none
 pin:∀p∈X.pn++pins,s.heap.get? p.1=some p.2/\H p.1=none/\p.1≠X.env.locals/\p.1∉X.fs/\∀v,p.2.data≠.cell v
 hok:HOk X.prog X.w H s.heap
 len:σ.length=X.N.length
section
variable {X:Cx}{pins:List (Addr×Obj)}{σ:List (Option V)}{H H':Hp}{s:Shared}{h':Heap}
theorem Cx.Ok.nofr(ok:X.Ok){b:Addr}{o:Obj}(e:X.base.get? b=some o):b∉X.fs:=λhb=>by
 have:=(ok.funs.mem hb).1
 rw [e] at this; cases this
theorem Inv.bs(I:Inv X pins σ H s):∀b o,X.base.get? b=some o->s.heap.get? b=some o/\H b=none:=λb o e =>
 ⟨I.base.keep b o (I.ok.bs b o e).1 (I.ok.bs b o e).2 (I.ok.nofr e) (I.ok.noex b o e),I.base.free b o (I.ok.bs b o e).1 (I.ok.bs b o e).2 (I.ok.noex b o e)⟩
theorem Inv.bk(I:Inv X pins σ H s):∀b o,X.base.get? b=some o->s.heap.get? b=some o:=λb o e=>(I.bs b o e).1
theorem Inv.mod(I:Inv X pins σ H s):Mod X.K X.mg X.base:=I.ok.mod
theorem Inv.kIn(I:Inv X pins σ H s):X.K.In s.heap:=I.ok.mod.kin.keeps I.bk
theorem Inv.lt(I:Inv X pins σ H s):X.env.locals<s.heap.objs.size:=let ⟨_,hn,_⟩:=I.loc; hn.lt
theorem Inv.sz(I:Inv X pins σ H s):X.s₀.heap.objs.size<=s.heap.objs.size:=YH I.ok.above (aA I.lt)
theorem Inv.nofs(I:Inv X pins σ H s){a:Addr}(h:s.heap.objs.size<=a):a∉X.fs:=λhb=>by
 obtain⟨_,o,ho,_⟩:=I.ok.funs.mem hb
 exact absurd (YF (Tk ho) (YH I.sz h)) (Yy _)
theorem Inv.cne(I:Inv X pins σ H s):∀x c,X.env.cells.lookup x=some c->c≠X.env.locals:=λx c e z=>by
 obtain⟨v,o,ho,hd⟩:=I.cell x c e
 obtain⟨m,⟨o',es,ep,ho',hd',_⟩,_⟩:=I.loc
 rw [z,ho'] at ho; cases ho; rw [hd'] at hd; cases hd
theorem Inv.funs(I:Inv X pins σ H s):s.heap.FunFrames X.base X.outer:=by
 have all:∀(l:List Env),(∀b∈PR l,b∈X.fs)->X.s₀.heap.FunFrames X.base l->s.heap.FunFrames X.base l:=by
  intro l
  induction l with
  | nil=>intro _ _; trivial
  | cons env r ih =>
   intro hs hl
   obtain⟨hk,⟨L,o,hf,hn,ho,hd⟩,hr⟩:=hl
   have hL:L∈X.fs:=hs L (by unfold PR; rw [al,hf]; exact Op)
   obtain⟨sl,e⟩:=I.base.slot L o ho (I.ok.frf L hL) hL λz=>I.ok.exfs L z hL
   exact⟨hk,⟨L,_,hf,hn,e,hd⟩,ih (λb hb=>hs b (by unfold PR; rw [al,hf]; exact Sc _ hb)) hr⟩
 exact all X.outer (λ_ hb=>hb) I.ok.funs
theorem Inv.stack(I:Inv X pins σ H s):s.heap.FunFrames X.base X.stack:=by
 rcases I.ok.stk with e | ⟨e,hf⟩
 ·rw [e]; exact I.funs
 ·rw [e]
  obtain⟨m,hn,_⟩:=I.loc
  refine .cons (by rw [I.ok.kind]; decide) hf hn ?_ I.funs
  exact Heap.get?_none_of_le (YH I.ok.bsz I.ok.above)
theorem Inv.stkSub(I:Inv X pins σ H s):∀b∈PR X.stack,b∈X.env.locals::X.fs:=λb hb=>by
 rcases I.ok.stk with e | ⟨e,hf⟩
 ·rw [e] at hb; exact Sc _ hb
 ·rw [e] at hb
  unfold PR at hb
  rw [al,hf] at hb
  exact hb
theorem Inv.stkFree(I:Inv X pins σ H s):∀b∈PR X.stack,H b=none:=λb hb=>by
 rcases X_.mp (I.stkSub b hb) with e | hb
 ·rw [e]; exact I.free
 ·obtain⟨_,o,ho,_⟩:=I.ok.funs.mem hb
  exact I.base.free b o ho (I.ok.frf b hb) λz=>I.ok.exfs b z hb
theorem Inv.step{g':Array GenState}{t':Nat}{d':Drawn}{ch:List Addr}(I:Inv X pins σ H s)
  (hch:∀b∈ch,(b∈X.ex\/X.s₀.heap.objs.size<=b)/\b≠X.env.locals/\(∀x c,X.env.cells.lookup x=some c->c≠b)/\∀p∈X.pn++pins,p.1≠b)
  (keep:∀b o,b≠X.env.locals->b∉X.fs->b∉ch->s.heap.get? b=some o->H b=none->h'.get? b=some o)
  (slot:∀b o,b≠X.env.locals->b∈X.fs->b∉ch->s.heap.get? b=some o->H b=none->∃sl,h'.get? b=some { o with slots:=sl }) (free:∀b o,b∉ch->s.heap.get? b=some o->H b=none->H' b=none)
  (there:∀b o,b∉ch->s.heap.get? b=some o->∃o',h'.get? b=some o')
  (tups:∀b xs,H b=some (.tup xs)->H' b=some (.tup xs)) (frzs:∀b o u,H b=some (.frz o u)->H' b=some (.frz o u)) (tbls:∀b ps,H b=some (.tbl ps)->∃more,H' b=some (.tbl (ps++more)))
  (ns:∀m,s.heap.Ns X.env.locals m->h'.Ns X.env.locals m) (hok:HOk X.prog X.w H' h') (hg:AllBare g') :
  Inv X pins σ H' { s with heap:=h',gens:=g',drawn:=d',toks:=t' }:=by
 have neL:∀b o,X.s₀.heap.get? b=some o->b≠X.env.locals:=λb o e=>YE (YF (Tk e) I.ok.above)
 have neC:∀b o,X.s₀.heap.get? b=some o->b∉X.ex->b∉ch:=λb o e hx hb=>by
  rcases (hch b hb).1 with z | z
  ·exact hx z
  ·exact absurd (YF (Tk e) z) (Yy _)
 have cellK:∀x c,X.env.cells.lookup x=some c->∀v,s.heap.IsCell c v->h'.IsCell c v:=λx c e v ⟨o,ho,hd⟩=>by
  have nch:c∉ch:=λz=>(hch c z).2.2.1 x c e rfl
  by_cases hc:c∈X.fs
  ·obtain⟨sl,q⟩:=slot c o (I.cne x c e) hc nch ho (I.freeC x c e)
   exact⟨_,q,hd⟩
  ·exact⟨o,keep c o (I.cne x c e) hc nch ho (I.freeC x c e),hd⟩
 refine⟨I.ok,I.os,hg,⟨λb o e n hb hx=>?_,λb o e n hb hx=>?_,λb o e n hx=>?_,λb o e hx=>?_,λb xs e=>tups b xs (I.base.tups b xs e),λb o xs e=>frzs b o xs (I.base.frzs b o xs e),λb ps e=>?_⟩,?_,λx c e=>?_,?_,λx c e=>?_,λp hp=>?_,hok,I.len⟩
 ·exact keep b o (neL b o e) hb (neC b o e hx) (I.base.keep b o e n hb hx) (I.base.free b o e n hx)
 ·obtain⟨sl,e1⟩:=I.base.slot b o e n hb hx
  obtain⟨sl',e2⟩:=slot b _ (neL b o e) hb (neC b o e hx) e1 (I.base.free b o e n hx)
  exact⟨sl',e2⟩
 ·obtain⟨o',e1⟩:=I.base.there b o e hx
  exact free b o' (neC b o e hx) e1 (I.base.free b o e n hx)
 ·obtain⟨o',e1⟩:=I.base.there b o e hx
  exact there b o' (neC b o e hx) e1
 ·obtain⟨m1,e1⟩:=I.base.tbls b ps e
  obtain⟨m2,e2⟩:=tbls b _ e1
  exact⟨m1++m2,by rw [e2,Array.append_assoc]⟩
 ·obtain⟨m,hn,hl⟩:=I.loc
  refine⟨m,ns m hn,λi x v e1 e2 e3=>?_⟩
  obtain⟨u,r,l⟩:=hl i x v e1 e2 e3
  refine⟨u,r,?_⟩
  rcases l with l | ⟨k,c,e,z⟩
  ·exact .inl l
  ·exact .inr ⟨k,c,e,cellK x c e _ z⟩
 ·obtain⟨v,z⟩:=I.cell x c e
  exact⟨v,cellK x c e v z⟩
 ·obtain⟨m,⟨o,_,_,ho,_⟩,_⟩:=I.loc
  exact free _ o (λz=>(hch _ z).2.1 rfl) ho I.free
 ·obtain⟨v,o,ho,hd⟩:=I.cell x c e
  exact free c o (λz=>(hch c z).2.2.1 x c e rfl) ho (I.freeC x c e)
 ·obtain⟨e,n,ne,nf,d⟩:=I.pin p hp
  have nch:p.1∉ch:=λz=>(hch p.1 z).2.2.2 p hp rfl
  exact⟨keep p.1 p.2 ne nf nch e n,free p.1 p.2 nch e n,ne,nf,d⟩
theorem Inv.un{t':Nat}(I:Inv X pins σ H s)(u:Un X.fs [] H H' s.heap h')(hok:HOk X.prog X.w H' h'):Inv X pins σ H' { s with heap:=h',toks:=t' }:=by
 obtain⟨m,⟨o,es,ep,ho,r⟩,_⟩:=id I.loc
 obtain⟨sl,hL⟩:=u.any ho I.free (by simp)
 exact I.step (g':=s.gens) (d':=s.drawn) (ch:=[]) (λ_ z=>nomatch z) (λb o _ hb _ e n=>u.keep b o e n hb (by simp)) (λb o _ hb _ e n=>u.slot b o e n hb (by simp)) (λb o _ e n=>u.free b o e n (by simp)) (λb o _ e=>u.there b o e (by simp)) u.tups u.frzs u.tbls (λm' hm=>by
  obtain⟨o',es',ep',ho',r'⟩:=hm
  rw [ho] at ho'; cases ho'
  exact⟨_,es',ep',hL,r'⟩) hok I.bare
theorem Inv.call{g':Array GenState}{t':Nat}{d':Drawn}{ch:List Addr}(I:Inv X pins σ H s)(u:Un (PR X.stack) ch H H' s.heap h')(hok:HOk X.prog X.w H' h')(hg:AllBare g')
  (hch:∀b∈ch,(b∈X.ex\/X.s₀.heap.objs.size<=b)/\b≠X.env.locals/\(∀x c,X.env.cells.lookup x=some c->c≠b)/\∀p∈X.pn++pins,p.1≠b) :
  Inv X pins σ H' { s with heap:=h',gens:=g',drawn:=d',toks:=t' }:=by
 obtain⟨m,⟨o,es,ep,ho,r⟩,_⟩:=id I.loc
 obtain⟨sl,hL⟩:=u.any ho I.free λz=>(hch _ z).2.1 rfl
 exact I.step (ch:=ch) hch (λb o hL hb hc e n=>u.keep b o e n (λz=>(X_.mp (I.stkSub b z)).elim hL hb) hc) (λb o _ _ hc e n=>u.any e n hc) (λb o hc e n=>u.free b o e n hc) (λb o hc e=>u.there b o e hc) u.tups u.frzs u.tbls (λm' hm=>by
  obtain⟨o',es',ep',ho',r'⟩:=hm
  rw [ho] at ho'; cases ho'
  exact⟨_,es',ep',hL,r'⟩) hok hg
theorem Inv.turned{t':Nat}{it:Addr}(I:Inv X pins σ H s)(k:∀b o,b≠it->s.heap.get? b=some o->h'.get? b=some o)(hn:H it=none)(hL:it≠X.env.locals)
  (h1:it∈X.ex\/X.s₀.heap.objs.size<=it) (h2:∀x c,X.env.cells.lookup x=some c->c≠it) (h3:∀p∈X.pn++pins,p.1≠it):Inv X pins σ H { s with heap:=h',toks:=t' }:=by
 have nit:∀b u,H b=some u->b≠it:=λb u e z=>by rw [z,hn] at e; cases e
 refine I.step (g':=s.gens) (d':=s.drawn) (ch:=[it]) (λb hb=>?_) (λb o _ _ hc e _=>k b o (λz=>hc (by simp [z])) e) (λb o _ _ hc e _=>⟨o.slots,k b o (λz=>hc (by simp [z])) e⟩) (λ_ _ _ _ n=>n)
  (λb o hc e=>⟨o,k b o (λz=>hc (by simp [z])) e⟩) (λ_ _ e=>e) (λ_ _ _ e=>e) (λb ps e=>⟨#[],by rw [e]; simp⟩) (λm hm=>?_) (λb u e=>?_) I.bare
 ·have e:b=it:=by simpa using hb
  subst e
  exact⟨h1,hL,h2,h3⟩
 ·obtain⟨o,es,ep,ho,r⟩:=hm
  exact⟨o,es,ep,k _ o (Yq hL) ho,r⟩
 ·refine(I.hok b u e).stay (λc v hc q=>k c v ?_ q) (λ_ q=>q) λ_ _ q=>q
  rcases hc with z | z
  ·rw [z]; exact nit b u e
  ·exact nit c _ z
theorem Inv.tok(I:Inv X pins σ H s)(t:Nat):Inv X pins σ H { s with toks:=t }:=I.un (h':=s.heap) (t':=t) Un.refl I.hok
theorem Inv.kept{t':Nat}(I:Inv X pins σ H s)(k:∀b u,s.heap.get? b=some u->h'.get? b=some u):Inv X pins σ H { s with heap:=h',toks:=t' }:=I.un (Un.kept k) (I.hok.kept k)
theorem Inv.laid{a:Addr}{o:HO}{t':Nat}(I:Inv X pins σ H s)(k:∀b u,s.heap.get? b=some u->h'.get? b=some u)(hp:s.heap.objs.size<=a)(new:ObjOk X.prog X.w (BB H a o) h' a o) :
  Inv X pins σ (BB H a o) { s with heap:=h',toks:=t' }:=I.un (Un.laid k hp (I.hok.fresh hp)) (I.hok.laid k hp new)
theorem Inv.write{x e:Addr}{o:HO}{t':Nat}(I:Inv X pins σ H s)(mu:WT (H x))(he:e=x\/H e=some (.own x))(k:∀b u,b≠e->s.heap.get? b=some u->h'.get? b=some u)(heo:∃u,h'.get? e=some u)
  (new:ObjOk X.prog X.w (BB H x o) h' x o):Inv X pins σ (BB H x o) { s with heap:=h',toks:=t' }:=I.un (Un.write mu he k heo) (I.hok.write mu he k heo new)
theorem Inv.pins_of{pins':List (Addr×Obj)}(I:Inv X pins σ H s)(h:∀p∈pins',s.heap.get? p.1=some p.2/\H p.1=none/\p.1≠X.env.locals/\p.1∉X.fs/\∀v,p.2.data≠.cell v):Inv X pins' σ H s :=
 ⟨I.ok,I.os,I.bare,I.base,I.loc,I.cell,I.free,I.freeC,λp hp=>(YI.mp hp).elim (λz=>I.pin p (Yc _ z)) (h p),I.hok,I.len⟩
theorem F4{N:List Str}(hN:N.Nodup){i j:Nat}{x:Str}(a:N[i]?=some x)(b:N[j]?=some x):i=j:=by
 obtain⟨h1,e1⟩:=X4.mp a
 obtain⟨h2,e2⟩:=X4.mp b
 exact(bV hN).mp (e1.trans e2.symm)
theorem Ji{M:Model}{A:Around}{E:Value->Shared->Prop}{i:Nat}{x:Str}{v:V}{u:Value}{Q:Unit->Shared->Prop}(I:Inv X pins σ H s)(hN:X.N.Nodup)(hi:X.N[i]?=some x)(hx:Loc X.env.scope x)(r:RelV v u)
  (h:∀s',Inv X pins (σ.set i (some v)) H s'->(∃a,ZP a s.heap s'.heap/\(a=X.env.locals\/X.env.cells.lookup x=some a))->Q () s') (hf:autoParam (X.fn x=true\/X.env.scope.names.lookup x=some .local) zau0._auto_1):wpAny M A (storeName X.env x u) Q E s:=by
 obtain⟨m,hn,hl⟩:=id I.loc
 have hcls:(X.env.scope.kind==.class||(X.env.scope.kind==.module&&X.env.locals != X.env.globals))=false:=by rw [I.ok.kind]; rfl
 have hiσ:i<σ.length:=by rw [I.len]; exact(X4.mp hi).1
 have cne:=I.cne
 have tracked:∀{a:Addr} {h':Heap},(∃o,s.heap.get? a=some o/\H a=none)->ZP a s.heap h'->HOk X.prog X.w H h':=λ{a h'} ha hs b ob e=>by
  obtain⟨_,_,hfree⟩:=ha
  refine(I.hok b ob e).stay (λc w' hc q=>(hs.2 c ?_).trans q) (λ_ q=>q) λ_ _ q=>q
  rintro rfl
  rcases hc with rfl | hc
  ·rw [hfree] at e; cases e
  ·rw [hfree] at hc; cases hc
 rcases hx with hk | hk
 ·refine wpAny_storeName_local hk hn (λh' hn' hs=>?_) hcls
  obtain⟨oL,_,_,hoL,_⟩:=id hn
  refine h _ ⟨I.ok,I.os,I.bare,⟨λb o e n hb hx=>?_,λb o e n hb hx=>?_,I.base.free,λb o e hx=>?_,I.base.tups,I.base.frzs,I.base.tbls⟩,⟨_,hn',λj y v' e1 e2 e3=>?_⟩,λy c e=>?_,I.free,I.freeC,λp hp=>?_,tracked ⟨oL,hoL,I.free⟩ hs,by simpa using I.len⟩ ⟨_,hs,.inl rfl⟩
  ·exact(hs.2 b (YE (YF (Tk e) I.ok.above))).trans (I.base.keep b o e n hb hx)
  ·obtain⟨sl,e1⟩:=I.base.slot b o e n hb hx
   exact⟨sl,(hs.2 b (YE (YF (Tk e) I.ok.above))).trans e1⟩
  ·obtain⟨o',e1⟩:=I.base.there b o e hx
   exact⟨o',(hs.2 b (YE (YF (Tk e) I.ok.above))).trans e1⟩
  ·by_cases hj:j=i
   ·subst hj
    rw [hi] at e1; cases e1
    rw [bv hiσ] at e2
    cases e2
    exact⟨u,r,.inl ⟨hk,by simp⟩⟩
   ·rw [List.getElem?_set_ne (Yq hj)] at e2
    obtain⟨u',r',q⟩:=hl j y v' e1 e2 e3
    refine⟨u',r',?_⟩
    rcases q with ⟨k,e⟩ | ⟨k,c,e,z⟩
    ·refine .inl ⟨k,?_⟩
     have:y≠x:=λe=>hj (F4 hN e1 (e▸hi))
     simp [this,e]
    ·exact .inr ⟨k,c,e,z.sameBut hs (cne y c e)⟩
  ·obtain⟨w',z⟩:=I.cell y c e
   exact⟨w',z.sameBut hs (cne y c e)⟩
  ·obtain⟨e,n,ne,nf,d⟩:=I.pin p hp
   exact⟨(hs.2 p.1 ne).trans e,n,ne,nf,d⟩
 ·have hfn:X.fn x=true:=by
   rcases hf with z | z
   ·exact z
   ·rw [z] at hk; cases hk
  obtain⟨c,hc⟩:=I.ok.has x (.inl hk)
  obtain⟨w',z⟩:=I.cell x c hc
  refine wpAny_storeName_cell I.ok.kind hk hc z (λh' hc' hs=>?_)
  obtain⟨oc,hoc,hocd⟩:=id z
  refine h { s with heap:=h' } ⟨I.ok,I.os,I.bare,⟨λb o e n hb hx=>?_,λb o e n hb hx=>?_,I.base.free,λb o e hx=>?_,I.base.tups,I.base.frzs,I.base.tbls⟩,⟨m,hn.sameBut hs (Yq (cne x c hc)),λj y v' e1 e2 e3=>?_⟩,λy c' e=>?_,I.free,I.freeC,λp hp=>?_,tracked ⟨oc,hoc,I.freeC x c hc⟩ hs,by simpa using I.len⟩ ⟨c,hs,.inr hc⟩
  ·exact(hs.2 b (YE (YF (Tk e) (I.ok.cab x c hfn hc)))).trans (I.base.keep b o e n hb hx)
  ·obtain⟨sl,e1⟩:=I.base.slot b o e n hb hx
   exact⟨sl,(hs.2 b (YE (YF (Tk e) (I.ok.cab x c hfn hc)))).trans e1⟩
  ·obtain⟨o',e1⟩:=I.base.there b o e hx
   exact⟨o',(hs.2 b (YE (YF (Tk e) (I.ok.cab x c hfn hc)))).trans e1⟩
  ·by_cases hj:j=i
   ·subst hj
    rw [hi] at e1; cases e1
    rw [bv hiσ] at e2
    cases e2
    exact⟨u,r,.inr ⟨.inl hk,c,hc,hc'⟩⟩
   ·rw [List.getElem?_set_ne (Yq hj)] at e2
    obtain⟨u',r',q⟩:=hl j y v' e1 e2 e3
    refine⟨u',r',?_⟩
    rcases q with q | ⟨k,c',e,z'⟩
    ·exact .inl q
    ·refine .inr ⟨k,c',e,z'.sameBut hs ?_⟩
     rintro rfl
     exact hj (F4 hN e1 (I.ok.inj _ _ _ e hc▸hi))
  ·by_cases hcc:c'=c
   ·subst hcc; exact⟨_,hc'⟩
   ·obtain⟨w2,z2⟩:=I.cell y c' e
    exact⟨w2,z2.sameBut hs hcc⟩
  ·obtain⟨e,n,ne,nf,d⟩:=I.pin p hp
   refine⟨(hs.2 p.1 ?_).trans e,n,ne,nf,d⟩
   intro q
   rw [q,hoc] at e
   have q':oc=p.2:=TW e
   exact d w' (by rw [← q']; exact hocd)
theorem Fo{M:Model}{A:Around}{E:Value->Shared->Prop}{i:Nat}{x:Str}{v:V}{u:Value}{Q:Unit->Shared->Prop}(I:Inv X pins σ H s)(hN:X.N.Nodup)(hi:X.N[i]?=some x)(hx:Loc X.env.scope x)(r:RelV v u)
  (h:∀s',Inv X pins (σ.set i (some v)) H s'->Q () s') (hf:autoParam (X.fn x=true\/X.env.scope.names.lookup x=some .local) zau0._auto_1):wpAny M A (storeName X.env x u) Q E s :=
 Ji I hN hi hx r (λs' I' _=>h s' I') hf
theorem Inv.call'{s':Shared}{ch:List Addr}(I:Inv X pins σ H s)(ho:s'.os=s.os)(u:Un (PR X.stack) ch H H' s.heap s'.heap)(hok:HOk X.prog X.w H' s'.heap)(hg:AllBare s'.gens)
  (hch:∀b∈ch,(b∈X.ex\/X.s₀.heap.objs.size<=b)/\b≠X.env.locals/\(∀x c,X.env.cells.lookup x=some c->c≠b)/\∀p∈X.pn++pins,p.1≠b):Inv X pins σ H' s':=by
 obtain⟨h',g',d',t',o'⟩:=s'
 have e:o'=s.os:=ho
 subst e
 exact I.call (g':=g') (t':=t') (d':=d') u hok hg hch
end
noncomputable abbrev XK:=Value->Option Addr->Hp->Prop
noncomputable abbrev St:=List (Option V)
noncomputable abbrev VK:=V->Hp->Prop
noncomputable abbrev TE:=St->Hp->VK->Prop
noncomputable abbrev TT:=St->Hp->(Bool->Hp->Prop)->Prop
noncomputable abbrev TA:=St->Hp->(List V->Hp->Prop)->Prop
structure Ends where
 nx:St->Hp->Prop
 rt:VK
 bk:St->Hp->Prop:=λ_ _=>False
 ct:St->Hp->Prop:=λ_ _=>False
noncomputable abbrev TS:=Ends->St->Hp->Prop
noncomputable def EP(X:Cx)(pins:List (Addr×Obj))(σ:St)(Q:VK)(u:Value)(s':Shared):Prop:=∃v H',Inv X pins σ H' s'/\RelV v u/\Q v H'
noncomputable def TP(X:Cx)(pins:List (Addr×Obj))(σ:St)(Q:Bool->Hp->Prop)(b:Bool)(s':Shared):Prop:=∃H',Inv X pins σ H' s'/\Q b H'
noncomputable def AP(X:Cx)(pins:List (Addr×Obj))(σ:St)(Q:List V->Hp->Prop)(us:List Value)(s':Shared):Prop:=∃vs H',Inv X pins σ H' s'/\Vals vs us/\Q vs H'
noncomputable def SP(X:Cx)(pins:List (Addr×Obj))(D:Ends)(f:Flow)(s':Shared):Prop :=
 match f with
 | .next=>∃σ' H',Inv X pins σ' H' s'/\D.nx σ' H'
 | .brk=>∃σ' H',Inv X pins σ' H' s'/\D.bk σ' H'
 | .cont=>∃σ' H',Inv X pins σ' H' s'/\D.ct σ' H'
 | .ret u=>∃v σ' H',Inv X pins σ' H' s'/\RelV v u/\D.rt v H'
noncomputable def PE(X:Cx)(e:Expr)(t:TE):Prop :=
 ∀(pins:List (Addr×Obj)) (s:Shared) (σ:St) (H:Hp) (Q:VK),Inv X pins σ H s->t σ H Q->wpAny (model X.prog X.w) X.A (eval e X.env) (EP X pins σ Q) X.xe s
noncomputable def PT(X:Cx)(e:Expr)(t:TT):Prop :=
 ∀(pins:List (Addr×Obj)) (s:Shared) (σ:St) (H:Hp) (Q:Bool->Hp->Prop),Inv X pins σ H s->t σ H Q->wpAny (model X.prog X.w) X.A (isTrue e X.env (eval e X.env)) (TP X pins σ Q) X.xe s
noncomputable def PW(X:Cx)(e:Expr)(t:TT):Prop :=
 ∀(whole:Sem Value) (pins:List (Addr×Obj)) (s:Shared) (σ:St) (H:Hp) (Q:Bool->Hp->Prop),Inv X pins σ H s->t σ H Q->wpAny (model X.prog X.w) X.A (isTrue e X.env whole) (TP X pins σ Q) X.xe s
theorem PW.pt{X:Cx}{e:Expr}{t:TT}(h:PW X e t):PT X e t:=h _
noncomputable def PA(X:Cx)(es:List Expr)(t:TA):Prop :=
 ∀(pos:Pos) (pins:List (Addr×Obj)) (s:Shared) (σ:St) (H:Hp) (Q:List V->Hp->Prop),Inv X pins σ H s->t σ H Q->wpAny (model X.prog X.w) X.A (spliced (backTo pos (starEach es X.env))) (AP X pins σ Q) X.xe s
noncomputable def PS(X:Cx)(st:Stmt)(t:TS):Prop :=
 ∀(pins:List (Addr×Obj)) (s:Shared) (σ:St) (H:Hp) (D:Ends),Inv X pins σ H s->t D σ H->wpAny (model X.prog X.w) X.A (exec st X.env) (SP X pins D) X.xe s
noncomputable def PSs(X:Cx)(st:List Stmt)(t:TS):Prop :=
 ∀(pins:List (Addr×Obj)) (s:Shared) (σ:St) (H:Hp) (D:Ends),Inv X pins σ H s->t D σ H->wpAny (model X.prog X.w) X.A (execs st X.env) (SP X pins D) X.xe s
theorem BX{α:Type}{t:Sem α}{Q Q':α->Shared->Prop}{M:Model}{A:Around}{E:Value->Shared->Prop}{s:Shared}(h:wpAny M A t Q E s)(hQ:∀a s,Q a s->Q' a s):wpAny M A t Q' E s:=Yl h hQ λ_ _ x=>x
section
variable {X:Cx}
noncomputable def BG(i:Nat):TE:=λσ H Q=>∃v,σ[i]?=some (some v)/\Q v H
noncomputable def tC(v:V):TE:=λ_ H Q=>Q v H
theorem IM{i:Nat}{x:Str}{pos:Pos}(hN:X.N[i]?=some x)(hv:VF X.env.scope x)(hd:autoParam ((x==("__debug__" : Str))=false) zau1._auto_1)(hcd:autoParam ((x==("__classdict__" : Str))=false) zau1._auto_1):PE X (.Name x pos) (BG i):=by
 intro pins s σ H Q I h
 obtain⟨v,e,h⟩:=h
 obtain⟨m,hn,hl⟩:=I.loc
 obtain⟨u,r,l⟩:=hl i x v hN e hv
 have fin:EP X pins σ Q u s:=⟨v,H,I,r,h⟩
 rcases l with ⟨hk,hm⟩ | ⟨hk,c,hc,hcell⟩
 ·exact wpAny_Name (wpAny_loadName_local I.ok.kind hk hn hm fin) hd
 ·rcases hk with hk | hk
  ·exact wpAny_Name (wpAny_loadName_cell I.ok.kind hk hc hcell fin) hd
  ·exact wpAny_Name (wpAny_loadName_free I.ok.kind hk hc hcell fin hcd) hd
theorem Av{i j pos}:PE X (.Constant (.int i) j pos) (tC (.int i)):=λ_ _ _ H _ I h=>wpAny_Constant_int ⟨.int i,H,I.tok _,⟨_,rfl⟩,h⟩
theorem V2{b j pos}:PE X (.Constant (.bool b) j pos) (tC (.bl b)):=λ_ _ _ H _ I h=>Constant_bool ⟨.bl b,H,I,rfl,h⟩
theorem IP{j pos}:PE X (.Constant .none j pos) (tC .non):=λ_ _ _ H _ I h=>Constant_none ⟨.non,H,I,rfl,h⟩
theorem C5{x j pos}:PE X (.Constant (.str x) j pos) (tC (.str x)):=λ_ _ _ H _ I h=>Calls.Constant_str ⟨.str x,H,I.tok _,⟨_,rfl⟩,h⟩
noncomputable def Gl(X:Cx)(x:Str):Prop:=X.env.kindOf x=some .globalImplicit
theorem K1{E:Value->Shared->Prop}{pins:List (Addr×Obj)}{s:Shared}{σ:St}{H:Hp}{x:Str}{u:Value}{pos:Pos}{Q:Value->Shared->Prop}(I:Inv X pins σ H s)(hg:Gl X x)(hm:X.mg x=some u)(h:Q u s)
  (hd:autoParam ((x==("__debug__" : Str))=false) zau1._auto_1):wpAny (model X.prog X.w) X.A (eval (.Name x pos) X.env) Q E s :=
 bD I.ok.kind hg (Calls.loadGlobal_global (by rw [I.ok.glob]; exact I.mod.glob.keeps I.bk) hm h) hd
theorem Fc{E:Value->Shared->Prop}{pins:List (Addr×Obj)}{s:Shared}{σ:St}{H:Hp}{x:Str}{u:Value}{pos:Pos}{Q:Value->Shared->Prop}(I:Inv X pins σ H s)(hg:Gl X x)(hm:X.mg x=none)(hv:bootBuiltins x=some u)(h:Q u s)
  (hn:autoParam (x ≠ "__name__") zau1._auto_1) (hd:autoParam ((x==("__debug__" : Str))=false) zau1._auto_1):wpAny (model X.prog X.w) X.A (eval (.Name x pos) X.env) Q E s:=by
 obtain⟨mb,h1,h2⟩:=I.mod.blt
 exact bD I.ok.kind hg (Calls.loadGlobal_builtin (by rw [I.ok.glob]; exact I.mod.glob.keeps I.bk) hm (by rw [I.ok.blt]; exact h1.keeps I.bk) ((h2 x hn).trans hv) h) hd
theorem SK{x:Str}{v:V}{u:Value}{pos:Pos}(hg:Gl X x)(hm:X.mg x=some u)(r:RelV v u)(hd:autoParam ((x==("__debug__" : Str))=false) zau1._auto_1):PE X (.Name x pos) (tC v) :=
 λ_ _ _ H _ I h=>K1 I hg hm ⟨v,H,I,r,h⟩ hd
theorem SO{x:Str}{v:V}{u:Value}{pos:Pos}(hg:Gl X x)(hm:X.mg x=none)(hv:bootBuiltins x=some u)(r:RelV v u)(hn:autoParam (x ≠ "__name__") zau1._auto_1)(hd:autoParam ((x==("__debug__" : Str))=false) zau1._auto_1):PE X (.Name x pos) (tC v) :=
 λ_ _ _ H _ I h=>Fc I hg hm hv ⟨v,H,I,r,h⟩ hn hd
variable {a b:Expr}{ta tb:TE}{pos:Pos}
noncomputable def tB(t:TE):TT:=λσ H Q=>t σ H λx H1=>∃c,x=.bl c/\Q c H1
theorem UM{e:Expr}{t:TE}(h:PE X e t)(he:autoParam (∀whole,isTrue e X.env whole=(do let v ← whole; standAt e.pos; holding [v] (truthy v))) zau2._auto_1):PT X e (tB t):=by
 intro pins s σ H Q I hw
 refine isTrue_plain (BX (h pins s σ H _ I hw) λv s1 ⟨x,H1,I1,r1,q1⟩=>?_) (he _)
 obtain⟨d,rfl,q⟩:=q1
 cases r1
 exact Zt ⟨H1,I1,q⟩
variable {tA tB':TT}{rest:List Expr}
noncomputable def Vj(t u:TT):TT:=λσ H Q=>t σ H λc H1=>if c=true then u σ H1 Q else Q false H1
noncomputable def Xl(t u:TT):TT:=λσ H Q=>t σ H λc H1=>if c=true then Q true H1 else u σ H1 Q
noncomputable def Ww(t:TT):TT:=λσ H Q=>t σ H λc H1=>Q (!c) H1
theorem Kk(ha:PT X a tA):PW X (.BoolOp .And [a] pos) tA:=by
 intro wh pins s σ H Q I h
 refine isTrue_and (BX (ha pins s σ H Q I h) λc s1 e=>?_)
 cases c with
 | true=>exact isTrue_and_nil e
 | false=>exact e
theorem QV(ha:PT X a tA):PW X (.BoolOp .Or [a] pos) tA:=by
 intro wh pins s σ H Q I h
 refine isTrue_or (BX (ha pins s σ H Q I h) λc s1 e=>?_)
 cases c with
 | false=>exact isTrue_or_nil e
 | true=>exact e
theorem Mv(ha:PT X a tA)(hb:PW X (.BoolOp .And (b::rest) pos) tB'):PW X (.BoolOp .And (a::b::rest) pos) (Vj tA tB'):=by
 intro wh pins s σ H Q I h
 refine isTrue_and (BX (ha pins s σ H _ I h) λc s1 ⟨H1,I1,q1⟩=>?_)
 cases c with
 | true=>exact hb wh pins s1 σ H1 Q I1 q1
 | false=>exact⟨H1,I1,q1⟩
theorem Th(ha:PT X a tA)(hb:PW X (.BoolOp .Or (b::rest) pos) tB'):PW X (.BoolOp .Or (a::b::rest) pos) (Xl tA tB'):=by
 intro wh pins s σ H Q I h
 refine isTrue_or (BX (ha pins s σ H _ I h) λc s1 ⟨H1,I1,q1⟩=>?_)
 cases c with
 | true=>exact⟨H1,I1,q1⟩
 | false=>exact hb wh pins s1 σ H1 Q I1 q1
theorem UN(ha:PT X a tA):PT X (.UnaryOp .Not a pos) (Ww tA):=by
 intro pins s σ H Q I h
 exact isTrue_not (ha pins s σ H (λc H1=>Q (!c) H1) I h)
noncomputable def Vi(ta tb:TE):TE:=λσ H Q=>ta σ H λx H1=>∃c,x=.bl c/\if c=true then tb σ H1 Q else Q (.bl false) H1
noncomputable def Vc(ta:TE):TE:=λσ H Q=>ta σ H λx H1=>∃c,x=.bl c/\Q (.bl (!c)) H1
theorem UQ{op}{t:TE}(h:PE X a t):PE X (.BoolOp op [a] pos) t:=λpins s σ H Q I hw=>BoolOp_one (h pins s σ H Q I hw)
theorem US(ha:PE X a ta)(hb:PE X (.BoolOp .And (b::rest) pos) tb):PE X (.BoolOp .And (a::b::rest) pos) (Vi ta tb):=by
 intro pins s σ H Q I h
 refine BoolOp_and (BX (ha pins s σ H _ I h) λv s1 ⟨x,H1,I1,r1,q1⟩=>?_)
 obtain⟨c,rfl,q1⟩:=q1
 cases r1
 refine Zt ?_
 cases c with
 | true=>exact hb pins s1 σ H1 Q I1 q1
 | false=>exact⟨.bl false,H1,I1,rfl,q1⟩
theorem UR(ha:PE X a ta):PE X (.UnaryOp .Not a pos) (Vc ta):=by
 intro pins s σ H Q I h
 refine UnaryOp_ (BX (ha pins s σ H _ I h) λv s1 ⟨x,H1,I1,r1,q1⟩=>?_)
 obtain⟨c,rfl,q1⟩:=q1
 cases r1
 exact not_of (Zt ⟨.bl (!c),H1,I1,rfl,q1⟩)
noncomputable def Xm(t:TT)(ta tb:TE):TE:=λσ H Q=>t σ H λc H1=>if c=true then ta σ H1 Q else tb σ H1 Q
theorem Ls{c:Expr}(hc:PT X c tA)(ha:PE X a ta)(hb:PE X b tb):PE X (.IfExp c a b pos) (Xm tA ta tb):=by
 intro pins s σ H Q I h
 refine wpAny_IfExp (BX (hc pins s σ H _ I h) λd s1 ⟨H1,I1,q1⟩=>?_)
 cases d with
 | true=>exact ha pins s1 σ H1 Q I1 q1
 | false=>exact hb pins s1 σ H1 Q I1 q1
end
noncomputable def SqL(K:Frag)(H:Hp)(a:Addr)(xs:List V):Prop :=
 Rd H a (.lst xs) \/
  ∃(o:Obj) (its:Array Value) (n:Nat),K.lookup a=some o/\o.cls=.type "list"/\o.dict=none/\o.data=.seq its n/\its.size<=sizeLine/\Vals xs its.toList
noncomputable def SqT(K:Frag)(H:Hp)(a:Addr)(xs:List V):Prop :=
 Rd H a (.tup xs) \/
  ∃(o:Obj) (its:Array Value) (n:Nat),K.lookup a=some o/\o.cls=.type "tuple"/\o.data=.seq its n/\its.size<=sizeLine/\Vals xs its.toList
noncomputable def XM:Value->Option V
 | .none=>some .non
 | .bool b=>some (.bl b)
 | .int i _=>some (.int i)
 | .str x _=>some (.str x)
 | .bytes b _=>some (.byt b)
 | .float b _=>some (.flt b)
 | .ref a=>some (.ref a)
 | .type n=>some (.ty n)
 | _=>none
theorem RelV.abs{x:V}{u:Value}(r:RelV x u):XM u=some x:=by
 cases x with
 | non=>cases r; rfl
 | bl _=>cases r; rfl
 | int _=>obtain⟨t,rfl⟩:=r; rfl
 | str _=>obtain⟨t,rfl⟩:=r; rfl
 | byt _=>obtain⟨t,rfl⟩:=r; rfl
 | flt _=>obtain⟨t,rfl⟩:=r; rfl
 | ref _=>cases r; rfl
 | ty _=>cases r; rfl
theorem RelV.inj{x y:V}{u:Value}(r:RelV x u)(q:RelV y u):x=y:=TW (r.abs.symm.trans q.abs)
theorem Vals.inj:∀{xs ys:List V} {us:List Value},Vals xs us->Vals ys us->xs=ys
 | _,_,_,.nil,.nil=>rfl
 | _,_,_,.cons r t,.cons r' t'=>by rw [r.inj r',Vals.inj t t']
section
variable {X:Cx}{pins:List (Addr×Obj)}{σ:St}{H:Hp}{s:Shared}{a:Addr}{xs ys:List V}
theorem SqL.of{K:Frag}(h:H a=some (.lst xs)):SqL K H a xs:=.inl (.inl h)
theorem SqT.of{K:Frag}(h:H a=some (.tup xs)):SqT K H a xs:=.inl (.inl h)
theorem Inv.list(I:Inv X pins σ H s)(h:SqL X.K H a xs):∃its:List Value,Vals xs its/\PlainL s.heap a its.toArray/\xs.length<=sizeLine:=by
 rcases h with h | ⟨o,its,n,hk,hc,hd,hs,hz,r⟩
 ·obtain⟨z,its,n,r,e⟩:=h.ok I.hok
  exact⟨its,r,⟨_,n,e,rfl,rfl,rfl⟩,z⟩
 ·refine⟨its.toList,r,⟨o,n,I.kIn a o hk,hc,hd,by simpa using hs⟩,?_⟩
  have e:=r.length
  simp only [YY] at e
  omega
theorem Inv.tuple(I:Inv X pins σ H s)(h:SqT X.K H a xs):∃its:List Value,Vals xs its/\IsTup s.heap a its.toArray/\xs.length<=sizeLine:=by
 rcases h with h | ⟨o,its,n,hk,hc,hs,hz,r⟩
 ·obtain⟨z,its,r,p⟩:=h.ok I.hok
  exact⟨its,r,p.tup,z⟩
 ·refine⟨its.toList,r,⟨o,I.kIn a o hk,hc,n,by simpa using hs⟩,?_⟩
  have e:=r.length
  simp only [YY] at e
  omega
theorem Inv.list_inj(I:Inv X pins σ H s)(h:SqL X.K H a xs)(h':SqL X.K H a ys):xs=ys:=by
 obtain⟨its,r,⟨o,n,e,_,_,d⟩,_⟩:=I.list h
 obtain⟨its',r',⟨o',n',e',_,_,d'⟩,_⟩:=I.list h'
 rw [e] at e'; cases e'
 rw [d] at d'
 injection d' with d1 _
 have:its=its':=by simpa using congrArg Array.toList d1
 subst this
 exact r.inj r'
theorem Inv.tuple_inj(I:Inv X pins σ H s)(h:SqT X.K H a xs)(h':SqT X.K H a ys):xs=ys:=by
 obtain⟨its,r,⟨o,e,_,n,d⟩,_⟩:=I.tuple h
 obtain⟨its',r',⟨o',e',_,n',d'⟩,_⟩:=I.tuple h'
 rw [e] at e'; cases e'
 rw [d] at d'
 injection d' with d1 _
 have:its=its':=by simpa using congrArg Array.toList d1
 subst this
 exact r.inj r'
end
noncomputable abbrev Cx.wish(X:Cx)(E:Value->Shared->Prop):Cx:={ X with xe:=E }
noncomputable abbrev Cx.nox(X:Cx):Cx:=X.wish λ_ _=>False
theorem Cx.Ok.wish{X:Cx}(ok:X.Ok)(E:Value->Shared->Prop):(X.wish E).Ok :=
 ⟨ok.mod,ok.kind,ok.glob,ok.blt,ok.above,ok.inj,ok.has,ok.cab,ok.hd,ok.frames,ok.stk,ok.exf,ok.bs,ok.bsz,ok.noex,ok.exfs,ok.funs,ok.frf⟩
theorem Cx.Ok.unwish{X:Cx}{E:Value->Shared->Prop}(ok:(X.wish E).Ok):X.Ok :=
 ⟨ok.mod,ok.kind,ok.glob,ok.blt,ok.above,ok.inj,ok.has,ok.cab,ok.hd,ok.frames,ok.stk,ok.exf,ok.bs,ok.bsz,ok.noex,ok.exfs,ok.funs,ok.frf⟩
section
variable {X:Cx}{pins:List (Addr×Obj)}{σ:St}{H:Hp}{s:Shared}{E:Value->Shared->Prop}
theorem Inv.wish(I:Inv X pins σ H s)(E:Value->Shared->Prop):Inv (X.wish E) pins σ H s:=⟨I.ok.wish E,I.os,I.bare,I.base,I.loc,I.cell,I.free,I.freeC,I.pin,I.hok,I.len⟩
theorem Inv.unwish(I:Inv (X.wish E) pins σ H s):Inv X pins σ H s:=⟨I.ok.unwish,I.os,I.bare,I.base,I.loc,I.cell,I.free,I.freeC,I.pin,I.hok,I.len⟩
theorem SP.unwish{D:Ends}{f:Flow}{s':Shared}(h:SP (X.wish E) pins D f s'):SP X pins D f s':=by
 cases f with
 | next=>obtain⟨σ',H',I,q⟩:=h; exact⟨σ',H',I.unwish,q⟩
 | brk=>obtain⟨σ',H',I,q⟩:=h; exact⟨σ',H',I.unwish,q⟩
 | cont=>obtain⟨σ',H',I,q⟩:=h; exact⟨σ',H',I.unwish,q⟩
 | ret u=>obtain⟨v,σ',H',I,r,q⟩:=h; exact⟨v,σ',H',I.unwish,r,q⟩
theorem PSs.nox{st:List Stmt}{t:TS}(h:PSs X.nox st t):PSs X st t:=λpins s σ H D I hw =>
 Yl (h pins s σ H D (I.wish _) hw) (λ_ _ q=>q.unwish) λ_ _ z=>ZZ z
end
section
variable {X:Cx}{st:Stmt}{rest:List Stmt}{t u:TS}{e:Expr}{te:TE}{pos:Pos}
noncomputable def TV:TS:=λD σ H=>D.nx σ H
noncomputable def Me(t u:TS):TS:=λD σ H=>t { D with nx:=u D } σ H
theorem Fw:PSs X [] TV:=λ_ _ σ H _ I h=>aV ⟨σ,H,I,h⟩
theorem A3(h1:PS X st t)(h2:PSs X rest u):PSs X (st::rest) (Me t u):=by
 intro pins s σ H D I h
 refine wpAny_execs_cons (BX (h1 pins s σ H { D with nx:=u D } I h) λf s1 q=>?_)
 cases f with
 | next =>
  obtain⟨σ',H',I',q⟩:=q
  exact h2 pins s1 σ' H' D I' q
 | ret v=>exact q
 | brk=>exact q
 | cont=>exact q
theorem Ba(h1:PS X st t):PSs X [st] t:=by
 intro pins s σ H D I h
 refine wpAny_execs_cons (BX (h1 pins s σ H D I h) λf s1 q=>?_)
 cases f with
 | next=>exact aV q
 | ret v=>exact q
 | brk=>exact q
 | cont=>exact q
theorem Inv.quiet{pins:List (Addr×Obj)}{σ:St}{H:Hp}{s:Shared}(I:Inv X pins σ H s):interactive X.env=false:=by simp [interactive,I.ok.kind]
noncomputable def Vf(te:TE):TS:=λD σ H=>te σ H λ_ H1=>D.nx σ H1
theorem SH(he:PE X e te)(hs:autoParam (swapsWith e none pos.line X.env=pure false) zau3._auto_1):PS X (.Expr e pos) (Vf te):=by
 intro pins s σ H D I h
 exact wpAny_Expr_any (BX (he pins s σ H _ I h) λv s1 ⟨x,H1,I1,r1,q1⟩=>⟨σ,H1,I1,q1⟩) I.quiet hs
noncomputable def Rv(te:TE):TS:=λD σ H=>te σ H D.rt
theorem Gh(he:PE X e te):PS X (.Return (some e) pos) (Rv te):=by
 intro pins s σ H D I h
 exact wpAny_Return_some (BX (he pins s σ H _ I h) λv s1 ⟨x,H1,I1,r1,q1⟩=>⟨x,σ,H1,I1,r1,q1⟩)
noncomputable def Vd(c:TT)(t u:TS):TS:=λD σ H=>c σ H λb H1=>if b=true then t D σ H1 else u D σ H1
theorem Lp{c:Expr}{a b:List Stmt}{tc:TT}(hc:PT X c tc)(ha:PSs X a t)(hb:PSs X b u):PS X (.If c a b pos) (Vd tc t u):=by
 intro pins s σ H D I h
 refine wpAny_If (BX (hc pins s σ H _ I h) λd s1 ⟨H1,I1,q1⟩=>?_)
 cases d with
 | true=>exact ha pins s1 σ H1 D I1 q1
 | false=>exact hb pins s1 σ H1 D I1 q1
end
noncomputable abbrev TG:=V->St->Hp->(St->Hp->Prop)->Prop
noncomputable abbrev VH:=List V->St->Hp->(St->Hp->Prop)->Prop
noncomputable def PG(X:Cx)(target:Expr)(t:TG):Prop :=
 ∀(pins:List (Addr×Obj)) (s:Shared) (σ:St) (H:Hp) (v:V) (u:Value) (Q:St->Hp->Prop),Inv X pins σ H s->RelV v u->t v σ H Q ->
  wpAny (model X.prog X.w) X.A (assign target X.env u) (λ_ s'=>∃σ' H',Inv X pins σ' H' s'/\Q σ' H') X.xe s
noncomputable def WQ(X:Cx)(ts:List Expr)(t:VH):Prop :=
 ∀(pins:List (Addr×Obj)) (s:Shared) (σ:St) (H:Hp) (vs:List V) (us:List Value) (Q:St->Hp->Prop),Inv X pins σ H s->Vals vs us->t vs σ H Q ->
  wpAny (model X.prog X.w) X.A (assignInOrder ((assignEach ts X.env).map (·.2)) us) (λ_ s'=>∃σ' H',Inv X pins σ' H' s'/\Q σ' H') X.xe s
noncomputable abbrev VG:=V->V->V->Hp->(Hp->Prop)->Prop
noncomputable def WO(X:Cx)(t:VG):Prop :=
 ∀(pins:List (Addr×Obj)) (s:Shared) (σ:St) (H:Hp) (o i v:V) (ov iv u:Value) (Q:Hp->Prop),Inv X pins σ H s->RelV o ov->RelV i iv->RelV v u->t o i v H Q ->
  wpAny (model X.prog X.w) X.A (setItem ov iv u) (λ_ s'=>∃H',Inv X pins σ H' s'/\Q H') X.xe s
section
variable {X:Cx}{pos:Pos}
noncomputable def G3(i:Nat):TG:=λv σ H Q=>Q (σ.set i (some v)) H
theorem CF{i:Nat}{x:Str}(hN:X.N.Nodup)(hi:X.N[i]?=some x)(hx:Loc X.env.scope x)(hf:autoParam (X.fn x=true\/X.env.scope.names.lookup x=some .local) zau0._auto_1):PG X (.Name x pos) (G3 i):=by
 intro pins s σ H v u Q I r h
 exact wpAny_assign_Name (Fo I hN hi hx r (λs' I'=>⟨_,H,I',h⟩) hf)
noncomputable def W9:VH:=λvs σ H Q=>vs=[]/\Q σ H
noncomputable def V9(t:TG)(u:VH):VH:=λvs σ H Q=>∃v r,vs=v::r/\t v σ H λσ' H'=>u r σ' H' Q
theorem Nv:WQ X [] W9:=by
 intro pins s σ H vs us Q I r h
 obtain⟨e,h⟩:=h
 subst e
 cases r
 exact assignInOrder_nil ⟨σ,H,I,h⟩
theorem Fx{e:Expr}{es:List Expr}{t:TG}{u:VH}(h1:PG X e t)(h2:WQ X es u)
  (hs:autoParam ((assignEach (e::es) X.env).map (·.2)=assign e X.env::(assignEach es X.env).map (·.2)) zau3._auto_1):WQ X (e::es) (V9 t u):=by
 intro pins s σ H vs us Q I r h
 obtain⟨v,vr,e1,h⟩:=h
 subst e1
 cases r with
 | cons r rr =>
  rw [hs]
  refine ay (BX (h1 pins s σ H _ _ _ I r h) λ_ s1 ⟨σ1,H1,I1,q1⟩=>?_)
  exact h2 pins s1 σ1 H1 _ _ Q I1 rr q1
noncomputable def W8(K:Frag)(n:Nat)(t:VH):TG:=λv σ H Q=>∃a xs,v=.ref a/\SqT K H a xs/\xs.length=n/\t xs σ H Q
theorem Qb{es:List Expr}{k:Nat}{t:VH}{n:Nat}(hc:X.calm=true)(h:WQ X es t)
  (hn:autoParam ((assignEach es X.env).length=n) zau3._auto_1) (hst:autoParam ((assignEach es X.env).findIdx? (·.1)=none) zau3._auto_1):PG X (.Tuple es k pos) (W8 X.K n t):=by
 intro pins s σ H v u Q I r hw
 obtain⟨a,xs,e1,hq,hl,hw⟩:=hw
 subst e1
 cases r
 obtain⟨its,rv,ht,hz⟩:=I.tuple hq
 refine assign_Tuple_tuple (I.ok.hd hc) ht (by simp [hn,← hl,rv.length]) hst λh' hx=>?_
 have I1:Inv X pins σ H { s with heap:=h' }:=I.kept (t':=s.toks) λb o e=>hx b o (YE (Tk e)) e
 exact h pins _ σ H xs _ Q I1 (by simpa using rv) hw
noncomputable def Uo(to ti:TE)(t:VG):TG:=λv σ H Q=>to σ H λo H1=>ti σ H1 λi H2=>t o i v H2 λH3=>Q σ H3
theorem Fa{o i:Expr}{to ti:TE}{t:VG}(ho:PE X o to)(hi:PE X i ti)(hs:WO X t)
  (ha:autoParam (∀v,assign (.Subscript o i pos) X.env v=(do
   let ov ← holding [v] (eval o X.env)
   let iv ← holding [v,ov] (eval i X.env)
   standAt pos
   holding [v,ov,iv] (setItem ov iv v)
   release [v,ov,iv] [])) zau2._auto_1):PG X (.Subscript o i pos) (Uo to ti t):=by
 intro pins s σ H v u Q I r h
 rw [ha]
 refine Ch (Yp (BX (ho pins s σ H _ I h) λov s1 ⟨x,H1,I1,r1,q1⟩=>?_))
 refine Ch (Yp (BX (hi pins s1 σ H1 _ I1 q1) λiv s2 ⟨y,H2,I2,r2,q2⟩=>?_))
 refine Ch (bE (Ch (Yp (BX (hs pins s2 σ H2 x y v ov iv u _ I2 r1 r2 r q2) λ_ s3 ⟨H3,I3,q3⟩=>?_))))
 exact wpAny_release ⟨σ,H3,I3,q3⟩
noncomputable def Lc(te:TE)(g:TG):TS:=λD σ H=>te σ H λx H1=>g x σ H1 D.nx
theorem FZ{tg e:Expr}{te:TE}{g:TG}(he:PE X e te)(hg:PG X tg g)(hs:autoParam (swapsWithSole [tg] e pos.line X.env=pure false) zau3._auto_1)(hw:autoParam (swappedStores [tg] e X.env=pure none) zau3._auto_1)
  (h1:autoParam ((assignEach [tg] X.env).map (·.2)=[assign tg X.env]) zau3._auto_1):PS X (.Assign [tg] e pos) (Lc te g):=by
 intro pins s σ H D I h
 refine wpAny_Assign_stores (BX (he pins s σ H _ I h) λv s1 ⟨x,H1,I1,r1,q1⟩=>?_) hs hw
 rw [h1]
 exact BX (hg pins s1 σ H1 x v _ I1 r1 q1) λ_ s2 q=>q
theorem Dq{i:Nat}{x:Str}{e:Expr}{te:TE}{pos':Pos}(hN:X.N.Nodup)(hi:X.N[i]?=some x)(hx:Loc X.env.scope x)(he:PE X e te)(hs:autoParam (swapsWith e (some (.Name x pos')) pos.line X.env=pure false) zau3._auto_1)(hf:autoParam (X.fn x=true\/X.env.scope.names.lookup x=some .local) zau0._auto_1) :
  PS X (.Assign [.Name x pos'] e pos) (Lc te (G3 i)):=by
 intro pins s σ H D I h
 refine wpAny_Assign_Name (BX (he pins s σ H _ I h) λv s1 ⟨y,H1,I1,r1,q1⟩=>?_) hs
 exact Fo I1 hN hi hx r1 (λs2 I2=>⟨_,H1,I2,q1⟩) hf
noncomputable def Wv(i j:Nat)(ta:TA):TS:=λD σ H=>ta σ H λvs H1=>∃v w,vs=[v,w]/\D.nx ((σ.set i (some v)).set j (some w)) H1
theorem UO{i j:Nat}{x y:Str}{a b:Expr}{ta:TA}{px py pt:Pos}{kt k2 pt2}(hc:X.calm=true)(hN:X.N.Nodup)(hi:X.N[i]?=some x)(hj:X.N[j]?=some y)(hij:i≠j)
  (hx:X.env.scope.names.lookup x=some .local) (hy:X.env.scope.names.lookup y=some .local) (ha:PA X [a,b] ta)
  (hw:swappedStores [.Tuple [.Name x px,.Name y py] kt pt] (.Tuple [a,b] k2 pt2) X.env=pure (some [x,y]))
  (hs:autoParam (swapsWithSole [.Tuple [.Name x px,.Name y py] kt pt] (.Tuple [a,b] k2 pt2) pos.line X.env=pure false) zau3._auto_1) :
  PS X (.Assign [.Tuple [.Name x px,.Name y py] kt pt] (.Tuple [a,b] k2 pt2) pos) (Wv i j ta):=by
 intro pins s σ H D I h
 rw [exec_Assign_arm]
 refine Ch (bE ?_)
 rw [hs]
 refine Ch (Go ?_)
 rw [if_neg (by decide)]
 refine Ch (Tuple_ (BX (ha _ pins s σ H _ I h) λus s1 ⟨vs,H1,I1,r1,q1⟩=>?_))
 obtain⟨v,w,e1,q1⟩:=q1
 subst e1
 obtain⟨u1,u2,rfl,rv,rw'⟩:∃u1 u2,us=[u1,u2]/\RelV v u1/\RelV w u2:=by
  cases r1 with
  | cons p q =>
   cases q with
   | cons p' q' =>
    cases q'
    exact⟨_,_,rfl,p,p'⟩
 refine YZ ?_ (by show 2<=sizeLine; decide)
 have I2:Inv X pins σ H1 { s1 with heap:=s1.heap.push { cls:=.type "tuple",data:=.seq [u1,u2].toArray } }:=I1.kept (t':=s1.toks) λb o e=>Ev _ e
 rw [hw]
 refine Ch (Go ?_)
 show wpAny (model X.prog X.w) X.A (do rule "assign.swapped-stores"; let items ← unpackItems (.ref s1.heap.objs.size) 2 none; assignInOrder [λv=>bindName X.env y v,λv=>bindName X.env x v] items.reverse; pure Flow.next) _ _ _
 refine Ch (Zz (Ch (unpackItems_tuple (items:=#[u1,u2]) (I.ok.hd hc) (IsTup.new s1.heap _) λh' hx'=>?_)))
 have I3:=I2.kept (h':=h') (t':=s1.toks) λb o e=>hx' b o (YE (Tk e)) e
 show wpAny _ _ (assignInOrder [λv=>bindName X.env y v,λv=>bindName X.env x v] [u2,u1] >>= λ_=>pure Flow.next) _ _ _
 refine Ch (ay (wpAny_bindName (Fo I3 hN hj (.inl hy) rw' (λs2 I4=>?_) (.inr hy))))
 refine ay (wpAny_bindName (Fo I4 hN hi (.inl hx) rv (λs3 I5=>assignInOrder_nil (Go ?_)) (.inr hx)))
 rw [List.set_comm _ _ (Yq hij)] at I5
 exact⟨_,H1,I5,q1⟩
end
section
variable {X:Cx}{pos:Pos}
noncomputable def UC(c:TT)(tb:TS):TS:=λD σ H=>∃W:Nat->St->Hp->Prop,(∃m,W m σ H)/\∀m σ H,W m σ H ->
 c σ H λb H1=>if b=true then ∃N:St->Hp->Prop,(∀σ' H',N σ' H'->∃m',m'<m/\W m' σ' H')/\tb { D with nx:=N,ct:=N,bk:=D.nx } σ H1 else D.nx σ H1
theorem QY{c:Expr}{body:List Stmt}{tc:TT}{tb:TS}(hp:PassesOwn (model X.prog X.w) X.A X.env X.xe)(hc:PT X c tc)(hb:PSs X body tb):PS X (.While c body [] pos) (UC tc tb):=by
 intro pins s σ H D I h
 obtain⟨W,⟨m0,w0⟩,turn⟩:=h
 refine wpAny_While (codeAny_whileLoop (λn s'=>∃σ' H',Inv X pins σ' H' s'/\W n σ' H') ?_ m0 ⟨σ,H,I,w0⟩)
 rintro n s1 ⟨σ1,H1,I1,w1⟩
 refine ZR hp (BX (hc pins s1 σ1 H1 _ I1 (turn n σ1 H1 w1)) λb s2 ⟨H2,I2,q2⟩=>?_)
 cases b with
 | true =>
  obtain⟨N,hN,q2⟩:=q2
  rw [if_pos rfl]
  refine ZR hp (BX (hb pins s2 σ1 H2 _ I2 q2) λf s3 q3=>?_)
  cases f with
  | next =>
   obtain⟨σ3,H3,I3,n3⟩:=q3
   obtain⟨m',hm,w3⟩:=hN σ3 H3 n3
   exact⟨m',hm,σ3,H3,I3,w3⟩
  | cont =>
   obtain⟨σ3,H3,I3,n3⟩:=q3
   obtain⟨m',hm,w3⟩:=hN σ3 H3 n3
   exact⟨m',hm,σ3,H3,I3,w3⟩
  | brk=>exact q3
  | ret v=>exact q3
 | false =>
  rw [if_neg Uf]
  exact aV ⟨σ1,H2,I2,q2⟩
end
structure It where
 go:Nat->Hp->Prop
 yld:Nat->Hp->V->Hp->Prop
 stop:Nat->Hp->Prop
noncomputable def JG(X:Cx)(pins:List (Addr×Obj))(H:Hp)(b:Addr):Prop :=
 H b=none/\b≠X.env.locals/\b∉X.fs/\(b∈X.ex\/X.s₀.heap.objs.size<=b)/\(∀x c,X.env.cells.lookup x=some c->c≠b)/\∀p∈X.pn++pins,p.1≠b
theorem Inv.fpOk{X:Cx}{pins:List (Addr×Obj)}{σ:St}{H H':Hp}{s:Shared}{b:Addr}(I:Inv X pins σ H s)(hb:s.heap.objs.size<=b)(hn:H' b=none):JG X pins H' b:=by
 refine⟨hn,aW (YF I.lt hb),I.nofs hb,.inr (YH I.sz hb),λx c e z=>?_,λp hp z=>?_⟩
 ·obtain⟨v,q⟩:=I.cell x c e
  exact absurd (YF q.lt (by rw [z]; exact hb)) (Yy _)
 ·exact absurd (YF (Tk (I.pin p hp).1) (by rw [z]; exact hb)) (Yy _)
structure Turn (P:Program) (w:World) (K:Frag) (tg:Expr) (J:It) (fp:List Addr) (it:Addr) (tn:Nat->Heap->Prop):Prop where
 mem:it∈fp
 obj:∀i h,tn i h->∀b∈fp,∃o,h.get? b=some o/\∀v,o.data≠.cell v
 keep:∀i h h',tn i h->(∀b∈fp,∀o,h.get? b=some o->h'.get? b=some o)->tn i h'
 item:∀(X:Cx),X.prog=P->X.w=w->X.K=K->X.calm=true->∀(i:Nat) (pins:List (Addr×Obj)) (s:Shared) (σ:St) (H:Hp) (E:Value->Shared->Prop),Inv X pins σ H s->(∀b∈fp,JG X pins H b)->tn i s.heap->J.go i H ->
  wpAny (model P w) X.A (pyNext (.ref it)) (λr s1=>∃u,r=some u /\
   wpAny (model P w) X.A (letOwnedTupleGo tg (.ref it) u) (λ_ s2=>∃x H',Inv X pins σ H' s2/\RelV x u/\J.yld i H x H'/\tn (i+1) s2.heap/\∀b∈fp,H' b=none) E s1) E s
 done:∀(X:Cx),X.prog=P->X.w=w->X.K=K->X.calm=true->∀(i:Nat) (pins:List (Addr×Obj)) (s:Shared) (σ:St) (H:Hp) (E:Value->Shared->Prop),Inv X pins σ H s->(∀b∈fp,JG X pins H b)->tn i s.heap->J.stop i H ->
  wpAny (model P w) X.A (pyNext (.ref it)) (λr s1=>r=none/\Inv X pins σ H s1) E s
 self:∀(A:Around) (i:Nat) (s:Shared) (Q:Value->Shared->Prop) (E:Value->Shared->Prop),tn i s.heap->Q (.ref it) s->wpAny (model P w) A (pyIter (.ref it)) Q E s
noncomputable abbrev TI:=St->Hp->(It->Hp->Prop)->Prop
noncomputable def Xe(X:Cx)(pins:List (Addr×Obj))(σ:St)(tg:Expr)(R:It->Hp->Prop)(itv:Value)(s2:Shared):Prop :=
 ∃(it:Addr) (fp:List Addr) (tn:Nat->Heap->Prop) (J:It) (H':Hp),itv=.ref it/\Inv X pins σ H' s2/\Turn X.prog X.w X.K tg J fp it tn/\tn 0 s2.heap/\(∀b∈fp,JG X pins H' b)/\R J H'
noncomputable def PI(X:Cx)(tg iter:Expr)(wi:TI):Prop :=
 ∀(pins:List (Addr×Obj)) (s:Shared) (σ:St) (H:Hp) (R:It->Hp->Prop),Inv X pins σ H s->wi σ H R ->
  wpAny (model X.prog X.w) X.A (eval iter X.env) (λv s1=>wpAny (model X.prog X.w) X.A (pyIter v) (Xe X pins σ tg R) X.xe s1) X.xe s
theorem N8 {M : Model} {A : Around} {E : Value → Shared → Prop} {s : Shared} {tg : Expr} {it : Addr} {u : Value} {o : Obj} {n : String} {vs : Array Value} {Q : Unit → Shared → Prop} (ho : s.heap.get? it = some o) (hc : o.cls = .type n) (hd : o.data = .fields vs)
    (hn : ["enumerate", "zip", "dict_itemiterator", "dict_reverseitemiterator", "odict_iterator", "itertools.zip_longest", "itertools.pairwise"].contains n = false) (hQ : Q () s) : wpAny M A (letOwnedTupleGo tg (.ref it) u) Q E s := by
  unfold letOwnedTupleGo
  cases tg <;> first
    | exact Go hQ
    | (cases u <;> first
        | exact Go hQ
        | (refine Ch (wpAny_load ho ?_)
           rw [hc, hd]
           show wpAny M A (if (["enumerate", "zip", "dict_itemiterator", "dict_reverseitemiterator", "odict_iterator", "itertools.zip_longest", "itertools.pairwise"].contains n && vs[0]? == some (rawInt _)) = true then _ else _) Q E s
           rw [if_neg (by intro h; rw [hn, Bool.false_and] at h; cases h)]
           exact Go hQ))
noncomputable def Rl(K:Frag)(a:Addr):It :=
 ⟨λi H=>∃xs x,SqL K H a xs/\xs[i]?=some x,λi H x H'=>H'=H/\∀xs,SqL K H a xs->xs[i]?=some x,λi H=>∃xs,SqL K H a xs/\xs.length<=i⟩
noncomputable def Rk(K:Frag)(a:Addr):It :=
 ⟨λi H=>∃xs x,SqT K H a xs/\xs[i]?=some x,λi H x H'=>H'=H/\∀xs,SqT K H a xs->xs[i]?=some x,λi H=>∃xs,SqT K H a xs/\xs.length<=i⟩
noncomputable def T3(lo:Int)(n:Nat):It:=⟨λi _=>i<n,λi H x H'=>H'=H/\x=.int (lo+i),λi _=>n<=i⟩
theorem Ob{P:Program}{w:World}{K:Frag}{tg:Expr}(a it:Addr):Turn P w K tg (Rl K a) [it] it (λi h=>h.IsListIter it a i) where
 mem:=by simp
 obj:=λi h st b hb=>by
  have e:b=it:=by simpa using hb
  subst e
  obtain⟨o,e,c,d⟩:=st
  exact⟨o,e,λv z=>by rw [d] at z; cases z⟩
 keep:=λi h h' st k=>st.at λo e=>k it (by simp) o e
 item:=by
  intro X hP hw hK hc i pins s σ H E I hf st hg
  subst hP hw hK
  obtain⟨xs,x,hq,hx⟩:=hg
  obtain⟨its,rv,p,hz⟩:=I.list hq
  obtain⟨u,hu,ru⟩:=rv.get hx
  obtain⟨f0,f1,f2,f3,f4,f5⟩:=hf it (by simp)
  refine wpAny_pyNext_list_item st p.isList (x:=u) (by simpa using hu) λh' st' sb=>?_
  have I1:Inv X pins σ H { s with heap:=h' }:=I.turned (t':=s.toks) (λb o hb e=>(sb.2 b hb).trans e) f0 f1 f3 f4 f5
  obtain⟨o,e,c,d⟩:=id st'
  exact⟨u,rfl,N8 (s:={ s with heap:=h' }) e c d (by decide) ⟨x,H,I1,ru,⟨rfl,λys hy=>by rw [I.list_inj hy hq]; exact hx⟩,st',λb hb=>(hf b hb).1⟩⟩
 done:=by
  intro X hP hw hK hc i pins s σ H E I hf st hg
  subst hP hw hK
  obtain⟨xs,hq,hx⟩:=hg
  obtain⟨its,rv,p,hz⟩:=I.list hq
  obtain⟨f0,f1,f2,f3,f4,f5⟩:=hf it (by simp)
  have hl:=rv.length
  exact wpAny_pyNext_list_end (I.ok.hd hc) st p.isList (by simp; omega) λh' eb=>⟨rfl,I.turned (t':=s.toks) (λb o hb e=>eb b o hb e) f0 f1 f3 f4 f5⟩
 self:=λ_ _ _ _ _ st h=>wpAny_pyIter_listiter st h
theorem Ma{P:Program}{w:World}{K:Frag}{tg:Expr}(a it:Addr):Turn P w K tg (Rk K a) [it] it (λi h=>h.IsTupleIter it a i) where
 mem:=by simp
 obj:=λi h st b hb=>by
  have e:b=it:=by simpa using hb
  subst e
  obtain⟨o,e,c,d⟩:=st
  exact⟨o,e,λv z=>by rw [d] at z; cases z⟩
 keep:=λi h h' st k=>st.at λo e=>k it (by simp) o e
 item:=by
  intro X hP hw hK hc i pins s σ H E I hf st hg
  subst hP hw hK
  obtain⟨xs,x,hq,hx⟩:=hg
  obtain⟨its,rv,p,hz⟩:=I.tuple hq
  obtain⟨u,hu,ru⟩:=rv.get hx
  obtain⟨f0,f1,f2,f3,f4,f5⟩:=hf it (by simp)
  refine wpAny_pyNext_tuple_item st (show s.heap.IsTuple a its.toArray from p) (x:=u) (by simpa using hu) λh' st' sb=>?_
  have I1:Inv X pins σ H { s with heap:=h' }:=I.turned (t':=s.toks) (λb o hb e=>(sb.2 b hb).trans e) f0 f1 f3 f4 f5
  obtain⟨o,e,c,d⟩:=id st'
  exact⟨u,rfl,N8 (s:={ s with heap:=h' }) e c d (by decide) ⟨x,H,I1,ru,⟨rfl,λys hy=>by rw [I.tuple_inj hy hq]; exact hx⟩,st',λb hb=>(hf b hb).1⟩⟩
 done:=by
  intro X hP hw hK hc i pins s σ H E I hf st hg
  subst hP hw hK
  obtain⟨xs,hq,hx⟩:=hg
  obtain⟨its,rv,p,hz⟩:=I.tuple hq
  obtain⟨f0,f1,f2,f3,f4,f5⟩:=hf it (by simp)
  have hl:=rv.length
  exact wpAny_pyNext_tuple_end (I.ok.hd hc) st (show s.heap.IsTuple a its.toArray from p) (by simp; omega) λh' eb=>⟨rfl,I.turned (t':=s.toks) (λb o hb e=>eb b o hb e) f0 f1 f3 f4 f5⟩
 self:=λ_ _ _ _ _ st h=>wpAny_pyIter_tupleiter st h
theorem Mb{P:Program}{w:World}{K:Frag}{tg:Expr}(it:Addr)(lo:Int)(n:Nat):Turn P w K tg (T3 lo n) [it] it (λi h=>IsRangeIter h it (lo+(i:Nat)*1) ((n:Int) - (i:Nat)) 1) where
 mem:=by simp
 obj:=λi h st b hb=>by
  have e:b=it:=by simpa using hb
  subst e
  exact⟨_,st,λv z=>by
   have z':Data.fields _=Data.cell v:=z
   cases z'⟩
 keep:=λi h h' st k=>k it (by simp) _ st
 item:=by
  intro X hP hw hK hc i pins s σ H E I hf st hg
  subst hP hw hK
  obtain⟨f0,f1,f2,f3,f4,f5⟩:=hf it (by simp)
  have W:=Walks.range (prog:=X.prog) (w:=X.w) (I.ok.hd hc) it lo 1 n
  refine W.item i s _ _ hg st λv h' tk hv st' kk=>?_
  obtain⟨t,rfl⟩:=hv
  have I1:Inv X pins σ H { s with heap:=h',toks:=tk }:=I.turned (λb o hb e=>kk b o (by simpa using hb) e) f0 f1 f3 f4 f5
  refine⟨_,rfl,N8 (s:={ s with heap:=h',toks:=tk }) (n := "range_iterator") st' rfl rfl (by decide) ⟨.int (lo+i),H,I1,⟨t,?_⟩,⟨rfl,rfl⟩,st',λb hb=>(hf b hb).1⟩⟩
  rw [Int.mul_one]
 done:=by
  intro X hP hw hK hc i pins s σ H E I hf st hg
  subst hP hw hK
  obtain⟨f0,f1,f2,f3,f4,f5⟩:=hf it (by simp)
  exact wpAny_pyNext_range_end (I.ok.hd hc) st (by have:n<=i:=hg; omega) λh' eb=>⟨rfl,I.turned (t':=s.toks) (λb o hb e=>eb b o hb e) f0 f1 f3 f4 f5⟩
 self:=λ_ _ _ _ _ st h=>wpAny_pyIter_rangeiter st h
section
variable {X:Cx}{tg:Expr}
theorem Lm{pins:List (Addr×Obj)}{σ:St}{H:Hp}{s:Shared}{R:It->Hp->Prop}{E:Value->Shared->Prop}{lo hi:Int}{t u v:Tok}{tk:Nat}(I:Inv X pins σ H s)(h1:-(2 ^ 62)<=lo)(h2:lo<2 ^ 62)(h3:-(2 ^ 62)<=hi)(h4:hi<2 ^ 62)
  (q:R (T3 lo (hi - lo).toNat) H):wpAny (model X.prog X.w) X.A (pyIter (.ref s.heap.objs.size)) (Xe X pins σ tg R) E { s with heap:=s.heap.push { cls:=.type "range",data:=.fields #[.int lo t,.int hi u,.int 1 v] },toks:=tk }:=by
 refine wpAny_pyIter_range (IsRange.new ..) (small_one h1 h2 h3 h4) ?_
 have I1:Inv X pins σ H { s with heap:=s.heap.push { cls:=.type "range",data:=.fields #[.int lo t,.int hi u,.int 1 v] },toks:=tk }:=I.kept λb o e=>Ev _ e
 refine⟨(s.heap.push { cls:=.type "range",data:=.fields #[.int lo t,.int hi u,.int 1 v] }).objs.size,[(s.heap.push { cls:=.type "range",data:=.fields #[.int lo t,.int hi u,.int 1 v] }).objs.size],_,_,H,rfl,
  I1.kept (t':=tk) λb o e=>Ev _ e,Mb _ lo (hi - lo).toNat,?_,λb hb=>?_,q⟩
 ·have e1:lo+((0:Nat):Int)*1=lo:=by simp
  have e2:(((hi - lo).toNat:Nat):Int) - ((0:Nat):Int)=Builtin.Range.rangeSize lo hi 1:=by rw [rangeSize_one]; split <;> omega
  show IsRangeIter _ _ (lo+((0:Nat):Int)*1) ((((hi - lo).toNat:Nat):Int) - ((0:Nat):Int)) 1
  rw [e1,e2]
  exact UF _ rfl
 ·have e:b=(s.heap.push { cls:=.type "range",data:=.fields #[.int lo t,.int hi u,.int 1 v] }).objs.size:=by simpa using hb
  subst e
  exact I1.fpOk (No _) (I1.hok.fresh (No _))
noncomputable def V7(ta:TA):TI:=λσ H R=>ta σ H λvs H1=>∃j:Int,vs=[.int j]/\-(2 ^ 62)<=j/\j<2 ^ 62/\R (T3 0 j.toNat) H1
noncomputable def V6(ta:TA):TI:=λσ H R=>ta σ H λvs H1=>∃i j:Int,vs=[.int i,.int j]/\(-(2 ^ 62)<=i/\i<2 ^ 62/\-(2 ^ 62)<=j/\j<2 ^ 62)/\R (T3 i (j - i).toNat) H1
theorem CL{a:Expr}{ta:TA}{p pos:Pos}(hg:Gl X "range")(hm:X.mg "range"=none)(ha:PA X [a] ta)(hs:autoParam (starEach [a] X.env=[(false,eval a X.env)]) zau3._auto_1):PI X tg (.Call (.Name "range" p) [a] [] pos) (V7 ta):=by
 intro pins s σ H R I h
 refine Call_ (Fc I hg hm boot_range (Y4 (BX (ha pos pins s σ H _ I h) λus s1 ⟨vs,H1,I1,r1,q1⟩=>?_) hs rfl))
 obtain⟨j,e,q1,q2,q⟩:=q1
 subst e
 cases r1 with
 | cons r rr =>
  cases rr
  obtain⟨t,rfl⟩:=r
  exact call_range_1 (Lm I1 (by omega) (by omega) q1 q2 (by simpa using q))
theorem Oz{a b:Expr}{ta:TA}{p pos:Pos}(hg:Gl X "range")(hm:X.mg "range"=none)(ha:PA X [a,b] ta)(hs:autoParam (starEach [a,b] X.env=[(false,eval a X.env),(false,eval b X.env)]) zau3._auto_1)(hs2:autoParam (starEach [b] X.env=[(false,eval b X.env)]) zau3._auto_1) :
  PI X tg (.Call (.Name "range" p) [a,b] [] pos) (V6 ta):=by
 intro pins s σ H R I h
 refine Call_ (Fc I hg hm boot_range (Y4 (BX (ha pos pins s σ H _ I h) λus s1 ⟨vs,H1,I1,r1,q1⟩=>?_) (by rw [hs,hs2]) (by rw [hs2]; rfl)))
 obtain⟨i,j,e,⟨q1,q2,q3,q4⟩,q⟩:=q1
 subst e
 cases r1 with
 | cons r rr =>
  cases rr with
  | cons r' rr =>
   cases rr
   obtain⟨t,rfl⟩:=r
   obtain⟨t',rfl⟩:=r'
   exact call_range_2 (Lm I1 q1 q2 q3 q4 q)
noncomputable def Ve(wi:TI)(g:TG)(tb:TS):TS:=λD σ H=>wi σ H λJ H1=>∃W:Nat->Nat->St->Hp->Prop,(∃m,W 0 m σ H1)/\∀i m σ H,W i m σ H ->
 (J.stop i H/\D.nx σ H)\/(J.go i H/\∃N:St->Hp->Prop,(∀σ' H',N σ' H'->∃m',m'<m/\W (i+1) m' σ' H')/\∀x H',J.yld i H x H'->g x σ H' λσ2 H2=>tb { D with nx:=N,ct:=N,bk:=D.nx } σ2 H2)
noncomputable def IK(fp:List Addr)(h:Heap):List (Addr×Obj):=fp.filterMap λb=>(h.get? b).map λo=>(b,o)
theorem Dt{fp:List Addr}{h:Heap}{b:Addr}{o:Obj}(hb:b∈fp)(e:h.get? b=some o):(b,o)∈IK fp h:=List.mem_filterMap.mpr ⟨b,hb,by rw [e]; rfl⟩
theorem O5{fp:List Addr}{h:Heap}{p:Addr×Obj}(hp:p∈IK fp h):p.1∈fp/\h.get? p.1=some p.2:=by
 obtain⟨b,hb,e⟩:=List.mem_filterMap.mp hp
 cases q:h.get? b with
 | none=>rw [q] at e; cases e
 | some o =>
  rw [q] at e
  have e':(b,o)=p:=TW e
  subst e'
  exact⟨hb,q⟩
theorem Inv.pinned{pins:List (Addr×Obj)}{σ:St}{H:Hp}{s:Shared}{fp:List Addr}(I:Inv X pins σ H s)(hf:∀b∈fp,JG X pins H b)(ho:∀b∈fp,∃o,s.heap.get? b=some o/\∀v,o.data≠.cell v):Inv X (pins++IK fp s.heap) σ H s :=
 I.pins_of λp hp=>(YI.mp hp).elim (λz=>I.pin p (YC _ z)) λz=>by
  obtain⟨hb,e⟩:=O5 z
  obtain⟨f0,f1,f2,_⟩:=hf p.1 hb
  obtain⟨o,e',d⟩:=ho p.1 hb
  rw [e] at e'; cases e'
  exact⟨e,f0,f1,f2,d⟩
theorem Inv.unpinned{pins pl:List (Addr×Obj)}{σ:St}{H:Hp}{s:Shared}(I:Inv X (pins++pl) σ H s):Inv X pins σ H s:=I.pins_of λp hp=>I.pin p (YC _ (Yc _ hp))
theorem Gi{iter:Expr}{body:List Stmt}{wi:TI}{g:TG}{tb:TS}{pos:Pos}(hp:PassesOwn (model X.prog X.w) X.A X.env X.xe)(hc:X.calm=true)(hi:PI X tg iter wi)(hg:PG X tg g)(hb:PSs X body tb)
  (hs:autoParam (∀x,foldedSetIterable iter X.env x=pure x) zau2._auto_1):PS X (.For tg iter body [] pos) (Ve wi g tb):=by
 intro pins s σ H D I h
 refine wpAny_For (BX (hi pins s σ H _ I h) λv s1 h1=>BX h1 λitv s2 h2=>?_) hs
 obtain⟨it,fp,tn,J,H2,e,I2,T,st2,f2,W,⟨m0,w0⟩,turn⟩:=h2
 subst e
 have stat:∀{H':Hp},(∀b∈fp,H' b=none)->∀b∈fp,JG X pins H' b:=λhn b hb=>⟨hn b hb,(f2 b hb).2⟩
 refine codeAny_forLoop_any (λn s'=>∃i σ' H',Inv X pins σ' H' s'/\tn i s'.heap/\(∀b∈fp,H' b=none)/\W i n σ' H') ?_ m0 ⟨0,σ,H2,I2,st2,λb hb=>(f2 b hb).1,w0⟩
 rintro n s3 ⟨i,σ3,H3,I3,st3,fr3,w3⟩
 rcases turn i n σ3 H3 w3 with ⟨stop,qn⟩ | ⟨go,N,hN,step⟩
 ·refine ZR hp (BX (T.done X rfl rfl rfl hc i pins s3 σ3 H3 X.xe I3 (stat fr3) st3 stop) λr s4 ⟨hr,I4⟩=>?_)
  subst hr
  exact aV ⟨σ3,H3,I4,qn⟩
 ·refine ZR hp (BX (T.item X rfl rfl rfl hc i pins s3 σ3 H3 X.xe I3 (stat fr3) st3 go) λr s4 ⟨u,hr,h4⟩=>?_)
  subst hr
  refine ZR hp (BX h4 λ_ s5 ⟨x,H5,I5,r5,y5,st5,fr5⟩=>?_)
  have I5':=I5.pinned (stat fr5) (T.obj _ _ st5)
  refine ZR hp (BX (hg _ s5 σ3 H5 x u _ I5' r5 (step x H5 y5)) λ_ s6 ⟨σ6,H6,I6,q6⟩=>?_)
  refine ZR hp (BX (hb _ s6 σ6 H6 _ I6 q6) λf s7 q7=>?_)
  have again:∀{σ7:St} {H7:Hp},Inv X (pins++IK fp s5.heap) σ7 H7 s7->N σ7 H7->∃m,m<n/\∃i σ' H',Inv X pins σ' H' s7/\tn i s7.heap/\(∀b∈fp,H' b=none)/\W i m σ' H':=λ{σ7 H7} I7 n7=>by
   obtain⟨m',hm,w7⟩:=hN σ7 H7 n7
   refine⟨m',hm,i+1,σ7,H7,I7.unpinned,T.keep _ _ _ st5 λb hb o e=>(I7.pin (b,o) (YC _ (YC _ (Dt hb e)))).1,λb hb=>?_,w7⟩
   obtain⟨o,e,d⟩:=T.obj _ _ st5 b hb
   exact(I7.pin (b,o) (YC _ (YC _ (Dt hb e)))).2.1
  cases f with
  | next=>obtain⟨σ7,H7,I7,n7⟩:=q7; exact again I7 n7
  | cont=>obtain⟨σ7,H7,I7,n7⟩:=q7; exact again I7 n7
  | brk=>obtain⟨σ7,H7,I7,q7⟩:=q7; exact⟨σ7,H7,I7.unpinned,q7⟩
  | ret v=>obtain⟨x7,σ7,H7,I7,r7,q7⟩:=q7; exact⟨x7,σ7,H7,I7.unpinned,r7,q7⟩
end
theorem Qx{K:Frag}{a:Addr}{xs:List V}{g:TG}{tb:TS}{D:Ends}{σ:St}{H:Hp}(Pv:Nat->St->Hp->Prop)(h0:Pv 0 σ H)(hl:∀i σ H,i<=xs.length->Pv i σ H->SqL K H a xs)
  (hs:∀i x σ H,xs[i]?=some x->Pv i σ H->g x σ H λσ2 H2=>tb { D with nx:=Pv (i+1),ct:=Pv (i+1),bk:=D.nx } σ2 H2) (hd:∀σ H,Pv xs.length σ H->D.nx σ H) :
  ∃W:Nat->Nat->St->Hp->Prop,(∃m,W 0 m σ H)/\∀i m σ H,W i m σ H ->
   ((Rl K a).stop i H/\D.nx σ H)\/((Rl K a).go i H/\∃N:St->Hp->Prop,(∀σ' H',N σ' H'->∃m',m'<m/\W (i+1) m' σ' H')/\∀x H',(Rl K a).yld i H x H'->g x σ H' λσ2 H2=>tb { D with nx:=N,ct:=N,bk:=D.nx } σ2 H2):=by
 refine⟨λi m σ H=>m=xs.length - i/\i<=xs.length/\Pv i σ H,⟨xs.length,by simp,YB _,h0⟩,?_⟩
 rintro i m σ H ⟨rfl,hi,p⟩
 have q:=hl i σ H hi p
 by_cases hlt:i<xs.length
 ·refine .inr ⟨⟨xs,xs[i],q,by simp [hlt]⟩,Pv (i+1),λσ' H' p'=>⟨xs.length - (i+1),by omega,rfl,hlt,p'⟩,λx H' y=>?_⟩
  obtain⟨e,y⟩:=y
  subst e
  exact hs i x σ _ (y xs q) p
 ·have e:i=xs.length:=by omega
  subst e
  exact .inl ⟨⟨xs,q,No _⟩,hd σ H p⟩
theorem Sk{K:Frag}{a:Addr}{xs:List V}{g:TG}{tb:TS}{D:Ends}{σ:St}{H:Hp}(Pv:Nat->St->Hp->Prop)(h0:Pv 0 σ H)(hl:∀i σ H,i<=xs.length->Pv i σ H->SqT K H a xs)
  (hs:∀i x σ H,xs[i]?=some x->Pv i σ H->g x σ H λσ2 H2=>tb { D with nx:=Pv (i+1),ct:=Pv (i+1),bk:=D.nx } σ2 H2) (hd:∀σ H,Pv xs.length σ H->D.nx σ H) :
  ∃W:Nat->Nat->St->Hp->Prop,(∃m,W 0 m σ H)/\∀i m σ H,W i m σ H ->
   ((Rk K a).stop i H/\D.nx σ H)\/((Rk K a).go i H/\∃N:St->Hp->Prop,(∀σ' H',N σ' H'->∃m',m'<m/\W (i+1) m' σ' H')/\∀x H',(Rk K a).yld i H x H'->g x σ H' λσ2 H2=>tb { D with nx:=N,ct:=N,bk:=D.nx } σ2 H2):=by
 refine⟨λi m σ H=>m=xs.length - i/\i<=xs.length/\Pv i σ H,⟨xs.length,by simp,YB _,h0⟩,?_⟩
 rintro i m σ H ⟨rfl,hi,p⟩
 have q:=hl i σ H hi p
 by_cases hlt:i<xs.length
 ·refine .inr ⟨⟨xs,xs[i],q,by simp [hlt]⟩,Pv (i+1),λσ' H' p'=>⟨xs.length - (i+1),by omega,rfl,hlt,p'⟩,λx H' y=>?_⟩
  obtain⟨e,y⟩:=y
  subst e
  exact hs i x σ _ (y xs q) p
 ·have e:i=xs.length:=by omega
  subst e
  exact .inl ⟨⟨xs,q,No _⟩,hd σ H p⟩
theorem E1{lo:Int}{n:Nat}{g:TG}{tb:TS}{D:Ends}{σ:St}{H:Hp}(Pv:Nat->St->Hp->Prop)(h0:Pv 0 σ H)
  (hs:∀i σ H,i<n->Pv i σ H->g (.int (lo+i)) σ H λσ2 H2=>tb { D with nx:=Pv (i+1),ct:=Pv (i+1),bk:=D.nx } σ2 H2) (hd:∀σ H,Pv n σ H->D.nx σ H) :
  ∃W:Nat->Nat->St->Hp->Prop,(∃m,W 0 m σ H)/\∀i m σ H,W i m σ H ->
   ((T3 lo n).stop i H/\D.nx σ H)\/((T3 lo n).go i H/\∃N:St->Hp->Prop,(∀σ' H',N σ' H'->∃m',m'<m/\W (i+1) m' σ' H')/\∀x H',(T3 lo n).yld i H x H'->g x σ H' λσ2 H2=>tb { D with nx:=N,ct:=N,bk:=D.nx } σ2 H2):=by
 refine⟨λi m σ H=>m=n - i/\i<=n/\Pv i σ H,⟨n,by simp,YB _,h0⟩,?_⟩
 rintro i m σ H ⟨rfl,hi,p⟩
 by_cases hlt:i<n
 ·refine .inr ⟨hlt,Pv (i+1),λσ' H' p'=>⟨n - (i+1),by omega,rfl,hlt,p'⟩,λx H' y=>?_⟩
  obtain⟨e,y⟩:=y
  subst e y
  exact hs i σ _ hlt p
 ·have e:i=n:=by omega
  subst e
  exact .inl ⟨No _,hd σ H p⟩
noncomputable abbrev R2:=V->V->Hp->VK->Prop
noncomputable def OpR(X:Cx)(f:Value->Value->Sem Value)(r:R2):Prop :=
 ∀(pins:List (Addr×Obj)) (s:Shared) (σ:St) (H:Hp) (x y:V) (v u:Value) (Q:VK),Inv X pins σ H s->RelV x v->RelV y u->r x y H Q ->
  wpAny (model X.prog X.w) X.A (f v u) (EP X pins σ Q) X.xe s
noncomputable def XN(X:Cx)(f:Value->Sem Value)(r:V->Hp->VK->Prop):Prop :=
 ∀(pins:List (Addr×Obj)) (s:Shared) (σ:St) (H:Hp) (x:V) (v:Value) (Q:VK),Inv X pins σ H s->RelV x v->r x H Q ->
  wpAny (model X.prog X.w) X.A (f v) (EP X pins σ Q) X.xe s
noncomputable def CC(X:Cx)(f:Value)(r:List V->Hp->VK->Prop):Prop :=
 ∀(pins:List (Addr×Obj)) (s:Shared) (σ:St) (H:Hp) (xs:List V) (us:List Value) (Q:VK),Inv X pins σ H s->Vals xs us->r xs H Q ->
  wpAny (model X.prog X.w) X.A (call f us) (EP X pins σ Q) X.xe s
noncomputable def Cj(r:R2)(ta tb:TE):TE:=λσ H Q=>ta σ H λx H1=>tb σ H1 λy H2=>r x y H2 Q
noncomputable def Xj(r:V->Hp->VK->Prop)(ta:TE):TE:=λσ H Q=>ta σ H λx H1=>r x H1 Q
noncomputable def rI(C:Int->Int->Prop)(g:Int->Int->V):R2:=λx y H Q=>∃i j,x=.int i/\y=.int j/\C i j/\Q (g i j) H
noncomputable def Gz(g:Int->Int->V):R2:=λx y H Q=>∃i j,x=.int i/\y=.int j/\Q (g i j) H
noncomputable def rU(g:Int->V):V->Hp->VK->Prop:=λx H Q=>∃i,x=.int i/\Q (g i) H
section
variable {X:Cx}{a b c:Expr}{ta tb tc:TE}{pos:Pos}
theorem U8(ha:PE X a ta)(hb:PE X b tb){pins:List (Addr×Obj)}{s:Shared}{σ:St}{H:Hp}{R:V->V->Hp->Prop}(I:Inv X pins σ H s)
  (h:ta σ H λx H1=>tb σ H1 λy H2=>R x y H2) {Q:Value->Shared->Prop} {f:Value->Value->Sem Value}
  (hf:∀v u s2 x y H2,Inv X pins σ H2 s2->RelV x v->RelV y u->R x y H2->wpAny (model X.prog X.w) X.A (f v u) Q X.xe s2) :
  wpAny (model X.prog X.w) X.A (eval a X.env) (λv s₁=>wpAny (model X.prog X.w) X.A (eval b X.env) (λu s₂=>wpAny (model X.prog X.w) X.A (f v u) Q X.xe s₂) X.xe s₁) X.xe s:=by
 refine BX (ha pins s σ H _ I h) λv s1 ⟨x,H1,I1,r1,q1⟩=>?_
 refine BX (hb pins s1 σ H1 _ I1 q1) λu s2 ⟨y,H2,I2,r2,q2⟩=>?_
 exact hf v u s2 x y H2 I2 r1 r2 q2
theorem BS{op:Operator}{r:R2}(ho:OpR X (binaryOp op) r)(ha:PE X a ta)(hb:PE X b tb):PE X (.BinOp a op b pos) (Cj r ta tb):=by
 intro pins s σ H Q I h
 exact wpAny_BinOp (U8 ha hb I h λv u s2 x y H2 I2 rx ry q=>ho pins s2 σ H2 x y v u Q I2 rx ry q)
theorem V0{op:UnaryOp}{r:V->Hp->VK->Prop}(ho:XN X (unaryOp op) r)(ha:PE X a ta):PE X (.UnaryOp op a pos) (Xj r ta):=by
 intro pins s σ H Q I h
 exact UnaryOp_ (BX (ha pins s σ H _ I h) λv s1 ⟨x,H1,I1,r1,q1⟩=>ho pins s1 σ H1 x v Q I1 r1 q1)
theorem We{f:Value->Value->Sem Value}{C:Int->Int->Prop}{g:Int->Int->Int}
  (rule:∀(i j:Int) (t u:Tok) (s:Shared) (Q:Value->Shared->Prop) (E:Value->Shared->Prop),C i j->Q (.int (g i j) s.toks) { s with toks:=s.toks+1 }->wpAny (model X.prog X.w) X.A (f (.int i t) (.int j u)) Q E s) :
  OpR X f (rI C λi j=>.int (g i j)):=by
 intro pins s σ H x y v u Q I rx ry h
 obtain⟨i,j,rfl,rfl,hc,q⟩:=h
 obtain⟨t,rfl⟩:=rx
 obtain⟨t',rfl⟩:=ry
 exact rule i j t t' s _ _ hc ⟨.int (g i j),H,I.tok _,⟨_,rfl⟩,q⟩
theorem V3{f:Value->Value->Sem Value}{g:Int->Int->Int}
  (rule:∀(i j:Int) (t u:Tok) (s:Shared) (Q:Value->Shared->Prop) (E:Value->Shared->Prop),Q (.int (g i j) s.toks) { s with toks:=s.toks+1 }->wpAny (model X.prog X.w) X.A (f (.int i t) (.int j u)) Q E s) :
  OpR X f (Gz λi j=>.int (g i j)):=by
 intro pins s σ H x y v u Q I rx ry h
 obtain⟨i,j,rfl,rfl,q⟩:=h
 obtain⟨t,rfl⟩:=rx
 obtain⟨t',rfl⟩:=ry
 exact rule i j t t' s _ _ ⟨.int (g i j),H,I.tok _,⟨_,rfl⟩,q⟩
theorem SW{f:Value->Value->Sem Value}{g:Int->Int->Bool}
  (rule:∀(i j:Int) (t u:Tok) (s:Shared) (Q:Value->Shared->Prop) (E:Value->Shared->Prop),Q (.bool (g i j)) s->wpAny (model X.prog X.w) X.A (f (.int i t) (.int j u)) Q E s) :
  OpR X f (Gz λi j=>.bl (g i j)):=by
 intro pins s σ H x y v u Q I rx ry h
 obtain⟨i,j,rfl,rfl,q⟩:=h
 obtain⟨t,rfl⟩:=rx
 obtain⟨t',rfl⟩:=ry
 exact rule i j t t' s _ _ ⟨.bl (g i j),H,I,rfl,q⟩
noncomputable def Pm(i j:Int):Prop:=0<j/\j<1073741824
noncomputable def Ro(i j:Int):Prop:=0<=j/\j<=1000000/\i.natAbs<2 ^ 64
noncomputable def CMul(i j:Int):Prop:=(-(2 ^ 64)<i/\i<2 ^ 64)\/(-(2 ^ 64)<j/\j<2 ^ 64)
theorem CMul.ok{i j:Int}(h:CMul i j):IntMulOk i j:=by
 rcases h with ⟨h1,h2⟩ | ⟨h1,h2⟩
 ·exact .of_left (intBits_le_64 h1 h2)
 ·exact .of_right (intBits_le_64 h1 h2)
theorem op_add:OpR X (binaryOp .Add) (Gz λi j=>.int (i+j)):=V3 λ_ _ _ _ _ _ _ q=>add_int q
theorem op_sub:OpR X (binaryOp .Sub) (Gz λi j=>.int (i - j)):=V3 λ_ _ _ _ _ _ _ q=>sub_int q
theorem op_mul:OpR X (binaryOp .Mult) (rI CMul λi j=>.int (i*j)):=We λ_ _ _ _ _ _ _ hc q=>mul_int q hc.ok
theorem Fz:OpR X (binaryOp .FloorDiv) (rI Pm λi j=>.int (i / j)):=We λi j _ _ _ _ _ hc q=>by
 have h1:(0:Int)<j:=hc.1
 have h2:j<1073741824:=hc.2
 exact floordiv_int (by omega) (by rw [Int.fdiv_eq_ediv_of_nonneg i (by omega)]; exact q) (.inl (PyProof.noPylong_small (by omega)))
theorem C6:OpR X (binaryOp .Mod) (rI (λ_ j=>0<j) λi j=>.int (i % j)):=We λi j _ _ _ _ _ hc q=>by
 have h1:(0:Int)<j:=hc
 exact mod_int' (by omega) (by rw [Int.fmod_eq_emod_of_nonneg i (by omega)]; exact q)
theorem M6:OpR X (binaryOp .Pow) (rI Ro λi j=>.int (i ^ j.toNat)):=We λ_ _ _ _ _ _ _ hc q=>pow_int_small hc.1 hc.2.1 hc.2.2 q
theorem Xi{f:Value->Sem Value}{g:Int->Int}
  (rule:∀(i:Int) (t:Tok) (s:Shared) (Q:Value->Shared->Prop) (E:Value->Shared->Prop),Q (.int (g i) s.toks) { s with toks:=s.toks+1 }->wpAny (model X.prog X.w) X.A (f (.int i t)) Q E s) :
  XN X f (rU λi=>.int (g i)):=by
 intro pins s σ H x v Q I rx h
 obtain⟨i,rfl,q⟩:=h
 obtain⟨t,rfl⟩:=rx
 exact rule i t s _ _ ⟨.int (g i),H,I.tok _,⟨_,rfl⟩,q⟩
theorem T9:XN X (unaryOp .USub) (rU λi=>.int (-i)):=Xi λ_ _ _ _ _ q=>neg_int q
end
noncomputable def Vk:V->V->Bool
 | .non,.non=>true | .non,.int _=>true | .int _,.non=>true | .non,.bl _=>true | .bl _,.non=>true | .non,.str _=>true | .str _,.non=>true
 | .int _,.int _=>true | .bl _,.bl _=>true | .str _,.str _=>true | .byt _,.byt _=>true
 | .int _,.str _=>true | .str _,.int _=>true | .bl _,.str _=>true | .str _,.bl _=>true
 | _,_=>false
noncomputable def XY:R2:=λx y H Q=>Vk x y=true/\Q (.bl (decide (x=y))) H
noncomputable def XU:R2:=λx y H Q=>Vk x y=true/\Q (.bl (!decide (x=y))) H
theorem Hc{i j:Int}:decide (V.int i=V.int j)=(i==j):=by
 rw [ZC]
 simp
theorem LA{i j:Bool}:decide (V.bl i=V.bl j)=(i==j):=by
 rw [ZC]
 simp
theorem Hb{i j:Str}:decide (V.str i=V.str j)=(i==j):=by
 rw [ZC]
 simp
theorem OG{i j:Array UInt8}:decide (V.byt i=V.byt j)=(i.toList==j.toList):=by
 rw [ZC]
 cases i
 cases j
 simp
section
variable {X:Cx}{a b c:Expr}{ta tb tc:TE}{pos:Pos}
theorem Aw{pins:List (Addr×Obj)}{σ:St}{H:Hp}{s:Shared}{Q:VK}{k k':Bool}(I:Inv X pins σ H s)(q:Q (.bl k) H)(e:k=k'):EP X pins σ Q (.bool k') s:=by
 subst e
 exact⟨.bl k,H,I,rfl,q⟩
theorem B_:OpR X (compareOp .Eq) XY:=by
 intro pins s σ H x y v u Q I rx ry h
 obtain⟨hs,q⟩:=h
 cases x with
 | non =>
  cases rx
  cases y with
  | non=>cases ry; exact PySem.EqNone.eq_none_none (Aw I q (by simp))
  | bl j=>cases ry; exact PySem.EqNone.eq_none_bool (Aw I q (by simp))
  | int j=>obtain⟨t',rfl⟩:=ry; exact PySem.EqNone.eq_none_int (Aw I q (by simp))
  | str j=>obtain⟨t',rfl⟩:=ry; exact PySem.EqNone.eq_none_str (Aw I q (by simp))
  | _=>exact absurd (show false=true from hs) Uf
 | bl i =>
  cases rx
  cases y with
  | non=>cases ry; exact PySem.EqNone.eq_bool_none (Aw I q (by simp))
  | bl j=>cases ry; exact eq_bool (Aw I q LA)
  | str j=>obtain⟨t',rfl⟩:=ry; exact PySem.EqMixed.eq_bool_str (Aw I q (by simp))
  | _=>exact absurd (show false=true from hs) Uf
 | int i =>
  obtain⟨t,rfl⟩:=rx
  cases y with
  | non=>cases ry; exact PySem.EqNone.eq_int_none (Aw I q (by simp))
  | int j=>obtain⟨t',rfl⟩:=ry; exact eq_int (Aw I q Hc)
  | str j=>obtain⟨t',rfl⟩:=ry; exact PySem.EqMixed.eq_int_str (Aw I q (by simp))
  | _=>exact absurd (show false=true from hs) Uf
 | str i =>
  obtain⟨t,rfl⟩:=rx
  cases y with
  | non=>cases ry; exact PySem.EqNone.eq_str_none (Aw I q (by simp))
  | bl j=>cases ry; exact PySem.EqMixed.eq_str_bool (Aw I q (by simp))
  | int j=>obtain⟨t',rfl⟩:=ry; exact PySem.EqMixed.eq_str_int (Aw I q (by simp))
  | str j=>obtain⟨t',rfl⟩:=ry; exact eq_str (Aw I q Hb)
  | _=>exact absurd (show false=true from hs) Uf
 | byt i =>
  obtain⟨t,rfl⟩:=rx
  cases y with
  | byt j=>obtain⟨t',rfl⟩:=ry; exact PySem.W.eq_bytes (Aw I q OG)
  | _=>exact absurd (show false=true from hs) Uf
 | _=>cases y <;> exact absurd (show false=true from hs) Uf
theorem Ec:OpR X (compareOp .NotEq) XU:=by
 intro pins s σ H x y v u Q I rx ry h
 obtain⟨hs,q⟩:=h
 cases x with
 | non =>
  cases rx
  cases y with
  | non=>cases ry; exact PySem.EqNone.ne_none_none (Aw I q (by simp))
  | bl j=>cases ry; exact PySem.EqNone.ne_none_bool (Aw I q (by simp))
  | int j=>obtain⟨t',rfl⟩:=ry; exact PySem.EqNone.ne_none_int (Aw I q (by simp))
  | str j=>obtain⟨t',rfl⟩:=ry; exact PySem.EqNone.ne_none_str (Aw I q (by simp))
  | _=>exact absurd (show false=true from hs) Uf
 | bl i =>
  cases rx
  cases y with
  | non=>cases ry; exact PySem.EqNone.ne_bool_none (Aw I q (by simp))
  | bl j=>cases ry; exact ne_bool (Aw I q (congrArg not LA))
  | str j=>obtain⟨t',rfl⟩:=ry; exact PySem.EqMixed.ne_bool_str (Aw I q (by simp))
  | _=>exact absurd (show false=true from hs) Uf
 | int i =>
  obtain⟨t,rfl⟩:=rx
  cases y with
  | non=>cases ry; exact PySem.EqNone.ne_int_none (Aw I q (by simp))
  | int j=>obtain⟨t',rfl⟩:=ry; exact ne_int (Aw I q (congrArg not Hc))
  | str j=>obtain⟨t',rfl⟩:=ry; exact PySem.EqMixed.ne_int_str (Aw I q (by simp))
  | _=>exact absurd (show false=true from hs) Uf
 | str i =>
  obtain⟨t,rfl⟩:=rx
  cases y with
  | non=>cases ry; exact PySem.EqNone.ne_str_none (Aw I q (by simp))
  | bl j=>cases ry; exact PySem.EqMixed.ne_str_bool (Aw I q (by simp))
  | int j=>obtain⟨t',rfl⟩:=ry; exact PySem.EqMixed.ne_str_int (Aw I q (by simp))
  | str j=>obtain⟨t',rfl⟩:=ry; exact ne_str (Aw I q (congrArg not Hb))
  | _=>exact absurd (show false=true from hs) Uf
 | byt i =>
  obtain⟨t,rfl⟩:=rx
  cases y with
  | byt j=>obtain⟨t',rfl⟩:=ry; exact PySem.W.ne_bytes (Aw I q (congrArg not OG))
  | _=>exact absurd (show false=true from hs) Uf
 | _=>cases y <;> exact absurd (show false=true from hs) Uf
theorem op_lt:OpR X (compareOp .Lt) (Gz λi j=>.bl (decide (i<j))):=SW λ_ _ _ _ _ _ _ q=>bw q
theorem op_le:OpR X (compareOp .LtE) (Gz λi j=>.bl (decide (i<=j))):=SW λ_ _ _ _ _ _ _ q=>le_int q
theorem Tl:OpR X (compareOp .Gt) (Gz λi j=>.bl (decide (j<i))):=SW λ_ _ _ _ _ _ _ q=>gt_int q
theorem To:OpR X (compareOp .GtE) (Gz λi j=>.bl (decide (j<=i))):=SW λ_ _ _ _ _ _ _ q=>ge_int q
theorem O3:OpR X (compareOp .Lt) (λx y H Q=>∃i j,x=.str i/\y=.str j/\Q (.bl (decide (i.cps.toList<j.cps.toList))) H):=by
 intro pins s σ H x y v u Q I rx ry h
 obtain⟨i,j,rfl,rfl,q⟩:=h
 obtain⟨t,rfl⟩:=rx
 obtain⟨t',rfl⟩:=ry
 exact lt_str (Aw I q rfl)
theorem Kp:OpR X (compareOp .Is) (λx y H Q=>y=.non/\Q (.bl (decide (x=.non))) H):=by
 intro pins s σ H x y v u Q I rx ry h
 obtain⟨rfl,q⟩:=h
 cases ry
 refine is_none_gen (Aw I q ?_)
 cases x <;> first
  | (cases rx; rfl)
  | (obtain⟨t,rfl⟩:=rx; rfl)
theorem Fy:OpR X (compareOp .IsNot) (λx y H Q=>y=.non/\Q (.bl (!decide (x=.non))) H):=by
 intro pins s σ H x y v u Q I rx ry h
 obtain⟨rfl,q⟩:=h
 cases ry
 refine isnot_none_gen (Aw I q ?_)
 cases x <;> first
  | (cases rx; rfl)
  | (obtain⟨t,rfl⟩:=rx; rfl)
theorem OpR.or{f:Value->Value->Sem Value}{r r':R2}(h:OpR X f r)(h':OpR X f r'):OpR X f (λx y H Q=>r x y H Q\/r' x y H Q):=by
 intro pins s σ H x y v u Q I rx ry q
 rcases q with q | q
 ·exact h pins s σ H x y v u Q I rx ry q
 ·exact h' pins s σ H x y v u Q I rx ry q
theorem AX(b:Expr){op:CmpOp}(h:autoParam (op≠.In) zau1._auto_1)(h2:autoParam (op≠.NotIn) zau1._auto_1):behindInMarks op b=false:=by
 have e1:(op==CmpOp.In)=false:=by cases op <;> first | rfl | exact absurd rfl h
 have e2:(op==CmpOp.NotIn)=false:=by cases op <;> first | rfl | exact absurd rfl h2
 cases b <;> simp [behindInMarks,e1,e2]
theorem SN{op:CmpOp}{r:R2}(ho:OpR X (compareOp op) r)(ha:PE X a ta)(hb:PE X b tb)(hm:behindInMarks op b=false):PE X (.Compare a [op] [b] pos) (Cj r ta tb):=by
 intro pins s σ H Q I h
 exact wpAny_Compare1 (U8 ha hb I h λv u s2 x y H2 I2 rx ry q=>ho pins s2 σ H2 x y v u Q I2 rx ry q) hm
noncomputable def QB(t:TE):TT:=λσ H Q=>t σ H λx H'=>∃k,x=.bl k/\Q k H'
theorem CD{op:CmpOp}{r:R2}(ho:OpR X (compareOp op) r)(ha:PE X a ta)(hb:PE X b tb)(hm:behindInMarks op b=false):PT X (.Compare a [op] [b] pos) (QB (Cj r ta tb)):=by
 intro pins s σ H Q I h
 refine wpAny_isTrue_Compare1 (BX (ha pins s σ H _ I h) λv s1 ⟨x,H1,I1,r1,q1⟩=>BX (hb pins s1 σ H1 _ I1 q1) λu s2 ⟨y,H2,I2,r2,q2⟩ =>
  BX (ho pins s2 σ H2 x y v u _ I2 r1 r2 q2) λc s3 ⟨z,H3,I3,r3,k,e,q3⟩=>?_) hm
 subst e
 cases r3
 exact Zt ⟨H3,I3,q3⟩
theorem IZ:(sizeLine:Nat)<2 ^ 63:=by rw [Yj]; decide
theorem M9:OpR X (binaryOp .Add) (λx y H Q=>∃i j,x=.str i/\y=.str j/\i.length+j.length<=sizeLine/\Q (.str (i++j)) H):=by
 intro pins s σ H x y v u Q I rx ry h
 obtain⟨i,j,rfl,rfl,hz,q⟩:=h
 obtain⟨t,rfl⟩:=rx
 obtain⟨t',rfl⟩:=ry
 exact add_str (λt' tk=>⟨.str (i++j),H,I.tok _,⟨_,rfl⟩,q⟩) hz
theorem vals1{x:V}{us:List Value}(r:Vals [x] us):∃u,us=[u]/\RelV x u:=by
 cases r with
 | cons r1 r2=>cases r2; exact⟨_,rfl,r1⟩
theorem vals2{x y:V}{us:List Value}(r:Vals [x,y] us):∃u w',us=[u,w']/\RelV x u/\RelV y w':=by
 cases r with
 | cons r1 r2 =>
  cases r2 with
  | cons r3 r4=>cases r4; exact⟨_,_,rfl,r1,r3⟩
theorem Iz:CC X (.builtin "abs") (λxs H Q=>∃i,xs=[.int i]/\Q (.int (if i<0 then -i else i)) H):=by
 intro pins s σ H xs us Q I r h
 obtain⟨i,rfl,q⟩:=h
 obtain⟨u,rfl,t,rfl⟩:=vals1 r
 exact call_abs_int λu tk=>⟨.int (if i<0 then -i else i),H,I.tok _,⟨_,rfl⟩,q⟩
theorem Pe(hc:X.calm=true):CC X (.builtin "max") (λxs H Q=>∃i j,xs=[.int i,.int j]/\Q (.int (if j > i then j else i)) H):=by
 intro pins s σ H xs us Q I r h
 obtain⟨i,j,rfl,q⟩:=h
 obtain⟨u,w',rfl,⟨t,rfl⟩,⟨t',rfl⟩⟩:=vals2 r
 refine max_two_ints (I.ok.hd hc) λh' tk k=>⟨_,H,I.kept k,?_,q⟩
 by_cases hj:j > i
 ·rw [if_pos hj,if_pos hj]; exact⟨_,rfl⟩
 ·rw [if_neg hj,if_neg hj]; exact⟨_,rfl⟩
theorem J3(hc:X.calm=true):CC X (.builtin "min") (λxs H Q=>∃i j,xs=[.int i,.int j]/\Q (.int (if j<i then j else i)) H):=by
 intro pins s σ H xs us Q I r h
 obtain⟨i,j,rfl,q⟩:=h
 obtain⟨u,w',rfl,⟨t,rfl⟩,⟨t',rfl⟩⟩:=vals2 r
 refine min_two_ints (I.ok.hd hc) λh' tk k=>⟨_,H,I.kept k,?_,q⟩
 by_cases hj:j<i
 ·rw [if_pos hj,if_pos hj]; exact⟨_,rfl⟩
 ·rw [if_neg hj,if_neg hj]; exact⟨_,rfl⟩
noncomputable def VJ(K:Frag)(x:V)(H:Hp)(n:Nat):Prop :=
 match x with
 | .str y=>y.length<=sizeLine/\n=y.length
 | .byt y=>y.size<=sizeLine/\n=y.size
 | .ref p=>(∃xs,SqL K H p xs/\n=xs.length)\/∃xs,SqT K H p xs/\n=xs.length
 | _=>False
theorem Ap:CC X (.builtin "len") (λxs H Q=>∃x n,xs=[x]/\VJ X.K x H n/\Q (.int n) H):=by
 intro pins s σ H xs us Q I r h
 obtain⟨x,n,rfl,e,q⟩:=h
 obtain⟨u,rfl,rx⟩:=vals1 r
 have hl:=IZ
 have hs:sizeLine=16777216:=Yj
 cases x with
 | str y =>
  obtain⟨t,rfl⟩:=rx
  obtain⟨hy,e'⟩:y.length<=sizeLine/\n=y.length:=e
  subst e'
  exact len_str (by omega) ⟨.int _,H,I.tok _,⟨_,rfl⟩,q⟩
 | byt y =>
  obtain⟨t,rfl⟩:=rx
  obtain⟨hy,e'⟩:y.size<=sizeLine/\n=y.size:=e
  subst e'
  exact PySem.W.len_bytes (by omega) ⟨.int _,H,I.tok _,⟨_,rfl⟩,q⟩
 | ref p =>
  cases rx
  have e':(∃xs,SqL X.K H p xs/\n=xs.length)\/∃xs,SqT X.K H p xs/\n=xs.length:=e
  rcases e' with ⟨xs,hx,e'⟩ | ⟨xs,hx,e'⟩
  ·subst e'
   obtain⟨its,r',pl,hz⟩:=I.list hx
   have hlen:=r'.length
   exact Calls.call_len_list pl.isList (by simp only [TM]; omega) ⟨.int xs.length,H,I.tok _,⟨_,by simp only [TM]; rw [hlen]⟩,q⟩
  ·subst e'
   obtain⟨its,r',pl,hz⟩:=I.tuple hx
   have hlen:=r'.length
   exact len_tuple pl (by simp only [TM]; omega) ⟨.int xs.length,H,I.tok _,⟨_,by simp only [TM]; rw [hlen]⟩,q⟩
 | _=>exact(show False from e).elim
end
structure ObjM (h:Heap) (x dx C:Addr) (mA:Str->Option Value):Prop where
 obj:h.get? x=some (PySem.W.instObj C dx)
 ns:h.Ns1 dx mA
 ne:dx≠x
theorem PB{h:Heap}{dx:Addr}{mA:Str->Option Value}(n:h.Ns1 dx mA):∃od,h.get? dx=some od/\∀name,PySem.W.lookIn name od=some (mA name):=by
 obtain⟨o,es,ep,ho,hd,hk,_,hm⟩:=n
 refine⟨o,ho,λname=>?_⟩
 have e:=hm name
 unfold nsFind findBy at e
 rw [← Array.find?_toList] at e
 unfold PySem.W.lookIn
 rw [hd]
 dsimp only
 split
 ·rename_i y q
  rw [q] at e
  exact congrArg some e
 ·rename_i q
  rw [q] at e
  have a:es.toList.any (·.refKey)=false:=by
   rw [List.any_eq_false]
   intro y hy
   obtain⟨z,t,hkey⟩:=hk y (Array.mem_toList_iff.mp hy)
   simp [DictEntry.refKey,hkey]
  have a':¬es.toList.any (·.refKey)=true:=by rw [a]; exact Uf
  rw [if_neg a']
  exact congrArg some e
theorem ObjM.look{h:Heap}{x dx C:Addr}{mA:Str->Option Value}(I:ObjM h x dx C mA):∃od,PySem.W.InstAt h x (PySem.W.instObj C dx) C (some od)/\∀name,PySem.W.lookIn name od=some (mA name) :=
 let ⟨od,ho,hl⟩:=PB I.ns
 ⟨od,⟨I.obj,rfl,rfl,ho⟩,hl⟩
section
variable {prog:Program}{w:World}{A:Around}{E:Value->Shared->Prop}{s:Shared}{K:Frag}{x dx C f:Addr}{mA:Str->Option Value}{name:Str}{v:Value}
end
theorem RelO.some_of{v:V}{o:Option Value}(r:RelO (some v) o):∃u,o=some u/\RelV v u:=by
 cases o with
 | none=>exact(show False from r).elim
 | some u=>exact⟨u,rfl,r⟩
section
variable {P:Program}{w:World}{H H':Hp}{h h':Heap}{a C dx:Addr}{fs fs':List (Str×V)}
theorem Si(hok:HOk P w H h)(e:H a=some (.ins C dx fs)):∃mA,ObjM h a dx C mA/\(∀f,RelO (fs.lookup f) (mA f))/\PySem.Within mA (fs.map (·.1))/\fs.length<=1000/\H dx=some (.own a):=by
 obtain⟨d,z,ne,ob,mA,n,r,q⟩:=(show ObjOk P w H h a (.ins C dx fs) from hok a _ e)
 exact⟨mA,⟨ob,n,ne⟩,r,q,z,d⟩
end
structure Cls (K:Frag) (C:Addr):Prop where
 pg:PySem.W.plainGet K C Str.empty=true
 hd:PySem.W.hasDictIn K C=true
 po:PySem.W.plainOver K C=true
 sa:PySem.W.findIn K (.ref C) "__setattr__"=some (some (.builtin "object.__setattr__"))
theorem Cls.get{K:Frag}{C:Addr}(c:Cls K C)(f:Str):PySem.W.plainGet K C f=true:=c.pg
structure X1 (K:Frag) (C:Addr) (f:Str) (v:V) (u:Value):Prop where
 at_:PySem.W.findIn K (.ref C) f=some (some u)
 rel:RelV v u
 get:PySem.W.specialIn K u "__get__"=some none
 cp:PySem.W.copiedNames.contains f=false
structure Xw (K:Frag) (C:Addr) (m:Str) (f:Addr):Prop where
 at_:PySem.W.findIn K (.ref C) m=some (some (.ref f))
 fn:PySem.W.isFn K (.ref f)=true
 kp:keepIn K (.ref f)=true
section
variable {X:Cx}{pins:List (Addr×Obj)}{σ:St}{H:Hp}{s:Shared}{a C dx:Addr}{fs:List (Str×V)}{f:Str}{v:V}{A:Around}{E:Value->Shared->Prop}
end
section
variable {X:Cx}{o e value:Expr}{f:Str}{pos pos' tpos:Pos}{ta tv:TE}
end
section
variable {X:Cx}{pins:List (Addr×Obj)}{σ:St}{H:Hp}{s:Shared}{A:Around}{E:Value->Shared->Prop}{Q:Value->Shared->Prop}{c:Value}{b:Bool}
inductive Fi (K:Frag) (H:Hp):V->Value->Prop where
 | non:Fi K H .non (.type "NoneType")
 | bl (x:Bool):Fi K H (.bl x) (.type "bool")
 | int (i:Int):Fi K H (.int i) (.type "int")
 | str (x:Str):Fi K H (.str x) (.type "str")
 | flt (x:UInt64):Fi K H (.flt x) (.type "float")
 | lst {a:Addr} {xs:List V} (e:H a=some (.lst xs)):Fi K H (.ref a) (.type "list")
 | frz {a:Addr} {o:Obj} {xs:List V} (e:H a=some (.frz o (.lst xs))):Fi K H (.ref a) (.type "list")
 | tup {a:Addr} {xs:List V} (e:H a=some (.tup xs)):Fi K H (.ref a) (.type "tuple")
 | dF {a:Addr} {o:Obj} {kvs:List (Key×V)} (e:H a=some (.frz o (.dK kvs))):Fi K H (.ref a) (.type "dict")
 | dK {a:Addr} {kvs:List (Key×V)} (e:H a=some (.dK kvs)):Fi K H (.ref a) (.type "dict")
 | dT {a:Addr} {kvs:List (List Key×V)} (e:H a=some (.dT kvs)):Fi K H (.ref a) (.type "dict")
 | ins {a C dx:Addr} {fs:List (Str×V)} (e:H a=some (.ins C dx fs)) (cl:Cls K C) (ha:PySem.W.findIn K (.ref C) "__class__"=some (some (.builtin "object.__class__")))
   (hn:PySem.W.specialIn K (.builtin "object.__class__") "__get__"=some (some (.builtin "getset_descriptor.__get__"))) (htk:PySem.W.takesIn K (.builtin "object.__class__")=some true)
   (hm:PySem.W.mroIn K C (.type "object")=some true):Fi K H (.ref a) (.ref C)
theorem PM{x:V}{u t:Value}(I:Inv X pins σ H s)(rx:RelV x u)(ty:Fi X.K H x t)(e:PySem.W.kitOne X.K t c=some b)(h:∀tk,Q (.bool b) { s with toks:=tk }) :
  wpAny (model X.prog X.w) A (call (.builtin "isinstance") [u,c]) Q E s:=by
 cases ty with
 | non=>cases (show u=YM from rx); exact PySem.W.kia_one PySem.W.kitx_none I.kIn ZM e (λz=>nomatch z) h
 | bl y=>cases (show u=ZY y from rx); exact PySem.W.kia_one PySem.W.kitx_bool I.kIn ZM e (λz=>nomatch z) h
 | int i=>obtain⟨t,q⟩:=(show ∃t,u=cM i t from rx); cases q; exact PySem.W.kia_one PySem.W.kitx_int I.kIn ZM e (λz=>nomatch z) h
 | str y=>obtain⟨t,q⟩:=(show ∃t,u=cN y t from rx); cases q; exact PySem.W.kia_one PySem.W.kitx_str I.kIn ZM e (λz=>nomatch z) h
 | flt y=>obtain⟨t,q⟩:=(show ∃t,u=Value.float y t from rx); cases q; exact PySem.W.kia_one PySem.W.kitx_float I.kIn ZM e (λz=>nomatch z) h
 | @lst a xs ea =>
  cases (show u=YO a from rx)
  obtain⟨_,_,n,_,h1⟩:=(show ObjOk X.prog X.w H s.heap a (.lst xs) from I.hok a _ ea)
  exact PySem.W.kia_one PySem.W.kitx_list I.kIn ⟨_,h1,rfl⟩ e (λz=>nomatch z) h
 | @frz a ob xs ea =>
  cases (show u=YO a from rx)
  obtain⟨_,_,_,n,_,h1⟩:=(show ObjOk X.prog X.w H s.heap a (.frz ob (.lst xs)) from I.hok a _ ea)
  exact PySem.W.kia_one PySem.W.kitx_list I.kIn ⟨_,h1,rfl⟩ e (λz=>nomatch z) h
 | @tup a xs ea =>
  cases (show u=YO a from rx)
  obtain⟨_,_,_,p⟩:=(show ObjOk X.prog X.w H s.heap a (.tup xs) from I.hok a _ ea)
  obtain⟨o,h1,h2,_⟩:=p
  exact PySem.W.kia_one PySem.W.kitx_tuple I.kIn ⟨o,h1,h2⟩ e (λz=>nomatch z) h
 | @dF a ob kvs ea =>
  cases (show u=YO a from rx)
  obtain⟨_,_,_,vs,_,p⟩:=(show ObjOk X.prog X.w H s.heap a (.frz ob (.dK kvs)) from I.hok a _ ea)
  obtain⟨o,es,ep,h1,h2,_⟩:=p
  exact PySem.W.kia_one PySem.W.kitx_dict I.kIn ⟨o,h1,h2.1⟩ e (λz=>nomatch z) h
 | @dK a kvs ea =>
  cases (show u=YO a from rx)
  obtain⟨_,_,vs,_,p⟩:=(show ObjOk X.prog X.w H s.heap a (.dK kvs) from I.hok a _ ea)
  obtain⟨o,es,ep,h1,h2,_⟩:=p
  exact PySem.W.kia_one PySem.W.kitx_dict I.kIn ⟨o,h1,h2.1⟩ e (λz=>nomatch z) h
 | @dT a kvs ea =>
  cases (show u=YO a from rx)
  obtain⟨_,_,xs,_,o,es,ep,h1,h2,_⟩:=(show ObjOk X.prog X.w H s.heap a (.dT kvs) from I.hok a _ ea)
  exact PySem.W.kia_one PySem.W.kitx_dict I.kIn ⟨o,h1,h2.1⟩ e (λz=>nomatch z) h
 | @ins a C dx fs ea cl ha hn htk hm =>
  cases (show u=YO a from rx)
  obtain⟨mA,O,_⟩:=Si I.hok ea
  obtain⟨od,J,_⟩:=O.look
  exact PySem.W.kia_one (PySem.W.kitx_own (cl.get _) cl.hd ha hn htk hm) I.kIn J e (λz=>nomatch z) h
end
structure Room (k:Nat) (A:Around):Prop where
 hd:A.handled=none
 dp:A.depth+3*k+5<recursionLimit
 un:A.units+16*k+200<cLine
 gd:A.guards=some []
theorem Room.mono{j k:Nat}{A:Around}(r:Room k A)(h:j<=k):Room j A:=⟨r.hd,by have:=r.dp; omega,by have:=r.un; omega,by first | exact r.gd | (show pushGuards _ _=_; rw [r.gd]; rfl) | (simp [Around.under,pushGuards,Code.guards,Code.isGuard,r.gd])⟩
theorem Room.deeper{k:Nat}{A:Around}(r:Room (k+1) A)(env:Env):Room k (A.deeper env) :=
 ⟨r.hd,by have:=r.dp; show A.depth+1+3*k+5<_; omega,by have:=r.un; show A.units+3+16*k+200<_; omega,by first | exact r.gd | (show pushGuards _ _=_; rw [r.gd]; rfl) | (simp [Around.under,pushGuards,Code.guards,Code.isGuard,r.gd])⟩
theorem Room.depth{k:Nat}{A:Around}(r:Room k A):A.depth<recursionLimit:=by have:=r.dp; omega
theorem Room.units{k:Nat}{A:Around}(r:Room k A):A.units+64<cLine:=by have:=r.un; omega
theorem Room.units0{k:Nat}{A:Around}(r:Room k A):A.units<cLine:=by have:=r.un; omega
noncomputable def Oe:TA:=λ_ H Q=>Q [] H
noncomputable def Lb(ta:TE)(tr:TA):TA:=λσ H Q=>ta σ H λx H1=>tr σ H1 λxs H2=>Q (x::xs) H2
section
variable {X:Cx}{e:Expr}{es:List Expr}{te:TE}{t:TA}{pos:Pos}
theorem BC:PA X [] Oe:=λ_ _ _ _ H Q I h=>Calls.spliced_nil ⟨[],H,I,.nil,h⟩
theorem Au(ha:PE X e te)(hr:PA X es t)(hs:autoParam (starEach (e::es) X.env=(false,eval e X.env)::starEach es X.env) zau3._auto_1):PA X (e::es) (Lb te t):=by
 intro pos pins s σ H Q I h
 rw [hs]
 show wpAny _ _ (spliced ((false,eval e X.env)::backTo pos (starEach es X.env))) _ _ s
 refine Calls.spliced_cons (BX (ha pins s σ H _ I h) λu s1 ⟨x,H1,I1,r1,q1⟩=>?_)
 exact BX (hr pos pins s1 σ H1 _ I1 q1) λus s2 ⟨xs,H2,I2,r2,q2⟩=>⟨x::xs,H2,I2,.cons r1 r2,q2⟩
noncomputable def Wu(t:TA):TE:=λσ H Q=>t σ H λxs H1=>xs.length<=sizeLine/\∀p,H1 p=none->Q (.ref p) (BB H1 p (.tup xs))
noncomputable def Wx(t:TA):TE:=λσ H Q=>t σ H λxs H1=>xs.length<=sizeLine/\∀p,H1 p=none->Q (.ref p) (BB H1 p (.lst xs))
theorem UP{x1}(h:PA X es t):PE X (.Tuple es x1 pos) (Wu t):=by
 intro pins s σ H Q I hq
 refine wpAny_Tuple_spliced (BX (h pos pins s σ H _ I hq) λus s1 ⟨xs,H1,I1,r,z,q⟩=>⟨by rw [← r.length]; exact z,?_⟩)
 have hf:H1 s1.heap.objs.size=none:=I1.hok.fresh (No _)
 refine⟨.ref s1.heap.objs.size,BB H1 s1.heap.objs.size (.tup xs),I1.laid (t':=s1.toks) (λb u e=>Ev _ e) (No _) ?_,rfl,q _ hf⟩
 exact⟨z,us,r,IsTupN.new _ _⟩
theorem Gj(h:PA X es t):PE X (.List es pos) (Wx t):=by
 intro pins s σ H Q I hq
 refine wpAny_List_spliced (BX (h pos pins s σ H _ I hq) λus s1 ⟨xs,H1,I1,r,z,q⟩=>⟨by rw [← r.length]; exact z,?_⟩)
 have hf:H1 s1.heap.objs.size=none:=I1.hok.fresh (No _)
 refine⟨.ref s1.heap.objs.size,BB H1 s1.heap.objs.size (.lst xs),I1.laid (t':=s1.toks) (λb u e=>Ev _ e) (No _) ?_,rfl,q _ hf⟩
 exact⟨z,us,0,r,UF _ rfl⟩
end
noncomputable abbrev Sp:=List V->Hp->VK->XK->Prop
noncomputable abbrev Rn:=List Env->Hp->Shared->XK->Value->Shared->Prop
structure TN (P:Program) (w:World) (K:Frag) (mg:Str->Option Value) (base:Heap) (A:Around) (outer:List Env) (s:Shared) (H:Hp):Prop where
 frames:A.frames=some outer
 mod:Mod K mg base
 bs:∀b o,base.get? b=some o->s.heap.get? b=some o/\H b=none
 bsz:base.objs.size<=s.heap.objs.size
 funs:s.heap.FunFrames base outer
 frf:∀b∈PR outer,H b=none
 hok:HOk P w H s.heap
 bare:AllBare s.gens
noncomputable def CE(outer:List Env)(P:Program)(w:World)(H:Hp)(s:Shared)(Q:VK)(u:Value)(s':Shared):Prop :=
 ∃v H',s'.os=s.os/\AllBare s'.gens/\Un (PR outer) [] H H' s.heap s'.heap/\HOk P w H' s'.heap/\RelV v u/\Q v H'
noncomputable def CR(CX:Rn)(outer:List Env)(P:Program)(w:World)(H:Hp)(s:Shared)(Q:VK)(E:XK)(r:Result)(s':Shared):Prop :=
 match r with
 | .ok (.ret u)=>CE outer P w H s Q u s'
 | .ok _=>False
 | .error e=>CX outer H s E e s'
structure BA (P:Program) (w:World) (K:Frag) (mg:Str->Option Value) (base:Heap) (CX:Rn) (k:Nat) (f:Addr) (fd:FuncData) (ps:List Str) (sp:Sp):Prop where
 len:∀vs H Q E,sp vs H Q E->vs.length=ps.length
 run:∀(A:Around) (outer:List Env) (s:Shared) (H:Hp) (args:Args) (us:List Value) (vs:List V) (Q:VK) (E:XK),Room k A->TN P w K mg base A outer s H->BindsTo s fd args (ps.zip us)->Vals vs us->sp vs H Q E ->
  codeAny (model P w) A (.call (.ref f) args) (CR CX outer P w H s Q E) s
section
variable {X:Cx}{pins:List (Addr×Obj)}{σ:St}{H:Hp}{s s':Shared}
theorem Inv.env0(I:Inv X pins σ H s):TN X.prog X.w X.K X.mg X.base X.A X.stack s H :=
 ⟨I.ok.frames,I.ok.mod,I.bs,YH I.ok.bsz I.sz,I.stack,I.stkFree,I.hok,I.bare⟩
theorem Inv.after{Q:VK}{u:Value}(I:Inv X pins σ H s)(h:CE X.stack X.prog X.w H s Q u s'):EP X pins σ Q u s':=by
 obtain⟨v,H',os,bare,un,hok,r,q⟩:=h
 obtain⟨hh,g,d,t,os'⟩:=s'
 obtain rfl:os'=s.os:=os
 exact⟨v,H',I.call (h':=hh) (g':=g) (d':=d) (t':=t) (ch:=[]) un hok bare (λb z=>absurd z (by simp)),r,q⟩
end
noncomputable def Nd(sp:Sp)(dvs:List V)(E:XK)(t:TA):TE:=λσ H Q=>t σ H λvs H1=>sp (vs++dvs) H1 Q E
noncomputable def Binds(K:Frag)(fd:FuncData)(ps:List Str)(ds:List Value):Prop :=
 ∀(s:Shared) (us:List Value),K.In s.heap->(us++ds).length=ps.length->BindsTo s fd ⟨us,[]⟩ (ps.zip (us++ds))
theorem Binds.all{K:Frag}{fd:FuncData}{ps:List Str}(h:∀us:List Value,us.length=ps.length->bindArgs fd ⟨us,[]⟩=pure (ps.zip us)):Binds K fd ps []:=λs us _ hl=>by
 rw [Yv] at hl ⊢
 exact .of_eq (h us hl)
noncomputable def LN(CX:Rn)(X:Cx)(E:XK):Prop:=∀(pins:List (Addr×Obj)) (σ:St) (H:Hp) (s:Shared) (e:Value) (s':Shared),Inv X pins σ H s->CX X.stack H s E e s'->X.xe e s'
section
variable {X:Cx}{CX:Rn}{k:Nat}{f C:Addr}{fd:FuncData}{ps:List Str}{sp:Sp}{dvs:List V}{ds:List Value}{E:XK}{x m:Str}{p pos apos:Pos}{e o:Expr}{es:List Expr}{ta:TE}{t:TA}
theorem QJ{pins:List (Addr×Obj)}{σ:St}{H:Hp}{s:Shared}{Q:VK}{us:List Value}{vs:List V}(F:BA X.prog X.w X.K X.mg X.base CX k f fd ps sp)(hr:Room k X.A)(hb:Binds X.K fd ps ds)(hd:Vals dvs ds)(hx:LN CX X E)
  (I:Inv X pins σ H s) (r:Vals vs us) (h:sp (vs++dvs) H Q E):wpAny (model X.prog X.w) X.A (call (.ref f) us) (EP X pins σ Q) X.xe s:=by
 have r2:Vals (vs++dvs) (us++ds):=r.append hd
 have hl:(us++ds).length=ps.length:=by rw [← r2.length]; exact F.len _ _ _ _ h
 refine wpAny_call (codeAny_mono (F.run X.A X.stack s H ⟨us,[]⟩ (us++ds) (vs++dvs) Q E hr I.env0 (hb s us I.kIn hl) r2 h) λr s' hq=>?_)
 cases r with
 | error e=>exact hx pins σ H s e s' I hq
 | ok fl =>
  cases fl with
  | ret u=>exact I.after hq
  | next=>exact ZZ hq
  | brk=>exact ZZ hq
  | cont=>exact ZZ hq
theorem Km(F:BA X.prog X.w X.K X.mg X.base CX k f fd ps sp)(hr:Room k X.A)(hg:Gl X x)(hm:X.mg x=some (.ref f))(hk:keepIn X.K (.ref f)=true)(hb:Binds X.K fd ps ds)(hd:Vals dvs ds)(hx:LN CX X E)
  (ha:PA X (e::es) t) (hdb:autoParam ((x==("__debug__" : Str))=false) zau1._auto_1) (he:autoParam (starEach (e::es) X.env=(false,eval e X.env)::starEach es X.env) zau3._auto_1) (hpl:autoParam ((backTo pos (starEach es X.env)).any (·.1)=false) zau3._auto_1) :
  PE X (.Call (.Name x p) (e::es) [] pos) (Nd sp dvs E t):=by
 intro pins s σ H Q I h
 refine Zm (K1 I hg hm ?_ hdb)
 refine PySem.W.callWith_K (h₀:=X.base) I.ok.mod.kin hk (BX (ha pos pins s σ H _ I h) λus s1 ⟨vs,H1,I1,r,q⟩=>⟨I1.kIn,?_⟩) he hpl
 exact QJ F hr hb hd hx I1 r q
theorem Qd(F:BA X.prog X.w X.K X.mg X.base CX k f fd ps sp)(hr:Room k X.A)(hg:Gl X x)(hm:X.mg x=some (.ref f))(hk:keepIn X.K (.ref f)=true)(hb:Binds X.K fd ps ds)(hd:Vals dvs ds)(hx:LN CX X E)
  (hdb:autoParam ((x==("__debug__" : Str))=false) zau1._auto_1):PE X (.Call (.Name x p) [] [] pos) (Nd sp dvs E Oe):=by
 intro pins s σ H Q I h
 refine Zm (K1 I hg hm ?_ hdb)
 exact PySem.W.callWith_K0 I.kIn hk (QJ (us:=[]) F hr hb hd hx I .nil h)
structure Mk (K:Frag) (C f:Addr):Prop where
 makes:PySem.W.makesIn K C=true
 init:PySem.W.findIn K (.ref C) "__init__"=some (some (.ref f))
 fn:PySem.W.isFn K (.ref f)=true
 kp:keepIn K (.ref C)=true
end
section
variable {X:Cx}{CX:Rn}{k:Nat}{f C:Addr}{fd:FuncData}{ps ks:List Str}{sp:Sp}{E:XK}{x m:Str}{p pos apos kpos:Pos}{e o:Expr}{es:List Expr}{kws:List Keyword}{te ta:TE}{t tk:TA}{nm:Option Str}
structure XO (K:Frag) (fd:FuncData) (ps ks:List Str) (g:List Value->List Value->List Value) (gV:List V->List V->List V):Prop where
 to:∀(s:Shared) (us ws:List Value),K.In s.heap->(g us ws).length=ps.length->BindsTo s fd ⟨us,ks.zip ws⟩ (ps.zip (g us ws))
 rel:∀{vs:List V} {us:List Value} {zs:List V} {ws:List Value},Vals vs us->Vals zs ws->Vals (gV vs zs) (g us ws)
variable {g:List Value->List Value->List Value}{gV:List V->List V->List V}
end
structure Ak (N P:List Str) (sc:Scope):Prop where
 kind:sc.kind=.function
 co:sc.isCoroutine=false
 gen:sc.isGenerator=false
 nd:N.Nodup
 pre:N.take P.length=P
 par:∀x∈P,sc.names.lookup x=some .local\/sc.names.lookup x=some .cell
 nofree:∀y∈sc.names,y.2≠.free
theorem J5{kindOf:Str->Option NameKind}{x:Str}:∀{binds:List (Str×Value)} {m:Str->Option Value},(∀v,(x,v)∉binds)->bindL kindOf binds m x=m x
 | [],_,_=>rfl
 | (n,v)::r,m,h=>by
  unfold bindL
  rw [J5 λw hw=>h w (Sc _ hw)]
  split
  ·have:x≠n:=by rintro rfl; exact h v Op
   simp [this]
  ·rfl
theorem J7{kindOf:Str->Option NameKind}{x:Str}:∀{binds:List (Str×Value)} {m:Str->Option Value},(∀v,(x,v)∉binds)->bindC kindOf binds m x=m x
 | [],_,_=>rfl
 | (n,v)::r,m,h=>by
  unfold bindC
  rw [J7 λw hw=>h w (Sc _ hw)]
  split
  ·rfl
  ·have:x≠n:=by rintro rfl; exact h v Op
   simp [this]
theorem J6{kindOf:Str->Option NameKind}{x:Str}{v:Value}:∀{P:List Str} {vs:List Value} {i:Nat} {m:Str->Option Value},P.Nodup->P[i]?=some x->vs[i]?=some v->kindOf x=some .local ->
  bindL kindOf (P.zip vs) m x=some v
 | [],_,_,_,_,h,_,_=>by simp at h
 | _::_,[],_,_,_,_,h,_=>by simp at h
 | p::P,w::vs,0,m,nd,h1,h2,hk=>by
  simp at h1 h2; subst h1; subst h2
  show bindL kindOf ((p,w)::P.zip vs) m p=_
  unfold bindL
  rw [J5 λv hv=>(YX.mp nd).1 (Zn hv).1,if_pos hk]
  simp
 | p::P,w::vs,i+1,m,nd,h1,h2,hk=>by
  show bindL kindOf ((p,w)::P.zip vs) m x=_
  unfold bindL
  exact J6 (i:=i) (YX.mp nd).2 (by simpa using h1) (by simpa using h2) hk
theorem J8{kindOf:Str->Option NameKind}{x:Str}{v:Value}:∀{P:List Str} {vs:List Value} {i:Nat} {m:Str->Option Value},P.Nodup->P[i]?=some x->vs[i]?=some v->kindOf x≠some .local ->
  bindC kindOf (P.zip vs) m x=some v
 | [],_,_,_,_,h,_,_=>by simp at h
 | _::_,[],_,_,_,_,h,_=>by simp at h
 | p::P,w::vs,0,m,nd,h1,h2,hk=>by
  simp at h1 h2; subst h1; subst h2
  show bindC kindOf ((p,w)::P.zip vs) m p=_
  unfold bindC
  rw [J7 λv hv=>(YX.mp nd).1 (Zn hv).1,if_neg hk]
  simp
 | p::P,w::vs,i+1,m,nd,h1,h2,hk=>by
  show bindC kindOf ((p,w)::P.zip vs) m x=_
  unfold bindC
  exact J8 (i:=i) (YX.mp nd).2 (by simpa using h1) (by simpa using h2) hk
noncomputable def start(N:List Str)(vs:List V):St:=vs.map some++Re (N.length - vs.length) none
noncomputable def LC(CX:Rn)(P:Program)(w:World)(K:Frag)(mg:Str->Option Value)(base:Heap)(N:List Str)(qual:Str)(scope:Scope)(f:Addr)(cd:Value)(A:Around)(outer:List Env)(s:Shared)(H:Hp)(E:XK):Cx where
 prog:=P
 w:=w
 K:=K
 mg:=mg
 base:=base
 A:=A.deeper (envOfC qual scope s.heap.objs.size f cd)
 N:=N
 s₀:=s
 H₀:=H
 env:=envOfC qual scope s.heap.objs.size f cd
 outer:=outer
 stack:=envOfC qual scope s.heap.objs.size f cd::outer
 ex:=[]
 calm:=true
 fn:=λ_=>true
 pn:=[]
 xe:=λe s'=>wpAny (model P w) (A.deeper (envOfC qual scope s.heap.objs.size f cd)) (leaving (envOfC qual scope s.heap.objs.size f cd) e) (λ_ s''=>CX outer H s E e s'') (λe' s''=>CX outer H s E e' s'') s'
theorem MN{sc:Scope}{n:Nat}{x:Str}(h:sc.names.lookup x=some .cell):∃c,(cellsFrom n sc.names []).lookup x=some c:=by
 have q:=PySem.W.cellsFrom_some sc.names n [] (.inl h)
 exact Option.isSome_iff_exists.mp q
theorem PP{CX:Rn}{P:Program}{w:World}{K:Frag}{mg:Str->Option Value}{base:Heap}{N ps:List Str}{qual:Str}{scope:Scope}{f:Addr}{cd:Value}{A:Around}{outer:List Env}{s s1:Shared}{H:Hp}{E:XK}{us:List Value}{vs:List V}
  (S:Ak N ps scope) (hd:A.handled=none) (e0:TN P w K mg base A outer s H) (hl:vs.length=ps.length) (r:Vals vs us)
  (x:InCallC s s.heap.objs.size (bindL (envOfC qual scope s.heap.objs.size f cd).kindOf (ps.zip us) λ_=>none) (cellsFrom (s.heap.objs.size+1) scope.names []) (bindC (envOfC qual scope s.heap.objs.size f cd).kindOf (ps.zip us) λ_=>none) s1) :
  Inv (LC CX P w K mg base N qual scope f cd A outer s H E) [] (start N vs) H s1:=by
 have hpl:ps.length<=N.length:=by have:=congrArg bx S.pre; rw [ZI] at this; omega
 obtain⟨h1,tk,rfl,hk⟩:=x.done
 have noA:∀b:Addr,b∉(LC CX P w K mg base N qual scope f cd A outer s H E).ex:=λb z=>absurd (show b∈([]:List Addr) from z) (by simp)
 refine⟨⟨e0.mod,S.kind,rfl,rfl,No _,λy z c h1 h2=>?_,λy hy=>?_,λy c _ h=>?_,λ_=>hd,Around.frames_deeper e0.frames,.inr ⟨rfl,rfl⟩,λb z=>absurd z (noA b),e0.bs,e0.bsz,λb _ _=>noA b,λb z=>absurd z (noA b),e0.funs,e0.frf⟩,
  rfl,e0.bare,Un.kept hk,⟨_,x.toInCall.ns,λi y v h1 h2 h3=>?_⟩,λy c h=>⟨_,x.cell y c h⟩,e0.hok.fresh (No _),λy c h=>?_,λp hp=>absurd (show p∈([]:List (Addr×Obj)) from hp) (by simp),e0.hok.kept hk,?_⟩
 ·exact name_of_addr x.apart (PySem.mem_of_lookup h1) (PySem.mem_of_lookup h2)
 ·have hy:scope.names.lookup y=some .cell\/scope.names.lookup y=some .free:=hy
  rcases hy with hy | hy
  ·exact MN hy
  ·exact absurd rfl (S.nofree _ (PySem.mem_of_lookup hy))
 ·exact aA (x.above y c (PySem.mem_of_lookup h))
 ·have hi:i<vs.length:=by
   unfold start at h2
   by_cases hi:i<vs.length
   ·exact hi
   ·rw [ZU (by simpa using hi)] at h2
    rw [aF] at h2
    split at h2 <;> cases h2
  have ha:vs[i]?=some v:=by
   unfold start at h2
   rw [Z6 (by simpa using hi),On] at h2
   cases e:vs[i]? with
   | none=>rw [e] at h2; cases h2
   | some a=>rw [e] at h2; cases h2; rfl
  obtain⟨u,hu,rv⟩:=r.get ha
  have hp:ps[i]?=some y:=by
   rw [← S.pre,List.getElem?_take_of_lt (by omega)]; exact h1
  have ndP:ps.Nodup:=by rw [← S.pre]; exact S.nd.sublist (List.take_sublist _ _)
  refine⟨u,rv,?_⟩
  rcases S.par y (YW hp) with k | k
  ·exact .inl ⟨k,J6 ndP hp hu k⟩
  ·obtain⟨c,e⟩:=MN (n:=s.heap.objs.size+1) k
   refine .inr ⟨.inl k,c,e,?_⟩
   have q:=x.cell y c e
   rw [J8 ndP hp hu (by show scope.names.lookup y≠_; rw [k]; decide)] at q
   exact q
 ·exact e0.hok.fresh (aA (x.above y c (PySem.mem_of_lookup h)))
 ·unfold start
  show _=N.length
  rw [Rs,Db,cB]
  omega
theorem V_{CX:Rn}{P:Program}{w:World}{K:Frag}{mg:Str->Option Value}{base:Heap}{k:Nat}{f:Addr}{name qual:Str}{params:Arguments}{body:List Stmt}{scope:Scope}{dV kV doc pm cdv ct oc:Value}{an od:Option Addr}
  {osl:Array (Option Value)} {N ps:List Str} {sp:Sp} (lk:K.lookup f=some ⟨oc,od,.func (fnOf name qual params body scope dV kV doc pm an cdv ct),osl⟩) (hcd:codeIn K cdv qual=true) (S:Ak N ps scope)
  (len:∀vs H Q E,sp vs H Q E->vs.length=ps.length)
  (hbody:∀(A:Around) (outer:List Env) (s:Shared) (H:Hp) (vs:List V) (Q:VK) (E:XK),Room k (A.deeper (envOfC qual scope s.heap.objs.size f cdv))->sp vs H Q E ->
   ∃t,PSs (LC CX P w K mg base N qual scope f cdv A outer s H E) body t/\t { nx:=λ_ H'=>Q .non H',rt:=Q } (start N vs) H) :
  BA P w K mg base CX (k+1) f (fnOf name qual params body scope dV kV doc pm an cdv ct) ps sp:=by
 refine⟨len,λA outer s H args us vs Q E hr e0 hb r hsp=>?_⟩
 have hl:=len _ _ _ _ hsp
 have KX:K.In s.heap:=e0.mod.kin.keeps λb o e=>(e0.bs b o e).1
 have lim:s.heap.NoLimit:=e0.mod.nolimit.keeps λb o e=>(e0.bs b o e).1
 have hkind:∀y∈ps.zip us,scope.names.lookup y.1=some .local\/(scope.names.lookup y.1=some .cell/\((cellsFrom (s.heap.objs.size+1) scope.names []).lookup y.1).isSome=true):=fun⟨n,v⟩ hy=>by
  rcases S.par n (Zn hy).1 with q | q
  ·exact .inl q
  ·exact .inr ⟨q,PySem.W.cellsFrom_some _ _ _ (.inl q)⟩
 refine codeAny_call_function hr.depth (KX _ _ lk) rfl S.co S.gen rfl (PySem.W.codeRec_of KX hcd) (hb _ _ _ _ ?_)
 refine wpAny_newFunctionEnv_cells S.kind hkind λenv he s1 x=>?_
 subst he
 refine⟨lim.keeps x.toInCall.keep,codeAny_func ?_⟩
 obtain⟨t,ht,hq⟩:=hbody A outer s H vs Q E (hr.deeper _) hsp
 have I:Inv (LC CX P w K mg base N qual scope f cdv A outer s H E) [] (start N vs) H s1:=PP S hr.hd e0 hl r x
 refine Yl (ht [] s1 (start N vs) H _ I hq) (λfl s' hs=>?_) λe s' hs=>hs
 have fin:∀{σ':St} {H':Hp} {v:V} {u:Value},Inv (LC CX P w K mg base N qual scope f cdv A outer s H E) [] σ' H' s'->RelV v u->Q v H'->CE outer P w H s Q u s' :=
  λ{σ' H' v u} J rv q=>⟨v,H',J.os,J.bare,J.base,J.hok,rv,q⟩
 cases fl with
 | ret u =>
  obtain⟨v,σ',H',J,rv,q⟩:=hs
  exact fin J rv q
 | next =>
  obtain⟨σ',H',J,q⟩:=hs
  exact fin (v:=V.non) (u:=YM) J rfl q
 | brk =>
  obtain⟨_,_,_,q⟩:=hs
  exact ZZ q
 | cont =>
  obtain⟨_,_,_,q⟩:=hs
  exact ZZ q
section
variable {X:Cx}{x:Str}{p pos:Pos}{e:Expr}{es:List Expr}{t:TA}{id T:String}{r:List V->Hp->VK->Prop}
noncomputable def Wc(r:List V->Hp->VK->Prop)(t:TA):TE:=λσ H Q=>t σ H λvs H1=>r vs H1 Q
theorem Ea(hc:CC X (.builtin id) r)(hg:Gl X x)(hm:X.mg x=none)(hv:bootBuiltins x=some (.builtin id))(ha:PA X (e::es) t)(hn:autoParam (x ≠ "__name__") zau1._auto_1)(hdb:autoParam ((x==("__debug__" : Str))=false) zau1._auto_1)
  (he:autoParam (starEach (e::es) X.env=(false,eval e X.env)::starEach es X.env) zau3._auto_1) (hpl:autoParam ((backTo pos (starEach es X.env)).any (·.1)=false) zau3._auto_1):PE X (.Call (.Name x p) (e::es) [] pos) (Wc r t):=by
 intro pins s σ H Q I h
 refine Zm (Fc I hg hm hv ?_ hn hdb)
 exact PyProof.Rows.callWith_builtin1 (BX (ha pos pins s σ H _ I h) λus s1 ⟨vs,H1,I1,r1,q1⟩=>hc pins s1 σ H1 vs us Q I1 r1 q1) he hpl
theorem Jn(hc:CC X (.type T) r)(hg:Gl X x)(hm:X.mg x=none)(hv:bootBuiltins x=some (.type T))(ha:PA X (e::es) t)(hn:autoParam (x ≠ "__name__") zau1._auto_1)(hdb:autoParam ((x==("__debug__" : Str))=false) zau1._auto_1)
  (he:autoParam (starEach (e::es) X.env=(false,eval e X.env)::starEach es X.env) zau3._auto_1) (hpl:autoParam ((backTo pos (starEach es X.env)).any (·.1)=false) zau3._auto_1):PE X (.Call (.Name x p) (e::es) [] pos) (Wc r t):=by
 intro pins s σ H Q I h
 refine Zm (Fc I hg hm hv ?_ hn hdb)
 exact Y4 (BX (ha pos pins s σ H _ I h) λus s1 ⟨vs,H1,I1,r1,q1⟩=>hc pins s1 σ H1 vs us Q I1 r1 q1) he hpl
end
end L2
namespace HT
open PySem PyProof.Rows
section
open PySem.SeqAt
open PySem.AutoSeq1 (wpAny_loadPart')
open PySem.MeetsSeq PySem.MeetsSeq2 PySem.MeetsSeq3
end
section
variable {prog:Program}{w:World}{A:Around}{E:Value->Shared->Prop}{s:Shared}
theorem cat_tup{t b:Addr}{vs ws:List Value}{Q:Value->Shared->Prop}(ht:IsTup s.heap t vs.toArray)(hb:IsTup s.heap b ws.toArray)(hv:vs≠[])
  (h1:ws=[]->Q (.ref t) s) (h2:ws≠[]->Q (.ref s.heap.objs.size) { s with heap:=s.heap.push { cls:=.type "tuple",data:=.seq (vs++ws).toArray } })
  (hsz:vs.length+ws.length<=sizeLine):wpAny (model prog w) A (binaryOp .Add (.ref t) (.ref b)) Q E s:=by
 obtain⟨⟨cls,dd,data,sl⟩,ho,hc,n,hd⟩:=id ht
 obtain⟨⟨cls2,dd2,data2,sl2⟩,ho2,hc2,n2,hd2⟩:=id hb
 simp only at hc hd hc2 hd2
 subst hc hd hc2 hd2
 have e:vs.toArray++ws.toArray=(vs++ws).toArray:=by simp
 by_cases hw:ws=[]
 ·exact concat_meets ⟨_,ho,rfl⟩ ⟨_,ho2,rfl⟩ bW seq_tuple_add PySem.F.slot_tuple_add PySem.F.entry_tuple_add (PySem.F.args_tuple_add_2 _ _)
   (tuple_addW1 t b vs.toArray ws.toArray n n2 dd dd2 sl sl2 (by simpa using hv) (by simp [hw])) ⟨ho,ho2,h1 hw⟩
 ·refine concat_meets ⟨_,ho,rfl⟩ ⟨_,ho2,rfl⟩ bW seq_tuple_add PySem.F.slot_tuple_add PySem.F.entry_tuple_add (PySem.F.args_tuple_add_2 _ _)
   (tuple_addW2 t b vs.toArray ws.toArray n n2 dd dd2 sl sl2 (by simpa using hv) (by simpa using hw) (by rw [TM,TM]; exact hsz)) ⟨ho,ho2,?_⟩
  rw [e]
  exact h2 hw
noncomputable def sIx(n d:Nat):Option Int->Nat
 | none=>d
 | some v=>if v<0 then (v+(n:Int)).toNat else min v.toNat n
theorem sIx_none(n d:Nat):sIx n d none=d:=rfl
theorem sIx_nat(n d k:Nat):sIx n d (some (k:Int))=min k n:=by
 show (if (k:Int)<0 then ((k:Int)+(n:Int)).toNat else min (k:Int).toNat n)=min k n
 rw [if_neg (by omega),Yg]
theorem UG(n d:Nat)(hd:d<=n)(o:Option Int):sIx n d o<=n:=by
 cases o with
 | none=>exact hd
 | some v =>
  show (if v<0 then (v+(n:Int)).toNat else min v.toNat n)<=n
  by_cases hv:v<0
  ·rw [if_pos hv]; omega
  ·rw [if_neg hv]; exact aM _ _
theorem OL(v:Int)(n d:Nat):(if v<0 then max (v+(n:Int)) 0 else min v (n:Int))=((sIx n d (some v):Nat):Int):=by
 show (if v<0 then max (v+(n:Int)) 0 else min v (n:Int))=(((if v<0 then (v+(n:Int)).toNat else min v.toNat n):Nat):Int)
 by_cases hv:v<0
 ·simp only [if_pos hv]; omega
 ·simp only [if_neg hv]; omega
theorem NV(lo hi:Option Int)(n:Nat):Z7 lo hi 1 (n:Int)=(((sIx n 0 lo:Nat):Int),((sIx n n hi:Nat):Int)):=by
 have h1:¬((1:Int)<0):=by omega
 unfold Z7
 simp only [h1,if_false]
 refine Prod.ext ?_ ?_
 ·cases lo with
  | none=>rfl
  | some v=>exact OL v n 0
 ·cases hi with
  | none=>rfl
  | some v=>exact OL v n n
theorem Mw(i j:Nat):Za (i:Int) (j:Int) 1=j - i:=by
 unfold Za
 have h1:(1:Int) > 0:=by omega
 simp only [h1,if_true,Int.ediv_one]
 split <;> omega
theorem Hw{v:Value}{o:Option Int}{Q:Option Int->Shared->Prop}(p:IsPart v o)(h:Q o s):wpAny (model prog w) A (Builtin.Slice.slicePartIndex v) Q E s:=by
 cases p with
 | none=>exact slicePart_none h
 | int i t=>exact slicePart_int h
theorem sliceApplied_gen{sl:Addr}{vl vu:Value}{lo hi:Option Int}{n:Nat}{Q:Int×Int×Nat->Shared->Prop}(hs:s.heap.IsSliceOf sl vl vu .none)(pl:IsPart vl lo)(pu:IsPart vu hi)
  (h:Q (((sIx n 0 lo:Nat):Int),1,sIx n n hi - sIx n 0 lo) s):wpAny (model prog w) A (bF (.ref sl) (pure (n:Int))) Q E s:=by
 obtain⟨os,hos,hcs,hds⟩:=id hs
 unfold bF Builtin.Slice.sliceFields
 refine Ch (Ch (YS hos hds (x:=vl) rfl (Ch (YS hos hds (x:=vu) rfl (Ch (YS hos hds (x:=.none) rfl (Go ?_)))))))
 refine Ch (slicePart_none ?_)
 show wpAny _ _ (if ((1:Int)==0)=true then _ else _) _ _ s
 rw [if_neg (by decide)]
 refine Ch (Hw pl (Ch (Hw pu (Ch (Go ?_)))))
 show wpAny _ _ (match Z7 lo hi 1 (n:Int) with | (lo,hi)=>pure (lo,(1:Int),Za lo hi 1)) _ _ s
 rw [NV lo hi n]
 show wpAny _ _ (pure (((sIx n 0 lo:Nat):Int),(1:Int),Za ((sIx n 0 lo:Nat):Int) ((sIx n n hi:Nat):Int) 1)) _ _ s
 rw [Mw]
 exact Go h
theorem Qa(xs:Array Value)(i k:Nat):((YN k).filterMap fun(m:Nat)=>xs[((i:Int)+(m:Int)*1).toNat]?).toArray=((xs.toList.drop i).take k).toArray:=by
 have e:(fun(m:Nat)=>xs[((i:Int)+(m:Int)*1).toNat]?)=λm=>xs[i+m]?:=by
  funext m
  have:((i:Int)+(m:Int)*1).toNat=i+m:=by omega
  rw [this]
 rw [e]
 have:=pick_run xs i k
 rw [List.filterMap_map] at this
 have e2:((λx=>xs[x]?)∘λx=>i+x)=λm=>xs[i+m]?:=rfl
 rw [e2] at this
 rw [this]
theorem getItem_tuple_cut{t sl:Addr}{items:Array Value}{vl vu:Value}{lo hi:Option Int}{Q:Value->Shared->Prop}(ht:IsTup s.heap t items)(hs:s.heap.IsSliceOf sl vl vu .none)(pl:IsPart vl lo)(pu:IsPart vu hi)
  (hw:¬(sIx items.size 0 lo=0/\sIx items.size items.size hi=items.size))
  (h:Q (.ref s.heap.objs.size) { s with heap:=s.heap.push { cls:=.type "tuple",data:=.seq ((items.toList.drop (sIx items.size 0 lo)).take (sIx items.size items.size hi - sIx items.size 0 lo)).toArray } })
  (hsz:items.size<=sizeLine):wpAny (model prog w) A (getItem (.ref t) (.ref sl)) Q E s:=by
 have htake:sizeOk (.seq ((items.toList.drop (sIx items.size 0 lo)).take (sIx items.size items.size hi - sIx items.size 0 lo)).toArray):=by
  show ((items.toList.drop (sIx items.size 0 lo)).take (sIx items.size items.size hi - sIx items.size 0 lo)).toArray.size<=sizeLine
  rw [TM,ZI,ZJ,YY]
  omega
 have hj:sIx items.size items.size hi<=items.size:=UG _ _ (No _) hi
 obtain⟨os,hos,hcs,hds⟩:=id hs
 have hTs:s.TypeIs (.ref sl) "slice":=⟨os,hos,hcs⟩
 unfold getItem
 try with_reducible refine Yp ?_
 first | refine Ch (Go ?_) | skip
 refine Ch (wpAny_sequenceKey ht.typeIs (by decide) ?_)
 refine Ch (YT (name:=Y6 "__getitem__") ht.typeIs Ya
  (Yk Ya ht.typeIs entry_tuple_getitem ?_ (args_tuple_getitem _ _)))
 show wpAny _ _ (bG (.ref t) >>= _) _ _ s
 refine Ch (tupleItemsOf_ ht ?_)
 refine Ch (aB hTs ?_)
 rw [if_pos (by decide)]
 refine Ch (sliceApplied_gen hs pl pu ?_)
 have hno:¬((((sIx items.size 0 lo:Nat):Int)==0&&(1:Int)==1&&(sIx items.size items.size hi - sIx items.size 0 lo)==items.size)=true):=by
  intro q
  rw [YA,YA] at q
  have q1:((sIx items.size 0 lo:Nat):Int)=0:=eq_of_beq q.1.1
  have q2:sIx items.size items.size hi - sIx items.size 0 lo=items.size:=eq_of_beq q.2
  exact hw ⟨by omega,by omega⟩
 show wpAny _ _ (if (((sIx items.size 0 lo:Nat):Int)==0&&(1:Int)==1&&(sIx items.size items.size hi - sIx items.size 0 lo)==items.size)=true then _ else _) _ _ s
 rw [if_neg hno,Qa]
 first
  | exact Ch (m:=Zd _) (YZ (Go ⟨_,rfl,Go h⟩) htake)
  | exact Ch (m:=Zd _) (YZ (Ch (Go (Go ⟨_,rfl,Go h⟩))) htake)
  | exact Ch (Ch (m:=Zd _) (YZ (Go (Go ⟨_,rfl,Go h⟩)) htake))
  | exact Ch (Ch (m:=Zd _) (YZ (Go ⟨_,rfl,Go h⟩) htake))
end
end HT
namespace L2
open PySem PySem.Spec PyProof.Rows
noncomputable abbrev TO:=St->Hp->(Option Int->Hp->Prop)->Prop
noncomputable def PO(X:Cx)(e:Option Expr)(t:TO):Prop :=
 ∀(pins:List (Addr×Obj)) (s:Shared) (σ:St) (H:Hp) (Q:Option Int->Hp->Prop),Inv X pins σ H s->t σ H Q ->
  wpAny (model X.prog X.w) X.A (evalPart e X.env) (λu s'=>∃o H',Inv X pins σ H' s'/\IsPart u o/\Q o H') X.xe s
noncomputable def Rw:TO:=λ_ H Q=>Q none H
noncomputable def Vb(t:TE):TO:=λσ H Q=>t σ H λx H1=>∃i,x=.int i/\Q (some i) H1
section
variable {X:Cx}{e:Expr}{te:TE}{lo hi:Option Expr}{tl th:TO}{pos p2:Pos}
theorem Nq:PO X none Rw:=by
 intro pins s σ H Q I h
 rw [evalPart_none]
 exact Go ⟨none,H,I,.none,h⟩
theorem Np(h:PE X e te):PO X (some e) (Vb te):=by
 intro pins s σ H Q I hw
 rw [evalPart_some]
 refine BX (h pins s σ H _ I hw) λu s1 ⟨x,H1,I1,r1,q1⟩=>?_
 obtain⟨i,rfl,q⟩:=q1
 obtain⟨t,rfl⟩:=r1
 exact⟨some i,H1,I1,.int i t,q⟩
noncomputable def SlR(X:Cx)(r:V->Option Int->Option Int->Hp->VK->Prop):Prop :=
 ∀(pins:List (Addr×Obj)) (s:Shared) (σ:St) (H:Hp) (x:V) (v vl vu:Value) (lo hi:Option Int) (sl:Addr) (Q:VK),Inv X pins σ H s->RelV x v->s.heap.IsSliceOf sl vl vu .none->IsPart vl lo->IsPart vu hi->r x lo hi H Q ->
  ∃T id,typeLookup (.type T) "__getitem__"=pure (some (.builtin id))/\s.TypeIs v T/\wpAny (model X.prog X.w) X.A (getItem v (.ref sl)) (EP X pins σ Q) X.xe s
theorem SlR.or{r r':V->Option Int->Option Int->Hp->VK->Prop}(h:SlR X r)(h':SlR X r'):SlR X (λx lo hi H Q=>r x lo hi H Q\/r' x lo hi H Q):=by
 intro pins s σ H x v vl vu lo hi sl Q I rx hs pl pu q
 rcases q with q | q
 ·exact h pins s σ H x v vl vu lo hi sl Q I rx hs pl pu q
 ·exact h' pins s σ H x v vl vu lo hi sl Q I rx hs pl pu q
noncomputable def Xk(r:V->Option Int->Option Int->Hp->VK->Prop)(te:TE)(tl th:TO):TE:=λσ H Q=>te σ H λx H1=>tl σ H1 λl H2=>th σ H2 λu H3=>r x l u H3 Q
theorem Lr{r:V->Option Int->Option Int->Hp->VK->Prop}(hr:SlR X r)(he:PE X e te)(hl:PO X lo tl)(hu:PO X hi th):PE X (.Subscript e (.Slice lo hi none p2) pos) (Xk r te tl th):=by
 intro pins s σ H Q I h
 refine Subscript_ (BX (he pins s σ H _ I h) λv s1 ⟨x,H1,I1,r1,q1⟩=>?_)
 refine wpAny_Slice (BX (hl pins s1 σ H1 _ I1 q1) λvl s2 ⟨l,H2,I2,pl,q2⟩=>BX (hu pins s2 σ H2 _ I2 q2) λvu s3 ⟨u,H3,I3,pu,q3⟩=>?_)
 rw [evalPart_none]
 refine Go ?_
 have I4:Inv X pins σ H3 { s3 with heap:=s3.heap.push { cls:=.type "slice",data:=.fields #[vl,vu,.none] } }:=I3.kept (t':=s3.toks) λb ob q=>Ev _ q
 obtain⟨T,id,hT,ht,hg⟩:=hr pins { s3 with heap:=s3.heap.push { cls:=.type "slice",data:=.fields #[vl,vu,.none] } } σ H3 x v vl vu l u s3.heap.objs.size Q I4 r1 (Heap.IsSliceOf.new ..) pl pu q3
 show wpAny (model X.prog X.w) X.A (subscriptTail e (.Slice lo hi none p2) v (.ref s3.heap.objs.size)) (EP X pins σ Q) X.xe { s3 with heap:=s3.heap.push { cls:=.type "slice",data:=.fields #[vl,vu,.none] } }
 exact tail_any (ops:=[.ref s3.heap.objs.size,v]) ht hT hg (by with_unfolding_all rfl)
noncomputable def JZ(xs:List V)(lo hi:Option Int):List V:=(xs.drop (HT.sIx xs.length 0 lo)).take (HT.sIx xs.length xs.length hi - HT.sIx xs.length 0 lo)
theorem G5(xs:List V)(lo hi:Option Int):(JZ xs lo hi).length<=xs.length:=by
 unfold JZ
 rw [ZI,ZJ]
 omega
noncomputable def Vo(K:Frag):V->Option Int->Option Int->Hp->VK->Prop:=λx lo hi H Q=>∃a xs,x=.ref a/\SqT K H a xs /\
 ¬(HT.sIx xs.length 0 lo=0/\HT.sIx xs.length xs.length hi=xs.length)/\∀p,H p=none->Q (.ref p) (BB H p (.tup (JZ xs lo hi)))
theorem sl_tup:SlR X (Vo X.K):=by
 intro pins s σ H x v vl vu lo hi sl Q I rx hs pl pu h
 obtain⟨a,xs,rfl,hx,hw,q⟩:=h
 cases rx
 obtain⟨its,r,ht,hz⟩:=I.tuple hx
 have hlen:its.toArray.size=xs.length:=by rw [TM]; exact r.length.symm
 refine⟨"tuple",_,Ya.lookup,ht.typeIs,?_⟩
 refine HT.getItem_tuple_cut ht hs pl pu (by rw [hlen]; exact hw) ?_ (by rw [hlen]; exact hz)
 rw [hlen]
 refine⟨.ref s.heap.objs.size,_,I.laid (t':=s.toks) (o:=.tup (JZ xs lo hi)) (λb ob q=>Ev _ q) (No _) ?_,rfl,q _ (I.hok.fresh (No _))⟩
 exact⟨YH (G5 xs lo hi) hz,_,(r.drop (HT.sIx xs.length 0 lo)).take (HT.sIx xs.length xs.length hi - HT.sIx xs.length 0 lo),IsTupN.new _ _⟩
noncomputable def QT(K:Frag):R2:=λx y H Q=>∃a b xs ys,x=.ref a/\y=.ref b/\SqT K H a xs/\SqT K H b ys/\xs≠[]/\xs.length+ys.length<=sizeLine /\
 (ys=[]->Q (.ref a) H)/\(ys≠[]->∀p,H p=none->Q (.ref p) (BB H p (.tup (xs++ys))))
theorem Vals.nil_iff{xs:List V}{us:List Value}(r:Vals xs us):us=[]↔xs=[]:=by
 cases r with
 | nil=>simp
 | cons _ _=>simp
theorem op_catT:OpR X (binaryOp .Add) (QT X.K):=by
 intro pins s σ H x y v u Q I rx ry h
 obtain⟨a,b,xs,ys,rfl,rfl,ha,hb,hx,hz,q1,q2⟩:=h
 cases rx
 cases ry
 obtain⟨its,r1,p1,_⟩:=I.tuple ha
 obtain⟨its2,r2,p2,_⟩:=I.tuple hb
 refine HT.cat_tup p1 p2 (λz=>hx (r1.nil_iff.mp z)) (λz=>⟨.ref a,H,I,rfl,q1 (r2.nil_iff.mp z)⟩) (λz=>?_) (by rw [← r1.length,← r2.length]; exact hz)
 refine⟨.ref s.heap.objs.size,_,I.laid (t':=s.toks) (o:=.tup (xs++ys)) (λb ob q=>Ev _ q) (No _) ?_,rfl,q2 (λw=>z (r2.nil_iff.mpr w)) _ (I.hok.fresh (No _))⟩
 exact⟨by rw [Rs]; exact hz,_,r1.append r2,IsTupN.new _ _⟩
end
noncomputable def Po(n:Nat)(i:Int):Option Nat:=if 0<=i then (if i<n then some i.toNat else none) else if -(n:Int)<=i then some (i+n).toNat else none
noncomputable def atI{α:Type}(xs:List α)(i:Int):Option α:=(Po xs.length i).bind λj=>xs[j]?
theorem N6{n:Nat}{i:Int}{j:Nat}(h:Po n i=some j):seqIndex? i n=some j/\j<n/\-(n:Int)<=i/\i<n:=by
 unfold Po at h
 by_cases h0:0<=i
 ·rw [if_pos h0] at h
  by_cases h1:i<n
  ·rw [if_pos h1] at h
   have e:i.toNat=j:=TW h
   exact⟨by rw [seqIndex_of h0 h1,e],by omega,by omega,h1⟩
  ·rw [if_neg h1] at h; cases h
 ·rw [if_neg h0] at h
  by_cases h1:-(n:Int)<=i
  ·rw [if_pos h1] at h
   have e:(i+n).toNat=j:=TW h
   exact⟨by rw [seqIndex_neg (by omega) h1,e],by omega,h1,by omega⟩
  ·rw [if_neg h1] at h; cases h
theorem LI{α:Type}{xs:List α}{i:Int}{v:α}(h:atI xs i=some v):∃j,seqIndex? i xs.length=some j/\xs[j]?=some v/\j<xs.length/\-(xs.length:Int)<=i/\i<xs.length:=by
 unfold atI at h
 cases e:Po xs.length i with
 | none=>rw [e] at h; cases h
 | some j =>
  rw [e] at h
  obtain⟨h1,h2,h3,h4⟩:=N6 e
  exact⟨j,h1,h,h2,h3,h4⟩
theorem AO{α:Type}{xs:List α}{j:Nat}{v:α}(h:xs[j]?=some v):atI xs (j:Int)=some v:=by
 have hj:j<xs.length:=(X4.mp h).1
 have e:Po xs.length (j:Int)=some j:=by
  unfold Po
  rw [if_pos (by omega),if_pos (by omega)]; simp
 unfold atI; rw [e]; exact h
theorem RP{α:Type}(xs:List α)(v:α):atI (xs++[v]) (-1)=some v:=by
 have hl:(xs++[v]).length=xs.length+1:=by simp
 have e:Po (xs++[v]).length (-1)=some xs.length:=by
  unfold Po
  rw [hl,if_neg (by decide),if_pos (by omega)]
  congr 1
  omega
 unfold atI
 rw [e]
 show (xs++[v])[xs.length]?=some v
 simp
noncomputable def OY(b:Expr):Prop:=∀o i,subscripted b false o i=operate [o,i] (getItem o i)
noncomputable def IxR(X:Cx)(r:R2):Prop :=
 ∀(value slice:Expr) (pins:List (Addr×Obj)) (s:Shared) (σ:St) (H:Hp) (x y:V) (v u:Value) (Q:VK),Inv X pins σ H s->RelV x v->RelV y u->r x y H Q ->
  subscripted slice false v u=operate [v,u] (getItem v u)->wpAny (model X.prog X.w) X.A (subscriptTail value slice v u) (EP X pins σ Q) X.xe s
noncomputable def Wl(X:Cx)(id:String)(r:V->List V->Hp->VK->Prop):Prop :=
 ∀(pins:List (Addr×Obj)) (s:Shared) (σ:St) (H:Hp) (x:V) (xs:List V) (v:Value) (us:List Value) (Q:VK),Inv X pins σ H s->RelV x v->Vals xs us->r x xs H Q ->
  wpAny (model X.prog X.w) X.A (call (.builtin id) (v::us)) (EP X pins σ Q) X.xe s
section
variable {X:Cx}{a b:Expr}{ta tb:TE}{pos:Pos}
theorem IxR.or{r r':R2}(h:IxR X r)(h':IxR X r'):IxR X (λx y H Q=>r x y H Q\/r' x y H Q):=by
 intro value slice pins s σ H x y v u Q I rx ry q hs
 rcases q with q | q
 ·exact h value slice pins s σ H x y v u Q I rx ry q hs
 ·exact h' value slice pins s σ H x y v u Q I rx ry q hs
theorem BP{r:R2}(hr:IxR X r)(ha:PE X a ta)(hb:PE X b tb)(hs:OY b):PE X (.Subscript a b pos) (Cj r ta tb):=by
 intro pins s σ H Q I h
 exact Subscript_ (U8 ha hb I h λv u s2 x y H2 I2 rx ry q=>hr a b pins s2 σ H2 x y v u Q I2 rx ry q (hs _ _))
noncomputable def Ou(K:Frag):R2:=λx y H Q=>∃p xs i v,x=.ref p/\y=.int i/\SqL K H p xs/\atI xs i=some v/\Q v H
noncomputable def Vv(K:Frag):R2:=λx y H Q=>∃p xs i v,x=.ref p/\y=.int i/\SqT K H p xs/\atI xs i=some v/\Q v H
noncomputable def Vw:R2:=λx y H Q=>∃z i c,x=.str z/\y=.int i/\z.length<=sizeLine/\atI z.cps.toList i=some c/\Q (.str ⟨#[c]⟩) H
theorem ix_list:IxR X (Ou X.K):=by
 intro value slice pins s σ H x y v u Q I rx ry h hs
 obtain⟨p,xs,i,z,rfl,rfl,hq,he,q⟩:=h
 cases rx
 obtain⟨t,rfl⟩:=ry
 obtain⟨its,r,pl,hz⟩:=I.list hq
 obtain⟨j,h1,h2,h3,h4,h5⟩:=LI he
 obtain⟨w,ew,rw'⟩:=r.get h2
 have hl:=r.length
 have hn:=IZ
 have fin:EP X pins σ Q w s:=⟨z,H,I,rw',q⟩
 by_cases h0:0<=i
 ·have hj:i.toNat=j:=by
   rw [seqIndex_of h0 h5] at h1
   exact TW h1
  exact item_listR pl.isList h0 (by omega) (by rw [hj]; simpa using ew) fin hs
 ·have hj:(i+(its.toArray.size:Int)).toNat=j:=by
   rw [seqIndex_neg (by omega) h4] at h1
   rw [TM,← hl]
   exact TW h1
  exact subscriptTail_builtinR (x:=w) pl.isList.typeIs slot_list_getitem.lookup
   (wpAny_getItem_list_neg (Q:=λr s'=>r=w/\EP X pins σ Q r s') pl.isList (by omega) (by rw [TM] <;> omega) (by omega) (by rw [hj]; simpa using ew) ⟨rfl,fin⟩) hs
theorem ix_tup:IxR X (Vv X.K):=by
 intro value slice pins s σ H x y v u Q I rx ry h hs
 obtain⟨p,xs,i,z,rfl,rfl,hq,he,q⟩:=h
 cases rx
 obtain⟨t,rfl⟩:=ry
 obtain⟨its,r,pl,hz⟩:=I.tuple hq
 obtain⟨j,h1,h2,h3,h4,h5⟩:=LI he
 obtain⟨w,ew,rw'⟩:=r.get h2
 have hl:=r.length
 have hn:=IZ
 have fin:EP X pins σ Q w s:=⟨z,H,I,rw',q⟩
 exact subscriptTail_builtinR (x:=w) pl.typeIs Ya.lookup
  (getItem_tuple (j:=j) (Q:=λr s'=>r=w/\EP X pins σ Q r s') pl (by omega) (by omega) (by rw [TM,← hl]; exact h1) (by simpa using ew) ⟨rfl,fin⟩) hs
theorem Ui:IxR X Vw:=by
 intro value slice pins s σ H x y v u Q I rx ry h hs
 obtain⟨z,i,c,rfl,rfl,hz,he,q⟩:=h
 obtain⟨t,rfl⟩:=rx
 obtain⟨t',rfl⟩:=ry
 obtain⟨j,h1,h2,h3,h4,h5⟩:=LI he
 have hl:z.cps.toList.length=z.length:=by simp [Str.length]
 rw [hl] at h1 h4 h5
 have hn:=IZ
 exact tail_any (typeIs_str s z t) slot_str_getitem.lookup (getItem_str (c:=c) (by
  have e1:decide (i < -(2 ^ 63:Int))=false:=decide_eq_false (by omega)
  have e2:decide (i≥2 ^ 63)=false:=decide_eq_false (by omega)
  rw [e1,e2,bH]) (by rw [h1]; simpa using h2) ⟨.str ⟨#[c]⟩,H,I.tok _,⟨_,rfl⟩,q⟩) hs
noncomputable def XW(K:Frag):R2:=λx y H Q=>Ou K x y H Q\/Vv K x y H Q\/Vw x y H Q
theorem AQ:IxR X (XW X.K):=ix_list.or (ix_tup.or Ui)
theorem NC(its:List Value)(n j:Nat)(u:Value):Y7 (·.setIfInBounds j u) { cls:=.type "list",data:=.seq its.toArray n }={ cls:=.type "list",data:=.seq (its.set j u).toArray n }:=by
 simp [Y7]
theorem Inv.lst{pins:List (Addr×Obj)}{σ:St}{H:Hp}{s:Shared}{p:Addr}{xs:List V}(I:Inv X pins σ H s)(h:H p=some (.lst xs)) :
  ∃(its:List Value) (n:Nat),Vals xs its/\s.heap.get? p=some { cls:=.type "list",data:=.seq its.toArray n }/\xs.length<=sizeLine:=by
 obtain⟨z,its,n,r,e⟩:=I.hok p _ h
 exact⟨its,n,r,e,z⟩
theorem Inv.lstUpd{pins:List (Addr×Obj)}{σ:St}{H:Hp}{s:Shared}{p:Addr}{xs ys:List V}{its its':List Value}{n n':Nat}{f:Obj->Obj}(I:Inv X pins σ H s)(h:H p=some (.lst xs))
  (ho:s.heap.get? p=some { cls:=.type "list",data:=.seq its.toArray n }) (hf:f { cls:=.type "list",data:=.seq its.toArray n }={ cls:=.type "list",data:=.seq its'.toArray n' }) (r:Vals ys its') (hz:ys.length<=sizeLine) (t:Nat) :
  Inv X pins σ (BB H p (.lst ys)) { s with heap:=s.heap.update p f,toks:=t }:=by
 have e:(s.heap.update p f).get? p=some { cls:=.type "list",data:=.seq its'.toArray n' }:=by
  rw [aR f ho (by rw [hf] <;> rfl),hf]
 refine I.write (x:=p) (e:=p) (by rw [h]; trivial) (.inl rfl) (λb u hb q=>(ZN _ _ (Yq hb)).trans q) ⟨_,e⟩ ?_
 exact⟨hz,its',n',r,e⟩
noncomputable def QR:V->V->V->Hp->(Hp->Prop)->Prop:=λo i v H Q=>∃p xs k j,o=.ref p/\i=.int k/\H p=some (.lst xs)/\Po xs.length k=some j/\Q (BB H p (.lst (xs.set j v)))
theorem set_list:WO X QR:=by
 intro pins s σ H o i v ov iv u Q I ro ri rv h
 obtain⟨p,xs,k,j,rfl,rfl,hp,hj,q⟩:=h
 cases ro
 obtain⟨t,rfl⟩:=ri
 obtain⟨its,n,r,ho,hz⟩:=I.lst hp
 obtain⟨h1,h2,h3,h4⟩:=N6 hj
 have hl:=r.length
 have hn:=IZ
 have I':Inv X pins σ (BB H p (.lst (xs.set j v))) { s with heap:=s.heap.update p (Y7 (·.setIfInBounds j u)) } :=
  I.lstUpd hp ho (NC its n j u) (r.set rv j) (by rw [ZD]; exact hz) s.toks
 by_cases h0:0<=k
 ·have hk:k.toNat=j:=by
   rw [seqIndex_of h0 h4] at h1
   exact TW h1
  exact PySem.W.ki_setAt ho h0 (by omega) (by rw [TM,← hl]; exact h4) (by rw [hk]; exact⟨_,I',q⟩)
 ·have hk:(k+(its.toArray.size:Int)).toNat=j:=by
   rw [seqIndex_neg (by omega) h3] at h1
   rw [TM,← hl]
   exact TW h1
  exact PySem.W.ki_setBack ho (by omega) (by rw [TM,← hl]; exact h3) (by omega) (by rw [hk]; exact⟨_,I',q⟩)
theorem KR(lo hi:Option Int)(n:Nat):(sliceBounds lo hi none n).1=((HT.sIx n 0 lo:Nat):Int)/\(sliceBounds lo hi none n).2.1=((HT.sIx n n hi:Nat):Int)/\(sliceBounds lo hi none n).2.2=1:=by
 refine⟨?_,?_,rfl⟩
 ·cases lo with
  | none=>simp [sliceBounds,HT.sIx]
  | some i =>
   simp only [sliceBounds,HT.sIx,Option.getD_none,show (1:Int) > 0 by decide,if_true]
   by_cases h:i<0
   ·simp only [h,if_true] <;> omega
   ·simp only [h,if_false] <;> omega
 ·cases hi with
  | none=>simp [sliceBounds,HT.sIx]
  | some i =>
   simp only [sliceBounds,HT.sIx,Option.getD_none,show (1:Int) > 0 by decide,if_true]
   by_cases h:i<0
   ·simp only [h,if_true] <;> omega
   ·simp only [h,if_false] <;> omega
theorem JK(its:List Value)(lo hi:Option Int):slicePick its.toArray lo hi none=((its.drop (HT.sIx its.length 0 lo)).take (HT.sIx its.length its.length hi - HT.sIx its.length 0 lo)).toArray:=by
 obtain⟨h1,h2,h3⟩:=KR lo hi its.toArray.size
 unfold slicePick
 rw [h1,h2,h3]
 simp only [sliceRange_one,pick_run,TM] <;> rfl
noncomputable def Vp(K:Frag):V->Option Int->Option Int->Hp->VK->Prop:=λx lo hi H Q=>∃a xs,x=.ref a/\SqL K H a xs/\∀p,H p=none->Q (.ref p) (BB H p (.lst (JZ xs lo hi)))
theorem sl_list:SlR X (Vp X.K):=by
 intro pins s σ H x v vl vu lo hi sl Q I rx hs pl pu h
 obtain⟨a,xs,rfl,hx,q⟩:=h
 cases rx
 obtain⟨its,r,ht,hz⟩:=I.list hx
 have hlen:=r.length
 refine⟨"list",_,slot_list_getitem.lookup,ht.isList.typeIs,?_⟩
 refine wpAny_getItem_list_slice ht.isList hs pl pu .none (by simp) ?_ (by rw [TM] <;> omega)
 rw [JK,← hlen]
 refine⟨.ref s.heap.objs.size,_,I.laid (t':=s.toks) (o:=.lst (JZ xs lo hi)) (λb ob q=>Ev _ q) (No _) ?_,rfl,q _ (I.hok.fresh (No _))⟩
 exact⟨YH (G5 xs lo hi) hz,_,0,(r.drop (HT.sIx xs.length 0 lo)).take (HT.sIx xs.length xs.length hi - HT.sIx xs.length 0 lo),UF _ rfl⟩
noncomputable def Tp:V->Bool
 | .non=>true
 | .bl _=>true
 | .int _=>true
 | .str _=>true
 | _=>false
noncomputable def WD:V->V->Bool
 | .non,.non=>true
 | .bl a,.bl b=>a==b
 | .bl a,.int b=>(if a then 1 else 0)==b
 | .int a,.bl b=>a==(if b then 1 else 0)
 | .int a,.int b=>a==b
 | .str a,.str b=>a==b
 | _,_=>false
theorem K6{A:Around}{s:Shared}{y x:V}{u v:Value}(ry:RelV y u)(rx:RelV x v)(fy:Tp y=true)(fx:Tp x=true):SeqAt.EqAt A s u v (WD y x):=by
 cases y with
 | non =>
  cases ry
  cases x with
  | non=>cases rx; exact SeqAt.EqAt.same _
  | bl b=>cases rx; exact SeqAt.EqAt.none_bool b
  | int b=>obtain⟨t,rfl⟩:=rx; exact SeqAt.EqAt.none_int b t
  | str b=>obtain⟨t,rfl⟩:=rx; exact SeqAt.EqAt.none_str b t
  | _=>exact absurd (show false=true from fx) Uf
 | bl a =>
  cases ry
  cases x with
  | non=>cases rx; exact SeqAt.EqAt.bool_none a
  | bl b=>cases rx; exact SeqAt.EqAt.bool_bool a b
  | int b=>obtain⟨t,rfl⟩:=rx; exact SeqAt.EqAt.bool_int a b t
  | str b=>obtain⟨t,rfl⟩:=rx; exact SeqAt.EqAt.bool_str a b t
  | _=>exact absurd (show false=true from fx) Uf
 | int a =>
  obtain⟨t',rfl⟩:=ry
  cases x with
  | non=>cases rx; exact SeqAt.EqAt.int_none a t'
  | bl b=>cases rx; exact SeqAt.EqAt.int_bool a t' b
  | int b=>obtain⟨t,rfl⟩:=rx; exact SeqAt.EqAt.int_int a t' b t
  | str b=>obtain⟨t,rfl⟩:=rx; exact cO a t' b t
  | _=>exact absurd (show false=true from fx) Uf
 | str a =>
  obtain⟨t',rfl⟩:=ry
  cases x with
  | non=>cases rx; exact SeqAt.EqAt.str_none a t'
  | bl b=>cases rx; exact SeqAt.EqAt.str_bool a t' b
  | int b=>obtain⟨t,rfl⟩:=rx; exact cP a t' b t
  | str b=>obtain⟨t,rfl⟩:=rx; exact SeqAt.EqAt.str_str a t' b t
  | _=>exact absurd (show false=true from fx) Uf
 | _=>exact absurd (show false=true from fy) Uf
theorem D0:CC X (.type "list") (λxs H Q=>∃p ys,xs=[.ref p]/\(SqL X.K H p ys\/SqT X.K H p ys)/\∀l,H l=none->Q (.ref l) (BB H l (.lst ys))):=by
 intro pins s σ H xs us Q I r h
 obtain⟨p,ys,rfl,hq,q⟩:=h
 obtain⟨u,rfl,rx⟩:=vals1 r
 cases rx
 have fin:∀(its:List Value),Vals ys its->ys.length<=sizeLine->∀(h':Heap) (c':Nat),(∀b o',s.heap.get? b=some o'->h'.get? b=some o') ->
   h'.get? s.heap.objs.size=some { cls:=.type "list",dict:=none,data:=.seq its.toArray c',slots:=#[] }->EP X pins σ Q (.ref s.heap.objs.size) { s with heap:=h' }:=λits r' hz h' c' kp e =>
  ⟨.ref s.heap.objs.size,_,I.laid (t':=s.toks) kp (No _) (show ObjOk X.prog X.w _ h' _ (.lst ys) from⟨hz,its,c',r',e⟩),rfl,q _ (I.hok.fresh (No _))⟩
 rcases hq with hq | hq
 ·obtain⟨its,r',pl,hz⟩:=I.list hq
  have hlen:=r'.length
  obtain⟨o,ho,hc,n,hd⟩:=pl.isList
  exact call_list_seq p (.inl rfl) ho hc hd (λh' c' kp e=>fin its r' hz h' c' kp e) (by simp only [TM] <;> omega)
 ·obtain⟨its,r',pl,hz⟩:=I.tuple hq
  have hlen:=r'.length
  obtain⟨o,ho,hc,n,hd⟩:=pl
  exact call_list_seq p (.inr rfl) ho hc hd (λh' c' kp e=>fin its r' hz h' c' kp e) (by simp only [TM] <;> omega)
theorem B2:CC X (.type "tuple") (λxs H Q=>∃p ys,xs=[.ref p]/\((SqL X.K H p ys/\∀l,H l=none->Q (.ref l) (BB H l (.tup ys)))\/(SqT X.K H p ys/\Q (.ref p) H))):=by
 intro pins s σ H xs us Q I r h
 obtain⟨p,ys,rfl,h⟩:=h
 obtain⟨u,rfl,rx⟩:=vals1 r
 cases rx
 rcases h with ⟨hq,q⟩ | ⟨hq,q⟩
 ·obtain⟨its,r',pl,hz⟩:=I.list hq
  have hlen:=r'.length
  refine call_tuple_list pl.isList (λh' kp=>?_) (by simp only [TM] <;> omega)
  have I1:Inv X pins σ H { s with heap:=h' }:=I.kept (t':=s.toks) kp
  have I2:Inv X pins σ (BB H h'.objs.size (.tup ys)) { s with heap:=h'.push { cls:=.type "tuple",data:=.seq its.toArray } } :=
   I1.laid (t':=s.toks) (λb o e=>Ev _ e) (No _) (show ObjOk X.prog X.w _ _ _ (.tup ys) from⟨hz,its,r',IsTupN.new _ _⟩)
  exact⟨.ref h'.objs.size,_,I2,rfl,q _ (I1.hok.fresh (No _))⟩
 ·obtain⟨its,r',pl,hz⟩:=I.tuple hq
  exact call_tuple_same pl ⟨.ref p,H,I,rfl,q⟩
noncomputable def Wq(K:Frag)(T:String)(x:V)(H:Hp):Prop:=match x with
 | .str _=>T = "str"
 | .int _=>T = "int"
 | .ref p=>(T = "list"/\∃xs,SqL K H p xs)\/(T = "tuple"/\∃o,K.lookup p=some o/\o.cls=.type "tuple"/\o.dict=none) \/
   (T = "dict"/\((∃kvs,H p=some (.dK kvs))\/∃kvs,H p=some (.dT kvs)))\/(T = "set"/\∃S n,H p=some (.set S n))
 | _=>False
theorem T_{pins:List (Addr×Obj)}{σ:St}{H:Hp}{s:Shared}{T:String}{x:V}{v:Value}(I:Inv X pins σ H s)(r:RelV x v)(ty:Wq X.K T x H) :
  s.TypeIs v T/\∀a,v=.ref a->∃ob,s.heap.get? a=some ob/\ob.dict=none:=by
 cases x with
 | str z =>
  obtain⟨t,rfl⟩:=r
  cases (show T = "str" from ty)
  exact⟨typeIs_str s z t,λ_ e=>nomatch e⟩
 | int i =>
  obtain⟨t,rfl⟩:=r
  cases (show T = "int" from ty)
  exact⟨typeIs_int s i t,λ_ e=>nomatch e⟩
 | ref p =>
  cases r
  rcases ty with ⟨rfl,xs,hq⟩ | ⟨rfl,o,hk,hc,hd⟩ | ⟨rfl,hk⟩ | ⟨rfl,S,n,hk⟩
  ·obtain⟨its,_,pl,_⟩:=I.list hq
   refine⟨pl.isList.typeIs,λa e=>?_⟩
   cases e
   obtain⟨o,n,e,c,hd,_⟩:=pl
   exact⟨o,e,hd⟩
  ·refine⟨⟨o,I.kIn p o hk,hc⟩,λa e=>?_⟩
   cases e
   exact⟨o,I.kIn _ o hk,hd⟩
  ·have z:∃o,s.heap.get? p=some o/\o.ExactDict:=by
    rcases hk with ⟨kvs,hk⟩ | ⟨kvs,hk⟩
    ·obtain⟨_,_,_,_,o,_,_,e,ex,_⟩:=I.hok p _ hk
     exact⟨o,e,ex⟩
    ·obtain⟨_,_,_,_,o,_,_,e,ex,_⟩:=I.hok p _ hk
     exact⟨o,e,ex⟩
   obtain⟨o,e,ex⟩:=z
   refine⟨⟨o,e,ex.1⟩,λa e2=>?_⟩
   cases e2
   exact⟨o,e,ex.2.1⟩
  ·obtain⟨o,_,_,_,e,ex,_⟩:=I.hok p _ hk
   refine⟨⟨o,e,ex.1⟩,λa e2=>?_⟩
   cases e2
   exact⟨o,e,ex.2.1⟩
 | _=>exact ZZ ty
noncomputable def Xn(K:Frag)(T:String)(r:V->List V->Hp->VK->Prop)(to:TE)(t:TA):TE:=λσ H Q=>to σ H λx H1=>Wq K T x H1/\t σ H1 λxs H2=>r x xs H2 Q
variable {o e:Expr}{es:List Expr}{to:TE}{t:TA}{name:Str}{apos cpos:Pos}{T id:String}{r:V->List V->Hp->VK->Prop}
theorem V1(pa:PlainAttrs T)(slot:Slot T name id)(hty:typeOf (.builtin id)=pure (.type "method_descriptor"))(hm:Wl X id r)(ho:PE X o to)(ha:PA X (e::es) t)
  (hbase:autoParam (attributeBase o name X.env (eval o X.env)=eval o X.env) zau3._auto_1)
  (hfew:autoParam (((backTo cpos (starEach (e::es) X.env)).all (λx=>!x.1)&&(backToKw cpos (keywordEach [] X.env)).all (λx=>x.1.isSome)
   && decide ((e::es).length+([]:List Keyword).length+(if ([]:List Keyword).isEmpty then 0 else 1)<30))=true) zau3._auto_1)
  (hline:autoParam ((apos.endLine==cpos.line)=true) zau3._auto_1) (hs:autoParam (starEach (e::es) X.env=(false,eval e X.env)::starEach es X.env) zau3._auto_1) (hplain:autoParam ((backTo cpos (starEach es X.env)).any (·.1)=false) zau3._auto_1) :
  PE X (.Call (.Attribute o name apos) (e::es) [] cpos) (Xn X.K T r to t):=by
 intro pins s σ H Q I h
 refine wpAny_Call_method_late hbase hfew hline rfl (BX (ho pins s σ H _ I h) λv s1 ⟨x,H1,I1,r1,ty,q1⟩=>?_)
 obtain⟨h1,h2⟩:=T_ I1 r1 ty
 refine⟨T,id,pa,slot,hty,h1,h2,?_⟩
 have hA:=ha cpos pins s1 σ H1 _ I1 q1
 rw [hs] at hA ⊢
 refine bz (by show (false||(backTo cpos (starEach es X.env)).any (·.1))=false; rw [hplain] <;> rfl) (cI ?_)
 exact BX hA λus s2 ⟨vs,H2,I2,r2,q2⟩=>hm pins s2 σ H2 x vs v us Q I2 r1 r2 q2
end
noncomputable def Xf(X:Cx)(id:String)(r:V->List V->Hp->VK->Prop):Prop :=
 ∀(pins:List (Addr×Obj)) (s:Shared) (σ:St) (H:Hp) (x:V) (xs:List V) (v:Value) (us:List Value) (Q:VK),Inv X pins σ H s->RelV x v->Vals xs us->r x xs H Q ->
  wpAny (model X.prog X.w) X.A (call (.builtin id) (v::us)) (EP X pins σ Q) X.xe s
theorem Vals.one:∀{x:V} {us:List Value},Vals [x] us->∃u,us=[u]/\RelV x u
 | _,_,.cons r .nil=>⟨_,rfl,r⟩
theorem Vals.rep{xs:List V}{us:List Value}(h:Vals xs us):∀k:Nat,Vals (Re k xs).flatten (Re k us).flatten
 | 0=>.nil
 | k+1=>by
  rw [Zi,Zi,aH,aH]
  exact Vals.append h (Vals.rep h k)
theorem foldl_rep(its:List Value):∀(k:Nat) (acc:List Value),
  List.foldl (λx1 x2=>x1++x2) acc.toArray (Re k its.toArray)=(acc++(Re k its).flatten).toArray
 | 0,acc=>by simp
 | k+1,acc=>by
  have e:acc.toArray++its.toArray=(acc++its).toArray:=by simp
  have e2:(acc++its)++(Re k its).flatten=acc++(Re (k+1) its).flatten:=by
   rw [Zi,aH,Ym]
  rw [← e2,← foldl_rep its k (acc++its),← e,Zi,bj]
section
variable {X:Cx}{pins:List (Addr×Obj)}{σ:St}{H:Hp}{s:Shared}{l b:Addr}{xs ys zs:List V}
theorem Inv.lset{its its':List Value}{n:Nat}{f:Array Value->Array Value}{t':Nat}(I:Inv X pins σ H s)(hH:H l=some (.lst xs))
  (e:s.heap.get? l=some { cls:=.type "list",data:=.seq its.toArray n }) (hf:f its.toArray=its'.toArray) (hv:Vals ys its') (hz:ys.length<=sizeLine) :
  Inv X pins σ (BB H l (.lst ys)) { s with heap:=s.heap.update l (Y7 f),toks:=t' }:=by
 have q:=PySem.IsL.update e f
 rw [hf] at q
 refine I.write (x:=l) (e:=l) (by rw [hH]; exact trivial) (.inl rfl) (λb' u hb hu=>(ZN s.heap (Y7 f) (Yq hb)).trans hu) ⟨_,q⟩ ?_
 exact⟨hz,its',_,hv,q⟩
theorem Inv.lnew{its:List Value}{t':Nat}(I:Inv X pins σ H s)(hv:Vals ys its)(hz:ys.length<=sizeLine) :
  Inv X pins σ (BB H s.heap.objs.size (.lst ys)) { s with heap:=s.heap.push { cls:=.type "list",data:=.seq its.toArray },toks:=t' } :=
 I.laid (λ_ _ q=>Ev _ q) (No _) ⟨hz,its,0,hv,UF _ rfl⟩
theorem Inv.fresh(I:Inv X pins σ H s):H s.heap.objs.size=none:=I.hok.fresh (No _)
theorem Inv.lstM(I:Inv X pins σ H s)(hH:H l=some (.lst xs)):xs.length<=sizeLine/\∃(its:List Value) (n:Nat),Vals xs its/\xs.length=its.length/\s.heap.get? l=some { cls:=.type "list",data:=.seq its.toArray n }:=by
 obtain⟨z,its,n,r,e⟩:=I.hok l _ hH
 exact⟨z,its,n,r,r.length,e⟩
theorem Lz{n:Nat}(h:n<=sizeLine):Ze n=false:=by
 unfold Ze
 exact decide_eq_false (by omega)
end
section
variable {X:Cx}
noncomputable def SE:V->List V->Hp->VK->Prop:=λx vs H Q=>∃l xs y,x=.ref l/\vs=[y]/\H l=some (.lst xs)/\xs.length<sizeLine/\Q .non (BB H l (.lst (xs++[y])))
theorem O7:Xf X "list.append" SE:=by
 intro pins s σ H x vs v us Q I rx rv h
 obtain⟨l,xs,y,rfl,rfl,hH,hz,q⟩:=h
 cases rx
 obtain⟨u,rfl,ru⟩:=rv.one
 obtain⟨z,its,n,r,hl,e⟩:=I.lstM hH
 refine bS F.slot_list_append ⟨_,e,rfl⟩ F.entry_list_append (F.args_list_append_2 _ _) (PySem.list_append l its.toArray n u (by rw [TM]; omega)) ⟨e,?_⟩
 refine⟨.non,_,I.lset (its':=its++[u]) hH e (by simp) (r.append (.cons ru .nil)) ?_,rfl,q⟩
 rw [Rs,X9]
 omega
noncomputable def Ni:V->List V->Hp->VK->Prop:=λx vs H Q=>∃l b xs zs,x=.ref l/\vs=[.ref b]/\H l=some (.lst xs)/\H b=some (.lst zs)/\xs.length+zs.length<=sizeLine/\Q .non (BB H l (.lst (xs++zs)))
theorem O6:Xf X "list.extend" Ni:=by
 intro pins s σ H x vs v us Q I rx rv h
 obtain⟨l,b,xs,zs,rfl,rfl,hH,hB,hz,q⟩:=h
 cases rx
 obtain⟨u,rfl,ru⟩:=rv.one
 cases ru
 obtain⟨z,its,n,r,hl,e⟩:=I.lstM hH
 obtain⟨z2,its2,n2,r2,hl2,e2⟩:=I.lstM hB
 have hsz:its.toArray.size+its2.toArray.size<=sizeLine:=by rw [TM,TM]; omega
 have hlong:¬(!its.toArray.isEmpty&&Ze (its.toArray.size+its2.toArray.size))=true:=by
  rw [Lz hsz,Bool.and_false]
  exact Uf
 refine bS F.slot_list_extend ⟨_,e,rfl⟩ F.entry_list_extend (F.args_list_extend_2 _ _)
  (AutoSeq1.list_extend_list_list_0 l its.toArray n b its2.toArray n2 hlong (by rw [TM]; omega) (by omega)) ⟨e,e2,?_⟩
 refine⟨.non,_,I.lset (its':=its++its2) hH e (by simp) (r.append r2) ?_,rfl,q⟩
 rw [Rs]
 omega
noncomputable def Wy:R2:=λx y H Q=>∃l k xs,x=.ref l/\y=.int k/\H l=some (.lst xs)/\-(2 ^ 63)<=k/\k<2 ^ 63/\xs.length*k.toNat<=sizeLine /\
 ∀p,H p=none->Q (.ref p) (BB H p (.lst (Re k.toNat xs).flatten))
theorem len_rep{α:Type}(xs:List α)(k:Nat):(Re k xs).flatten.length=k*xs.length:=by
 induction k with
 | zero=>simp
 | succ k ih=>rw [Zi,aH,Rs,ih,Nat.succ_mul,Nat.add_comm]
theorem UV:OpR X (binaryOp .Mult) Wy:=by
 intro pins s σ H x y v u Q I rx ry h
 obtain⟨l,k,xs,rfl,rfl,hH,h1,h2,hz,q⟩:=h
 cases rx
 obtain⟨t,rfl⟩:=ry
 obtain⟨z,its,n,r,hl,e⟩:=I.lstM hH
 have hlen:its.toArray.size*k.toNat<=sizeLine:=by rw [TM,← hl]; exact hz
 have hcap:¬its.toArray.size*k.toNat > (2 ^ 63 - 1) / 8:=by
  have:(sizeLine:Nat)<=(2 ^ 63 - 1) / 8:=by decide
  omega
 have hfit:¬(!Builtin.List.listFitsIndex k)=true:=by
  rw [fitsIndex_both h1 h2]
  exact Uf
 have hlong:¬Ze (its.toArray.size*k.toNat)=true:=by
  rw [Lz hlen]
  exact Uf
 have hnew:List.foldl (λx1 x2=>x1++x2) #[] (Re (if its.toArray.isEmpty=true then 0 else k.toNat) its.toArray)=(Re k.toNat its).flatten.toArray:=by
  have f0:∀m:Nat,List.foldl (λx1 x2=>x1++x2) #[] (Re m its.toArray)=(Re m its).flatten.toArray:=λm=>by
   have:=foldl_rep its m []
   rw [YQ] at this
   exact this
  rw [f0]
  cases its with
  | nil=>simp
  | cons a r'=>rw [if_neg (by simp)]
 refine wpAny_binaryOp_repeat_ref (T := "list") (U := "int") (by decide) ⟨_,e,rfl⟩ (λs'=>typeIs_int s' k t) noFill_list_mul F.fills_int_mul F.slot_int_rmul repeat_list F.slot_int_index.lookup
  (bS F.slot_int_rmul (typeIs_int s k t) F.entry_int_rmul (F.args_int_rmul_2 _ _) (int___rmul___int_list k t l its.toArray n)
   ⟨e,rfl,⟨_,e,rfl⟩,bS F.slot_list_mul ⟨_,e,rfl⟩ F.entry_list_mul (F.args_list_mul_2 _ _) (AutoListH.list___mul___list_int_3 l its.toArray n k t hfit hcap hlong) ⟨e,?_⟩⟩)
 rw [hnew]
 exact⟨.ref _,_,I.lnew (t':=s.toks) (r.rep k.toNat) (by rw [len_rep,Nat.mul_comm]; exact hz),rfl,q _ I.fresh⟩
end
section
variable {prog:Program}{w:World}{A:Around}{E:Value->Shared->Prop}{s:Shared}
end
section
variable {X:Cx}
end
end L2
namespace Att
open PySem PySem.W PySem.Calls PyProof.Rows
theorem HK{P:Params}{h:Heap}:∀(ns:List Int) (vs:List Value),WellAll P h vs (ns.map WData.int)->IntsAre vs ns:=by
 intro ns
 induction ns with
 | nil =>
  intro vs w
  rw [Zv] at w
  cases w
  exact .nil
 | cons n ns ih =>
  intro vs w
  rw [X6] at w
  cases w with
  | cons a b =>
   cases a
   exact .cons _ _ (ih _ b)
theorem Oi{l:OpenLaw}{n:Nat}(hn:l.most=some n){P:Params}{h:Heap}{args:List WData}{vals:List Value}
  (hpre:l.row.toRowW.claim.pre args=true) (hwl:WellAll P h vals args) :
  ∃a vs ns,vals=[YO a]/\args=[WData.list (ns.map WData.int)]/\h.get? a=some { cls:=.type "list",data:=.seq vs.toArray }/\IntsAre vs ns/\ns.length<=n:=by
 have hsh:WShape.hasAll [] args [.list .int]=true:=(pre_splitW hpre).1
 have hc:l.pre.holds [] { args:=args }=true:=(pre_splitW hpre).2
 obtain⟨d,r,rfl,h1,h2⟩:=hasAllW_cons hsh
 obtain rfl:=hasAllW_nil h2
 obtain⟨xs,rfl,h3⟩:=hasW_list h1
 obtain⟨ns,rfl⟩:=items_int h3
 have hlen:ns.length<=n:=by
  unfold OpenLaw.pre at hc
  have h4:(WTm.not (.lt (.lit (.int (n:Int))) (.len (.arg 0)))).holds [] { args:=[.list (ns.map .int)] }=true:=by
   have h4:=(holds_andW hc).1
   rw [hn] at h4
   exact h4
  have h5:=condW_of h4 (w_not (w_lt w_lit (w_len_list (w_arg rfl))))
  rw [Db] at h5
  refine Nat.le_of_not_lt λq=>?_
  have q':(n:Int)<((ns.length:Nat):Int):=by omega
  first
   | (rw [decide_eq_true q'] at h5; exact absurd h5 (by decide))
   | (simp at h5; omega)
 cases hwl with
 | cons w1 w2 =>
  cases w2
  cases w1 with
  | list ho hall=>exact⟨_,_,ns,rfl,rfl,ho,HK ns _ hall,hlen⟩
theorem Oy(l:OpenLaw)(args:List WData):l.row.toRowW.claim.post args (.bool true) args=true :=
 postW_of (r:=l.row.toRowW) (X:=(true==true))
  (show WShape.has [] (.bool true) .bool=true by first | rfl | decide | simp [WShape.has,WShape.arms,WShape.armsAll])
  (show (WTm.eq .res (.lit (.bool true))).value [] { args:=args,res:=some (.bool true),after:=args }=some (.bool (true==true)) from w_eq_bool (w_res rfl) w_lit) rfl
theorem attach_call{l:OpenLaw}{n:Nat}{q:Program}{loose:List Str}{XP:(Str->Option Value)->Heap->Prop}{YP:World->Heap->Prop}{d:DefRec}
  (hn:l.most=some n) (hdf:d.params.defaults=[])
  (call:∀(w:World) (s₀ s₁:Shared) (mg mb:Str->Option Value) (fa:Addr) (o:Obj) (pm cd doc:Value) (a:Addr) (vs:List Value) (ns:List Int),
   Ground q loose [] XP w s₀ mg mb s₁.heap->YP w s₁.heap ->
   s₁.heap.get? fa=some o->o.data=.func (docDef d.name d.params d.body d.scope pm cd doc)->s₁.heap.CodeRec cd d.name->mg d.name=some (.ref fa) ->
   s₁.heap.get? a=some { cls:=.type "list",data:=.seq vs.toArray }->IntsAre vs ns->ns.length<=n->s₁.gens=#[] ->
   codeAny (model l.prog w) callerA (.call (.ref fa) ⟨[.ref a],[]⟩) (λr s'=>r=.ok (.ret (.bool true))/\OldK s₁.heap s'.heap/\s'.os=s₁.os/\AllBare s'.gens) s₁) :
  WalkO q loose XP YP l.row.toRowW d [] (λf vs=>PySem.call f vs):=by
 intro w s₀ s₁ mg mb G Y fa o pm cd doc dV kV ho hd hcd hD hmg hg args vals as hpre hlay hrd hwl hlo
 obtain rfl:dV=.none:=Dflts.none hD hdf
 obtain rfl:kV=.none:=Dflts.noKw hD
 obtain⟨a,vs,ns,rfl,rfl,hobj,hints,hlen⟩:=Oi hn hpre hwl
 refine enter_call (codeAny_mono (call w s₀ s₁ mg mb fa o pm cd doc a vs ns G Y ho (fd_plain hd) hcd hmg hobj hints hlen hg) λr s' hq=>?_)
 obtain⟨rfl,h2,h3,h4⟩:=hq
 exact⟨.inl ⟨.bool true,.bool true,[],rfl,λ_=>rfl,.bool true,Oy l _,λ_=>⟨Zu,λ_ hm=>(nomatch hm)⟩⟩,h2,h3,h4⟩
section
variable {prog:Program}{w:World}{A:Around}{E:Value->Shared->Prop}{s:Shared}{K:Frag}
end
end Att
namespace L2
open PySem PySem.Spec PyProof.Rows
theorem Jf:∀{vs:List Value} {ns:List Int},IntsAre vs ns->Vals (ns.map V.int) vs
 | _,_,.nil=>.nil
 | _,_,.cons n t h=>.cons ⟨t,rfl⟩ (Jf h)
noncomputable def VI(H:Hp):Prop:=∀b,H b=none\/∃o xs,H b=some (.frz o (.lst xs))
theorem Qk{P:Program}{w:World}{K:Frag}{mg mb:Str->Option Value}{CX:Rn}{k:Nat}{fa a:Addr}{fd:FuncData}{x:Str}{sp:Sp}{s₁:Shared}{vs:List Value}{ns:List Int}
  (KX:K.In s₁.heap) (hns:s₁.heap.Ns mainGlobals mg) (hb:s₁.heap.Ns builtinsNs mb) (hbb:∀x:Str,x ≠ "__name__"->mb x=bootBuiltins x) (hlim:s₁.heap.NoLimit) (hg:s₁.gens=#[])
  (ha:s₁.heap.get? a=some { cls:=.type "list",data:=.seq vs.toArray }) (hi:IntsAre vs ns) (hl:ns.length<=sizeLine) (hr:Room k callerA)
  (F:∀base:Heap,K.In base->base.Ns mainGlobals mg->BA P w K mg base CX k fa fd [x] sp) (hbind:∀(s:Shared) (u:Value),BindsTo s fd ⟨[u],[]⟩ [(x,u)])
  (hsp:∀H:Hp,VI H->SqL K H a (ns.map V.int)->sp [.ref a] H (λv _=>v=.bl true) λ_ _ _=>False)
  (hCX:∀H e s',CX [] H s₁ (λ_ _ _=>False) e s'->False) :
  codeAny (model P w) callerA (.call (.ref fa) ⟨[.ref a],[]⟩) (λr s'=>r=.ok (.ret (.bool true))/\OldK s₁.heap s'.heap/\s'.os=s₁.os/\AllBare s'.gens) s₁:=by
 have rv:=Jf hi
 have lenV:=hi.length
 have core:∀H:Hp,VI H->SqL K H a (ns.map V.int)->HOk P w H s₁.heap->(∀b,H b≠none->b=a)->(H a≠none->K.lookup a=none) ->
   codeAny (model P w) callerA (.call (.ref fa) ⟨[.ref a],[]⟩) (λr s'=>r=.ok (.ret (.bool true))/\OldK s₁.heap s'.heap/\s'.os=s₁.os/\AllBare s'.gens) s₁:=by
  intro H hO hS hok hA hK
  have base_of:∀{b:Addr} {o:Obj},s₁.heap.get? b=some o->H b=none->(K2 s₁.heap H).get? b=some o:=λe n=>Qv e n
  have noA:∀{b:Addr} {o:Obj} {es:Array DictEntry} {ep:Nat},s₁.heap.get? b=some o->o.data=.dict es ep->H b=none:=λ{b o es ep} e d=>by
   cases q:H b with
   | none=>rfl
   | some u =>
    have e':b=a:=hA b (by rw [q]; simp)
    subst e'
    rw [ha] at e; cases e
    have d':Data.seq vs.toArray _=Data.dict es ep:=d
    cases d'
  have nsK:∀{b:Addr} {m:Str->Option Value},s₁.heap.Ns b m->(K2 s₁.heap H).Ns b m:=λ{b m} ⟨o,es,ep,e,d,r⟩=>⟨o,es,ep,base_of e (noA e d),d,r⟩
  have hKb:K.In (K2 s₁.heap H):=λb o e=>base_of (KX b o e) (by
   cases q:H b with
   | none=>rfl
   | some u =>
    have e':b=a:=hA b (by rw [q]; simp)
    subst e'
    rw [hK (by rw [q]; simp)] at e; cases e)
  have hM:Mod K mg (K2 s₁.heap H):=⟨hKb,nsK hns,⟨mb,nsK hb,hbb⟩,let ⟨mc,h1,h2⟩:=hlim; ⟨mc,nsK h1,h2⟩⟩
  have e0:TN P w K mg (K2 s₁.heap H) callerA [] s₁ H:=⟨rfl,hM,λb o e=>Sa e,bX (PQ _ _),trivial,λb hb=>absurd (show b∈([]:List Addr) from hb) (by simp),hok,.of_eq hg⟩
  refine codeAny_mono ((F _ hKb (nsK hns)).run callerA [] s₁ H ⟨[.ref a],[]⟩ [.ref a] [.ref a] _ _ hr e0 (hbind s₁ (.ref a)) (.cons rfl .nil) (hsp H hO hS)) λr s' h=>?_
  cases r with
  | error e=>exact(hCX H e s' h).elim
  | ok fl =>
   cases fl with
   | next=>exact ZZ h
   | brk=>exact ZZ h
   | cont=>exact ZZ h
   | ret u =>
    obtain⟨v,H',os,bare,un,hok',r',q⟩:=h
    have q':v=.bl true:=q
    subst q'
    obtain rfl:u=ZY true:=r'
    refine⟨rfl,OldK.of_keep λb o e=>?_,os,bare⟩
    cases q:H b with
    | none=>exact un.keep b o e q (by intro z; exact absurd (show b∈([]:List Addr) from z) (by simp)) (by simp)
    | some u =>
     rcases hO b with z | ⟨ob,xs,z⟩
     ·rw [q] at z; cases z
     ·have z2:=un.frzs b ob _ z
      obtain⟨e1,_⟩:=hok b _ z
      obtain⟨e2,_⟩:=hok' b _ z2
      rw [e] at e1; cases e1
      exact e2
 cases hk:K.lookup a with
 | some o =>
  have e:=KX a o hk
  rw [ha] at e
  cases e
  refine core (λ_=>none) (λ_=>.inl rfl) (.inr ⟨_,vs.toArray,_,hk,rfl,rfl,rfl,by rw [TM,lenV]; exact hl,by simpa using rv⟩) (λb u z=>by have z':(none:Option HO)=some u:=z; cases z') (λb z=>absurd rfl z) λz=>absurd rfl z
 | none =>
  refine core (λb=>if b=a then some (.frz { cls:=.type "list",data:=.seq vs.toArray } (.lst (ns.map V.int))) else none) (λb=>?_) (.inl (.inr ⟨{ cls:=.type "list",data:=.seq vs.toArray },if_pos rfl⟩)) (λb u z=>?_) (λb z=>?_) λ_=>hk
  ·by_cases hb:b=a
   ·exact .inr ⟨_,_,if_pos hb⟩
   ·exact .inl (if_neg hb)
  ·by_cases hb:b=a
   ·have z':=(if_pos hb).symm.trans z
    cases z'
    subst hb
    exact⟨ha,by rw [Db]; exact hl,vs,_,rv,ha⟩
   ·have z':=(if_neg hb).symm.trans z
    cases z'
  ·by_cases hb:b=a
   ·exact hb
   ·exact absurd (if_neg hb) z
theorem NY{l:PySem.W.OpenLaw}{n k:Nat}{q:Program}{loose:List Str}{XP:(Str->Option Value)->Heap->Prop}{YP:World->Heap->Prop}{d:DefRec}{K:Params->Frag}{CX:World->Rn}{sp:World->Sp}{x:Str}
  (hn:l.most=some n) (hn2:n<=sizeLine) (hdf:d.params.defaults=[]) (hr:Room k callerA)
  (hY:∀(w:World) (h:Heap),YP w h->(K w.params).In h)
  (F:∀(w:World) (mg:Str->Option Value) (fa:Addr) (h:Heap),(K w.params).In h->h.Ns mainGlobals mg->mg d.name=some (.ref fa) ->
   ∃fd:FuncData,(∀(s:Shared) (u:Value),BindsTo s fd ⟨[u],[]⟩ [(x,u)]) /\
    ∀base:Heap,(K w.params).In base->base.Ns mainGlobals mg->BA l.prog w (K w.params) mg base (CX w) k fa fd [x] (sp w))
  (hsp:∀(w:World) (H:Hp) (a:Addr) (ns:List Int),ns.length<=n->VI H->SqL (K w.params) H a (ns.map V.int)->sp w [.ref a] H (λv _=>v=.bl true) λ_ _ _=>False)
  (hCX:∀(w:World) (H:Hp) (s:Shared) (e:Value) (s':Shared),CX w [] H s (λ_ _ _=>False) e s'->False) :
  PySem.W.WalkO q loose XP YP l.row.toRowW d [] (λf vs=>PySem.call f vs):=by
 refine Att.attach_call hn hdf λw s₀ s₁ mg mb fa o pm cd doc a vs ns G Y ho hd hcd hmg hobj hints hlen hg=>?_
 have KX:=hY w _ Y
 obtain⟨fd,hb,hF⟩:=F w mg fa _ KX G.T.g hmg
 exact Qk KX G.T.g G.T.b G.T.builtins G.T.nolimit hg hobj hints (YH hlen hn2) hr hF hb (λH hO hS=>hsp w H a ns hlen hO hS) λH e s'=>hCX w H s₁ e s'
end L2
/- THE LAST THEOREM (shape; LID, My.* are yours):
   My.Adr: a structure of the addresses that your layer names (classes, functions); My.Txt K t: a structure (Prop) of the equations over K;
   My.txt_mk : {K} {implicit addresses ..} (e1 : nsIn K mainGlobals "law" = some (some (.ref f))) (e2 : K.lookup f = some ⟨oc, od, .func (fnOf "law" "law" params body scope dV kV doc pm an cdv ct), sl⟩) (e3 : codeIn K cdv "law" = true) .. : ∃ t, My.Txt K t
set_option maxRecDepth 100000 in
set_option maxHeartbeats 0 in
theorem PySem.Challenge.cw_LID_holds : PySem.Challenge.rw_LID.Holds := by
 w_on; o_law; k_head; (case hw=>w_witness2)
 k_fill
 refine L2.NY (l:=PySem.Challenge.rw_LID) (n:=63) (k:=40) (x := "script") (CX:=λw=>..) (sp:=λ_=>My.sp_law) rfl (by decide) rfl ⟨rfl,by decide,by decide⟩ (λw h Y=>PySem.W.kIn_of Y) ?F ?S ?C
 case F =>
  intro w mg fa h KX G hmg
  have T:∃t,My.Txt (L2.KOf KX) t:=by
   dsimp only [L2.KOf]                          -- K must stand as «<heap const> w.params» for k_is
   refine' My.txt_mk ?e1 ?e2 ?e3 ..
   (case e1=>PySem.W.k_is)                    -- in the order: a name -> its address -> its object -> its parts
   (case e2=>PySem.W.k_is)
   ..
  obtain⟨t,T⟩:=T
  have e0:=hmg.symm.trans (mg_of KX G T.law)
  cases e0                                       -- fa is the law's own address
  exact⟨_,λs u=>.of_eq rfl,λbase kb nb=>My.law_fn T kb nb⟩     -- if «.of_eq rfl» comes too early: refine' ⟨_,?b,λbase kb nb=>My.law_fn T kb nb⟩; exact λs u=>.of_eq rfl
 case S=>exact λw H a ns hl hO hS=>..
 case C=>exact ..
(the tactic k_is has no namespace: write k_is) -/
namespace L2
open PySem PySem.Spec PyProof.Rows
noncomputable def Cp(s:Stmt):Arguments:=match s with
 | .FunctionDef _ a _ _ _ _ _ _ _ _=>a
 | _=>{ posonlyargs:=[],args:=[],vararg:=none,kwonlyargs:=[],kw_defaults:=[],kwarg:=none,defaults:=[] }
noncomputable def Bt(s:Stmt):List Stmt:=match s with
 | .FunctionDef _ _ b _ _ _ _ _ _ _=>b
 | _=>[]
noncomputable def AS(s:Stmt):Scope:=match s with
 | .FunctionDef _ _ _ _ _ _ sc _ _ _=>sc
 | _=>{ kind:=.function,names:=[],isGenerator:=false,isCoroutine:=false }
noncomputable abbrev B8:Rn:=λ_ _ _ _ _ _=>False
noncomputable abbrev E0:XK:=λ_ _ _=>False
theorem Ny{X:Cx}:LN B8 X E0:=λ_ _ _ _ _ _ _ h=>h.elim
structure Fun (K:Frag) (x qual:Str) (st:Stmt) (f:Addr) (fd:FuncData):Prop where
 ex:∃(oc:Value) (od:Option Addr) (kV doc pm:Value) (an:Option Addr) (cdv ct:Value) (osl:Array (Option Value)),
  fd=fnOf x qual (Cp st) (Bt st) (AS st) .none kV doc pm an cdv ct/\K.lookup f=some ⟨oc,od,.func fd,osl⟩/\codeIn K cdv qual=true
 kp:keepIn K (.ref f)=true
section
variable {P:Program}{w:World}{K:Frag}{mg:Str->Option Value}{base:Heap}
theorem Fun.ok{x qual:Str}{st:Stmt}{f:Addr}{fd:FuncData}{N ps:List Str}{k:Nat}{sp:Sp}(F:Fun K x qual st f fd)(S:Ak N ps (AS st))(len:∀vs H Q E,sp vs H Q E->vs.length=ps.length)
  (hbody:∀(cdv:Value) (A:Around) (outer:List Env) (s:Shared) (H:Hp) (vs:List V) (Q:VK) (E:XK),Room k (A.deeper (envOfC qual (AS st) s.heap.objs.size f cdv))->sp vs H Q E ->
   ∃t,PSs (LC B8 P w K mg base N qual (AS st) f cdv A outer s H E).nox (Bt st) t/\t { nx:=λ_ H'=>Q .non H',rt:=Q } (start N vs) H):BA P w K mg base B8 (k+1) f fd ps sp:=by
 obtain⟨oc,od,kV,doc,pm,an,cdv,ct,osl,rfl,lk,hcd⟩:=F.ex
 refine V_ lk hcd S len λA outer s H vs Q E hr hsp=>?_
 obtain⟨t,h,q⟩:=hbody cdv A outer s H vs Q E hr hsp
 exact⟨t,h.nox,q⟩
theorem Fun.binds{x qual:Str}{st:Stmt}{f:Addr}{fd:FuncData}{ps:List Str}(F:Fun K x qual st f fd)
  (h:∀(kV doc pm:Value) (an:Option Addr) (cdv ct:Value) (us:List Value),us.length=ps.length->bindArgs (fnOf x qual (Cp st) (Bt st) (AS st) .none kV doc pm an cdv ct) ⟨us,[]⟩=pure (ps.zip us)):Binds K fd ps []:=by
 obtain⟨oc,od,kV,doc,pm,an,cdv,ct,osl,rfl,lk,hcd⟩:=F.ex
 exact .all (h kV doc pm an cdv ct)
theorem Qw{x qual:Str}{st:Stmt}{f:Addr}{oc:Value}{od an:Option Addr}{osl:Array (Option Value)}{kV doc pm cdv ct:Value}(l:K.lookup f=some ⟨oc,od,.func (fnOf x qual (Cp st) (Bt st) (AS st) .none kV doc pm an cdv ct),osl⟩)
  (c:codeIn K cdv qual=true) (k:keepIn K (.ref f)=true):Fun K x qual st f (fnOf x qual (Cp st) (Bt st) (AS st) .none kV doc pm an cdv ct):=⟨⟨oc,od,kV,doc,pm,an,cdv,ct,osl,rfl,l,c⟩,k⟩
end
theorem Jx{A:Around}{k:Nat}(hr:Room k A):A.units+1<cLine:=az (Nat.add_le_add_left (by decide:1<=64) _) hr.units
section
variable {X:Cx}
theorem pv(i:Nat){x:Str}{pos:Pos}(hN:autoParam (X.N[i]?=some x) zau3._auto_1)(hv:autoParam (VF X.env.scope x) zau4._auto_1)(hd:autoParam ((x==("__debug__" : Str))=false) zau1._auto_1)
  (hcd:autoParam ((x==("__classdict__" : Str))=false) zau1._auto_1):PE X (.Name x pos) (BG i):=IM hN hv hd hcd
end
theorem Be{A B:Prop}(h:B):if false=true then A else B:=by
 rw [if_neg Uf]
 exact h
theorem Dx{A B:Prop}(h:A):if true=true then A else B:=by
 rw [if_pos rfl]
 exact h
theorem EH{c A B:Prop}[Decidable c](h1:c->A)(h2:¬c->B):if c then A else B:=by
 by_cases h:c
 ·rw [if_pos h]
  exact h1 h
 ·rw [if_neg h]
  exact h2 h
section
variable {κ:Type}[DecidableEq κ]
noncomputable def Bu(kvs:List (κ×V))(k:κ):Option V:=(kvs.find? λkv=>decide (kv.1=k)).map (·.2)
noncomputable def putK(kvs:List (κ×V))(k:κ)(v:V):List (κ×V) :=
 if (kvs.any λkv=>decide (kv.1=k))=true then kvs.map (λkv=>if kv.1=k then (kv.1,v) else kv) else kvs++[(k,v)]
theorem EL{p:κ×V}{r:List (κ×V)}{k:κ}(e:p.1=k):Bu (p::r) k=some p.2:=by simp [Bu,Zo,e]
theorem EM{p:κ×V}{r:List (κ×V)}{k:κ}(e:¬p.1=k):Bu (p::r) k=Bu r k:=by simp [Bu,Zo,e]
theorem LU(k:κ):∀kvs:List (κ×V),(kvs.any λkv=>decide (kv.1=k))=(Bu kvs k).isSome
 | []=>rfl
 | p::r=>by
  rw [Zl]
  by_cases e:p.1=k
  ·simp only [EL e,decide_eq_true e,Bool.true_or,Option.isSome_some]
  ·rw [EM e,decide_eq_false e,Bool.false_or]; exact LU k r
theorem Eg(kvs:List (κ×V))(k:κ)(v:V):(putK kvs k v).length<=kvs.length+1:=by
 unfold putK
 split
 ·rw [Db]; omega
 ·rw [Rs,X5,Yr]; omega
theorem RelO.isSome_eq{o:Option V}{u:Option Value}(r:RelO o u):o.isSome=u.isSome:=by
 cases o with
 | none=>cases u with
  | none=>rfl
  | some _=>exact(show False from r).elim
 | some _=>cases u with
  | none=>exact(show False from r).elim
  | some _=>rfl
theorem KV.val{kvs:List (κ×V)}{vs:List (κ×Value)}(r:KV kvs vs)(k:κ):RelO (Bu kvs k) (valueAt vs k):=by
 unfold KV at r
 induction r with
 | nil=>exact ZM
 | @cons p q ps qs h t ih =>
  obtain⟨h1,h2⟩:=h
  by_cases e:p.1=k
  ·have e':q.1=k:=h1.symm.trans e
   have b:valueAt (q::qs) k=some q.2:=by simp [valueAt,Zo,e']
   rw [EL e,b]; exact h2
  ·have e':¬q.1=k:=λz=>e (h1.trans z)
   have b:valueAt (q::qs) k=valueAt qs k:=by simp [valueAt,Zo,e']
   rw [EM e,b]; exact ih
theorem KV.any{kvs:List (κ×V)}{vs:List (κ×Value)}(r:KV kvs vs)(k:κ):(kvs.any λkv=>decide (kv.1=k))=vs.any λkv=>decide (kv.1=k):=by
 unfold KV at r
 induction r with
 | nil=>rfl
 | cons h t ih=>rw [Zl,Zl,ih,h.1]
theorem KV.repl{kvs:List (κ×V)}{vs:List (κ×Value)}(r:KV kvs vs)(k:κ){y:V}{u:Value}(ry:RelV y u) :
  KV (kvs.map λkv=>if kv.1=k then (kv.1,y) else kv) (vs.map λkv=>if kv.1=k then (kv.1,u) else kv):=by
 unfold KV at r ⊢
 induction r with
 | nil=>exact .nil
 | @cons p q ps qs h t ih =>
  rw [X6,X6]
  refine .cons ?_ ih
  obtain⟨h1,h2⟩:=h
  by_cases e:p.1=k
  ·rw [if_pos e,if_pos (h1.symm.trans e)]; exact⟨h1,ry⟩
  ·rw [if_neg e,if_neg (λz=>e (h1.trans z))]; exact⟨h1,h2⟩
theorem KV.put{kvs:List (κ×V)}{vs:List (κ×Value)}(r:KV kvs vs)(k:κ){y:V}{u:Value}(ry:RelV y u):KV (putK kvs k y) (stored vs k u):=by
 unfold putK stored
 rw [r.any k]
 by_cases e:(vs.any λkv=>decide (kv.1=k))=true
 ·rw [if_pos e,if_pos e]; exact r.repl k ry
 ·rw [if_neg e,if_neg e]; exact Paired.snoc r ⟨rfl,ry⟩
theorem KV.length{kvs:List (κ×V)}{vs:List (κ×Value)}(r:KV kvs vs):kvs.length=vs.length:=Paired.length r
end
theorem MA{P:Program}{w:World}{k:Key}{u:Value}(r:RelV (kV k) u):(BK P w).is k u=true:=by
 cases k with
 | inl i=>obtain⟨t,e⟩:=(show ∃t,u=cM i t from r); subst e; exact L1 P w i t
 | inr x=>obtain⟨t,e⟩:=(show ∃t,u=cN x t from r); subst e; exact L0 P w x t
theorem Jw{P:Program}{w:World}:∀{ks:List Key} {us:List Value},Vals (ks.map kV) us->ItemsAre (BK P w) ks us
 | [],_,r=>by rw [Zv] at r; cases r; exact .nil
 | k::ks,_,r=>by
  rw [X6] at r
  cases r with
  | cons h t=>exact .cons (MA h) (Jw t)
noncomputable abbrev KT(H:Hp):List (List Key×V)->List (List Key×Addr×Value)->Prop:=Paired λp q=>p.1=q.1/\H q.2.1=some (.tup (p.1.map kV))/\RelV p.2 q.2.2
theorem KT.val{H:Hp}{kvs:List (List Key×V)}{xs:List (List Key×Addr×Value)}(r:KT H kvs xs)(k:List Key):RelO (Bu kvs k) ((atKey xs k).map (·.2)):=by
 induction r with
 | nil=>exact ZM
 | @cons p q ps qs h t ih =>
  obtain⟨h1,_,h2⟩:=h
  by_cases e:p.1=k
  ·have e':q.1=k:=h1.symm.trans e
   have b:atKey (q::qs) k=some q.2:=by simp [atKey,Zo,e']
   rw [EL e,b]; exact h2
  ·have e':¬q.1=k:=λz=>e (h1.trans z)
   have b:atKey (q::qs) k=atKey qs k:=by simp [atKey,Zo,e']
   rw [EM e,b]; exact ih
theorem KT.repl{H:Hp}{kvs:List (List Key×V)}{xs:List (List Key×Addr×Value)}(r:KT H kvs xs)(k:List Key){y:V}{u:Value}(ry:RelV y u) :
  KT H (kvs.map λkv=>if kv.1=k then (kv.1,y) else kv) (xs.map (putAt k u)):=by
 induction r with
 | nil=>exact .nil
 | @cons p q ps qs h t ih =>
  rw [X6,X6]
  refine .cons ?_ ih
  obtain⟨h1,h2,h3⟩:=h
  unfold putAt
  by_cases e:p.1=k
  ·rw [if_pos e,if_pos (h1.symm.trans e)]; exact⟨h1,h2,ry⟩
  ·rw [if_neg e,if_neg (λz=>e (h1.trans z))]; exact⟨h1,h2,h3⟩
theorem KT.put{H:Hp}{kvs:List (List Key×V)}{xs:List (List Key×Addr×Value)}(r:KT H kvs xs)(k:List Key){b:Addr}{y:V}{u:Value}(hb:H b=some (.tup (k.map kV)))(ry:RelV y u) :
  KT H (putK kvs k y) (storedH xs k b u):=by
 have e:(kvs.any λkv=>decide (kv.1=k))=(atKey xs k).isSome:=by
  rw [LU,(r.val k).isSome_eq,Option.isSome_map]
 unfold putK storedH
 rw [e]
 by_cases q:(atKey xs k).isSome=true
 ·rw [if_pos q,if_pos q]; exact r.repl k ry
 ·rw [if_neg q,if_neg q]; exact Paired.snoc r ⟨rfl,hb,ry⟩
theorem KT.keeps{H H':Hp}{kvs:List (List Key×V)}{xs:List (List Key×Addr×Value)}(r:KT H kvs xs)(ht:∀b ys,H b=some (.tup ys)->H' b=some (.tup ys)):KT H' kvs xs :=
 Paired.mapP r λ_ _ z=>⟨z.1,ht _ _ z.2.1,z.2.2⟩
section
variable {P:Program}{w:World}{H:Hp}{h:Heap}{a:Addr}
theorem TX{u:HO}(ok:HOk P w H h)(e:Rd H a u):ObjOk P w H h a u:=e.ok ok
theorem RB{kvs:List (Key×V)}(ok:HOk P w H h)(e:Rd H a (.dK kvs)):kvs.length<=sizeLine/\(a==sysModules)=false/\∃vs,KV kvs vs/\h.DictOf (BK P w) a vs :=
 show ObjOk P w H h a (.dK kvs) from TX ok e
theorem Tt{kvs:List (Key×V)}(ok:HOk P w H h)(e:H a=some (.dK kvs)):kvs.length<=sizeLine/\(a==sysModules)=false/\∃vs,KV kvs vs/\h.DictOf (BK P w) a vs:=RB ok (.inl e)
theorem NE{ks:List Key}(ok:HOk P w H h)(e:H a=some (.tup (ks.map kV))):(tupleKind (BK P w)).is h ks a:=by
 obtain⟨_,its,r,o,h1,h2,n,h3,_⟩:=(show ObjOk P w H h a (.tup (ks.map kV)) from ok a _ e)
 exact⟨o,its.toArray,n,h1,h2,h3,by simpa using Jw r⟩
theorem MI{kvs:List (List Key×V)}(ok:HOk P w H h)(e:Rd H a (.dT kvs)):kvs.length<=sizeLine/\(a==sysModules)=false /\
  ∃xs,KT H kvs xs/\h.DictOfH (tupleKind (BK P w)) a xs:=by
 obtain⟨z,y,xs,r,o,es,ep,h1,h2,h3,h4,h5⟩:=(show ObjOk P w H h a (.dT kvs) from TX ok e)
 refine⟨z,y,xs,r,o,es,ep,h1,h2,h3,h4,λx hx=>?_,h5⟩
 have all:∀{l:List (List Key×V)} {m:List (List Key×Addr×Value)},KT H l m->∀x∈m,(tupleKind (BK P w)).is h x.1 x.2.1:=by
  intro l m q
  induction q with
  | nil=>intro x hx; exact nomatch hx
  | @cons p q ps qs hq t ih =>
   intro x hx
   rcases X_.mp hx with e | hx
   ·subst e
    exact NE ok (by rw [← hq.1]; exact hq.2.1)
   ·exact ih x hx
 exact all r x hx
theorem WE{kvs:List (List Key×V)}(ok:HOk P w H h)(e:H a=some (.dT kvs)):kvs.length<=sizeLine/\(a==sysModules)=false /\
  ∃xs,KT H kvs xs/\h.DictOfH (tupleKind (BK P w)) a xs:=MI ok (.inl e)
end
noncomputable def DGet(H:Hp)(a:Addr)(y:V)(r:Option V):Prop :=
 (∃kvs k,Rd H a (.dK kvs)/\y=kV k/\r=Bu kvs k)\/∃kvs k b,Rd H a (.dT kvs)/\y=.ref b/\H b=some (.tup (k.map kV))/\r=Bu kvs k
noncomputable def DPut(H:Hp)(a:Addr)(y v:V)(H':Hp):Prop :=
 (∃kvs k,H a=some (.dK kvs)/\y=kV k/\kvs.length<sizeLine/\H'=BB H a (.dK (putK kvs k v))) \/
 ∃kvs k b,H a=some (.dT kvs)/\y=.ref b/\H b=some (.tup (k.map kV))/\kvs.length<sizeLine/\H'=BB H a (.dT (putK kvs k v))
theorem DGet.k{H:Hp}{a:Addr}{kvs:List (Key×V)}{k:Key}(e:H a=some (.dK kvs)):DGet H a (kV k) (Bu kvs k):=.inl ⟨kvs,k,.inl e,rfl,rfl⟩
theorem DPut.k{H:Hp}{a:Addr}{kvs:List (Key×V)}{k:Key}{v:V}(e:H a=some (.dK kvs))(hl:kvs.length<sizeLine):DPut H a (kV k) v (BB H a (.dK (putK kvs k v))):=.inl ⟨kvs,k,e,rfl,hl,rfl⟩
theorem DPut.t{H:Hp}{a b:Addr}{kvs:List (List Key×V)}{k:List Key}{v:V}(e:H a=some (.dT kvs))(eb:H b=some (.tup (k.map kV)))(hl:kvs.length<sizeLine) :
  DPut H a (.ref b) v (BB H a (.dT (putK kvs k v))):=.inr ⟨kvs,k,b,e,rfl,eb,hl,rfl⟩
section
variable {X:Cx}{pins:List (Addr×Obj)}{σ:St}{H:Hp}{s:Shared}{a:Addr}{y v:V}{u r:Value}{o:Option V}{A:Around}{E:Value->Shared->Prop}
theorem Inv.big(I:Inv X pins σ H s):sysModules<s.heap.objs.size:=by
 have h:mainGlobals<s.heap.objs.size:=(I.mod.glob.keeps I.bk).lt
 exact Nat.lt_trans (by decide) h
theorem Pc{Q:Value->Shared->Prop}(hu:A.units+1<cLine)(I:Inv X pins σ H s)(g:DGet H a y (some v))(ry:RelV y u)(h:∀w' s',Inv X pins σ H s'->RelV v w'->Q w' s') :
  wpAny (model X.prog X.w) A (getItem (.ref a) u) Q E s:=by
 rcases g with ⟨kvs,k,e,ey,l⟩ | ⟨kvs,k,b,e,ey,eb,l⟩
 ·subst ey
  obtain⟨z,hd,vs,rel,dd⟩:=RB I.hok e
  obtain⟨w',hw,rw'⟩:=RelO.some_of (v:=v) (o:=valueAt vs k) (by rw [l]; exact rel.val k)
  exact wpAny_getItem_of (MA ry) dd.mapOf hw (h w' _ (I.tok _) rw')
 ·subst ey
  cases (show u=YO b from ry)
  obtain⟨z,hd,xs,rel,dd⟩:=MI I.hok e
  obtain⟨w',hw,rw'⟩:=RelO.some_of (v:=v) (o:=(atKey xs k).map (·.2)) (by rw [l]; exact rel.val k)
  obtain⟨p,hp,hp2⟩:=YD.mp hw
  refine wpAny_getItem_heap (tupleKind_room_in1 hu) (NE I.hok eb) dd hp ?_
  rw [hp2]
  exact h w' _ (I.tok _) rw'
theorem LB{h':Heap}{t':Nat}{ob:HO}(I:Inv X pins σ H s)(mu:WT (H a))(hs:ZP a s.heap h')(he:∃q,h'.get? a=some q)(new:ObjOk X.prog X.w (BB H a ob) h' a ob) :
  Inv X pins σ (BB H a ob) { s with heap:=h',toks:=t' } :=
 I.write (x:=a) (e:=a) mu (.inl rfl) (λb q hb z=>(hs.2 b hb).trans z) he new
theorem NJ{P:Program}{w:World}{H':Hp}{h':Heap}{kvs:List (Key×V)}{vs:List (Key×Value)}(z:kvs.length<=sizeLine)(hd:(a==sysModules)=false)(rel:KV kvs vs)(dd:h'.DictOf (BK P w) a vs) :
  ObjOk P w H' h' a (.dK kvs):=⟨z,hd,vs,rel,dd⟩
theorem Pb{H':Hp}{Q:Unit->Shared->Prop}(hu:A.units+1<cLine)(I:Inv X pins σ H s)(g:DPut H a y v H')(ry:RelV y u)(rv:RelV v r)(h:∀s',Inv X pins σ H' s'->Q () s') :
  wpAny (model X.prog X.w) A (setItem (.ref a) u r) Q E s:=by
 rcases g with ⟨kvs,k,e,ey,l,eH⟩ | ⟨kvs,k,b,e,ey,eb,l,eH⟩
 ·subst ey eH
  obtain⟨z,hd,vs,rel,dd⟩:=Tt I.hok e
  have hz:vs.length<=sizeLine:=by rw [← rel.length]; exact z
  have hl:(putK kvs k v).length<=sizeLine:=by have:=Eg kvs k v; omega
  refine wpAny_setItem_pairs (hsz:=hz) (MA ry) dd λh' dd' hs=>h _ ?_
  have he:∃q,h'.get? a=some q:=let ⟨q,_,_,hq,_⟩:=dd'; ⟨q,hq⟩
  exact LB I (by rw [e]; exact ZM) hs he (NJ hl hd (rel.put k rv) dd')
 ·subst ey eH
  cases (show u=YO b from ry)
  obtain⟨z,hd,xs,rel,dd⟩:=WE I.hok e
  have hz:xs.length<=sizeLine:=by rw [← Paired.length rel]; exact z
  have hl:(putK kvs k v).length<=sizeLine:=by have:=Eg kvs k v; omega
  refine wpAny_setItem_heap (hsz:=hz) (tupleKind_room_in1 hu) (NE I.hok eb) dd λh' dd' hs=>h _ ?_
  obtain⟨q,es,ep,hq,h2,h3,h4,_,h5⟩:=dd'
  refine LB I (by rw [e]; exact ZM) hs ⟨q,hq⟩ ⟨hl,hd,_,(rel.put k eb rv).keeps λc ys ec=>?_,q,es,ep,hq,h2,h3,h4,h5⟩
  rw [AT (V5 ec e (λz=>nomatch z))]
  exact ec
end
section
variable {X:Cx}{pins:List (Addr×Obj)}{σ:St}{H:Hp}{s:Shared}{a:Addr}{kvs:List (Key×V)}{k:Key}{u:Value}{A:Around}{E:Value->Shared->Prop}
end
noncomputable def Pk(i:Expr):Prop:=∀ov iv,subscripted i false ov iv=operate [ov,iv] (getItem ov iv)
theorem Rz{prog:Program}{w:World}{A:Around}{E:Value->Shared->Prop}{s:Shared}{env:Env}{value slice:Expr}{pos:Pos}{T id:String}{Q:Value->Shared->Prop}
  (hl:typeLookup (.type T) "__getitem__"=pure (some (.builtin id))) (hs:Pk slice)
  (h:wpAny (model prog w) A (eval value env) (λo s₁=>wpAny (model prog w) A (eval slice env) (λi s₂=>s₂.TypeIs o T/\wpAny (model prog w) A (getItem o i) Q E s₂) E s₁) E s) :
  wpAny (model prog w) A (eval (.Subscript value slice pos) env) Q E s:=by
 refine Subscript_ (Yl h (λo s₁ h₁=>Yl h₁ (λi s₂ h₂=>?_) λ_ _ x=>x) λ_ _ x=>x)
 obtain⟨hT,h₂⟩:=h₂
 unfold subscriptTail
 refine Ch ?_
 rw [getitemInPython_of_ne hT.not_modules]
 refine Ch (wpAny_specialOf hT hl ?_)
 have fin:wpAny (model prog w) A (subscripted slice false o i) (λr s₃=>wpAny (model prog w) A (letTemporaryGo value o r >>= λ_=>pure r) Q E s₃) E s₂:=by
  rw [hs o i]
  exact wpAny_operating (Yl h₂ (λr s₃ h₃=>Ch (wpAny_letTemporaryGo (Go h₃))) λ_ _ x=>x)
 first
  | exact Go (Ch fin)
  | exact Ch (Go (Ch fin))
  | exact Ch fin
theorem MK{X:Cx}{pins:List (Addr×Obj)}{σ:St}{H:Hp}{s:Shared}{a:Addr}{y:V}{o:Option V}(I:Inv X pins σ H s)(g:DGet H a y o):s.TypeIs (.ref a) "dict":=by
 rcases g with ⟨kvs,k,e,_,_⟩ | ⟨kvs,k,b,e,_,_,_⟩
 ·obtain⟨_,_,vs,_,dd⟩:=RB I.hok e
  exact dd.typeIs
 ·obtain⟨_,_,xs,_,dd⟩:=MI I.hok e
  exact dd.typeIs
noncomputable def Vh(td ty:TE):TE:=λσ H Q=>td σ H λx H1=>ty σ H1 λy H2=>∃a v,x=.ref a/\DGet H2 a y (some v)/\Q v H2
noncomputable def Vl(td ty tv:TE):TS:=λD σ H=>tv σ H λv H1=>td σ H1 λx H2=>ty σ H2 λy H3=>∃a H4,x=.ref a/\DPut H3 a y v H4/\D.nx σ H4
section
variable {X:Cx}{o i e value:Expr}{pos pos' tpos:Pos}{td ty tv:TE}
theorem HS(hu:X.A.units+1<cLine)(ho:PE X o td)(hi:PE X i ty)(hs:Pk i):PE X (.Subscript o i pos) (Vh td ty):=by
 intro pins s σ H Q I h
 refine Rz PySem.F.slot_dict_getitem.lookup hs (BX (ho pins s σ H _ I h) λu s1 ⟨x,H1,I1,rx,q1⟩=>BX (hi pins s1 σ H1 _ I1 q1) λiv s2 ⟨y,H2,I2,ry,a,v,ex,g,q2⟩=>?_)
 subst ex
 obtain rfl:u=YO a:=rx
 exact⟨MK I2 g,Pc hu I2 g ry λw' s3 I3 rw'=>⟨v,H2,I3,rw',q2⟩⟩
theorem Nl(hu:X.A.units+1<cLine)(ho:PE X o td)(hi:PE X i ty)(hv:PE X value tv)(hs:swapsWith value (some (.Subscript o i pos')) pos.line X.env=pure false) :
  PS X (.Assign [.Subscript o i pos'] value pos) (Vl td ty tv):=by
 intro pins s σ H D I h
 refine wpAny_Assign_Subscript (BX (hv pins s σ H _ I h) λr s1 ⟨v,H1,I1,rv,q1⟩=>BX (ho pins s1 σ H1 _ I1 q1) λu s2 ⟨x,H2,I2,rx,q2⟩=>BX (hi pins s2 σ H2 _ I2 q2) λiv s3 ⟨y,H3,I3,ry,a,H4,ex,g,q3⟩=>?_) hs
 subst ex
 obtain rfl:u=YO a:=rx
 exact Pb hu I3 g ry rv λs4 I4=>⟨σ,H4,I4,q3⟩
end
theorem RC{P:Program}{w:World}{H:Hp}(h:Heap)(hb:sysModules<h.objs.size):ObjOk P w H (h.push { cls:=.type "dict",data:=.dict #[] }) h.objs.size (.dK []) :=
 ⟨YB _,beq_eq_false_iff_ne.mpr (Yq (YE hb)),[],.nil,Heap.DictOf.new h⟩
theorem Q_{P:Program}{w:World}{H:Hp}(h:Heap)(hb:sysModules<h.objs.size):ObjOk P w H (h.push { cls:=.type "dict",data:=.dict #[] }) h.objs.size (.dT []) :=
 ⟨YB _,beq_eq_false_iff_ne.mpr (Yq (YE hb)),[],.nil,_,#[],0,UF _ rfl,⟨rfl,rfl,rfl⟩,rfl,rfl,Yz⟩
noncomputable def UD:TE:=λ_ H Q=>∀p,H p=none->Q (.ref p) (BB H p (.dT []))
section
variable {X:Cx}{pos:Pos}
theorem Qc:PE X (.Dict [] [] pos) UD:=λpins s σ H Q I h =>
 wpAny_Dict_empty ⟨.ref s.heap.objs.size,_,I.laid (a:=s.heap.objs.size) (o:=.dT []) (t':=s.toks) (λ_ _ q=>Ev _ q) (No _) (Q_ s.heap I.big),rfl,h _ (I.hok.fresh (No _))⟩
end
noncomputable def Mf:List (TE×TE)->St->Hp->(List (V×V)->Hp->Prop)->Prop
 | [],_,H,Q=>Q [] H
 | (tk,tv)::r,σ,H,Q=>tk σ H λx H1=>tv σ H1 λy H2=>Mf r σ H2 λps H3=>Q ((x,y)::ps) H3
noncomputable abbrev VV:List (V×V)->List (Value×Value)->Prop:=Paired λp q=>RelV p.1 q.1/\RelV p.2 q.2
noncomputable def Wj(X:Cx)(pos:Pos)(keys:List (Option Expr))(values:List Expr)(trs:List (TE×TE)):Prop :=
 ∀(pins:List (Addr×Obj)) (s:Shared) (σ:St) (H:Hp) (Q:List (V×V)->Hp->Prop),Inv X pins σ H s->Mf trs σ H Q ->
  wpAny (model X.prog X.w) X.A (evalPairs (pairTrees keys values X.env pos)) (λvs s'=>∃ps H',Inv X pins σ H' s'/\VV ps vs/\Q ps H') X.xe s
theorem Nn{X:Cx}{pos:Pos}:Wj X pos [] [] []:=λpins s σ H Q I h=>pairTrees_nil_walk ⟨[],H,I,.nil,h⟩
theorem CY{X:Cx}{pos:Pos}{k v:Expr}{ks:List (Option Expr)}{vs:List Expr}{tk tv:TE}{trs:List (TE×TE)}(hk:PE X k tk)(hv:PE X v tv)(hr:Wj X pos ks vs trs) :
  Wj X pos (some k::ks) (v::vs) ((tk,tv)::trs):=λpins s σ H Q I h =>
 pairTrees_cons_walk (BX (hk pins s σ H _ I h) λu s1 ⟨x,H1,I1,rx,q1⟩=>BX (hv pins s1 σ H1 _ I1 q1) λw2 s2 ⟨y,H2,I2,ry,q2⟩ =>
  BX (hr pins s2 σ H2 _ I2 q2) λws s3 ⟨ps,H3,I3,rel,q3⟩=>⟨(x,y)::ps,H3,I3,.cons ⟨rx,ry⟩ rel,q3⟩)
noncomputable def Ds(kvs more:List (Key×V)):List (Key×V):=more.foldl (λacc kv=>putK acc kv.1 kv.2) kvs
theorem KV.merge:∀{more:List (Key×V)} {rs:List (Key×Value)} {kvs:List (Key×V)} {vs:List (Key×Value)},KV more rs->KV kvs vs->KV (Ds kvs more) (merged vs rs):=by
 intro more rs kvs vs r
 unfold KV at r
 induction r generalizing kvs vs with
 | nil=>intro q; exact q
 | @cons p q ps qs h t ih =>
  intro r0
  have e:KV (putK kvs p.1 p.2) (stored vs q.1 q.2):=by
   have:=r0.put p.1 h.2
   rw [← h.1]; exact this
  exact ih e
theorem FE:∀(more kvs:List (Key×V)),(Ds kvs more).length<=kvs.length+more.length
 | [],kvs=>by show kvs.length<=kvs.length+0; omega
 | p::r,kvs=>by
  have h1:=FE r (putK kvs p.1 p.2)
  have h2:=Eg kvs p.1 p.2
  show (Ds (putK kvs p.1 p.2) r).length<=_
  rw [X5]; omega
theorem Iy{P:Program}{w:World}:∀{kvs:List (Key×V)} {ws:List (Value×Value)},VV (kvs.map λkv=>(kV kv.1,kv.2)) ws->∃rs,Carries (BK P w) ws rs/\KV kvs rs
 | [],_,r=>by rw [Zv] at r; cases r; exact⟨[],ZM,.nil⟩
 | p::kvs,_,r=>by
  rw [X6] at r
  cases r with
  | @cons a b as bs h t =>
   obtain⟨rs,c,q⟩:=Iy (P:=P) (w:=w) t
   obtain⟨b1,b2⟩:=b
   exact⟨(p.1,b2)::rs,⟨MA h.1,rfl,c⟩,.cons ⟨rfl,h.2⟩ q⟩
noncomputable def Vg(trs:List (TE×TE)):TE:=λσ H Q=>∀p,H p=none->Mf trs σ (BB H p (.dK [])) λps H2=>H2 p=some (.dK [])/\∃kvs:List (Key×V),ps=kvs.map (λkv=>(kV kv.1,kv.2))/\kvs.length<=15/\Q (.ref p) (BB H2 p (.dK (Ds [] kvs)))
theorem Nx{X:Cx}{pos:Pos}{keys:List (Option Expr)}{values:List Expr}{trs:List (TE×TE)}(h:Wj X pos keys values trs)(hall:keys.all (·.isSome)=true)(hl:keys.length=values.length)(h0:keys≠[])
  (h15:keys.length<=15):PE X (.Dict keys values pos) (Vg trs):=by
 intro pins s σ H Q I q
 have hn:=I.hok.fresh (No s.heap.objs.size)
 have I1:=I.laid (a:=s.heap.objs.size) (o:=.dK []) (h':=s.heap.push { cls:=.type "dict",data:=.dict #[] }) (t':=s.toks) (λ_ _ q=>Ev _ q) (No _) (RC s.heap I.big)
 refine wpAny_Dict_walk (knd:=BK X.prog X.w) hall hl h0 h15 (BX (h pins _ σ _ _ I1 (q _ hn)) λws s2 ⟨ps,H2,I2,rel,e,kvs,ep,lk,q2⟩=>?_)
 subst ep
 obtain⟨rs,c,rk⟩:=Iy (P:=X.prog) (w:=X.w) rel
 obtain⟨z,hd,vs0,r0,dd⟩:=Tt I2.hok e
 cases r0
 refine⟨rs,c,dd,λh' dd' hs=>⟨.ref s.heap.objs.size,_,?_,rfl,q2⟩⟩
 have hz:(Ds [] kvs).length<=sizeLine:=by
  have h1:=FE kvs []
  rw [Yr] at h1
  rw [Yj]; omega
 have he:∃q,h'.get? s.heap.objs.size=some q:=let ⟨q,_,_,hq,_⟩:=dd'; ⟨q,hq⟩
 exact LB I2 (by rw [e]; exact ZM) hs he (NJ hz hd (rk.merge .nil) dd')
structure M1 (X:Cx) (o:Expr) (m:Str) (apos:Pos) (e:Expr) (cpos:Pos):Prop where
 base:attributeBase o m X.env (eval o X.env)=eval o X.env
 few:((backTo cpos (starEach [e] X.env)).all (λx=>!x.1)&&(backToKw cpos (keywordEach [] X.env)).all (λx=>x.1.isSome)
  && decide (([e]:List Expr).length+([]:List Keyword).length+(if ([]:List Keyword).isEmpty then 0 else 1)<30))=true
 line:(apos.endLine==cpos.line)=true
 trees:backTo cpos (starEach [e] X.env)=[(false,eval e X.env)]
structure M2 (X:Cx) (o:Expr) (m:Str) (apos:Pos) (e f:Expr) (cpos:Pos):Prop where
 base:attributeBase o m X.env (eval o X.env)=eval o X.env
 few:((backTo cpos (starEach [e,f] X.env)).all (λx=>!x.1)&&(backToKw cpos (keywordEach [] X.env)).all (λx=>x.1.isSome)
  && decide (([e,f]:List Expr).length+([]:List Keyword).length+(if ([]:List Keyword).isEmpty then 0 else 1)<30))=true
 line:(apos.endLine==cpos.line)=true
 trees:backTo cpos (starEach [e,f] X.env)=[(false,eval e X.env),(false,eval f X.env)]
section
variable {X:Cx}{pins:List (Addr×Obj)}{σ:St}{H:Hp}{s:Shared}{a:Addr}{y d:V}{u r:Value}{o:Option V}{A:Around}{E:Value->Shared->Prop}
end
section
variable {X:Cx}{o e f:Expr}{apos cpos:Pos}{td ty tx:TE}
end
section
variable {X:Cx}{pins:List (Addr×Obj)}{σ:St}{H:Hp}{s:Shared}{a:Addr}{kvs:List (Key×V)}{A:Around}{E:Value->Shared->Prop}
end
section
variable {X:Cx}{pins:List (Addr×Obj)}{σ:St}{H:Hp}{s:Shared}{a:Addr}{y:V}{u:Value}{A:Around}{E:Value->Shared->Prop}
end
end L2
set_option maxHeartbeats 4000000
namespace L2
open PySem PySem.Spec PyProof.Rows
section
theorem NM{env:Env}:∀(names:List (Str×NameKind)) (cs:List (Str×Addr)),(∀x,(x,YR)∈names->∃c,env.cells.lookup x=some c)->(∀x c,cs.lookup x=some c->env.cells.lookup x=some c) ->
  ∃cl,(forIn names cs fun(x:Str×NameKind) (r:List (Str×Addr))=>(if (x.2==YR)=true then do let a ← cellOf env x.1; pure (ZE ((x.1,a)::r)) else pure (ZE r):Sem (ForInStep (List (Str×Addr)))))=(pure cl:Sem _) /\
   (∀x c,cl.lookup x=some c->env.cells.lookup x=some c)/\(∀x,((x,YR)∈names\/∃c,cs.lookup x=some c)->∃c,cl.lookup x=some c):=by
 intro names
 induction names with
 | nil =>
  intro cs _ h2
  exact⟨cs,rfl,h2,λx hx=>hx.elim (λz=>absurd z (by simp)) λz=>z⟩
 | cons p r ih =>
  intro cs h1 h2
  obtain⟨n,k⟩:=p
  by_cases hk:k=YR
  ·subst hk
   obtain⟨c,hc⟩:=h1 n Op
   have hcell:cellOf env n=pure c:=by simp only [cellOf,hc]
   obtain⟨cl,e,a,b⟩:=ih ((n,c)::cs) (λx hx=>h1 x (Sc _ hx)) (λx c' hx=>by
    rw [ZK] at hx
    cases hb:x==n with
    | true =>
     rw [hb] at hx
     have hx':some c=some c':=hx
     cases hx'
     have:x=n:=by simpa using hb
     rw [this]; exact hc
    | false=>rw [hb] at hx; exact h2 x c' hx)
   refine⟨cl,?_,a,λx hx=>b x ?_⟩
   ·rw [ZT]
    simp only [beq_self_eq_true,if_true,hcell,pure_bind]
    exact e
   ·by_cases hxn:x=n
    ·subst hxn
     exact .inr ⟨c,by simp [ZK]⟩
    ·rcases hx with hx | ⟨c',hx⟩
     ·rcases X_.mp hx with hx | hx
      ·cases hx; exact absurd rfl hxn
      ·exact .inl hx
     ·refine .inr ⟨c',?_⟩
      have:(x==n)=false:=by simpa using hxn
      rw [ZK,this]
      exact hx
  ·have hk':(k==YR)=false:=by simpa using hk
   obtain⟨cl,e,a,b⟩:=ih cs (λx hx=>h1 x (Sc _ hx)) h2
   refine⟨cl,?_,a,λx hx=>b x ?_⟩
   ·rw [ZT]
    simp only [hk',Yd,if_false,pure_bind]
    exact e
   ·rcases hx with hx | hx
    ·rcases X_.mp hx with hx | hx
     ·cases hx; exact absurd rfl hk
     ·exact .inl hx
    ·exact .inr hx
theorem Iw{scope:Scope}{env:Env}(h:∀x,(x,YR)∈scope.names->∃c,env.cells.lookup x=some c) :
  ∃cl,closureFor scope env=pure cl/\(∀x c,cl.lookup x=some c->env.cells.lookup x=some c)/\(∀x,(x,YR)∈scope.names->∃c,cl.lookup x=some c):=by
 obtain⟨cl,e,a,b⟩:=NM scope.names [] h (λx c hx=>by simp at hx)
 refine⟨cl,?_,a,λx hx=>b x (.inl hx)⟩
 simp only [closureFor]
 rw [e,pure_bind]
variable {prog:Program}{w:World}{A:Around}{E:Value->Shared->Prop}{R:Result->Shared->Prop}{s:Shared}
theorem LD{elt target iter:Expr}{ifs:List Expr}{scope:Scope}{pos:Pos}{it acc:Value}{env:Env}(I:Nat->Shared->Prop)
  (turn:∀n s,I n s->wpAny (model prog w) A (pyNext it) (λr s₁=>match r with
   | none=>R (.ok .next) s₁
   | some v=>wpAny (model prog w) A (letOwnedTupleGo target it v) (λ_ s₁'=>wpAny (model prog w) A (assign target env v) (λ_ s₂ =>
     wpAny (model prog w) A (forIn ifs true λc r=>if r=true then do let ok ← isTrue c env (eval c env); pure (ZE ok) else pure (ZE r)) (λok s₃ =>
      if ok=true then wpAny (model prog w) A (eval elt env) (λx s₄ =>
       wpAny (model prog w) A (call (.builtin "list.append") [acc,x]) (λ_ s₅=>∃m,m<n/\I m s₅) (λ_ _=>False) s₄) (λ_ _=>False) s₃
      else ∃m,m<n/\I m s₃) (λ_ _=>False) s₂) (λ_ _=>False) s₁') (λ_ _=>False) s₁) (λ_ _=>False) s)
  (n:Nat) (h:I n s) :
  codeAny (model prog w) A (.compLoop (.ListComp elt [⟨target,iter,ifs,0⟩] scope pos) 0 it acc env) R s:=by
 refine codeAny_loop rfl I (λn s hI=>?_) n h
 show wpAny _ A ((compTurn (.ListComp elt [⟨target,iter,ifs,0⟩] scope pos) 0 it acc env).onRaise (λx=>do noteFrame x env; theTreesLotGoes x)) _ _ s
 refine wpAny_noted ?_
 rw [compTurn_list]
 refine Ch (bE (Ch (Yl (turn n s hI) (λr s₁ h₁=>?_) λ_ _ h'=>h'.elim)))
 cases r with
 | none=>exact Go h₁
 | some v =>
  refine Ch (Yl h₁ (λ_ s₁' h₁'=>?_) λ_ _ h'=>h'.elim)
  refine Ch (Yl h₁' (λ_ s₂ h₂=>Ch (Yl h₂ (λok s₃ h₃=>?_) λ_ _ h'=>h'.elim)) λ_ _ h'=>h'.elim)
  cases ok with
  | false=>exact Go ⟨rfl,h₃⟩
  | true =>
   exact Ch (Ch (Yl h₃ (λx s₄ h₄=>Ch (Yl h₄ (λ_ s₅ h₅=>Go (Go ⟨rfl,h₅⟩)) λ_ _ h'=>h'.elim)) λ_ _ h'=>h'.elim))
end
noncomputable def A2(X:Cx)(sc:Scope)(N':List Str)(cl:List (Str×Addr))(C:Addr)(s:Shared)(H:Hp)(ex:List Addr):Cx where
 prog:=X.prog
 w:=X.w
 K:=X.K
 mg:=X.mg
 base:=X.base
 A:=X.A
 N:=N'
 s₀:=s
 H₀:=H
 env:=compEnvC sc cl C X.env
 outer:=X.stack
 stack:=X.stack
 ex:=ex
 fn:=λ_=>false
 calm:=true
 pn:=[]
 xe:=λ_ _=>False
noncomputable def Bx(js:List (Option Nat))(σ:St):St:=js.map λo=>match o with
 | some i=>(σ[i]?).getD none
 | none=>none
noncomputable def Sh(o:Option NameKind):Bool:=match o with
 | some .cell=>true
 | some .free=>true
 | _=>false
theorem N7{o:Option NameKind}(h:Sh o=true):o=some .cell\/o=some .free:=by
 unfold Sh at h
 split at h
 ·exact .inl rfl
 ·exact .inr rfl
 ·cases h
noncomputable def isFree(o:Option NameKind):Bool:=match o with
 | some .free=>true
 | _=>false
theorem PN{o:Option NameKind}(h:isFree o=true):o=some .free:=by
 unfold isFree at h
 split at h
 ·rfl
 ·cases h
noncomputable def Qr(o:Option NameKind):Bool:=match o with
 | some .local=>true
 | _=>false
theorem Qq{o:Option NameKind}(h:Qr o=true):o=some .local:=by
 unfold Qr at h
 split at h
 ·rfl
 ·cases h
noncomputable def Qt(k:ScopeKind):Bool:=match k with
 | .function=>true
 | _=>false
theorem Qs{k:ScopeKind}(h:Qt k=true):k=.function:=by
 unfold Qt at h
 split at h
 ·rfl
 ·cases h
noncomputable def W3(sc esc:Scope)(p:Str×NameKind):Bool:=match p.2 with
 | .cell=>false
 | .free=>Sh (esc.names.lookup p.1)
 | .local=>Qr (sc.names.lookup p.1)
 | _=>true
noncomputable def XD(x:Option Str)(y:Str):Bool:=match x with
 | some z=>z==y
 | none=>false
theorem Uu{x:Option Str}{y:Str}(h:XD x y=true):x=some y:=by
 unfold XD at h
 split at h
 ·exact congrArg some (by simpa using h)
 ·cases h
noncomputable def GF(sc esc:Scope)(N:List Str):List Str->List (Option Nat)->Bool
 | [],[]=>true
 | x::xs,some j::js=>isFree (sc.names.lookup x)&&XD (N[j]?) x&&Sh (esc.names.lookup x)&&GF sc esc N xs js
 | _::xs,none::js=>GF sc esc N xs js
 | _,_=>false
noncomputable def Iv(sc esc:Scope)(N N':List Str)(js:List (Option Nat)):Bool:=Qt sc.kind&&sc.names.all (W3 sc esc)&&GF sc esc N N' js
theorem El{sc esc:Scope}{N:List Str}:∀{N':List Str} {js:List (Option Nat)},GF sc esc N N' js=true->js.length=N'.length
 | [],[],_=>rfl
 | x::xs,some j::js,h=>by
  unfold GF at h
  rw [YA] at h
  rw [X5,X5,El h.2]
 | x::xs,none::js,h=>by
  unfold GF at h
  rw [X5,X5,El h]
 | [],some _::_,h=>by unfold GF at h; cases h
 | [],none::_,h=>by unfold GF at h; cases h
 | _::_,[],h=>by unfold GF at h; cases h
theorem LG{sc esc:Scope}{N:List Str}:∀{N':List Str} {js:List (Option Nat)},GF sc esc N N' js=true->∀{k:Nat} {x:Str} {j:Nat},N'[k]?=some x->js[k]?=some (some j) ->
  sc.names.lookup x=some .free/\N[j]?=some x/\(esc.names.lookup x=some .cell\/esc.names.lookup x=some .free)
 | [],_,_,k,x,j,h1,_=>by simp at h1
 | _::_,[],h,_,_,_,_,_=>by unfold GF at h; cases h
 | y::ys,some i::js,h,k,x,j,h1,h2=>by
  unfold GF at h
  rw [YA,YA,YA] at h
  cases k with
  | zero =>
   simp at h1 h2
   subst h1 h2
   exact⟨PN h.1.1.1,Uu h.1.1.2,N7 h.1.2⟩
  | succ k=>exact LG h.2 (k:=k) (by simpa using h1) (by simpa using h2)
 | y::ys,none::js,h,k,x,j,h1,h2=>by
  unfold GF at h
  cases k with
  | zero=>simp at h2
  | succ k=>exact LG h (k:=k) (by simpa using h1) (by simpa using h2)
theorem PC{js:List (Option Nat)}{σ:St}{k:Nat}{v:V}(h:(Bx js σ)[k]?=some (some v)):∃j,js[k]?=some (some j)/\σ[j]?=some (some v):=by
 unfold Bx at h
 rw [On] at h
 cases e:js[k]? with
 | none=>rw [e] at h; cases h
 | some o =>
  rw [e] at h
  cases o with
  | none=>cases h
  | some j =>
   refine⟨j,rfl,?_⟩
   have h':some ((σ[j]?).getD none)=some (some v):=h
   have h2:=TW h'
   cases q:σ[j]? with
   | none=>rw [q] at h2; cases h2
   | some w=>rw [q] at h2; exact congrArg some h2
theorem CA{env:Env}:∀{names:List (Str×NameKind)} {x:Str},names.lookup x=some .free ->
  (names.map fun(n,k)=>if (k==YR&&env.scope.kind==.function&&env.kindOf n==some .cell) then (n,Z3) else (n,k)).lookup x=some .cell \/
  (names.map fun(n,k)=>if (k==YR&&env.scope.kind==.function&&env.kindOf n==some .cell) then (n,Z3) else (n,k)).lookup x=some .free
 | [],_,h=>by simp at h
 | (n,k)::r,x,h=>by
  have ih:=@CA env r x
  show List.lookup x ((if (k==YR&&env.scope.kind==.function&&env.kindOf n==some .cell)=true then (n,Z3) else (n,k))::_)=_\/List.lookup x ((if (k==YR&&env.scope.kind==.function&&env.kindOf n==some .cell)=true then (n,Z3) else (n,k))::_)=_
  by_cases hc:(k==YR&&env.scope.kind==.function&&env.kindOf n==some .cell)=true
  ·rw [if_pos hc]
   cases hx:x==n with
   | true=>exact .inl (by simp only [ZK,hx])
   | false =>
    simp only [ZK,hx] at h ⊢
    exact ih h
  ·rw [if_neg hc]
   cases hx:x==n with
   | true =>
    simp only [ZK,hx] at h ⊢
    exact .inr h
   | false =>
    simp only [ZK,hx] at h ⊢
    exact ih h
theorem Mo{env:Env}{sc:Scope}(hcell:∀y∈sc.names,y.2≠.cell){x:Str}(h:(relabel sc env).names.lookup x=some .cell\/(relabel sc env).names.lookup x=some .free):(x,YR)∈sc.names:=by
 have hm:(x,Z3)∈(relabel sc env).names\/(x,YR)∈(relabel sc env).names:=h.elim (λz=>.inl (PySem.mem_of_lookup z)) λz=>.inr (PySem.mem_of_lookup z)
 have go:∀k:NameKind,(k=.cell\/k=.free)->(x,k)∈(relabel sc env).names->(x,YR)∈sc.names:=by
  intro k hk hmem
  unfold relabel at hmem
  obtain⟨⟨n,k0⟩,hn,e⟩:=XV.mp hmem
  by_cases hc:(k0==YR&&env.scope.kind==.function&&env.kindOf n==some .cell)=true
  ·have e':(n,Z3)=(x,k):=by
    have:=e
    simp only [hc,if_true] at this
    exact this
   have hk0:k0=.free:=by
    rw [YA,YA] at hc
    simpa using hc.1.1
   cases e'
   subst hk0
   exact hn
  ·have e':(n,k0)=(x,k):=by
    have:=e
    simp only [hc,if_false] at this
    exact this
   cases e'
   rcases hk with rfl | rfl
   ·exact absurd rfl (hcell _ hn)
   ·exact hn
 exact hm.elim (go _ (.inl rfl)) (go _ (.inr rfl))
section
variable {X:Cx}{pins:List (Addr×Obj)}{σ:St}{H:Hp}{s:Shared}
structure CompOk (X:Cx) (sc:Scope) (N':List Str) (js:List (Option Nat)):Prop where
 kind:sc.kind=.function
 cell:∀y∈sc.names,y.2≠.cell
 free:∀x,(x,YR)∈sc.names->X.env.scope.names.lookup x=some .cell\/X.env.scope.names.lookup x=some .free
 names:∀y∈sc.names,y.2=.local->sc.names.lookup y.1=some .local
 cap:GF sc X.env.scope X.N N' js=true
theorem CompOk.of{sc:Scope}{N':List Str}{js:List (Option Nat)}(h:Iv sc X.env.scope X.N N' js=true):CompOk X sc N' js:=by
 unfold Iv at h
 rw [YA,YA,Y8] at h
 obtain⟨⟨h1,h2⟩,h3⟩:=h
 refine⟨Qs h1,λy hy e=>?_,λx hx=>?_,λy hy e=>?_,h3⟩
 ·have q:=h2 y hy
  unfold W3 at q
  rw [e] at q
  cases q
 ·have q:=h2 _ hx
  exact N7 q
 ·have q:=h2 y hy
  unfold W3 at q
  rw [e] at q
  exact Qq q
theorem ME{sc:Scope}{N':List Str}{js:List (Option Nat)}{cl:List (Str×Addr)}{fp:List Addr}{h₁:Heap}{tk:Nat}(I:Inv X pins σ H s)(hc:X.calm=true)(O:CompOk X sc N' js)
  (hcl:∀x c,cl.lookup x=some c->X.env.cells.lookup x=some c) (hcl2:∀x,(x,YR)∈sc.names->∃c,cl.lookup x=some c)
  (hf:∀b∈fp,JG X pins H b) (ho:∀b∈fp,∃o,s.heap.get? b=some o)
  (hns:h₁.Ns (s.heap.objs.size+1) (λ_=>none)) (hk:∀b o,s.heap.get? b=some o->h₁.get? b=some o) (hD:∃n,h₁.get? s.heap.objs.size=some { cls:=.type "list",data:=.seq #[] n }) :
  Inv (A2 X sc N' cl (s.heap.objs.size+1) s H fp) [] (Bx js σ) (BB H s.heap.objs.size (.lst [])) { s with heap:=h₁,toks:=tk }:=by
 have fr:∀a,s.heap.objs.size<=a->H a=none:=λa ha=>I.hok.fresh ha
 have cellLt:∀x c,cl.lookup x=some c->c<s.heap.objs.size:=λx c e=>by
  obtain⟨v,q⟩:=I.cell x c (hcl x c e)
  exact q.lt
 have ok:(A2 X sc N' cl (s.heap.objs.size+1) s H fp).Ok:=by
  refine⟨I.ok.mod,O.kind,I.ok.glob,I.ok.blt,Zb _,λx y c h1 h2=>I.ok.inj x y c (hcl x c h1) (hcl y c h2),λx hx=>?_,λx c hx=>?_,λ_=>I.ok.hd hc,I.ok.frames,.inl rfl,λb hb=>⟨?_,λx c e=>?_⟩,I.bs,YH I.ok.bsz I.sz,λb o e hb=>?_,λb hb hb2=>?_,I.stack,I.stkFree⟩
  ·exact hcl2 x (Mo (env:=X.env) O.cell hx)
  ·exact absurd (show false=true from hx) Uf
  ·obtain⟨o,e⟩:=ho b hb
   exact YE (bN (Tk e))
  ·exact(hf b hb).2.2.2.2.1 x c (hcl x c e)
  ·rcases (hf b hb).2.2.2.1 with z | z
   ·exact I.ok.noex b o e z
   ·have h1:b<X.base.objs.size:=Tk e
    exact absurd (YF h1 (YH I.ok.bsz z)) (Yy _)
  ·rcases X_.mp (I.stkSub b hb2) with z | z
   ·exact(hf b hb).2.1 z
   ·exact(hf b hb).2.2.1 z
 refine⟨ok,rfl,I.bare,?_,⟨_,hns,λi x v h1 h2 h3=>?_⟩,λx c e=>?_,?_,λx c e=>?_,λp hp=>absurd (show p∈([]:List (Addr×Obj)) from hp) (by simp),?_,?_⟩
 ·exact Un.laid hk (No _) (fr _ (No _))
 ·obtain⟨j,e1,e2⟩:=PC h2
  obtain⟨c1,c2,c3⟩:=LG O.cap h1 e1
  obtain⟨m,_,hl⟩:=I.loc
  obtain⟨u,r,l⟩:=hl j x v c2 e2 (.inr c3)
  refine⟨u,r,.inr ⟨CA c1,?_⟩⟩
  rcases l with ⟨l1,_⟩ | ⟨_,c,l2,l3⟩
  ·have l1':X.env.scope.names.lookup x=some .local:=l1
   rcases c3 with c3 | c3 <;> (rw [l1'] at c3; cases c3)
  ·obtain⟨c',e'⟩:=hcl2 x (PySem.mem_of_lookup c1)
   have:c'=c:=TW ((hcl x c' e').symm.trans l2)
   subst this
   obtain⟨oc,hoc,hocd⟩:=id l3
   exact⟨c',e',oc,hk _ _ hoc,hocd⟩
 ·obtain⟨v,oc,hoc,hocd⟩:=I.cell x c (hcl x c e)
  exact⟨v,oc,hk _ _ hoc,hocd⟩
 ·show BB H s.heap.objs.size (.lst []) (s.heap.objs.size+1)=none
  rw [AT (Nat.succ_ne_self _)]
  exact fr _ (Zb _)
 ·show BB H s.heap.objs.size (.lst []) c=none
  rw [AT (YE (cellLt x c e))]
  exact I.freeC x c (hcl x c e)
 ·refine I.hok.laid hk (No _) ?_
  obtain⟨n,e⟩:=hD
  exact⟨YB _,[],n,.nil,e⟩
 ·unfold Bx
  show (js.map _).length=N'.length
  rw [Db]
  exact El O.cap
theorem Un.but{fs ex:List Addr}{H H1:Hp}{h h1 h':Heap}{C:Addr}(u:Un fs ex H H1 h h1)(hC:h.get? C=none)(hs:∀b,b≠C->h'.get? b=h1.get? b):Un fs ex H H1 h h':=by
 have ne:∀{b:Addr} {o:Obj},h.get? b=some o->b≠C:=λ{b o} e z=>by rw [z,hC] at e; cases e
 refine⟨λb o e n h1 h2=>(hs b (ne e)).trans (u.keep b o e n h1 h2),λb o e n h1 h2=>?_,u.free,λb o e h1=>?_,u.tups,u.frzs,u.tbls⟩
 ·obtain⟨sl,q⟩:=u.slot b o e n h1 h2
  exact⟨sl,(hs b (ne e)).trans q⟩
 ·obtain⟨o',q⟩:=u.there b o e h1
  exact⟨o',(hs b (ne e)).trans q⟩
theorem Ij{sc:Scope}{N':List Str}{cl:List (Str×Addr)}{C:Addr}{fp:List Addr}{pins':List (Addr×Obj)}{σ':St}{H':Hp}{s':Shared}{h':Heap}(I:Inv X pins σ H s)(hf:∀b∈fp,JG X pins H b)(hC:s.heap.objs.size<=C)
  (J:Inv (A2 X sc N' cl C s H fp) pins' σ' H' s') (hs:∀b,b≠C->h'.get? b=s'.heap.get? b):Inv X pins σ H' { s' with heap:=h' }:=by
 have nC:s.heap.get? C=none:=by
  cases e:s.heap.get? C with
  | none=>rfl
  | some o=>exact absurd (Tk e) (Nat.not_lt.mpr hC)
 have hC':H' C=none:=J.free
 refine I.call' (s':={ s' with heap:=h' }) (ch:=fp) J.os (Un.but J.base nC hs) (λa o e=>?_) J.bare λb hb=>?_
 ·exact(J.hok a o e).stay (λb u hb q=>(hs b (λz=>by
   rw [z] at hb
   rcases hb with z2 | z2
   ·rw [← z2,hC'] at e; cases e
   ·rw [hC'] at z2; cases z2)).trans q) (λ_ q=>q) λ_ _ q=>q
 ·obtain⟨f0,f1,f2,f3,f4,f5⟩:=hf b hb
  exact⟨f3,f1,f4,f5⟩
end
noncomputable def WP(X:Cx)(ifs:List Expr)(t:TT):Prop :=
 ∀(pins:List (Addr×Obj)) (s:Shared) (σ:St) (H:Hp) (Q:Bool->Hp->Prop),Inv X pins σ H s->t σ H Q ->
  wpAny (model X.prog X.w) X.A (forIn ifs true λc r=>if r=true then do let ok ← isTrue c X.env (eval c X.env); pure (ZE ok) else pure (ZE r)) (TP X pins σ Q) X.xe s
noncomputable def Ws:TT:=λ_ H Q=>Q true H
theorem Nu{X:Cx}:WP X [] Ws:=λpins s σ H Q I h=>wpAny_tests_nil ⟨H,I,h⟩
theorem SJ{X:Cx}{c:Expr}{t:TT}(h:PT X c t):WP X [c] t:=λpins s σ H Q I q=>wpAny_tests_one (h pins s σ H Q I q)
noncomputable def QD(X:Cx)(sc:Scope)(N':List Str)(js:List (Option Nat))(tg elt:Expr)(ifs:List Expr)(wi:TI):TE:=λσ H Q=>wi σ H λJ H1=>∀l,H1 l=none->X.K.lookup l=none->∀cl C s H0 fp,∃(g:TG) (tt:TT) (te:TE) (W:Nat->Nat->St->Hp->Prop),
 PG (A2 X sc N' cl C s H0 fp) tg g/\WP (A2 X sc N' cl C s H0 fp) ifs tt/\PE (A2 X sc N' cl C s H0 fp) elt te/\(∃m,W 0 m (Bx js σ) (BB H1 l (.lst [])))/\∀i m σ' H',W i m σ' H' ->
 (J.stop i H'/\Q (.ref l) H')\/(J.go i H'/\∀x H2,J.yld i H' x H2->g x σ' H2 λσ3 H3=>tt σ3 H3 λb H4=>if b=true then te σ3 H4 λy H5=>∃ys,H5 l=some (.lst ys)/\ys.length<sizeLine/\∃m',m'<m/\W (i+1) m' σ3 (BB H5 l (.lst (ys++[y]))) else ∃m',m'<m/\W (i+1) m' σ3 H4)
section
variable {X:Cx}{tg elt iter:Expr}{ifs:List Expr}{sc:Scope}{pos:Pos}{N':List Str}{js:List (Option Nat)}{wi:TI}{g:TG}{tt:TT}{te:TE}
theorem J1{pins:List (Addr×Obj)}{σ:St}{H:Hp}{s:Shared}{cl:List (Str×Addr)}{C l it:Addr}{fp:List Addr}{tn:Nat->Heap->Prop}{J:It}{s3:Shared}{Q:VK}{R:Result->Shared->Prop}{W:Nat->Nat->St->Hp->Prop}{m0:Nat}{σ0:St}{H0:Hp}
  (I:Inv X pins σ H s) (hf:∀b∈fp,JG X pins H b) (hlt:∀b∈fp,b<s.heap.objs.size) (hC:s.heap.objs.size<=C)
  (T:Turn X.prog X.w X.K tg J fp it tn)
  (hg:PG (A2 X sc N' cl C s H fp) tg g) (ht:WP (A2 X sc N' cl C s H fp) ifs tt) (he:PE (A2 X sc N' cl C s H fp) elt te)
  (hW:∀i m σ' H',W i m σ' H' ->
   (J.stop i H'/\Q (.ref l) H')\/(J.go i H'/\∀x H2,J.yld i H' x H2->g x σ' H2 λσ3 H3=>tt σ3 H3 λb H4=>if b=true then te σ3 H4 λy H5=>∃ys,H5 l=some (.lst ys)/\ys.length<sizeLine/\∃m',m'<m/\W (i+1) m' σ3 (BB H5 l (.lst (ys++[y]))) else ∃m',m'<m/\W (i+1) m' σ3 H4))
  (hR:∀σ' H' s',Inv (A2 X sc N' cl C s H fp) [] σ' H' s'->Q (.ref l) H'->R (.ok .next) s')
  (I3:Inv (A2 X sc N' cl C s H fp) [] σ0 H0 s3) (t3:tn 0 s3.heap) (f3:∀b∈fp,H0 b=none) (w0:W 0 m0 σ0 H0) :
  codeAny (model X.prog X.w) X.A (.compLoop (.ListComp elt [⟨tg,iter,ifs,0⟩] sc pos) 0 (.ref it) (.ref l) (compEnvC sc cl C X.env)) R s3:=by
 have stat:∀{H':Hp},(∀b∈fp,H' b=none)->∀b∈fp,JG (A2 X sc N' cl C s H fp) [] H' b:=λhn b hb=>by
  have q:=I3.ok.exf b hb
  refine⟨hn b hb,q.1,I3.ok.exfs b hb,.inl hb,q.2,λp hp=>absurd (show p∈([]:List (Addr×Obj)) from hp) (by simp)⟩
 refine LD (λn s'=>∃i σ' H',Inv (A2 X sc N' cl C s H fp) [] σ' H' s'/\tn i s'.heap/\(∀b∈fp,H' b=none)/\W i n σ' H') ?_ m0 ⟨0,σ0,H0,I3,t3,f3,w0⟩
 rintro n s4 ⟨i,σ4,H4,I4,st4,fr4,w4⟩
 rcases hW i n σ4 H4 w4 with ⟨stop,qn⟩ | ⟨go,step⟩
 ·refine BX (T.done (A2 X sc N' cl C s H fp) rfl rfl rfl rfl i [] s4 σ4 H4 (λ_ _=>False) I4 (stat fr4) st4 stop) λr s5 ⟨hr,I5⟩=>?_
  subst hr
  exact hR σ4 H4 s5 I5 qn
 ·refine BX (T.item (A2 X sc N' cl C s H fp) rfl rfl rfl rfl i [] s4 σ4 H4 (λ_ _=>False) I4 (stat fr4) st4 go) λr s5 ⟨u,hr,h5⟩=>?_
  subst hr
  refine BX h5 λ_ s6 ⟨x,H6,I6,r6,y6,st6,fr6⟩=>?_
  have I6':=I6.pinned (stat fr6) (T.obj _ _ st6)
  refine BX (hg _ s6 σ4 H6 x u _ I6' r6 (step x H6 y6)) λ_ s7 ⟨σ7,H7,I7,q7⟩=>?_
  have again:∀{σ9:St} {H9:Hp} {s9:Shared} {m':Nat},Inv (A2 X sc N' cl C s H fp) ([]++IK fp s6.heap) σ9 H9 s9->m'<n->W (i+1) m' σ9 H9->∃m,m<n/\∃i σ' H',Inv (A2 X sc N' cl C s H fp) [] σ' H' s9/\tn i s9.heap/\(∀b∈fp,H' b=none)/\W i m σ' H':=λ{σ9 H9 s9 m'} I9 hm w9=>by
   refine⟨m',hm,i+1,σ9,H9,I9.unpinned,T.keep _ _ _ st6 λb hb o e=>(I9.pin (b,o) (YC _ (YC _ (Dt hb e)))).1,λb hb=>?_,w9⟩
   obtain⟨o,e,d⟩:=T.obj _ _ st6 b hb
   exact(I9.pin (b,o) (YC _ (YC _ (Dt hb e)))).2.1
  refine BX (ht _ s7 σ7 H7 _ I7 q7) λok s8 ⟨H8,I8,q8⟩=>?_
  cases ok with
  | false =>
   have q8':∃m',m'<n/\W (i+1) m' σ7 H8:=q8
   obtain⟨m',hm,w8⟩:=q8'
   show ∃m,m<n/\_
   exact again I8 hm w8
  | true =>
   refine BX (he _ s8 σ7 H8 _ I8 q8) λy s9 ⟨yv,H9,I9,ry,q9⟩=>?_
   obtain⟨ys,hl,hz,m',hm,w9⟩:=q9
   refine BX (O7 (X:=A2 X sc N' cl C s H fp) _ s9 σ7 H9 (.ref l) [yv] (.ref l) [y] (λv H'=>v=.non/\H'=BB H9 l (.lst (ys++[yv]))) I9 rfl (.cons ry .nil) ⟨l,ys,yv,rfl,rfl,hl,hz,rfl,rfl⟩) λ_ sa ⟨v,Ha,Ia,_,_,eH⟩=>?_
   subst eH
   exact again Ia hm w9
theorem SM(hc:X.calm=true)(N':List Str)(js:List (Option Nat))(hi:PI X tg iter wi)
  (hB:Iv sc X.env.scope X.N N' js=true)
  (hs:autoParam (∀x,foldedSetIterable iter X.env x=pure x) zau2._auto_1) :
  PE X (.ListComp elt [⟨tg,iter,ifs,0⟩] sc pos) (QD X sc N' js tg elt ifs wi):=by
 intro pins s σ H Q I h
 have O:CompOk X sc N' js:=CompOk.of hB
 obtain⟨cl,hclos,hcl,hcl2⟩:=Iw (scope:=sc) (env:=X.env) λx hx=>I.ok.has x (O.free x hx)
 rw [eval_ListComp]
 refine wpAny_comprehension_free (use:=none) rfl hs hclos O.kind O.names (BX (hi pins s σ H _ I h) λv s1 h1=>BX h1 λitv s2 h2=>?_)
 obtain⟨it,fp,tn,J,H2,e,I2,T,st2,f2,hq⟩:=h2
 subst e
 have kfree:X.K.lookup s2.heap.objs.size=none:=by
  cases q:X.K.lookup s2.heap.objs.size with
  | none=>rfl
  | some o=>exact absurd (Tk (I2.kIn _ _ q)) (Yy _)
 obtain⟨g,tt,te,W,hg,ht,he,⟨m0,w0⟩,hW⟩:=hq s2.heap.objs.size (I2.hok.fresh (No _)) kfree cl (s2.heap.objs.size+1) s2 H2 fp
 refine YZ (wpAny_newFunctionEnv O.cell (by intro y hy; simp at hy) (λh₁ hns₁ hsb₁=>?_) O.kind)
 dsimp only at hns₁ hsb₁ ⊢
 generalize hH2:s2.heap.push { cls:=.type "list",dict:=none,data:=.seq ([]:List Value).toArray }=Hh at hns₁ hsb₁ ⊢
 have hCe:Hh.objs.size=s2.heap.objs.size+1:=by rw [← hH2,Zc]
 have hlt:∀b∈fp,b<s2.heap.objs.size:=λb hb=>by
  obtain⟨o,e,_⟩:=T.obj _ _ st2 b hb
  exact Tk e
 have old:∀b o,s2.heap.get? b=some o->h₁.get? b=some o:=λb o e=>hsb₁.extBut b o (by rw [hCe]; exact YE (bN (Tk e))) (Ev _ (hH2▸Ev _ e))
 have hD:∃n,h₁.get? s2.heap.objs.size=some { cls:=.type "list",data:=.seq #[] n }:=⟨_,hsb₁.extBut _ _ (by rw [hCe]; exact YE (Nat.lt_succ_self _)) (Ev _ (hH2▸UF _ rfl))⟩
 have I3:∀tk,Inv (A2 X sc N' cl (s2.heap.objs.size+1) s2 H2 fp) [] (Bx js σ) (BB H2 s2.heap.objs.size (.lst [])) { s2 with heap:=h₁,toks:=tk }:=λtk =>
  ME I2 hc O hcl hcl2 f2 (λb hb=>let ⟨o,e,_⟩:=T.obj _ _ st2 b hb; ⟨o,e⟩) (by rw [← hCe]; exact hns₁) old hD
 have st3:tn 0 h₁:=T.keep _ _ _ st2 λb hb o e=>old b o e
 have fr3:∀b∈fp,BB H2 s2.heap.objs.size (.lst []) b=none:=λb hb=>by
  rw [AT (YE (hlt b hb))]
  exact(f2 b hb).1
 have loop:∀tk,codeAny (model X.prog X.w) X.A (.compLoop (.ListComp elt [⟨tg,iter,ifs,0⟩] sc pos) 0 (.ref it) (.ref s2.heap.objs.size) (compEnvC sc cl (s2.heap.objs.size+1) X.env))
   (compPost (model X.prog X.w) X.A X.xe none (EP X pins σ Q) (.ref s2.heap.objs.size) (s2.heap.objs.size+1)) { s2 with heap:=h₁,toks:=tk }:=λtk=>by
  refine J1 (W:=W) (m0:=m0) (Q:=Q) I2 f2 hlt (Zb _) T hg ht he hW (λσ' H' s' J' q'=>?_) (I3 tk) st3 fr3 w0
  obtain⟨m,hn,_⟩:=J'.loc
  exact⟨m,hn,λh' hs'=>⟨.ref _,H',Ij I2 f2 (Zb _) J' λb hb=>hs'.2 b hb,rfl,q'⟩⟩
 rw [show (newEnv sc Hh.objs.size X.env.globals cl X.env.qual none .none (some X.env) builtinsNs).locals=s2.heap.objs.size+1 from hCe]
 show codeAny (model X.prog X.w) X.A (.compStart (.ListComp elt [⟨tg,iter,ifs,0⟩] sc pos) 0 (.ref it) (.ref s2.heap.objs.size) (compEnvC sc cl (s2.heap.objs.size+1) X.env)) _ _
 exact codeAny_compStart_list (loop _) (T.self _ 0 _ _ _ st3 (loop _))
end
end L2
namespace L2
open PySem
structure Xx (B:Heap) (l:List Env) (a C:Addr) (dx:Option Addr) (h:Heap):Prop where
 stays:B.StaysIn h
 new:B.get? a=none
 frames:h.FunFrames B l
 obj:∃vs sl tb,h.get? a=some ⟨.ref C,dx,.fields vs,sl⟩/\vs[2]?=some .none/\vs[1]?=some tb/\(tb=.none\/∃T oT ts,tb=.ref T/\B.get? T=none/\T≠a/\h.get? T=some oT/\oT.data=.fields ts/\3<ts.size)
section
variable {M:Model}{A:Around}{E:Value->Shared->Prop}{s:Shared}{B:Heap}{env:Env}{outer l:List Env}{L a C:Addr}{dx:Option Addr}{Q:Unit->Shared->Prop}
end
section
variable {prog:Program}{w:World}{A:Around}{E:Value->Shared->Prop}{R:Result->Shared->Prop}{h:Heap}{g:Array GenState}{d:Drawn}{t:Nat}{os:OsState}
variable {nm q:Str}{C N f:Addr}{bs bm bmB:List Value}{hdct:Bool}{sn:List Str}{sub:List Value}{ab:Bool}{col:Option Bool}{dd:Option Addr}{k0 k1 k2 k3 k5:Option Value}{B newId initId:String}{of:Obj}
end
noncomputable def WJ:List Value:=[.type "ValueError",.type "Exception",.type "BaseException",.type "object"]
structure XC (K:Frag) (nm:Str) (C U:Addr):Prop where
 obj:∃q N bs sn sub ab col dd k0 k1 k2 k3 k5,K.lookup C=some (excClassObj nm q C N bs (.ref U::WJ) true sn sub ab col dd k0 k1 k2 k3 k5 "ValueError.__new__")
 up:∃q N bs sn sub ab col dd k0 k1 k2 k3 k5 hd,K.lookup U=some (excClassObj "ThinError" q U N bs WJ hd sn sub ab col dd k0 k1 k2 k3 k5 "ValueError.__new__")
 kp:keepIn K (.ref C)=true
 ga:PySem.W.findIn K (.ref C) "__getattribute__"=some (some (.builtin "BaseException.__getattribute__"))
 gt:PySem.W.findIn K (.ref C) "__getattr__"=some none
 sa:PySem.W.findIn K (.ref C) "__setattr__"=some (some (.builtin "object.__setattr__"))
 at_:nsIn K mainGlobals nm=some (some (.ref C))
 atU:nsIn K mainGlobals "ThinError"=some (some (.ref U))
 ca:PySem.W.findIn K (.ref C) "__class__"=some (some (.builtin "object.__class__"))
 nw:PySem.W.findIn K (.ref C) "word"=some none
 nn:PySem.W.findIn K (.ref C) "number"=some none
 nr:PySem.W.findIn K (.ref C) "row"=some none
section
variable {prog:Program}{w:World}{A:Around}{E:Value->Shared->Prop}{s:Shared}{K:Frag}{nm name:Str}{x C U:Addr}{v:Value}{R:Result->Shared->Prop}
end
section
variable {M:Model}{prog:Program}{w:World}{A:Around}{E:Value->Shared->Prop}{R:Result->Shared->Prop}{h:Heap}{g:Array GenState}{d:Drawn}{t:Nat}{os:OsState}
variable {K:Frag}{nm q:Str}{C U N f:Addr}{bs:List Value}{sn:List Str}{sub:List Value}{ab:Bool}{col:Option Bool}{dd:Option Addr}{k0 k1 k2 k3 k5:Option Value}{rest:List Value}
end
section
variable {prog:Program}{w:World}{A:Around}{E:Value->Shared->Prop}{s:Shared}
end
end L2
namespace L2
open PySem PySem.Spec PyProof.Rows
structure X3 (P:Program) (w:World) (outer:List Env) (H:Hp) (s:Shared) (a C:Addr) (dx:Option Addr) (B:Heap) (H':Hp) (s':Shared):Prop where
 os:s'.os=s.os
 bare:AllBare s'.gens
 un:Un (PR outer) [] H H' s.heap s'.heap
 hok:HOk P w H' B
 all:∀b o o',s.heap.get? b=some o->b∉PR outer->s'.heap.get? b=some o'->B.get? b=some o'
 fly:Xx B outer a C dx s'.heap
 new:s.heap.objs.size<=a
 free:H' a=none
section
variable {P:Program}{w:World}{outer:List Env}{H H':Hp}{s s':Shared}{a C:Addr}{dx:Option Addr}{B h':Heap}
end
section
variable {X:Cx}{pins:List (Addr×Obj)}{σ:St}{H H':Hp}{s s':Shared}{a C:Addr}{dx:Option Addr}{B h':Heap}
end
noncomputable def XF(d:Addr)(fs:List (Str×V))(h:Heap):Prop:=∃mA,h.Ns1 d mA/\(∀f,RelO (fs.lookup f) (mA f))/\PySem.Within mA (fs.map (·.1))/\fs.length<=1000
section
variable {X:Cx}{pins:List (Addr×Obj)}{σ:St}{H:Hp}{s:Shared}{a C U:Addr}{nm f:Str}{A:Around}{E:Value->Shared->Prop}
end
section
variable {X:Cx}{o value:Expr}{nm f:Str}{C U:Addr}{pos pos':Pos}{ta tv:TE}
end
section
variable {X:Cx}{pins:List (Addr×Obj)}{σ:St}{H H1:Hp}{s s1:Shared}{a C U:Addr}{dx:Option Addr}{nm:Str}
end
section
variable {X:Cx}{pins:List (Addr×Obj)}{σ:St}{H:Hp}{s:Shared}{C U:Addr}{nm:Str}{R:XK}
end
section
variable {X:Cx}{pins:List (Addr×Obj)}{σ:St}{H:Hp}{s:Shared}{C U f:Addr}{nm k1 k2 p0 p1 p2:Str}{R:XK}{E:Value->Shared->Prop}{k:Nat}{fd:FuncData}{us:List Value}{v1 v2:V}{vs:List V}
end
section
variable {X:Cx}{st:Stmt}{rest:List Stmt}{t u:TSX}{te:TEX}{e:Expr}{es:List Expr}{ta:TA}{x nm k1 k2 p0 p1 p2:Str}{p pos cpos:Pos}{C U f:Addr}{k:Nat}{fd:FuncData}{ps:List Str}{sp:Sp}
end
section
variable {X:Cx}{A:Around}{pins:List (Addr×Obj)}{σ:St}{H:Hp}{s:Shared}
end
noncomputable def XT(C:Addr)(dx:Option Addr)(a:Addr)(u:HO):Prop:=∃vs sl,u=.frz ⟨.ref C,dx,.fields vs,sl⟩ (.own a)/\vs[2]?=some .none
section
variable {X:Cx}{i:Nat}{n x:Str}{np pos:Pos}{b₀:Stmt}{suite body:List Stmt}{rest:List ExceptHandler}{Dc U:Addr}{nm:Str}{th:TH}{ts:Addr->TS}{tb:TSX}
end
end L2
namespace Dp
open PySem PySem.Spec PyProof.Rows L2
inductive D where
 | non | bl (b:Bool) | int (i:Int) | str (x:Str) | tup (xs:List D) | lst (xs:List D) | dic (ks:List Key) (xs:List D) | fdi (ks:List Key) (xs:List D) | dit (ks:List (List Key)) (xs:List D)
 deriving Inhabited
noncomputable def NdT(M:Addr->Prop)(H:Hp)(a:Addr)(vs:List V):Prop:=H a=some (.tup vs)
noncomputable def NdL(M:Addr->Prop)(H:Hp)(a:Addr)(vs:List V):Prop:=¬M a/\H a=some (.lst vs)
noncomputable def NdD(M:Addr->Prop)(H:Hp)(a:Addr)(ks:List Key)(vs:List V):Prop:=¬M a/\H a=some (.dK (ks.zip vs))
noncomputable def NdF(M:Addr->Prop)(H:Hp)(a:Addr)(ks:List Key)(vs:List V):Prop:=∃o,¬M a/\H a=some (.frz o (.dK (ks.zip vs)))
noncomputable def NdU(M:Addr->Prop)(H:Hp)(a:Addr)(ks:List (List Key))(vs:List V):Prop:=¬M a/\H a=some (.dT (ks.zip vs))
mutual
noncomputable def At(K:Frag)(M:Addr->Prop)(H:Hp):D->V->Prop
 | .non,v=>v=.non
 | .bl b,v=>v=.bl b
 | .int i,v=>v=.int i
 | .str x,v=>v=.str x/\x.length<=sizeLine
 | .tup ds,v=>∃a vs,v=.ref a/\NdT M H a vs/\Ats K M H ds vs
 | .lst ds,v=>∃a vs,v=.ref a/\NdL M H a vs/\Ats K M H ds vs
 | .dic ks ds,v=>∃a vs,v=.ref a/\NdD M H a ks vs/\ks.length=ds.length/\Ats K M H ds vs
 | .fdi ks ds,v=>∃a vs,v=.ref a/\NdF M H a ks vs/\ks.length=ds.length/\Ats K M H ds vs
 | .dit ks ds,v=>∃a vs,v=.ref a/\NdU M H a ks vs/\ks.length=ds.length/\Ats K M H ds vs
noncomputable def Ats(K:Frag)(M:Addr->Prop)(H:Hp):List D->List V->Prop
 | [],vs=>vs=[]
 | d::ds,vs=>∃v r,vs=v::r/\At K M H d v/\Ats K M H ds r
end
section
variable {K:Frag}{M M':Addr->Prop}{H H':Hp}{a:Addr}{vs:List V}{ks:List Key}
theorem NdT.sq(h:NdT M H a vs):SqT K H a vs:=.inl (.inl h)
theorem NdL.sq(h:NdL M H a vs):SqL K H a vs:=.inl (.inl h.2)
noncomputable def Pres(M:Addr->Prop)(H:Hp)(M':Addr->Prop)(H':Hp):Prop:=(∀b o,H b=some o->¬M b->H' b=some o)/\(∀b,M' b->M b\/H b=none)/\∀b vs,H b=some (.tup vs)->H' b=some (.tup vs)
theorem Pres.nd{u:HO}(p:Pres M H M' H')(n:¬M a)(h:H a=some u):¬M' a/\H' a=some u:=by
 refine⟨λz=>?_,p.1 _ _ h n⟩
 rcases p.2.1 a z with z | z
 ·exact n z
 ·rw [z] at h; cases h
theorem NdT.pres(p:Pres M H M' H')(h:NdT M H a vs):NdT M' H' a vs:=p.2.2 _ _ h
theorem NdL.pres(p:Pres M H M' H')(h:NdL M H a vs):NdL M' H' a vs:=p.nd h.1 h.2
theorem NdD.pres(p:Pres M H M' H')(h:NdD M H a ks vs):NdD M' H' a ks vs:=p.nd h.1 h.2
theorem NdU.pres{ks:List (List Key)}(p:Pres M H M' H')(h:NdU M H a ks vs):NdU M' H' a ks vs:=p.nd h.1 h.2
theorem NdF.pres(p:Pres M H M' H')(h:NdF M H a ks vs):NdF M' H' a ks vs:=let ⟨o,h1,h2⟩:=h; ⟨o,p.nd h1 h2⟩
mutual
theorem At.pres(p:Pres M H M' H'):∀{d:D} {v:V},At K M H d v->At K M' H' d v
 | .non,v,h=>h
 | .bl b,v,h=>h
 | .int i,v,h=>h
 | .str x,v,h=>h
 | .tup ds,v,h=>by
  obtain⟨a,vs,e,hn,hs⟩:=h
  exact⟨a,vs,e,hn.pres p,Ats.pres p hs⟩
 | .lst ds,v,h=>by
  obtain⟨a,vs,e,hn,hs⟩:=h
  exact⟨a,vs,e,hn.pres p,Ats.pres p hs⟩
 | .dic ks ds,v,h=>by
  obtain⟨a,vs,e,hn,hl,hs⟩:=h
  exact⟨a,vs,e,hn.pres p,hl,Ats.pres p hs⟩
 | .fdi ks ds,v,h=>by
  obtain⟨a,vs,e,hn,hl,hs⟩:=h
  exact⟨a,vs,e,hn.pres p,hl,Ats.pres p hs⟩
 | .dit ks ds,v,h=>by
  obtain⟨a,vs,e,hn,hl,hs⟩:=h
  exact⟨a,vs,e,hn.pres p,hl,Ats.pres p hs⟩
theorem Ats.pres(p:Pres M H M' H'):∀{ds:List D} {vs:List V},Ats K M H ds vs->Ats K M' H' ds vs
 | [],vs,h=>h
 | d::ds,vs,h=>by
  obtain⟨v,r,e,h1,h2⟩:=h
  exact⟨v,r,e,At.pres p h1,Ats.pres p h2⟩
end
theorem Pres.trans{M1 M2 M3:Addr->Prop}{H1 H2 H3:Hp}(p:Pres M1 H1 M2 H2)(q:Pres M2 H2 M3 H3):Pres M1 H1 M3 H3:=by
 refine⟨λb o e n=>?_,λb z=>?_,λb vs e=>q.2.2 b vs (p.2.2 b vs e)⟩
 ·refine q.1 b o (p.1 b o e n) λz=>?_
  rcases p.2.1 b z with z | z
  ·exact n z
  ·rw [z] at e; cases e
 ·rcases q.2.1 b z with z | z
  ·exact p.2.1 b z
  ·cases e:H1 b with
   | none=>exact .inr rfl
   | some o =>
    by_cases n:M1 b
    ·exact .inl n
    ·rw [p.1 b o e n] at z; cases z
theorem Pres.refl(M:Addr->Prop)(H:Hp):Pres M H M H:=⟨λ_ _ e _=>e,λ_ z=>.inl z,λ_ _ e=>e⟩
theorem Pres.less(h:∀b,M' b->M b):Pres M H M' H:=⟨λ_ _ e _=>e,λb z=>.inl (h b z),λ_ _ e=>e⟩
theorem Ats.length:∀{ds:List D} {vs:List V},Ats K M H ds vs->vs.length=ds.length
 | [],vs,h=>by cases h; rfl
 | d::ds,vs,h=>by
  obtain⟨v,r,e,h1,h2⟩:=h
  subst e
  rw [X5,X5,Ats.length h2]
theorem Ats.get:∀{ds:List D} {vs:List V} {i:Nat} {d:D},Ats K M H ds vs->ds[i]?=some d->∃v,vs[i]?=some v/\At K M H d v
 | [],vs,i,d,h,e=>by simp at e
 | d0::ds,vs,0,d,h,e=>by
  obtain⟨v,r,e1,h1,h2⟩:=h
  simp at e
  subst e e1
  exact⟨v,rfl,h1⟩
 | d0::ds,vs,i+1,d,h,e=>by
  obtain⟨v,r,e1,h1,h2⟩:=h
  subst e1
  obtain⟨u,e2,h3⟩:=Ats.get (i:=i) (d:=d) h2 (by simpa using e)
  exact⟨u,by simpa using e2,h3⟩
theorem Ats.append:∀{ds es:List D} {vs us:List V},Ats K M H ds vs->Ats K M H es us->Ats K M H (ds++es) (vs++us)
 | [],es,vs,us,h,g=>by cases h; exact g
 | d::ds,es,vs,us,h,g=>by
  obtain⟨v,r,e,h1,h2⟩:=h
  subst e
  exact⟨v,r++us,rfl,h1,Ats.append h2 g⟩
theorem Ats.drop:∀{ds:List D} {vs:List V} (n:Nat),Ats K M H ds vs->Ats K M H (ds.drop n) (vs.drop n)
 | ds,vs,0,h=>h
 | [],vs,n+1,h=>by cases h; exact rfl
 | d::ds,vs,n+1,h=>by
  obtain⟨v,r,e,h1,h2⟩:=h
  subst e
  exact Ats.drop n h2
theorem Ats.take:∀{ds:List D} {vs:List V} (n:Nat),Ats K M H ds vs->Ats K M H (ds.take n) (vs.take n)
 | ds,vs,0,h=>rfl
 | [],vs,n+1,h=>by cases h; exact rfl
 | d::ds,vs,n+1,h=>by
  obtain⟨v,r,e,h1,h2⟩:=h
  subst e
  exact⟨v,r.take n,rfl,h1,Ats.take n h2⟩
theorem Ats.one{d:D}{v:V}(h:At K M H d v):Ats K M H [d] [v]:=⟨v,[],rfl,h,rfl⟩
end
inductive Kd where
 | sh | tp | fr
noncomputable def Tops(K:Frag)(M:Addr->Prop)(H:Hp)(a:Addr):D->Prop
 | .lst ds=>∃vs,H a=some (.lst vs)/\Ats K M H ds vs
 | .dic ks ds=>∃vs,H a=some (.dK (ks.zip vs))/\ks.length=ds.length/\Ats K M H ds vs
 | .dit ks ds=>∃vs,H a=some (.dT (ks.zip vs))/\ks.length=ds.length/\Ats K M H ds vs
 | _=>False
theorem Tops.notT{K:Frag}{M:Addr->Prop}{H:Hp}{a:Addr}{d:D}(h:Tops K M H a d){vs:List V}:H a≠some (.tup vs):=λq=>by
 cases d with
 | lst ds=>obtain⟨us,e,_⟩:=h; rw [e] at q; cases q
 | dic ks ds=>obtain⟨us,e,_⟩:=h; rw [e] at q; cases q
 | dit ks ds=>obtain⟨us,e,_⟩:=h; rw [e] at q; cases q
 | _=>exact h.elim
theorem Tops.pres{K:Frag}{M M':Addr->Prop}{H H':Hp}{a:Addr}{d:D}(h:Tops K M H a d)(p:Pres M H M' H')(e:∀o,H a=some o->H' a=some o):Tops K M' H' a d:=by
 cases d with
 | lst ds=>obtain⟨vs,h1,h2⟩:=h; exact⟨vs,e _ h1,h2.pres p⟩
 | dic ks ds=>obtain⟨vs,h1,h2,h3⟩:=h; exact⟨vs,e _ h1,h2,h3.pres p⟩
 | dit ks ds=>obtain⟨vs,h1,h2,h3⟩:=h; exact⟨vs,e _ h1,h2,h3.pres p⟩
 | _=>exact(show False from h).elim
theorem Tops.at{K:Frag}{M:Addr->Prop}{H:Hp}{a:Addr}{d:D}(h:Tops K M H a d)(n:¬M a):At K M H d (.ref a):=by
 cases d with
 | lst ds=>obtain⟨vs,h1,h2⟩:=h; exact⟨a,vs,rfl,⟨n,h1⟩,h2⟩
 | dic ks ds=>obtain⟨vs,h1,h2,h3⟩:=h; exact⟨a,vs,rfl,⟨n,h1⟩,h2,h3⟩
 | dit ks ds=>obtain⟨vs,h1,h2,h3⟩:=h; exact⟨a,vs,rfl,⟨n,h1⟩,h2,h3⟩
 | _=>exact(show False from h).elim
noncomputable def AtT(K:Frag)(U:Addr->Prop)(M:Addr->Prop)(H:Hp):D->V->Prop
 | .lst ds,v=>∃a vs,v=.ref a/\¬U a/\Rd H a (.lst vs)/\Ats K M H ds vs
 | .dic ks ds,v=>∃a vs,v=.ref a/\¬U a/\H a=some (.dK (ks.zip vs))/\ks.length=ds.length/\Ats K M H ds vs
 | .dit ks ds,v=>∃a vs,v=.ref a/\¬U a/\H a=some (.dT (ks.zip vs))/\ks.length=ds.length/\Ats K M H ds vs
 | d,v=>At K M H d v
theorem Tops.att{K:Frag}{U M:Addr->Prop}{H:Hp}{a:Addr}{d:D}(h:Tops K M H a d)(n:¬U a):AtT K U M H d (.ref a):=by
 cases d with
 | lst ds=>obtain⟨vs,h1,h2⟩:=h; exact⟨a,vs,rfl,n,.inl h1,h2⟩
 | dic ks ds=>obtain⟨vs,h1,h2,h3⟩:=h; exact⟨a,vs,rfl,n,h1,h2,h3⟩
 | dit ks ds=>obtain⟨vs,h1,h2,h3⟩:=h; exact⟨a,vs,rfl,n,h1,h2,h3⟩
 | _=>exact(show False from h).elim
noncomputable def VR(K:Frag)(U:Addr->Prop)(M:Addr->Prop)(H H':Hp):Kd->V->D->Prop
 | .sh,v,d=>At K M H' d v
 | .tp,v,d=>AtT K U M H' d v
 | .fr,v,d=>∃a,v=.ref a/\H a=none/\Tops K (λb=>M b\/b=a) H' a d
mutual
noncomputable def D6:D->Bool
 | .tup ds=>Bj ds
 | .lst ds=>Bj ds
 | .dic _ _=>false
 | .fdi _ _=>false
 | .dit _ _=>false
 | _=>true
noncomputable def Bj:List D->Bool
 | []=>true
 | d::ds=>D6 d&&Bj ds
end
structure Fd where
 a:Addr
 b:Addr
 t:Option (List Key×List D×List V)
noncomputable def WU(M:Addr->Prop)(H:Hp)(f:Fd)(n:Nat):Prop :=
 ∃(at_ rest:Int) (cells:List Int),H f.1=some (.lst [.ref f.2,.int at_,.int rest])/\f.2≠f.1/\NdL M H f.2 (cells.map V.int)/\cells.length<=63/\0<=at_/\at_+n<=2 ^ 60
noncomputable def T5(K:Frag)(M:Addr->Prop)(H:Hp)(a:Addr)(ks:List Key)(ds:List D)(vs:List V)(n:Nat):Prop:=∃r:Int,H a=some (.dK ((ks++[(YJ "room" : Key)]).zip (vs++[V.int r])))/\ks.length=ds.length/\Ats K M H ds vs/\(n:Int)<=r/\r<=100000/\Bj ds=true
noncomputable def FeedOk(K:Frag)(M:Addr->Prop)(H:Hp)(f:Fd)(n:Nat):Prop:=f.t=none/\WU M H f n\/∃ks ds vs,f.t=some (ks,ds,vs)/\T5 K M H f.1 ks ds vs n
noncomputable def FeedC(K:Frag)(F:Option Fd)(M:Addr->Prop)(H:Hp)(n:Nat):Prop:=∀f,F=some f->FeedOk K M H f n
noncomputable def Ext(U:Addr->Prop)(H H':Hp):Prop:=∀b o,H b=some o->∃o',H' b=some o'/\(¬U b->o'=o)/\∀vs,o=.tup vs->o'=o
theorem Ext.keep{U:Addr->Prop}{H H':Hp}(p:Ext U H H'){b:Addr}{o:HO}(e:H b=some o)(n:¬U b):H' b=some o:=by
 obtain⟨o',q,r,_⟩:=p b o e
 rw [q,r n]
theorem Ext.tup{U:Addr->Prop}{H H':Hp}(p:Ext U H H'){b:Addr}{vs:List V}(e:H b=some (.tup vs)):H' b=some (.tup vs):=by
 obtain⟨o',q,_,r⟩:=p b _ e
 rw [q,r vs rfl]
theorem Ext.free{U:Addr->Prop}{H H':Hp}(p:Ext U H H'){b:Addr}(e:H' b=none):H b=none:=by
 cases q:H b with
 | none=>rfl
 | some o =>
  obtain⟨o',z,_⟩:=p b o q
  rw [e] at z; cases z
theorem Ext.refl(U:Addr->Prop)(H:Hp):Ext U H H:=λ_ o e=>⟨o,e,λ_=>rfl,λ_ _=>rfl⟩
theorem Ext.trans{U:Addr->Prop}{H1 H2 H3:Hp}(p:Ext U H1 H2)(q:Ext U H2 H3):Ext U H1 H3:=λb o e=>by
 obtain⟨o',e1,r1,t1⟩:=p b o e
 obtain⟨o2,e2,r2,t2⟩:=q b o' e1
 exact⟨o2,e2,λn=>(r2 n).trans (r1 n),λvs z=>(t2 vs ((t1 vs z).trans z)).trans (t1 vs z)⟩
noncomputable def Grow(H H':Hp):Prop:=H'=H\/∃p o,H p=none/\H'=BB H p o
theorem Grow.all{H H':Hp}(g:Grow H H'):∀b o,H b=some o->H' b=some o:=by
 intro b o e
 rcases g with rfl | ⟨p,u,n,rfl⟩
 ·exact e
 ·rw [AT (A1 e n)]; exact e
theorem Grow.refl{H:Hp}:Grow H H:=.inl rfl
theorem Grow.ext{U:Addr->Prop}{H H':Hp}(g:Grow H H'):Ext U H H':=λb o e=>⟨o,g.all b o e,λ_=>rfl,λ_ _=>rfl⟩
theorem Grow.pres{M:Addr->Prop}{H H':Hp}(g:Grow H H'):Pres M H M H':=⟨λb o e _=>g.all b o e,λ_ z=>.inl z,λb vs e=>g.all b _ e⟩
theorem FeedOk.pres{K:Frag}{M M':Addr->Prop}{H H':Hp}{f:Fd}{n:Nat}(h:FeedOk K M H f n)(p:Pres M H M' H')(e:∀o,H f.1=some o->H' f.1=some o):FeedOk K M' H' f n:=by
 rcases h with ⟨t,a,r,cs,h1,h2,h3,h4⟩ | ⟨ks,ds,vs,t,r,h1,h2,h3,h4⟩
 ·exact .inl ⟨t,a,r,cs,e _ h1,h2,h3.pres p,h4⟩
 ·exact .inr ⟨ks,ds,vs,t,r,e _ h1,h2,h3.pres p,h4⟩
theorem FeedC.pres{K:Frag}{F:Option Fd}{M M':Addr->Prop}{H H':Hp}{n:Nat}(h:FeedC K F M H n)(p:Pres M H M' H')(e:∀f o,F=some f->H f.1=some o->H' f.1=some o):FeedC K F M' H' n:=λf hf=>(h f hf).pres p λo q=>e f o hf q
theorem FeedC.grow{K:Frag}{F:Option Fd}{M:Addr->Prop}{H H':Hp}{n:Nat}(h:FeedC K F M H n)(g:Grow H H'):FeedC K F M H' n:=h.pres g.pres λf o _ e=>g.all f.1 o e
theorem FeedC.more{K:Frag}{F:Option Fd}{M:Addr->Prop}{H:Hp}{n:Nat}(h:FeedC K F M H n)(a:Addr)(ha:∀f,F=some f->f.t=none->f.2≠a)(hw:∀f ks ds vs,F=some f->f.t=some (ks,ds,vs)->Ats K (λb=>M b\/b=a) H ds vs):FeedC K F (λb=>M b\/b=a) H n:=λf hf=>by
 rcases h f hf with ⟨t,x,r,cs,h1,h2,h3,h4⟩ | ⟨ks,ds,vs,t,r,h1,h2,h3,h4⟩
 ·exact .inl ⟨t,x,r,cs,h1,h2,⟨λz=>z.elim h3.1 (ha f hf t),h3.2⟩,h4⟩
 ·exact .inr ⟨ks,ds,vs,t,r,h1,h2,hw f ks ds vs hf t,h4⟩
noncomputable def AtX(K:Frag)(M:Addr->Prop)(H:Hp)(a:Addr)(nm:Str)(ks:List Str)(ds:List D):Prop:=∃C U dx u vs,XC K nm C U/\(¬M a/\H a=some u)/\XT C dx a u/\(dx=none/\ks=[]/\vs=[]\/∃d,dx=some d/\¬M d/\H d=some (.ext (XF d (ks.zip vs))))/\ks.length=ds.length/\Ats K M H ds vs
theorem AtX.pres{K:Frag}{M M':Addr->Prop}{H H':Hp}{a:Addr}{nm:Str}{ks:List Str}{ds:List D}(h:AtX K M H a nm ks ds)(p:Pres M H M' H'):AtX K M' H' a nm ks ds:=by
 obtain⟨C,U,dx,u,vs,c,⟨n,ha⟩,x,hd,hl,hs⟩:=h
 refine⟨C,U,dx,u,vs,c,p.nd n ha,x,?_,hl,hs.pres p⟩
 rcases hd with z | ⟨d,e1,n1,h1⟩
 ·exact .inl z
 ·exact .inr ⟨d,e1,p.nd n1 h1⟩
inductive Slot where
 | no | sh (d:D) | br (d:D) | fd | ow (d:D) | lt (a:Addr) (d:D) | ex (a:Addr) (nm:Str) (ks:List Str) (ds:List D) | wd (ks:List Key) (ds:List D)
noncomputable def Slot.owns:Slot->Bool
 | .ow _=>true
 | .lt _ _=>true
 | _=>false
noncomputable def SlotOk(K:Frag)(F:Option Fd)(U:Addr->Prop)(M:Addr->Prop)(H:Hp):Slot->Option V->Prop
 | .no,_=>True
 | .sh d,o=>∃v,o=some v/\At K M H d v
 | .br d,o=>∃v,o=some v/\AtT K U M H d v
 | .fd,o=>∃f,o=some (.ref f.1)/\F=some f/\f.t=none
 | .wd ks ds,o=>∃f vs,o=some (.ref f.1)/\F=some f/\f.t=some (ks,ds,vs)
 | .ow d,o=>∃a,o=some (.ref a)/\M a/\¬U a/\Tops K M H a d
 | .lt a d,o=>o=some (.ref a)/\M a/\¬U a/\Tops K M H a d
 | .ex a nm ks ds,o=>o=some (.ref a)/\AtX K M H a nm ks ds
structure Fm where
 M0:Addr->Prop
 F:Option Fd
 U:Addr->Prop
 V:Addr->Prop
 H0:Hp
 pins:List ((Addr->Prop)×Hp)
 kp:List (Addr×HO)
noncomputable def Apart(ρ:List Slot)(σ:L2.St):Prop:=∀(i j:Nat) (s t:Slot) (a:Addr),ρ[i]?=some s->s.owns=true->ρ[j]?=some t->t.owns=true->(σ[i]?).getD none=some (.ref a)->(σ[j]?).getD none=some (.ref a)->i=j
structure Rel (K:Frag) (C:Fm) (M:Addr->Prop) (H:Hp) (n:Nat) (ρ:List Slot) (σ:L2.St):Prop where
 len:ρ.length=σ.length
 sub:∀a,C.M0 a->M a
 dom:∀a,M a->∃o,H a=some o
 ext:Ext C.U C.H0 H
 fU:∀f,C.F=some f->C.U f.1
 uV:∀a,C.U a->C.V a
 vM:∀a,C.V a->M a
 feed:FeedC K C.F M H n
 sl:∀(i:Nat) (s:Slot),ρ[i]?=some s->SlotOk K C.F C.V M H s ((σ[i]?).getD none)
 pin:∀p∈C.pins,Pres p.1 p.2 M H
 br0:∀(i:Nat) (d:D) (a:Addr),ρ[i]?=some (.br d)->(σ[i]?).getD none=some (.ref a)->∃o,C.H0 a=some o
 new:∀(i:Nat) (s:Slot) (a:Addr),ρ[i]?=some s->s.owns=true->(σ[i]?).getD none=some (.ref a)->¬C.M0 a/\C.H0 a=none
 two:Apart ρ σ
 kept:∀p∈C.kp,H p.1=some p.2/\M p.1/\¬C.V p.1/\∀(i:Nat) (d:D),ρ[i]?=some (.ow d)->(σ[i]?).getD none≠some (.ref p.1)
section
variable {K:Frag}{C:Fm}{M:Addr->Prop}{H H':Hp}{n n':Nat}{ρ:List Slot}{σ:L2.St}{d:D}{v:V}{κ:Kd}
theorem Rel.pres(R:Rel K C M H n ρ σ)(e:Ext C.U H H'):Pres M H M H':=⟨λb o q nb=>e.keep q λz=>nb (R.vM b (R.uV b z)),λ_ z=>.inl z,λb vs q=>e.tup q⟩
theorem AtT.pres{U V':Addr->Prop}{M':Addr->Prop}(h:AtT K V' M H d v)(p:Pres M H M' H')(e:Ext U H H')(uV:∀a,U a->V' a):AtT K V' M' H' d v:=by
 cases d with
 | lst ds =>
  obtain⟨a,vs,e1,n1,hq,hs⟩:=h
  refine⟨a,vs,e1,n1,?_,hs.pres p⟩
  rcases hq with hq | ⟨o,hq⟩
  ·exact .inl (e.keep hq λz=>n1 (uV a z))
  ·exact .inr ⟨o,e.keep hq λz=>n1 (uV a z)⟩
 | dic ks ds =>
  obtain⟨a,vs,e1,n1,hq,hl,hs⟩:=h
  exact⟨a,vs,e1,n1,e.keep hq λz=>n1 (uV a z),hl,hs.pres p⟩
 | dit ks ds =>
  obtain⟨a,vs,e1,n1,hq,hl,hs⟩:=h
  exact⟨a,vs,e1,n1,e.keep hq λz=>n1 (uV a z),hl,hs.pres p⟩
 | non=>exact At.pres (K:=K) p (d:=.non) h
 | bl b=>exact At.pres (K:=K) p (d:=.bl b) h
 | int i=>exact At.pres (K:=K) p (d:=.int i) h
 | str x=>exact At.pres (K:=K) p (d:=.str x) h
 | tup ds=>exact At.pres (K:=K) p (d:=.tup ds) h
 | fdi ks ds=>exact At.pres (K:=K) p (d:=.fdi ks ds) h
theorem AtT.same{U V':Addr->Prop}{M':Addr->Prop}(h:AtT K U M H d v)(p:Pres M H M' H')(e:∀a o,v=.ref a->H a=some o->H' a=some o)(nv:∀a,v=.ref a->¬U a->¬V' a):AtT K V' M' H' d v:=by
 cases d with
 | lst ds =>
  obtain⟨a,vs,e1,n1,hq,hs⟩:=h
  refine⟨a,vs,e1,nv a e1 n1,?_,hs.pres p⟩
  rcases hq with hq | ⟨o,hq⟩
  ·exact .inl (e a _ e1 hq)
  ·exact .inr ⟨o,e a _ e1 hq⟩
 | dic ks ds =>
  obtain⟨a,vs,e1,n1,hq,hl,hs⟩:=h
  exact⟨a,vs,e1,nv a e1 n1,e a _ e1 hq,hl,hs.pres p⟩
 | dit ks ds =>
  obtain⟨a,vs,e1,n1,hq,hl,hs⟩:=h
  exact⟨a,vs,e1,nv a e1 n1,e a _ e1 hq,hl,hs.pres p⟩
 | non=>exact At.pres (K:=K) p (d:=.non) h
 | bl b=>exact At.pres (K:=K) p (d:=.bl b) h
 | int i=>exact At.pres (K:=K) p (d:=.int i) h
 | str x=>exact At.pres (K:=K) p (d:=.str x) h
 | tup ds=>exact At.pres (K:=K) p (d:=.tup ds) h
 | fdi ks ds=>exact At.pres (K:=K) p (d:=.fdi ks ds) h
theorem AtT.lies{U:Addr->Prop}{a:Addr}(h:AtT K U M H d (.ref a)):∃o,H a=some o:=by
 cases d with
 | lst ds =>
  obtain⟨b,vs,e,_,hq,_⟩:=h
  cases e
  rcases hq with hq | ⟨o,hq⟩
  ·exact⟨_,hq⟩
  ·exact⟨_,hq⟩
 | dic ks ds =>
  obtain⟨b,vs,e,_,hq,_⟩:=h
  cases e
  exact⟨_,hq⟩
 | dit ks ds =>
  obtain⟨b,vs,e,_,hq,_⟩:=h
  cases e
  exact⟨_,hq⟩
 | non=>cases (show V.ref a=.non from h)
 | bl b=>cases (show V.ref a=.bl b from h)
 | int i=>cases (show V.ref a=.int i from h)
 | str x=>cases (show V.ref a=.str x/\_ from h).1
 | tup ds =>
  obtain⟨b,vs,e,hq,_⟩:=h
  cases e
  exact⟨_,hq⟩
 | fdi ks ds =>
  obtain⟨b,vs,e,⟨o,_,hq⟩,_⟩:=h
  cases e
  exact⟨_,hq⟩
theorem SlotOk.pres{F:Option Fd}{U V' M':Addr->Prop}{s:Slot}{o:Option V}(h:SlotOk K F V' M H s o)(p:Pres M H M' H')(m:∀a,M a->M' a)(e:Ext U H H')(uV:∀a,U a->V' a):SlotOk K F V' M' H' s o:=by
 cases s with
 | no=>trivial
 | sh d=>obtain⟨v,e1,h1⟩:=h; exact⟨v,e1,h1.pres p⟩
 | ex a nm ks ds=>obtain⟨e1,h1⟩:=h; exact⟨e1,h1.pres p⟩
 | br d=>obtain⟨v,e1,h1⟩:=h; exact⟨v,e1,h1.pres p e uV⟩
 | fd=>exact h
 | wd ks ds=>exact h
 | ow d=>obtain⟨a,e1,h1,h2,h3⟩:=h; exact⟨a,e1,m a h1,h2,h3.pres p λo q=>e.keep q λz=>h2 (uV a z)⟩
 | lt a d=>obtain⟨e1,h1,h2,h3⟩:=h; exact⟨e1,m a h1,h2,h3.pres p λo q=>e.keep q λz=>h2 (uV a z)⟩
theorem Rel.step(R:Rel K C M H n ρ σ)(e:Ext C.U H H')(f:FeedC K C.F M H' n'):Rel K C M H' n' ρ σ:=by
 have p:=R.pres e
 refine⟨R.len,R.sub,λa z=>?_,R.ext.trans e,R.fU,R.uV,R.vM,f,λi s q=>(R.sl i s q).pres p (λ_ z=>z) e R.uV,λq hq=>(R.pin q hq).trans p,R.br0,R.new,R.two,λq hq=>?_⟩
 ·obtain⟨o,h1⟩:=R.dom a z
  obtain⟨o',h2,_⟩:=e a o h1
  exact⟨o',h2⟩
 ·obtain⟨h1,h2,h3,h4⟩:=R.kept q hq
  exact⟨e.keep h1 λz=>h3 (R.uV _ z),h2,h3,h4⟩
theorem Rel.udom(R:Rel K C M H n ρ σ):∀a,C.U a->∃o,H a=some o:=λa z=>R.dom a (R.vM a (R.uV a z))
theorem At.tp{U:Addr->Prop}(uM:∀a,U a->M a)(h:At K M H d v):AtT K U M H d v:=by
 cases d with
 | lst ds =>
  obtain⟨a,vs,e,hn,hs⟩:=h
  exact⟨a,vs,e,λz=>hn.1 (uM a z),.inl hn.2,hs⟩
 | dic ks ds =>
  obtain⟨a,vs,e,hn,hl,hs⟩:=h
  exact⟨a,vs,e,λz=>hn.1 (uM a z),hn.2,hl,hs⟩
 | dit ks ds =>
  obtain⟨a,vs,e,hn,hl,hs⟩:=h
  exact⟨a,vs,e,λz=>hn.1 (uM a z),hn.2,hl,hs⟩
 | non=>exact h
 | bl b=>exact h
 | int i=>exact h
 | str x=>exact h
 | tup ds=>exact h
 | fdi ks ds=>exact h
theorem VR.back{U V':Addr->Prop}{H1:Hp}(e:Ext U H H1)(h:VR K V' M H1 H' κ v d):VR K V' M H H' κ v d:=by
 cases κ with
 | sh=>exact h
 | tp=>exact h
 | fr =>
  obtain⟨a,e1,h1,h2⟩:=h
  exact⟨a,e1,e.free h1,h2⟩
theorem VR.shOf{U:Addr->Prop}(dom:∀a,M a->∃o,H a=some o)(h:VR K U M H H' κ v d)(hk:κ≠.tp):At K M H' d v:=by
 cases κ with
 | sh=>exact h
 | tp=>exact absurd rfl hk
 | fr =>
  obtain⟨a,rfl,h1,h2⟩:=h
  refine(h2.pres (Pres.less (M':=M) λ_ z=>.inl z) λ_ z=>z).at λz=>?_
  obtain⟨o,q⟩:=dom a z
  rw [h1] at q; cases q
theorem VR.tpOf{U:Addr->Prop}(dom:∀a,M a->∃o,H a=some o)(uM:∀a,U a->M a)(h:VR K U M H H' κ v d):AtT K U M H' d v:=by
 cases κ with
 | sh=>exact At.tp uM h
 | tp=>exact h
 | fr=>exact At.tp uM (VR.shOf dom h (by intro z; cases z))
theorem Gd{α:Type}{l:List α}{i j:Nat}{x y:α}(h:(l.set i x)[j]?=some y):(j=i/\i<l.length/\y=x)\/(j≠i/\l[j]?=some y):=by
 rw [aI] at h
 by_cases e:i=j
 ·rw [if_pos e] at h
  by_cases hl:i<l.length
  ·rw [if_pos hl] at h
   exact .inl ⟨e.symm,hl,(TW h).symm⟩
  ·rw [if_neg hl] at h; cases h
 ·rw [if_neg e] at h
  exact .inr ⟨λz=>e z.symm,h⟩
theorem KS{l:L2.St}{i j:Nat}{x:Option V}(h:j≠i):((l.set i x)[j]?).getD none=(l[j]?).getD none:=by
 rw [aI,if_neg (λz=>h z.symm)]
theorem QH{l:L2.St}{i:Nat}{x:Option V}(h:i<l.length):((l.set i x)[i]?).getD none=x:=by
 rw [aI,if_pos rfl,if_pos h]
 rfl
theorem Rel.set(R:Rel K C M H n ρ σ){i:Nat}(h:At K M H d v):Rel K C M H n (ρ.set i (.sh d)) (σ.set i (some v)):=by
 have two:∀(j:Nat) (s:Slot),(ρ.set i (.sh d))[j]?=some s->s.owns=true->ρ[j]?=some s/\((σ.set i (some v))[j]?).getD none=(σ[j]?).getD none:=λj s q o=>by
  rcases Gd q with ⟨_,_,rfl⟩ | ⟨hj,q⟩
  ·cases o
  ·exact⟨q,KS hj⟩
 refine⟨by rw [ZD,ZD]; exact R.len,R.sub,R.dom,R.ext,R.fU,R.uV,R.vM,R.feed,λj s q=>?_,R.pin,λj e a q q2=>?_,λj s a q o q2=>?_,λj k s t a q1 o1 q2 o2 z1 z2=>?_,λp hp=>?_⟩
 ·rcases Gd q with ⟨rfl,hl,rfl⟩ | ⟨hj,q⟩
  ·rw [QH (by rw [← R.len]; exact hl)]
   exact⟨v,rfl,h⟩
  ·rw [KS hj]
   exact R.sl j s q
 ·rcases Gd q with ⟨_,_,e⟩ | ⟨hj,q⟩
  ·cases e
  ·rw [KS hj] at q2
   exact R.br0 j e a q q2
 ·obtain⟨q1,e⟩:=two j s q o
  rw [e] at q2
  exact R.new j s a q1 o q2
 ·obtain⟨p1,e1⟩:=two j s q1 o1
  obtain⟨p2,e2⟩:=two k t q2 o2
  rw [e1] at z1
  rw [e2] at z2
  exact R.two j k s t a p1 o1 p2 o2 z1 z2
 ·obtain⟨h1,h2,h3,h4⟩:=R.kept p hp
  refine⟨h1,h2,h3,λj e q=>?_⟩
  obtain⟨q1,e2⟩:=two j _ q rfl
  rw [e2]
  exact h4 j e q1
theorem Rel.owner(R:Rel K C M H n ρ σ){i:Nat}{s:Slot}(h:ρ[i]?=some s)(o:s.owns=true):∃a e,(σ[i]?).getD none=some (.ref a)/\M a/\¬C.V a/\Tops K M H a e/\¬C.M0 a/\C.H0 a=none:=by
 have q:=R.sl i s h
 cases s with
 | ow d=>obtain⟨a,e1,h1,h2,h3⟩:=q; exact⟨a,d,e1,h1,h2,h3,R.new i _ a h o e1⟩
 | lt a d=>obtain⟨e1,h1,h2,h3⟩:=q; exact⟨a,d,e1,h1,h2,h3,R.new i _ a h o e1⟩
 | _=>cases o
theorem Rel.setOw(R:Rel K C M H n ρ σ){i:Nat}{a:Addr}(e:Ext C.U H H')(f:FeedC K C.F M H' n')(ha:H a=none)(h:Tops K (λb=>M b\/b=a) H' a d) :
  Rel K C (λb=>M b\/b=a) H' n' (ρ.set i (.ow d)) (σ.set i (some (.ref a))):=by
 have R1:=R.step e f
 have ne:∀b,M b->b≠a:=λb z q=>by
  obtain⟨o,w⟩:=R.dom b z
  rw [q,ha] at w; cases w
 have a0:¬C.M0 a/\C.H0 a=none:=⟨λz=>ne a (R.sub a z) rfl,R.ext.free ha⟩
 have pr:Pres M H (λb=>M b\/b=a) H':=⟨λb o q nb=>e.keep q λz=>nb (R.vM b (R.uV b z)),λb z=>z.elim .inl λz=>.inr (by rw [z]; exact ha),λb vs q=>e.tup q⟩
 have two:∀(j:Nat) (s:Slot),(ρ.set i (.ow d))[j]?=some s->(j=i/\s=.ow d/\((σ.set i (some (.ref a)))[j]?).getD none=some (.ref a))\/(j≠i/\ρ[j]?=some s/\((σ.set i (some (.ref a)))[j]?).getD none=(σ[j]?).getD none):=λj s q=>by
  rcases Gd q with ⟨rfl,hl,rfl⟩ | ⟨hj,q⟩
  ·exact .inl ⟨rfl,rfl,QH (by rw [← R.len]; exact hl)⟩
  ·exact .inr ⟨hj,q,KS hj⟩
 have old:∀(j:Nat) (s:Slot) (b:Addr),ρ[j]?=some s->s.owns=true->(σ[j]?).getD none=some (.ref b)->b≠a:=λj s b q o z=>by
  obtain⟨c,_,e1,m,_⟩:=R.owner q o
  rw [e1] at z
  cases z
  exact ne _ m
 have hd:∃o,H' a=some o:=by
  cases d with
  | lst ds=>obtain⟨vs,q,_⟩:=h; exact⟨_,q⟩
  | dic ks ds=>obtain⟨vs,q,_⟩:=h; exact⟨_,q⟩
  | dit ks ds=>obtain⟨vs,q,_⟩:=h; exact⟨_,q⟩
  | _=>exact(show False from h).elim
 refine⟨by rw [ZD,ZD]; exact R.len,λb z=>.inl (R.sub b z),λb z=>?_,R1.ext,R.fU,R.uV,λb z=>.inl (R.vM b z),f.more a (λg hg tg q=>?_) (λg ks' ds' vs' hg tg=>?_),λj s q=>?_,λq hq=>(R.pin q hq).trans pr,λj e2 b q q2=>?_,λj s b q o q2=>?_,λj k s t b q1 o1 q2 o2 z1 z2=>?_,λp hp=>?_⟩
 ·rcases z with z | z
  ·exact R1.dom b z
  ·rw [z]; exact hd
 ·rcases R.feed g hg with ⟨_,_,_,_,_,_,h3,_⟩ | ⟨_,_,_,t2,_⟩
  ·have:=h3.2
   rw [q,ha] at this; cases this
  ·rw [tg] at t2; cases t2
 ·rcases R.feed g hg with ⟨t2,_⟩ | ⟨_,_,_,t2,_,_,_,h3,_⟩
  ·rw [tg] at t2; cases t2
  ·rw [tg] at t2; cases t2; exact h3.pres pr
 ·rcases two j s q with ⟨rfl,rfl,e1⟩ | ⟨hj,q1,e1⟩
  ·rw [e1]
   exact⟨a,rfl,.inr rfl,λz=>ne a (R.vM a z) rfl,h⟩
  ·rw [e1]
   exact(R.sl j s q1).pres pr (λ_ z=>.inl z) e R.uV
 ·rcases two j _ q with ⟨_,e1,_⟩ | ⟨hj,q1,e1⟩
  ·cases e1
  ·rw [e1] at q2
   exact R.br0 j e2 b q1 q2
 ·rcases two j s q with ⟨_,_,e1⟩ | ⟨hj,q1,e1⟩
  ·rw [e1] at q2
   cases q2
   exact a0
  ·rw [e1] at q2
   exact R.new j s b q1 o q2
 ·rcases two j s q1 with ⟨rfl,_,e1⟩ | ⟨hj,p1,e1⟩
  ·rw [e1] at z1
   cases z1
   rcases two k t q2 with ⟨rfl,_,_⟩ | ⟨hk,p2,e2⟩
   ·rfl
   ·rw [e2] at z2
    exact absurd rfl (old k t a p2 o2 z2)
  ·rw [e1] at z1
   rcases two k t q2 with ⟨rfl,_,e2⟩ | ⟨hk,p2,e2⟩
   ·rw [e2] at z2
    cases z2
    exact absurd rfl (old j s a p1 o1 z1)
   ·rw [e2] at z2
    exact R.two j k s t b p1 o1 p2 o2 z1 z2
 ·obtain⟨h1,h2,h3,h4⟩:=R1.kept p hp
  refine⟨h1,.inl h2,h3,λj e2 q=>?_⟩
  rcases two j _ q with ⟨_,_,e1⟩ | ⟨hj,q1,e1⟩
  ·rw [e1]
   intro z
   cases z
   exact ne _ h2 rfl
  ·rw [e1]
   exact h4 j e2 q1
theorem Rel.mut(R:Rel K C M H n ρ σ){i:Nat}{a:Addr}{e:D}{o:HO}(hi:ρ[i]?=some (.ow d))(ha:(σ[i]?).getD none=some (.ref a))(h:Tops K M (BB H a o) a e) :
  Rel K C M (BB H a o) n (ρ.set i (.ow e)) σ:=by
 obtain⟨b,_,e1,m,nv,t,n0,h0⟩:=R.owner hi rfl
 rw [ha] at e1
 cases e1
 have pr:Pres M H M (BB H a o):=⟨λb o' q nb=>by rw [AT (λz=>nb (by rw [z]; exact m))]; exact q,λ_ z=>.inl z,λb vs q=>by rw [AT (λz=>t.notT (by rw [← z]; exact q))]; exact q⟩
 have old:∀(j:Nat) (s:Slot),(ρ.set i (.ow e))[j]?=some s->(j=i/\s=.ow e)\/(j≠i/\ρ[j]?=some s):=λj s q=>by
  rcases Gd q with ⟨rfl,hl,rfl⟩ | ⟨hj,q⟩
  ·exact .inl ⟨rfl,rfl⟩
  ·exact .inr ⟨hj,q⟩
 have far:∀(j:Nat) (s:Slot) (b:Addr),j≠i->ρ[j]?=some s->s.owns=true->(σ[j]?).getD none=some (.ref b)->b≠a:=λj s b hj q o z w=>by
  subst w
  exact hj (R.two j i s _ b q o hi rfl z ha)
 refine⟨by rw [ZD]; exact R.len,R.sub,λb z=>?_,λb o' q=>?_,R.fU,R.uV,R.vM,R.feed.pres pr λf o' hf q=>?_,λj s q=>?_,λq hq=>(R.pin q hq).trans pr,λj e2 b q q2=>?_,λj s b q o2 q2=>?_,λj k s t b q1 o1 q2 o2 z1 z2=>?_,λp hp=>?_⟩
 ·by_cases hb:b=a
  ·exact⟨o,by rw [hb,AY]⟩
  ·obtain⟨o',q⟩:=R.dom b z
   exact⟨o',by rw [AT hb]; exact q⟩
 ·obtain⟨o2,q2,r⟩:=R.ext b o' q
  have hb:b≠a:=λz=>by rw [z,h0] at q; cases q
  exact⟨o2,by rw [AT hb]; exact q2,r⟩
 ·have hb:f.1≠a:=λz=>nv (by rw [← z]; exact R.uV _ (R.fU f hf))
  rw [AT hb]; exact q
 ·rcases old j s q with ⟨rfl,rfl⟩ | ⟨hj,q1⟩
  ·rw [ha]
   exact⟨a,rfl,m,nv,h⟩
  ·have q2:=R.sl j s q1
   cases s with
   | no=>trivial
   | sh d=>obtain⟨v,e1,h1⟩:=q2; exact⟨v,e1,h1.pres pr⟩
   | ex a nm ks ds=>obtain⟨e1,h1⟩:=q2; exact⟨e1,h1.pres pr⟩
   | br d =>
    obtain⟨v,e1,h1⟩:=q2
    refine⟨v,e1,h1.same pr (λb o' z q=>?_) λ_ _ z=>z⟩
    subst z
    obtain⟨o3,w⟩:=R.br0 j d b q1 e1
    rw [AT (λz=>by rw [z,h0] at w; cases w)]
    exact q
   | fd=>exact q2
   | wd ks ds=>exact q2
   | ow d =>
    obtain⟨b,e1,h1,h2,h3⟩:=q2
    exact⟨b,e1,h1,h2,h3.pres pr λo' w=>by rw [AT (far j _ b hj q1 rfl e1)]; exact w⟩
   | lt b d =>
    obtain⟨e1,h1,h2,h3⟩:=q2
    exact⟨e1,h1,h2,h3.pres pr λo' w=>by rw [AT (far j _ b hj q1 rfl e1)]; exact w⟩
 ·rcases old j _ q with ⟨_,e1⟩ | ⟨hj,q1⟩
  ·cases e1
  ·exact R.br0 j e2 b q1 q2
 ·rcases old j s q with ⟨rfl,_⟩ | ⟨hj,q1⟩
  ·exact R.new j _ b hi rfl q2
  ·exact R.new j s b q1 o2 q2
 ·rcases old j s q1 with ⟨rfl,rfl⟩ | ⟨hj,p1⟩
  ·rcases old k t q2 with ⟨rfl,_⟩ | ⟨hk,p2⟩
   ·rfl
   ·exact R.two j k _ t b hi rfl p2 o2 z1 z2
  ·rcases old k t q2 with ⟨rfl,rfl⟩ | ⟨hk,p2⟩
   ·exact R.two j k s _ b p1 o1 hi rfl z1 z2
   ·exact R.two j k s t b p1 o1 p2 o2 z1 z2
 ·obtain⟨h1,h2,h3,h4⟩:=R.kept p hp
  have hb:p.1≠a:=λz=>h4 i d hi (by rw [ha,z])
  refine⟨by rw [AT hb]; exact h1,h2,h3,λj e2 q=>?_⟩
  rcases old j _ q with ⟨rfl,_⟩ | ⟨hj,q1⟩
  ·exact h4 j d hi
  ·exact h4 j e2 q1
theorem Rel.freeze(R:Rel K C M H n ρ σ){i:Nat}{a:Addr}(hi:ρ[i]?=some (.ow d))(ha:(σ[i]?).getD none=some (.ref a)):Rel K C (λb=>M b/\b≠a) H n (ρ.set i (.sh d)) σ:=by
 obtain⟨b,_,e1,m,nv,_,n0,h0⟩:=R.owner hi rfl
 rw [ha] at e1
 cases e1
 have less:∀b,M b/\b≠a->M b:=λ_ z=>z.1
 have pr:Pres M H (λb=>M b/\b≠a) H:=Pres.less less
 have old:∀(j:Nat) (s:Slot),(ρ.set i (.sh d))[j]?=some s->(j=i/\s=.sh d)\/(j≠i/\ρ[j]?=some s):=λj s q=>by
  rcases Gd q with ⟨rfl,hl,rfl⟩ | ⟨hj,q⟩
  ·exact .inl ⟨rfl,rfl⟩
  ·exact .inr ⟨hj,q⟩
 have far:∀(j:Nat) (s:Slot) (b:Addr),j≠i->ρ[j]?=some s->s.owns=true->(σ[j]?).getD none=some (.ref b)->b≠a:=λj s b hj q o z w=>by
  subst w
  exact hj (R.two j i s _ b q o hi rfl z ha)
 have t:Tops K M H a d:=by
  obtain⟨b,e1,_,_,h3⟩:=R.sl i _ hi
  rw [ha] at e1
  cases e1
  exact h3
 refine⟨by rw [ZD]; exact R.len,λb z=>⟨R.sub b z,λw=>n0 (by rw [← w]; exact z)⟩,λb z=>R.dom b z.1,R.ext,R.fU,R.uV,λb z=>⟨R.vM b z,λw=>nv (by rw [← w]; exact z)⟩,R.feed.pres pr λ_ _ _ q=>q,λj s q=>?_,λq hq=>(R.pin q hq).trans pr,λj e2 b q q2=>?_,λj s b q o2 q2=>?_,λj k s t b q1 o1 q2 o2 z1 z2=>?_,λp hp=>?_⟩
 ·rcases old j s q with ⟨rfl,rfl⟩ | ⟨hj,q1⟩
  ·rw [ha]
   exact⟨_,rfl,(t.pres pr λ_ z=>z).at λz=>z.2 rfl⟩
  ·have q2:=R.sl j s q1
   cases s with
   | no=>trivial
   | sh d=>obtain⟨v,e1,h1⟩:=q2; exact⟨v,e1,h1.pres pr⟩
   | ex a nm ks ds=>obtain⟨e1,h1⟩:=q2; exact⟨e1,h1.pres pr⟩
   | br d=>obtain⟨v,e1,h1⟩:=q2; exact⟨v,e1,h1.same pr (λ_ _ _ z=>z) λ_ _ z=>z⟩
   | fd=>exact q2
   | wd ks ds=>exact q2
   | ow d =>
    obtain⟨b,e1,h1,h2,h3⟩:=q2
    exact⟨b,e1,⟨h1,far j _ b hj q1 rfl e1⟩,h2,h3.pres pr λ_ z=>z⟩
   | lt b d =>
    obtain⟨e1,h1,h2,h3⟩:=q2
    exact⟨e1,⟨h1,far j _ b hj q1 rfl e1⟩,h2,h3.pres pr λ_ z=>z⟩
 ·rcases old j _ q with ⟨_,e1⟩ | ⟨hj,q1⟩
  ·cases e1
  ·exact R.br0 j e2 b q1 q2
 ·rcases old j s q with ⟨_,rfl⟩ | ⟨hj,q1⟩
  ·cases o2
  ·exact R.new j s b q1 o2 q2
 ·rcases old j s q1 with ⟨_,rfl⟩ | ⟨hj,p1⟩
  ·cases o1
  ·rcases old k t q2 with ⟨_,rfl⟩ | ⟨hk,p2⟩
   ·cases o2
   ·exact R.two j k s t b p1 o1 p2 o2 z1 z2
 ·obtain⟨h1,h2,h3,h4⟩:=R.kept p hp
  have hb:p.1≠a:=λz=>h4 i d hi (by rw [ha,z])
  refine⟨h1,⟨h2,hb⟩,h3,λj e2 q=>?_⟩
  rcases old j _ q with ⟨_,e1⟩ | ⟨hj,q1⟩
  ·cases e1
  ·exact h4 j e2 q1
end
noncomputable abbrev DW:=Nat->List Slot->(D->Nat->Prop)->Prop
noncomputable abbrev Ho:=Nat->List Slot->(Bool->Nat->Prop)->Prop
noncomputable abbrev EK:=Nat->List Slot->(List D->Nat->Prop)->Prop
noncomputable abbrev VL:=Nat->List Slot->(List Slot->Nat->Prop)->Prop
section
variable (X:Cx)
noncomputable def DE(e:Expr)(κ:Kd)(w:DW):Prop:=∃t,PE X e t/\∀(C:Fm) (M:Addr->Prop) (H:Hp) (n:Nat) (ρ:List Slot) (σ:L2.St) (P:D->Nat->Prop) (Q:VK),Rel X.K C M H n ρ σ->w n ρ P ->
 (∀v H' d n',Ext C.U H H'->FeedC X.K C.F M H' n'->VR X.K C.V M H H' κ v d->P d n'->Q v H')->t σ H Q
noncomputable def DT(e:Expr)(w:Ho):Prop:=∃t,PT X e t/\∀(C:Fm) (M:Addr->Prop) (H:Hp) (n:Nat) (ρ:List Slot) (σ:L2.St) (P:Bool->Nat->Prop) (Q:Bool->Hp->Prop),Rel X.K C M H n ρ σ->w n ρ P ->
 (∀b H' n',Ext C.U H H'->FeedC X.K C.F M H' n'->P b n'->Q b H')->t σ H Q
noncomputable def DTW(e:Expr)(w:Ho):Prop:=∃t,PW X e t/\∀(C:Fm) (M:Addr->Prop) (H:Hp) (n:Nat) (ρ:List Slot) (σ:L2.St) (P:Bool->Nat->Prop) (Q:Bool->Hp->Prop),Rel X.K C M H n ρ σ->w n ρ P ->
 (∀b H' n',Ext C.U H H'->FeedC X.K C.F M H' n'->P b n'->Q b H')->t σ H Q
noncomputable def TQ(es:List Expr)(w:EK):Prop:=∃t,PA X es t/\∀(C:Fm) (M:Addr->Prop) (H:Hp) (n:Nat) (ρ:List Slot) (σ:L2.St) (P:List D->Nat->Prop) (Q:List V->Hp->Prop),Rel X.K C M H n ρ σ->w n ρ P ->
 (∀vs H' ds n',Ext C.U H H'->FeedC X.K C.F M H' n'->Paired (λv d=>AtT X.K C.V M H' d v) vs ds->P ds n'->Q vs H')->t σ H Q
noncomputable def VM(es:List Expr)(w:EK):Prop:=∃t,PA X es t/\∀(C:Fm) (M:Addr->Prop) (H:Hp) (n:Nat) (ρ:List Slot) (σ:L2.St) (P:List D->Nat->Prop) (Q:List V->Hp->Prop),Rel X.K C M H n ρ σ->w n ρ P ->
 (∀vs H' ds n',Ext C.U H H'->FeedC X.K C.F M H' n'->Ats X.K M H' ds vs->P ds n'->Q vs H')->t σ H Q
noncomputable def KI(K:Frag)(F:Option Fd)(V' M:Addr->Prop)(H:Hp)(v:V)(s:Slot):Prop:=SlotOk K F V' M H s (some v)/\s.owns=false
noncomputable def WY(e:Expr)(w:Nat->List Slot->(Slot->Nat->Prop)->Prop):Prop:=∃t,PE X e t/\∀(C:Fm) (M:Addr->Prop) (H:Hp) (n:Nat) (ρ:List Slot) (σ:L2.St) (P:Slot->Nat->Prop) (Q:VK),Rel X.K C M H n ρ σ->w n ρ P ->
 (∀v H' s n',Ext C.U H H'->FeedC X.K C.F M H' n'->KI X.K C.F C.V M H' v s->P s n'->Q v H')->t σ H Q
noncomputable def WX(es:List Expr)(w:VL):Prop:=∃t,PA X es t/\∀(C:Fm) (M:Addr->Prop) (H:Hp) (n:Nat) (ρ:List Slot) (σ:L2.St) (P:List Slot->Nat->Prop) (Q:List V->Hp->Prop),Rel X.K C M H n ρ σ->w n ρ P ->
 (∀vs H' ss n',Ext C.U H H'->FeedC X.K C.F M H' n'->Paired (KI X.K C.F C.V M H') vs ss->P ss n'->Q vs H')->t σ H Q
end
noncomputable def AD(i:Nat):DW:=λn ρ P=>match ρ[i]? with
 | some (.sh d)=>P d n
 | _=>False
noncomputable def Jc(i:Nat):DW:=λn ρ P=>match ρ[i]? with
 | some (.sh d)=>P d n
 | some (.br d)=>P d n
 | some (.ow d)=>P d n
 | some (.lt _ d)=>P d n
 | _=>False
noncomputable def wC(d:D):DW:=λn _ P=>P d n
section
variable {X:Cx}{a b c e:Expr}{κ κa κb:Kd}{wa wb wc:DW}{pos:Pos}
theorem getD_some{σ:L2.St}{i:Nat}{v:V}(h:(σ[i]?).getD none=some v):σ[i]?=some (some v):=by
 cases q:σ[i]? with
 | none=>rw [q] at h; cases h
 | some o=>rw [q] at h; exact congrArg some h
theorem S_{i:Nat}(h:PE X e (BG i)):DE X e .sh (AD i):=by
 refine⟨_,h,λC M H n ρ σ P Q R w q=>?_⟩
 unfold AD at w
 split at w
 ·rename_i d hd
  obtain⟨v,e1,h1⟩:=R.sl i _ hd
  exact⟨v,getD_some e1,q v H d n (Ext.refl _ _) R.feed h1 w⟩
 ·exact w.elim
theorem RE{i:Nat}(h:PE X e (BG i)):DE X e .tp (Jc i):=by
 refine⟨_,h,λC M H n ρ σ P Q R w q=>?_⟩
 unfold Jc at w
 split at w
 ·rename_i d hd
  obtain⟨v,e1,h1⟩:=R.sl i _ hd
  exact⟨v,getD_some e1,q v H d n (Ext.refl _ _) R.feed (At.tp R.vM h1) w⟩
 ·rename_i d hd
  obtain⟨v,e1,h1⟩:=R.sl i _ hd
  exact⟨v,getD_some e1,q v H d n (Ext.refl _ _) R.feed h1 w⟩
 ·rename_i d hd
  obtain⟨a,e1,_,h2,h3⟩:=R.sl i _ hd
  exact⟨.ref a,getD_some e1,q _ H d n (Ext.refl _ _) R.feed (h3.att h2) w⟩
 ·rename_i a d hd
  obtain⟨e1,_,h2,h3⟩:=R.sl i _ hd
  exact⟨.ref a,getD_some e1,q _ H d n (Ext.refl _ _) R.feed (h3.att h2) w⟩
 ·exact w.elim
theorem dv(i:Nat){x:Str}{pos:Pos}(hN:autoParam (X.N[i]?=some x) zau3._auto_1)(hv:autoParam (VF X.env.scope x) zau4._auto_1)(hd:autoParam ((x==("__debug__" : Str))=false) zau1._auto_1)
  (hcd:autoParam ((x==("__classdict__" : Str))=false) zau1._auto_1):DE X (.Name x pos) .sh (AD i):=S_ (IM hN hv hd hcd)
theorem XE(i:Nat){x:Str}{pos:Pos}(hN:autoParam (X.N[i]?=some x) zau3._auto_1)(hv:autoParam (VF X.env.scope x) zau4._auto_1)(hd:autoParam ((x==("__debug__" : Str))=false) zau1._auto_1)
  (hcd:autoParam ((x==("__classdict__" : Str))=false) zau1._auto_1):DE X (.Name x pos) .tp (Jc i):=RE (IM hN hv hd hcd)
theorem Ek{d:D}{v:V}(h:PE X e (tC v))(hd:∀M H,At X.K M H d v):DE X e .sh (wC d) :=
 ⟨_,h,λC M H n ρ σ P Q R w q=>q v H d n (Ext.refl _ _) R.feed (hd M H) w⟩
theorem AB{i:Int}{j pos}:DE X (.Constant (.int i) j pos) .sh (wC (.int i)):=Ek Av λ_ _=>rfl
theorem BH{b:Bool}{j pos}:DE X (.Constant (.bool b) j pos) .sh (wC (.bl b)):=Ek V2 λ_ _=>rfl
theorem Ce{j pos}:DE X (.Constant .none j pos) .sh (wC .non):=Ek IP λ_ _=>rfl
theorem Ac{x:Str}{j pos}(hx:autoParam (decide (x.length<=1000)=true) zau3._auto_1):DE X (.Constant (.str x) j pos) .sh (wC (.str x)) :=
 Ek C5 λ_ _=>⟨rfl,YH (of_decide_eq_true hx) (by rw [Yj]; decide)⟩
theorem OI{x:Str}{i:Int}{t:Tok}{pos:Pos}(hg:Gl X x)(hm:X.mg x=some (.int i t))(hd:autoParam ((x==("__debug__" : Str))=false) zau1._auto_1):DE X (.Name x pos) .sh (wC (.int i)) :=
 Ek (SK hg hm (v:=.int i) ⟨t,rfl⟩ hd) λ_ _=>rfl
noncomputable def Fj(K:Frag)(κ:Kd)(r:R2)(f:D->D->(D->Prop)->Prop):Prop:=∀(U:Addr->Prop) (M:Addr->Prop) (H:Hp) (d e:D) (x y:V) (P:D->Prop) (Q:VK),(∀a,M a->∃o,H a=some o)->(∀a,U a->M a) ->
 AtT K U M H d x->AtT K U M H e y->f d e P->(∀v H' z,Grow H H'->VR K U M H H' κ v z->P z->Q v H')->r x y H Q
noncomputable def Ag(f:D->D->(D->Prop)->Prop)(wa wb:DW):DW:=λn ρ P=>wa n ρ λx n1=>wb n1 ρ λy n2=>f x y λz=>P z n2
theorem D1{r:R2}{f:D->D->(D->Prop)->Prop}(hA:Fj X.K κ r f){ta tb:TE}(ha:∀(C:Fm) (M:Addr->Prop) (H:Hp) (n:Nat) (ρ:List Slot) (σ:L2.St) (P:D->Nat->Prop) (Q:VK),Rel X.K C M H n ρ σ->wa n ρ P ->
   (∀v H' d n',Ext C.U H H'->FeedC X.K C.F M H' n'->VR X.K C.V M H H' κa v d->P d n'->Q v H')->ta σ H Q)
  (hb:∀(C:Fm) (M:Addr->Prop) (H:Hp) (n:Nat) (ρ:List Slot) (σ:L2.St) (P:D->Nat->Prop) (Q:VK),Rel X.K C M H n ρ σ->wb n ρ P ->
   (∀v H' d n',Ext C.U H H'->FeedC X.K C.F M H' n'->VR X.K C.V M H H' κb v d->P d n'->Q v H')->tb σ H Q)
  (C:Fm) (M:Addr->Prop) (H:Hp) (n:Nat) (ρ:List Slot) (σ:L2.St) (P:D->Nat->Prop) (Q:VK) (R:Rel X.K C M H n ρ σ) (w:Ag f wa wb n ρ P)
  (q:∀v H' d n',Ext C.U H H'->FeedC X.K C.F M H' n'->VR X.K C.V M H H' κ v d->P d n'->Q v H'):Cj r ta tb σ H Q:=by
 refine ha C M H n ρ σ _ _ R w λx H1 d n1 e1 f1 r1 w1=>?_
 have R1:=R.step e1 f1
 refine hb C M H1 n1 ρ σ _ _ R1 w1 λy H2 e n2 e2 f2 r2 w2=>?_
 have R2':=R1.step e2 f2
 refine hA C.V M H2 d e x y _ _ R2'.dom R2'.vM ((r1.tpOf R.dom R.vM).pres (R1.pres e2) e2 R.uV) (r2.tpOf R1.dom R1.vM) w2 λv H3 z g vr p=>?_
 exact q v H3 z n2 ((e1.trans e2).trans g.ext) (f2.grow g) (VR.back (e1.trans e2) vr) p
theorem Ad{op:Operator}{r:R2}{f:D->D->(D->Prop)->Prop}(ho:OpR X (binaryOp op) r)(hA:Fj X.K κ r f)(ha:DE X a κa wa)(hb:DE X b κb wb):DE X (.BinOp a op b pos) κ (Ag f wa wb):=by
 obtain⟨ta,ha1,ha2⟩:=ha
 obtain⟨tb,hb1,hb2⟩:=hb
 exact⟨_,BS ho ha1 hb1,λC M H n ρ σ P Q R w q=>D1 hA ha2 hb2 C M H n ρ σ P Q R w q⟩
theorem AW{r:R2}{f:D->D->(D->Prop)->Prop}(ho:IxR X r)(hA:Fj X.K κ r f)(ha:DE X a κa wa)(hb:DE X b κb wb)(hs:autoParam (OY b) zau5._auto_1):DE X (.Subscript a b pos) κ (Ag f wa wb):=by
 obtain⟨ta,ha1,ha2⟩:=ha
 obtain⟨tb,hb1,hb2⟩:=hb
 exact⟨_,BP ho ha1 hb1 hs,λC M H n ρ σ P Q R w q=>D1 hA ha2 hb2 C M H n ρ σ P Q R w q⟩
theorem BY{op:CmpOp}{r:R2}{f:D->D->(D->Prop)->Prop}(ho:OpR X (compareOp op) r)(hA:Fj X.K .sh r f)(ha:DE X a κa wa)(hb:DE X b κb wb)(hm:behindInMarks op b=false):DE X (.Compare a [op] [b] pos) .sh (Ag f wa wb):=by
 obtain⟨ta,ha1,ha2⟩:=ha
 obtain⟨tb,hb1,hb2⟩:=hb
 exact⟨_,SN ho ha1 hb1 hm,λC M H n ρ σ P Q R w q=>D1 hA ha2 hb2 C M H n ρ σ P Q R w q⟩
noncomputable def Ao(w:DW):Ho:=λn ρ P=>w n ρ λd n1=>match d with
 | .bl b=>P b n1
 | _=>False
theorem HP{U:Addr->Prop}{K:Frag}{M:Addr->Prop}{H H':Hp}{v:V}{b:Bool}(h:VR K U M H H' κ v (.bl b)):v=.bl b:=by
 cases κ with
 | sh=>exact h
 | tp=>exact h
 | fr=>obtain⟨a,_,_,t⟩:=h; exact(show False from t).elim
theorem Aa{op:CmpOp}{r:R2}{f:D->D->(D->Prop)->Prop}(ho:OpR X (compareOp op) r)(hA:Fj X.K .sh r f)(ha:DE X a κa wa)(hb:DE X b κb wb)(hm:behindInMarks op b=false):DT X (.Compare a [op] [b] pos) (Ao (Ag f wa wb)):=by
 obtain⟨ta,ha1,ha2⟩:=ha
 obtain⟨tb,hb1,hb2⟩:=hb
 refine⟨_,CD ho ha1 hb1 hm,λC M H n ρ σ P Q R w q=>?_⟩
 refine D1 hA ha2 hb2 C M H n ρ σ _ _ R w λv H' d n' e f r p=>?_
 cases d with
 | bl b=>exact⟨b,HP r,q b H' n' e f p⟩
 | _=>exact p.elim
theorem A4(h:DE X e κ wa)(he:autoParam (∀whole,isTrue e X.env whole=(do let v ← whole; standAt e.pos; holding [v] (truthy v))) zau2._auto_1):DT X e (Ao wa):=by
 obtain⟨t,h1,h2⟩:=h
 refine⟨_,UM h1 he,λC M H n ρ σ P Q R w q=>?_⟩
 refine h2 C M H n ρ σ _ _ R w λv H' d n' e f r p=>?_
 cases d with
 | bl b=>exact⟨b,HP r,q b H' n' e f p⟩
 | _=>exact p.elim
noncomputable def P4(u v:Ho):Ho:=λn ρ P=>u n ρ λc n1=>if c=true then v n1 ρ P else P false n1
noncomputable def Df(u v:Ho):Ho:=λn ρ P=>u n ρ λc n1=>if c=true then P true n1 else v n1 ρ P
noncomputable def B9(u:Ho):Ho:=λn ρ P=>u n ρ λc n1=>P (!c) n1
variable {wA wB:Ho}{rest:List Expr}
theorem K8(h:DT X a wA):DTW X (.BoolOp .And [a] pos) wA:=by
 obtain⟨t,h1,h2⟩:=h
 exact⟨t,Kk h1,h2⟩
theorem BM(h:DT X a wA):DTW X (.BoolOp .Or [a] pos) wA:=by
 obtain⟨t,h1,h2⟩:=h
 exact⟨t,QV h1,h2⟩
theorem NH(ha:DT X a wA)(hb:DTW X (.BoolOp .And (b::rest) pos) wB):DTW X (.BoolOp .And (a::b::rest) pos) (P4 wA wB):=by
 obtain⟨t,h1,h2⟩:=ha
 obtain⟨u,g1,g2⟩:=hb
 refine⟨_,Mv h1 g1,λC M H n ρ σ P Q R w q=>?_⟩
 refine h2 C M H n ρ σ _ _ R w λc H1 n1 e1 f1 p=>?_
 cases c with
 | false=>exact q false H1 n1 e1 f1 p
 | true=>exact g2 C M H1 n1 ρ σ P Q (R.step e1 f1) p λb H2 n2 e2 f2 p2=>q b H2 n2 (e1.trans e2) f2 p2
theorem BQ(ha:DT X a wA)(hb:DTW X (.BoolOp .Or (b::rest) pos) wB):DTW X (.BoolOp .Or (a::b::rest) pos) (Df wA wB):=by
 obtain⟨t,h1,h2⟩:=ha
 obtain⟨u,g1,g2⟩:=hb
 refine⟨_,Th h1 g1,λC M H n ρ σ P Q R w q=>?_⟩
 refine h2 C M H n ρ σ _ _ R w λc H1 n1 e1 f1 p=>?_
 cases c with
 | true=>exact q true H1 n1 e1 f1 p
 | false=>exact g2 C M H1 n1 ρ σ P Q (R.step e1 f1) p λb H2 n2 e2 f2 p2=>q b H2 n2 (e1.trans e2) f2 p2
theorem DTW.dt(h:DTW X e wA):DT X e wA:=by
 obtain⟨t,h1,h2⟩:=h
 exact⟨t,h1.pt,h2⟩
theorem BJ(ha:DT X a wA):DT X (.UnaryOp .Not a pos) (B9 wA):=by
 obtain⟨t,h1,h2⟩:=ha
 refine⟨_,UN h1,λC M H n ρ σ P Q R w q=>?_⟩
 exact h2 C M H n ρ σ _ _ R w λc H1 n1 e1 f1 p=>q (!c) H1 n1 e1 f1 p
noncomputable def KL(u v:DW):DW:=λn ρ P=>u n ρ λc n1=>match c with
 | .bl true=>v n1 ρ P
 | .bl false=>P (.bl false) n1
 | _=>False
noncomputable def VQ(u:DW):DW:=λn ρ P=>u n ρ λc n1=>match c with
 | .bl b=>P (.bl (!b)) n1
 | _=>False
theorem C9{op}(h:DE X a κ wa):DE X (.BoolOp op [a] pos) κ wa:=by
 obtain⟨t,h1,h2⟩:=h
 exact⟨t,UQ h1,h2⟩
theorem C_(ha:DE X a κa wa)(hb:DE X (.BoolOp .And (b::rest) pos) .sh wb):DE X (.BoolOp .And (a::b::rest) pos) .sh (KL wa wb):=by
 obtain⟨t,h1,h2⟩:=ha
 obtain⟨u,g1,g2⟩:=hb
 refine⟨_,US h1 g1,λC M H n ρ σ P Q R w q=>?_⟩
 refine h2 C M H n ρ σ _ _ R w λc H1 d n1 e1 f1 r1 p=>?_
 cases d with
 | bl k =>
  refine⟨k,HP r1,?_⟩
  cases k with
  | false=>exact q _ H1 _ n1 e1 f1 (show VR X.K C.V M H H1 .sh (.bl false) (.bl false) from rfl) p
  | true =>
   show u σ H1 Q
   exact g2 C M H1 n1 ρ σ P Q (R.step e1 f1) p λv H2 d n2 e2 f2 r2 p2=>q v H2 d n2 (e1.trans e2) f2 r2 p2
 | _=>exact p.elim
theorem U0(ha:DE X a κa wa):DE X (.UnaryOp .Not a pos) .sh (VQ wa):=by
 obtain⟨t,h1,h2⟩:=ha
 refine⟨_,UR h1,λC M H n ρ σ P Q R w q=>?_⟩
 refine h2 C M H n ρ σ _ _ R w λc H1 d n1 e1 f1 r1 p=>?_
 cases d with
 | bl k=>exact⟨k,HP r1,q _ H1 _ n1 e1 f1 (show VR X.K C.V M H H1 .sh (.bl (!k)) (.bl (!k)) from rfl) p⟩
 | _=>exact p.elim
noncomputable def VT(t:Ho)(u v:DW):DW:=λn ρ P=>t n ρ λc n1=>if c=true then u n1 ρ P else v n1 ρ P
theorem OH(hc:DT X c wA)(ha:DE X a κ wa)(hb:DE X b κ wb):DE X (.IfExp c a b pos) κ (VT wA wa wb):=by
 obtain⟨t,h1,h2⟩:=hc
 obtain⟨u,g1,g2⟩:=ha
 obtain⟨u',k1,k2⟩:=hb
 refine⟨_,Ls h1 g1 k1,λC M H n ρ σ P Q R w q=>?_⟩
 refine h2 C M H n ρ σ _ _ R w λc H1 n1 e1 f1 p=>?_
 cases c with
 | true=>exact g2 C M H1 n1 ρ σ P Q (R.step e1 f1) p λv H2 d n2 e2 f2 r2 p2=>q v H2 d n2 (e1.trans e2) f2 (VR.back e1 r2) p2
 | false=>exact k2 C M H1 n1 ρ σ P Q (R.step e1 f1) p λv H2 d n2 e2 f2 r2 p2=>q v H2 d n2 (e1.trans e2) f2 (VR.back e1 r2) p2
noncomputable def Aj:EK:=λn _ P=>P [] n
noncomputable def AK(w:DW)(ws:EK):EK:=λn ρ P=>w n ρ λd n1=>ws n1 ρ λds n2=>P (d::ds) n2
variable {es:List Expr}{ws:EK}
theorem AU:TQ X [] Aj:=⟨_,BC,λC M H n ρ σ P Q R w q=>q [] H [] n (Ext.refl _ _) R.feed .nil w⟩
theorem AV:VM X [] Aj:=⟨_,BC,λC M H n ρ σ P Q R w q=>q [] H [] n (Ext.refl _ _) R.feed rfl w⟩
theorem AN(ha:DE X e κ wa)(hr:TQ X es ws)(hs:autoParam (starEach (e::es) X.env=(false,eval e X.env)::starEach es X.env) zau3._auto_1):TQ X (e::es) (AK wa ws):=by
 obtain⟨t,h1,h2⟩:=ha
 obtain⟨u,g1,g2⟩:=hr
 refine⟨_,Au h1 g1 hs,λC M H n ρ σ P Q R w q=>?_⟩
 refine h2 C M H n ρ σ _ _ R w λv H1 d n1 e1 f1 r1 p=>?_
 have R1:=R.step e1 f1
 refine g2 C M H1 n1 ρ σ _ _ R1 p λvs H2 ds n2 e2 f2 r2 p2=>?_
 exact q (v::vs) H2 (d::ds) n2 (e1.trans e2) f2 (.cons ((r1.tpOf R.dom R.vM).pres (R1.pres e2) e2 R.uV) r2) p2
theorem AF(ha:DE X e κ wa)(hr:VM X es ws)(hk:autoParam (κ≠.tp) zau6._auto_1)(hs:autoParam (starEach (e::es) X.env=(false,eval e X.env)::starEach es X.env) zau3._auto_1):VM X (e::es) (AK wa ws):=by
 obtain⟨t,h1,h2⟩:=ha
 obtain⟨u,g1,g2⟩:=hr
 refine⟨_,Au h1 g1 hs,λC M H n ρ σ P Q R w q=>?_⟩
 refine h2 C M H n ρ σ _ _ R w λv H1 d n1 e1 f1 r1 p=>?_
 have R1:=R.step e1 f1
 refine g2 C M H1 n1 ρ σ _ _ R1 p λvs H2 ds n2 e2 f2 r2 p2=>?_
 exact q (v::vs) H2 (d::ds) n2 (e1.trans e2) f2 ⟨v,vs,rfl,(r1.shOf R.dom hk).pres (R1.pres e2),r2⟩ p2
noncomputable def CS(ws:EK):DW:=λn ρ P=>ws n ρ λds n1=>ds.length<=sizeLine/\P (.tup ds) n1
noncomputable def CT(ws:EK):DW:=λn ρ P=>ws n ρ λds n1=>ds.length<=sizeLine/\P (.lst ds) n1
theorem Il{M:Addr->Prop}{H:Hp}{p:Addr}{o:HO}(h:H p=none):Pres M H (λb=>M b\/b=p) (BB H p o):=⟨λb u e _=>by rw [AT (A1 e h)]; exact e,λb z=>z.elim .inl λz=>.inr (by rw [z]; exact h),λb vs e=>by rw [AT (A1 e h)]; exact e⟩
theorem A5{H:Hp}{p:Addr}{o:HO}(h:H p=none):Grow H (BB H p o):=.inr ⟨p,o,h,rfl⟩
theorem A_{x1}(h:VM X es ws):DE X (.Tuple es x1 pos) .sh (CS ws):=by
 obtain⟨t,h1,h2⟩:=h
 refine⟨_,UP h1,λC M H n ρ σ P Q R w q=>?_⟩
 refine h2 C M H n ρ σ _ _ R w λvs H1 ds n1 e1 f1 r1 p=>?_
 refine⟨by rw [r1.length]; exact p.1,λa ha=>?_⟩
 have g:Grow H1 (BB H1 a (.tup vs)):=A5 ha
 refine q _ _ (.tup ds) n1 (e1.trans g.ext) (f1.grow g) ⟨a,vs,rfl,AY,r1.pres g.pres⟩ p.2
theorem Az(h:VM X es ws):DE X (.List es pos) .fr (CT ws):=by
 obtain⟨t,h1,h2⟩:=h
 refine⟨_,Gj h1,λC M H n ρ σ P Q R w q=>?_⟩
 refine h2 C M H n ρ σ _ _ R w λvs H1 ds n1 e1 f1 r1 p=>?_
 refine⟨by rw [r1.length]; exact p.1,λa ha=>?_⟩
 have g:Grow H1 (BB H1 a (.lst vs)):=A5 ha
 exact q _ _ (.lst ds) n1 (e1.trans g.ext) (f1.grow g) (VR.back e1 ⟨a,rfl,ha,vs,AY,r1.pres (Il ha)⟩) p.2
noncomputable def Cu(K:Frag)(κ:Kd)(r:List V->Hp->VK->Prop)(f:List D->(D->Prop)->Prop):Prop:=∀(U:Addr->Prop) (M:Addr->Prop) (H:Hp) (ds:List D) (vs:List V) (P:D->Prop) (Q:VK),(∀a,M a->∃o,H a=some o)->(∀a,U a->M a) ->
 Paired (λv d=>AtT K U M H d v) vs ds->f ds P->(∀v H' z,Grow H H'->VR K U M H H' κ v z->P z->Q v H')->r vs H Q
noncomputable def DC(f:List D->(D->Prop)->Prop)(ws:EK):DW:=λn ρ P=>ws n ρ λds n1=>f ds λz=>P z n1
theorem Tv{r:List V->Hp->VK->Prop}{f:List D->(D->Prop)->Prop}{t:TA}(hA:Cu X.K κ r f)(h2:∀(C:Fm) (M:Addr->Prop) (H:Hp) (n:Nat) (ρ:List Slot) (σ:L2.St) (P:List D->Nat->Prop) (Q:List V->Hp->Prop),Rel X.K C M H n ρ σ->ws n ρ P ->
   (∀vs H' ds n',Ext C.U H H'->FeedC X.K C.F M H' n'->Paired (λv d=>AtT X.K C.V M H' d v) vs ds->P ds n'->Q vs H')->t σ H Q)
  (C:Fm) (M:Addr->Prop) (H:Hp) (n:Nat) (ρ:List Slot) (σ:L2.St) (P:D->Nat->Prop) (Q:VK) (R:Rel X.K C M H n ρ σ) (w:DC f ws n ρ P)
  (q:∀v H' d n',Ext C.U H H'->FeedC X.K C.F M H' n'->VR X.K C.V M H H' κ v d->P d n'->Q v H'):Wc r t σ H Q:=by
 refine h2 C M H n ρ σ _ _ R w λvs H1 ds n1 e1 f1 r1 p=>?_
 have R1:=R.step e1 f1
 refine hA C.V M H1 ds vs _ _ R1.dom R1.vM r1 p λv H2 z g vr pz=>?_
 exact q v H2 z n1 (e1.trans g.ext) (f1.grow g) (VR.back e1 vr) pz
theorem Ab{x:Str}{id:String}{p:Pos}{r:List V->Hp->VK->Prop}{f:List D->(D->Prop)->Prop}(hc:CC X (.builtin id) r)(hA:Cu X.K κ r f)(hg:Gl X x)(hm:X.mg x=none)(hv:bootBuiltins x=some (.builtin id))(ha:TQ X (e::es) ws)
  (hn:autoParam (x ≠ "__name__") zau1._auto_1) (hdb:autoParam ((x==("__debug__" : Str))=false) zau1._auto_1)
  (he:autoParam (starEach (e::es) X.env=(false,eval e X.env)::starEach es X.env) zau3._auto_1) (hpl:autoParam ((backTo pos (starEach es X.env)).any (·.1)=false) zau3._auto_1):DE X (.Call (.Name x p) (e::es) [] pos) κ (DC f ws):=by
 obtain⟨t,h1,h2⟩:=ha
 exact⟨_,Ea hc hg hm hv h1 hn hdb he hpl,λC M H n ρ σ P Q R w q=>Tv hA h2 C M H n ρ σ P Q R w q⟩
theorem CO{x:Str}{T:String}{p:Pos}{r:List V->Hp->VK->Prop}{f:List D->(D->Prop)->Prop}(hc:CC X (.type T) r)(hA:Cu X.K κ r f)(hg:Gl X x)(hm:X.mg x=none)(hv:bootBuiltins x=some (.type T))(ha:TQ X (e::es) ws)
  (hn:autoParam (x ≠ "__name__") zau1._auto_1) (hdb:autoParam ((x==("__debug__" : Str))=false) zau1._auto_1)
  (he:autoParam (starEach (e::es) X.env=(false,eval e X.env)::starEach es X.env) zau3._auto_1) (hpl:autoParam ((backTo pos (starEach es X.env)).any (·.1)=false) zau3._auto_1):DE X (.Call (.Name x p) (e::es) [] pos) κ (DC f ws):=by
 obtain⟨t,h1,h2⟩:=ha
 exact⟨_,Jn hc hg hm hv h1 hn hdb he hpl,λC M H n ρ σ P Q R w q=>Tv hA h2 C M H n ρ σ P Q R w q⟩
end
end Dp
namespace L2
open PySem PySem.Spec PyProof.Rows
noncomputable def Wm(z:Str):It:=⟨λi _=>i<z.cps.size,λi H x H'=>H'=H/\∃c,z.cps[i]?=some c/\x=.str ⟨#[c]⟩,λi _=>z.cps.size<=i⟩
theorem LX{P:Program}{w:World}{K:Frag}{tg:Expr}(it:Addr)(z:Str)(t:Tok)(ty:String)(hty:ty = "str_ascii_iterator"\/ty = "str_iterator")
  (W:∀A':Around,A'.handled=none->Walks P w A' it [it] [it] z.cps.size (SignAt z) (λi h=>h.IsStrIter it ty z t i)):Turn P w K tg (Wm z) [it] it (λi h=>h.IsStrIter it ty z t i) where
 mem:=by simp
 obj:=λi h st b hb=>by
  have e:b=it:=by simpa using hb
  subst e
  obtain⟨o,e,c,d⟩:=st
  exact⟨o,e,λv z=>by rw [d] at z; cases z⟩
 keep:=λi h h' st k=>let ⟨o,ho,r⟩:=st; ⟨o,k it (by simp) o ho,r⟩
 item:=by
  intro X hP hw hK hc i pins s σ H E I hf st hg
  subst hP hw hK
  obtain⟨f0,f1,f2,f3,f4,f5⟩:=hf it (by simp)
  refine(W X.A (I.ok.hd hc)).item i s _ _ hg st λv h' tk hv st' kk=>?_
  obtain⟨c,u,hcu,rfl⟩:=hv
  have I1:Inv X pins σ H { s with heap:=h',toks:=tk }:=I.turned (λb o hb e=>kk b o (by simpa using hb) e) f0 f1 f3 f4 f5
  obtain⟨o,e,cc,d⟩:=id st'
  exact⟨_,rfl,N8 (s:={ s with heap:=h',toks:=tk }) e cc d (by rcases hty with rfl | rfl <;> decide) ⟨.str ⟨#[c]⟩,H,I1,⟨_,rfl⟩,⟨rfl,c,hcu,rfl⟩,st',λb hb=>(hf b hb).1⟩⟩
 done:=by
  intro X hP hw hK hc i pins s σ H E I hf st hg
  subst hP hw hK
  obtain⟨f0,f1,f2,f3,f4,f5⟩:=hf it (by simp)
  have hx:z.cps[i]?=none:=by
   have:z.cps.size<=i:=hg
   simp [this]
  rcases hty with rfl | rfl
  ·exact wpAny_pyNext_ascii_end (I.ok.hd hc) st hx λh' eb=>⟨rfl,I.turned (t':=s.toks) (λb o hb e=>eb b o hb e) f0 f1 f3 f4 f5⟩
  ·exact wpAny_pyNext_wide_end (I.ok.hd hc) st hx λh' eb=>⟨rfl,I.turned (t':=s.toks) (λb o hb e=>eb b o hb e) f0 f1 f3 f4 f5⟩
 self:=λA i s Q E st h=>by
  rcases hty with rfl | rfl
  ·exact wpAny_pyIter_striter_ascii st h
  ·exact wpAny_pyIter_striter_wide st h
section
variable {X:Cx}{tg:Expr}
noncomputable def V8(K:Frag)(tl:TE):TI:=λσ H R=>tl σ H λx H1 =>
 (∃a,x=.ref a/\(∃xs,SqL K H1 a xs)/\R (Rl K a) H1)\/(∃a,x=.ref a/\(∃xs,SqT K H1 a xs)/\R (Rk K a) H1)\/∃z,x=.str z/\R (Wm z) H1
theorem M5{l:Expr}{tl:TE}(hl:PE X l tl):PI X tg l (V8 X.K tl):=by
 intro pins s σ H R I h
 refine BX (hl pins s σ H _ I h) λv s1 ⟨x,H1,I1,r1,q1⟩=>?_
 have hne:∀b,b∈[s1.heap.objs.size]->JG X pins H1 b:=λb hb=>by
  have e:b=s1.heap.objs.size:=by simpa using hb
  subst e
  exact I1.fpOk (No _) (I1.hok.fresh (No _))
 rcases q1 with ⟨a,e,⟨xs,hq⟩,q⟩ | ⟨a,e,⟨xs,hq⟩,q⟩ | ⟨z,e,q⟩
 ·subst e
  cases r1
  obtain⟨its,rv,p,hz⟩:=I1.list hq
  refine ZW p.isList ?_
  exact⟨s1.heap.objs.size,[s1.heap.objs.size],_,_,H1,rfl,I1.kept (t':=s1.toks) λb o e=>Ev _ e,Ob a _,⟨_,UF _ rfl,rfl,rfl⟩,hne,q⟩
 ·subst e
  cases r1
  obtain⟨its,rv,p,hz⟩:=I1.tuple hq
  refine Zp (show s1.heap.IsTuple a its.toArray from p) ?_
  exact⟨s1.heap.objs.size,[s1.heap.objs.size],_,_,H1,rfl,I1.kept (t':=s1.toks) λb o e=>Ev _ e,Ma a _,⟨_,UF _ rfl,rfl,rfl⟩,hne,q⟩
 ·subst e
  obtain⟨t,rfl⟩:=r1
  cases ha:z.cps.all (·<128)
  ·refine wpAny_pyIter_wide ha ?_
   exact⟨s1.heap.objs.size,[s1.heap.objs.size],_,_,H1,rfl,I1.kept (t':=s1.toks) λb o e=>Ev _ e,LX _ z t "str_iterator" (.inr rfl) (λA' hA=>Walks.strWide hA _ z t),⟨_,UF _ rfl,rfl,rfl⟩,hne,q⟩
  ·refine wpAny_pyIter_ascii ha ?_
   exact⟨s1.heap.objs.size,[s1.heap.objs.size],_,_,H1,rfl,I1.kept (t':=s1.toks) λb o e=>Ev _ e,LX _ z t "str_ascii_iterator" (.inl rfl) (λA' hA=>Walks.strAscii hA _ z t),⟨_,UF _ rfl,rfl,rfl⟩,hne,q⟩
end
section
variable {X:Cx}
theorem JP(bs:List Bool):((YN bs.length).all λi=>(bs[i]?).getD true)=bs.all id:=by
 induction bs with
 | nil=>rfl
 | cons b r ih =>
  rw [X5,List.range_succ_eq_map,cK,List.all_map,cK]
  simp only [List.getElem?_cons_zero,Option.getD_some,id_eq]
  congr 1
theorem MP(hc:X.calm=true):CC X (.builtin "all") (λxs H Q=>∃(p:Addr) (bs:List Bool),xs=[.ref p]/\SqL X.K H p (bs.map V.bl)/\Q (.bl (bs.all id)) H):=by
 intro pins s σ H xs us Q I r h
 obtain⟨p,bs,rfl,hq,q⟩:=h
 obtain⟨u,rfl,rx⟩:=vals1 r
 cases rx
 obtain⟨its,r',pl,hz⟩:=I.list hq
 have hlen:=r'.length
 have hl:s.heap.IsList p its.toArray:=pl.isList
 have hlt:p<s.heap.objs.size:=by obtain⟨_,e,_⟩:=id hl; exact Tk e
 refine call_all_walk (ZW hl ?_)
 refine⟨s.heap.objs.size,[s.heap.objs.size,p],[s.heap.objs.size],its.toArray.size,_,_,λi=>(bs[i]?).getD true,rfl,Walks.list (A:=X.A.in1) (I.ok.hd hc) _ p (YE hlt) its.toArray,
  ⟨⟨_,UF _ rfl,rfl,rfl⟩,hl.push _⟩,λi v s' Q' E' hP hQ=>?_,λh' tk hk=>?_⟩
 ·have hv:its[i]?=some v:=by simpa using hP
  have hb:∃b,bs[i]?=some b:=by
   have hi:i<its.length:=(X4.mp hv).1
   rw [Db] at hlen
   exact⟨bs[i]'(by omega),FM (by omega)⟩
  obtain⟨b,eb⟩:=hb
  obtain⟨u,eu,ru⟩:=r'.get (i:=i) (x:=.bl b) (by rw [On,eb]; rfl)
  rw [hv] at eu
  cases eu
  cases ru
  simp only [eb,Option.getD_some] at hQ
  exact Zt hQ
 ·have e:((YN its.toArray.size).all λi=>(bs[i]?).getD true)=bs.all id:=by
   rw [TM,← hlen,Db]; exact JP bs
  rw [e]
  exact⟨.bl _,H,I.kept (t':=tk) λb x e=>hk b x (λhm=>by rw [X7.mp hm] at e; exact Yy _ (Tk e)) (Ev _ e),rfl,q⟩
theorem MO:CC X (.builtin "isinstance") (λxs H Q=>∃x T t b,xs=[x,.ty T]/\Fi X.K H x t/\PySem.W.kitOne X.K t (.type T)=some b/\Q (.bl b) H):=by
 intro pins s σ H xs us Q I r h
 obtain⟨x,T,t,b,rfl,ty,e,q⟩:=h
 obtain⟨u,w',rfl,rx,rt⟩:=vals2 r
 cases rt
 exact PM I rx ty e λtk=>⟨.bl b,H,I.tok _,rfl,q⟩
theorem O4:OpR X (compareOp .LtE) (λx y H Q=>∃i j,x=.str i/\y=.str j/\Q (.bl (!(j.cps.toList<i.cps.toList))) H):=by
 intro pins s σ H x y v u Q I rx ry h
 obtain⟨i,j,rfl,rfl,q⟩:=h
 obtain⟨t,rfl⟩:=rx
 obtain⟨t',rfl⟩:=ry
 exact PySem.P.le_str ⟨.bl _,H,I,rfl,q⟩
theorem Mh{ys:List Str}:∀{us:List Value},Vals (ys.map V.str) us->StrsAre us ys:=by
 induction ys with
 | nil=>intro us r; rw [Zv] at r; cases r; exact .nil
 | cons n ns ih =>
  intro us r
  rw [X6] at r
  cases r with
  | cons r1 r2 =>
   obtain⟨t,e⟩:=r1
   subst e
   exact .cons n t (ih r2)
theorem UE:SlR X (λx lo hi H Q=>∃z,x=.str z/\z.length<=sizeLine/\Q (.str (Txt.slice z lo hi)) H):=by
 intro pins s σ H x v vl vu lo hi sl Q I rx hs pl pu h
 obtain⟨z,rfl,hz,q⟩:=h
 obtain⟨t,rfl⟩:=rx
 refine⟨"str",_,F.slot_str_getitem.lookup,typeIs_str _ _ _,?_⟩
 have fin:∀t' k,EP X pins σ Q (.str (Txt.slice z lo hi) t') { s with toks:=k }:=λt' k=>⟨.str _,H,I.tok _,⟨_,rfl⟩,q⟩
 cases pl with
 | none =>
  cases pu with
  | none=>exact Zj (l:=none) (u:=none) (st:=none) hs rfl (aX ⟨YH (Txt.slice_le z _ _) hz,λt' k=>fin t' k⟩)
  | int j tj=>exact Zj (l:=none) (u:=some (j,tj)) (st:=none) hs rfl (aX ⟨YH (Txt.slice_le z _ _) hz,λt' k=>fin t' k⟩)
 | int i ti =>
  cases pu with
  | none=>exact Zj (l:=some (i,ti)) (u:=none) (st:=none) hs rfl (aX ⟨YH (Txt.slice_le z _ _) hz,λt' k=>fin t' k⟩)
  | int j tj=>exact Zj (l:=some (i,ti)) (u:=some (j,tj)) (st:=none) hs rfl (aX ⟨YH (Txt.slice_le z _ _) hz,λt' k=>fin t' k⟩)
theorem O2(hu:X.A.units<cLine):OpR X (compareOp .NotEq) (λx y H Q=>∃a b xs,x=.ref a/\y=.ref b/\SqL X.K H a xs/\SqL X.K H b []/\Q (.bl (!xs.isEmpty)) H):=by
 intro pins s σ H x y v u Q I rx ry h
 obtain⟨a,b,xs,rfl,rfl,ha,hb,q⟩:=h
 cases rx
 cases ry
 obtain⟨its,r1,p1,_⟩:=I.list ha
 obtain⟨its2,r2,p2,_⟩:=I.list hb
 cases r2
 cases r1 with
 | nil=>exact SeqAt.RcNeAt.lists (e:=λ_=>true) p1.isList p2.isList rfl hu (λj h1 h2=>absurd h1 (by simp)) X.prog X.w X.xe _ ⟨.bl _,H,I,rfl,q⟩
 | cons r1 r2=>exact SeqAt.RcNeAt.lists_lengths p1.isList p2.isList (by simp) hu X.prog X.w X.xe _ ⟨.bl _,H,I,rfl,q⟩
end
end L2
namespace Dp
open PySem PySem.Spec PyProof.Rows L2
noncomputable def WN(K:Frag)(F:Option Fd)(U V' M:Addr->Prop)(H:Hp)(n:Nat)(ss:List Slot)(vs:List V):Prop :=
 (∀a,M a->∃o,H a=some o)/\(∀f,F=some f->U f.1)/\(∀a,U a->V' a)/\(∀a,V' a->M a)/\FeedC K F M H n/\Paired (KI K F V' M H) vs ss
noncomputable abbrev W2:=List Slot->Nat->(D->Nat->Prop)->Prop
noncomputable def DF(K:Frag)(κ:Kd)(W:W2)(np:Nat):Sp:=λvs H Q _=>vs.length=np/\∃(F:Option Fd) (U V' M:Addr->Prop) (n:Nat) (ss:List Slot) (P:D->Nat->Prop),WN K F U V' M H n ss vs/\W ss n P /\
 ∀v H' d n',Ext U H H'->FeedC K F M H' n'->VR K V' M H H' κ v d->P d n'->Q v H'
noncomputable def AL(w:DW):Nat->List Slot->(Slot->Nat->Prop)->Prop:=λn ρ P=>w n ρ λd n1=>P (.sh d) n1
noncomputable def Pw(w:DW):Nat->List Slot->(Slot->Nat->Prop)->Prop:=λn ρ P=>w n ρ λd n1=>P (.br d) n1
noncomputable def BF(i:Nat):Nat->List Slot->(Slot->Nat->Prop)->Prop:=λn ρ P=>match ρ[i]? with
 | some .fd=>P .fd n
 | _=>False
noncomputable def Al:VL:=λn _ P=>P [] n
noncomputable def AC(w:Nat->List Slot->(Slot->Nat->Prop)->Prop)(ws:VL):VL:=λn ρ P=>w n ρ λs n1=>ws n1 ρ λss n2=>P (s::ss) n2
noncomputable def Ai(W:W2)(was:VL):DW:=λn ρ P=>was n ρ λss n1=>W ss n1 P
section
variable {X:Cx}{a b c e:Expr}{es:List Expr}{κ κa κb:Kd}{wa wb wc:DW}{pos:Pos}{w1:Nat->List Slot->(Slot->Nat->Prop)->Prop}{was:VL}{ws:EK}
theorem AG(h:DE X e κ wa)(hk:autoParam (κ≠.tp) zau6._auto_1):WY X e (AL wa):=by
 obtain⟨t,h1,h2⟩:=h
 refine⟨t,h1,λC M H n ρ σ P Q R w q=>h2 C M H n ρ σ _ _ R w λv H' d n' e f r p=>?_⟩
 exact q v H' (.sh d) n' e f ⟨⟨v,rfl,r.shOf R.dom hk⟩,rfl⟩ p
theorem WG(h:DE X e κ wa):WY X e (Pw wa):=by
 obtain⟨t,h1,h2⟩:=h
 refine⟨t,h1,λC M H n ρ σ P Q R w q=>h2 C M H n ρ σ _ _ R w λv H' d n' e f r p=>?_⟩
 exact q v H' (.br d) n' e f ⟨⟨v,rfl,r.tpOf R.dom R.vM⟩,rfl⟩ p
theorem A8(i:Nat){x:Str}{pos:Pos}(hN:autoParam (X.N[i]?=some x) zau3._auto_1)(hv:autoParam (VF X.env.scope x) zau4._auto_1)(hd:autoParam ((x==("__debug__" : Str))=false) zau1._auto_1)
  (hcd:autoParam ((x==("__classdict__" : Str))=false) zau1._auto_1):WY X (.Name x pos) (BF i):=by
 refine⟨_,IM hN hv hd hcd,λC M H n ρ σ P Q R w q=>?_⟩
 unfold BF at w
 split at w
 ·rename_i hd
  obtain⟨f,e1,h1⟩:=R.sl i _ hd
  exact⟨.ref f.1,getD_some e1,q _ H .fd n (Ext.refl _ _) R.feed ⟨⟨f,rfl,h1⟩,rfl⟩ w⟩
 ·exact w.elim
theorem AM:WX X [] Al:=⟨_,BC,λC M H n ρ σ P Q R w q=>q [] H [] n (Ext.refl _ _) R.feed .nil w⟩
theorem AA(ha:WY X e w1)(hr:WX X es was)(hs:autoParam (starEach (e::es) X.env=(false,eval e X.env)::starEach es X.env) zau3._auto_1):WX X (e::es) (AC w1 was):=by
 obtain⟨t,h1,h2⟩:=ha
 obtain⟨u,g1,g2⟩:=hr
 refine⟨_,Au h1 g1 hs,λC M H n ρ σ P Q R w q=>?_⟩
 refine h2 C M H n ρ σ _ _ R w λv H1 d n1 e1 f1 r1 p=>?_
 have R1:=R.step e1 f1
 refine g2 C M H1 n1 ρ σ _ _ R1 p λvs H2 ds n2 e2 f2 r2 p2=>?_
 exact q (v::vs) H2 (d::ds) n2 (e1.trans e2) f2 (.cons ⟨r1.1.pres (R1.pres e2) (λ_ z=>z) e2 R.uV,r1.2⟩ r2) p2
theorem TB{k:Nat}{f:Addr}{fd:FuncData}{ps:List Str}{W:W2}{x:Str}{p:Pos}(G:BA X.prog X.w X.K X.mg X.base B8 k f fd ps (DF X.K κ W ps.length))(hW:∀ss n P,W ss n P->ss.length=ps.length)
  (hr:Room k X.A) (hg:Gl X x) (hm:X.mg x=some (.ref f)) (hk:keepIn X.K (.ref f)=true) (hb:Binds X.K fd ps []) (ha:WX X (e::es) was)
  (hdb:autoParam ((x==("__debug__" : Str))=false) zau1._auto_1) (he:autoParam (starEach (e::es) X.env=(false,eval e X.env)::starEach es X.env) zau3._auto_1) (hpl:autoParam ((backTo pos (starEach es X.env)).any (·.1)=false) zau3._auto_1) :
  DE X (.Call (.Name x p) (e::es) [] pos) κ (Ai W was):=by
 obtain⟨t,h1,h2⟩:=ha
 refine⟨_,Km G hr hg hm hk hb .nil Ny h1 hdb he hpl,λC M H n ρ σ P Q R w q=>?_⟩
 refine h2 C M H n ρ σ _ _ R w λvs H1 ss n1 e1 f1 r1 p=>?_
 have R1:=R.step e1 f1
 show DF X.K κ W ps.length (vs++[]) H1 Q E0
 rw [Yv]
 refine⟨(Paired.length r1).trans (hW _ _ _ p),C.F,C.U,C.V,M,n1,ss,P,⟨R1.dom,R1.fU,R1.uV,R1.vM,f1,r1⟩,p,λv H2 d n2 e2 f2 r2 p2=>?_⟩
 exact q v H2 d n2 (e1.trans e2) f2 (VR.back e1 r2) p2
noncomputable def Xu(K:Frag)(κ:Kd)(T:String)(r:V->List V->Hp->VK->Prop)(f:D->List D->(D->Prop)->Prop):Prop:=∀(U:Addr->Prop) (M:Addr->Prop) (H:Hp) (d:D) (ds:List D) (x:V) (vs:List V) (P:D->Prop) (Q:VK),(∀a,M a->∃o,H a=some o)->(∀a,U a->M a) ->
 AtT K U M H d x->Paired (λv d=>AtT K U M H d v) vs ds->f d ds P->(∀v H' z,Grow H H'->VR K U M H H' κ v z->P z->Q v H')->r x vs H Q
noncomputable def XZ(T:String)(d:D):Prop:=match d with
 | .str _=>T = "str"
 | .int _=>T = "int"
 | .lst _=>T = "list"
 | _=>False
theorem Um{T:String}{K:Frag}{U:Addr->Prop}{M:Addr->Prop}{H:Hp}{d:D}{x:V}(h:XZ T d)(hx:AtT K U M H d x):Wq K T x H:=by
 cases d with
 | str z=>obtain⟨e,_⟩:=hx; subst e; exact h
 | int i=>cases (show x=.int i from hx); exact h
 | lst ds=>obtain⟨a,vs,e,_,hq,_⟩:=hx; subst e; exact .inl ⟨h,vs,.inl hq⟩
 | _=>exact(show False from h).elim
noncomputable def DO(X:Cx)(e:Option Expr)(w:Nat->List Slot->(Option Int->Nat->Prop)->Prop):Prop:=∃t,PO X e t/\∀(C:Fm) (M:Addr->Prop) (H:Hp) (n:Nat) (ρ:List Slot) (σ:L2.St) (P:Option Int->Nat->Prop) (Q:Option Int->Hp->Prop),Rel X.K C M H n ρ σ->w n ρ P ->
 (∀o H' n',Ext C.U H H'->FeedC X.K C.F M H' n'->P o n'->Q o H')->t σ H Q
noncomputable def Fl:Nat->List Slot->(Option Int->Nat->Prop)->Prop:=λn _ P=>P none n
noncomputable def LR(w:DW):Nat->List Slot->(Option Int->Nat->Prop)->Prop:=λn ρ P=>w n ρ λd n1=>match d with
 | .int i=>P (some i) n1
 | _=>False
theorem E7:DO X none Fl:=⟨_,Nq,λC M H n ρ σ P Q R w q=>q none H n (Ext.refl _ _) R.feed w⟩
theorem Qu{U:Addr->Prop}{K:Frag}{M:Addr->Prop}{H H':Hp}{v:V}{i:Int}(h:VR K U M H H' κ v (.int i)):v=.int i:=by
 cases κ with
 | sh=>exact h
 | tp=>exact h
 | fr=>obtain⟨a,_,_,t⟩:=h; exact(show False from t).elim
theorem E6(h:DE X e κ wa):DO X (some e) (LR wa):=by
 obtain⟨t,h1,h2⟩:=h
 refine⟨_,Np h1,λC M H n ρ σ P Q R w q=>?_⟩
 refine h2 C M H n ρ σ _ _ R w λv H1 d n1 e1 f1 r1 p=>?_
 cases d with
 | int i=>exact⟨i,Qu r1,q _ H1 n1 e1 f1 p⟩
 | _=>exact p.elim
noncomputable def Xc(K:Frag)(κ:Kd)(r:V->Option Int->Option Int->Hp->VK->Prop)(f:D->Option Int->Option Int->(D->Prop)->Prop):Prop:=∀(U:Addr->Prop) (M:Addr->Prop) (H:Hp) (d:D) (x:V) (lo hi:Option Int) (P:D->Prop) (Q:VK),(∀a,M a->∃o,H a=some o)->(∀a,U a->M a) ->
 AtT K U M H d x->f d lo hi P->(∀v H' z,Grow H H'->VR K U M H H' κ v z->P z->Q v H')->r x lo hi H Q
noncomputable def VO(f:D->Option Int->Option Int->(D->Prop)->Prop)(w:DW)(wl wh:Nat->List Slot->(Option Int->Nat->Prop)->Prop):DW:=λn ρ P=>w n ρ λd n1=>wl n1 ρ λlo n2=>wh n2 ρ λhi n3=>f d lo hi λz=>P z n3
theorem J0{lo hi:Option Expr}{p2:Pos}{r:V->Option Int->Option Int->Hp->VK->Prop}{f:D->Option Int->Option Int->(D->Prop)->Prop}{wl wh:Nat->List Slot->(Option Int->Nat->Prop)->Prop}(hr:SlR X r)(hA:Xc X.K κ r f)(he:DE X e κa wa)(hl:DO X lo wl)(hh:DO X hi wh) :
  DE X (.Subscript e (.Slice lo hi none p2) pos) κ (VO f wa wl wh):=by
 obtain⟨t,h1,h2⟩:=he
 obtain⟨u,g1,g2⟩:=hl
 obtain⟨u',k1,k2⟩:=hh
 refine⟨_,Lr hr h1 g1 k1,λC M H n ρ σ P Q R w q=>?_⟩
 refine h2 C M H n ρ σ _ _ R w λv H1 d n1 e1 f1 r1 p=>?_
 have R1:=R.step e1 f1
 have tv:=r1.tpOf R.dom R.vM
 refine g2 C M H1 n1 ρ σ _ _ R1 p λlo H2 n2 e2 f2 p2=>?_
 have R2':=R1.step e2 f2
 refine k2 C M H2 n2 ρ σ _ _ R2' p2 λhi H3 n3 e3 f3 p3=>?_
 have R3:=R2'.step e3 f3
 refine hA C.V M H3 d v lo hi _ _ R3.dom R3.vM ((tv.pres (R1.pres e2) e2 R.uV).pres (R2'.pres e3) e3 R.uV) p3 λv H4 z g vr pz=>?_
 exact q v H4 z n3 (((e1.trans e2).trans e3).trans g.ext) (f3.grow g) (VR.back ((e1.trans e2).trans e3) vr) pz
end
structure E2 where
 nx:Nat->List Slot->Prop
 rt:D->Nat->Prop
 bk:Nat->List Slot->Prop:=λ_ _=>False
 ct:Nat->List Slot->Prop:=λ_ _=>False
noncomputable abbrev Af:=E2->Nat->List Slot->Prop
structure Ri (K:Frag) (C:Fm) (κ:Kd) (D2:E2) (E:Ends):Prop where
 nx:∀M H n ρ σ,Rel K C M H n ρ σ->D2.nx n ρ->E.nx σ H
 rt:∀v H d n,Ext C.U C.H0 H->FeedC K C.F C.M0 H n->VR K C.V C.M0 C.H0 H κ v d->D2.rt d n->E.rt v H
 bk:∀M H n ρ σ,Rel K C M H n ρ σ->D2.bk n ρ->E.bk σ H
 ct:∀M H n ρ σ,Rel K C M H n ρ σ->D2.ct n ρ->E.ct σ H
noncomputable def DS(X:Cx)(κ:Kd)(st:Stmt)(w:Af):Prop:=∃t,PS X st t/\∀(C:Fm) (M:Addr->Prop) (H:Hp) (n:Nat) (ρ:List Slot) (σ:L2.St) (D2:E2) (E:Ends),Rel X.K C M H n ρ σ->Ri X.K C κ D2 E->w D2 n ρ->t E σ H
noncomputable def Pq(X:Cx)(κ:Kd)(st:List Stmt)(w:Af):Prop:=∃t,PSs X st t/\∀(C:Fm) (M:Addr->Prop) (H:Hp) (n:Nat) (ρ:List Slot) (σ:L2.St) (D2:E2) (E:Ends),Rel X.K C M H n ρ σ->Ri X.K C κ D2 E->w D2 n ρ->t E σ H
noncomputable def A6:Af:=λD2 n ρ=>D2.nx n ρ
noncomputable def Ar(u v:Af):Af:=λD2 n ρ=>u { D2 with nx:=v D2 } n ρ
noncomputable def Ay(w:DW):Af:=λD2 n ρ=>w n ρ λd n1=>D2.rt d n1
noncomputable def BZ(t:Ho)(u v:Af):Af:=λD2 n ρ=>t n ρ λc n1=>if c=true then u D2 n1 ρ else v D2 n1 ρ
noncomputable def BI(i:Nat)(w:DW):Af:=λD2 n ρ=>w n ρ λd n1=>D2.nx n1 (ρ.set i (.sh d))
section
variable {X:Cx}{κ κe:Kd}{st:Stmt}{rest:List Stmt}{u v:Af}{wa:DW}{wA:Ho}{e c:Expr}{pos:Pos}
theorem AZ:Pq X κ [] A6:=⟨_,Fw,λC M H n ρ σ D2 E R L w=>L.nx M H n ρ σ R w⟩
theorem AE(h1:DS X κ st u)(h2:Pq X κ rest v):Pq X κ (st::rest) (Ar u v):=by
 obtain⟨t,a1,a2⟩:=h1
 obtain⟨t',b1,b2⟩:=h2
 refine⟨_,A3 a1 b1,λC M H n ρ σ D2 E R L w=>?_⟩
 exact a2 C M H n ρ σ { D2 with nx:=v D2 } { E with nx:=t' E } R ⟨λM H n ρ σ R w=>b2 C M H n ρ σ D2 E R L w,L.rt,L.bk,L.ct⟩ w
theorem AJ(h1:DS X κ st u):Pq X κ [st] u:=by
 obtain⟨t,a1,a2⟩:=h1
 exact⟨t,Ba a1,a2⟩
theorem UJ{K:Frag}{C:Fm}{M:Addr->Prop}{H H':Hp}{n n':Nat}{ρ:List Slot}{σ:L2.St}{D2:E2}{E:Ends}{d:D}{v:V}(R:Rel K C M H n ρ σ)(L:Ri K C κ D2 E)(e:Ext C.U H H')(f:FeedC K C.F M H' n')(r:VR K C.V M H H' κ v d)(hk:κ≠.tp)(p:D2.rt d n'):E.rt v H':=by
 have less:Pres M H' C.M0 H':=Pres.less R.sub
 refine L.rt v H' d n' (R.ext.trans e) (f.pres less λ_ _ _ z=>z) ?_ p
 cases κ with
 | sh=>exact At.pres less r
 | tp=>exact absurd rfl hk
 | fr =>
  have r':=VR.back (κ:=.fr) R.ext r
  obtain⟨a,e1,h1,h2⟩:=r'
  exact⟨a,e1,h1,h2.pres (Pres.less λb z=>z.imp (R.sub b) id) λ_ z=>z⟩
theorem AR(h:DE X e κ wa)(hk:autoParam (κ≠.tp) zau6._auto_1):DS X κ (.Return (some e) pos) (Ay wa):=by
 obtain⟨t,a1,a2⟩:=h
 refine⟨_,Gh a1,λC M H n ρ σ D2 E R L w=>?_⟩
 exact a2 C M H n ρ σ _ _ R w λv H' d n' e1 f1 r1 p=>UJ R L e1 f1 r1 hk p
theorem As{a b:List Stmt}(hc:DT X c wA)(ha:Pq X κ a u)(hb:Pq X κ b v):DS X κ (.If c a b pos) (BZ wA u v):=by
 obtain⟨t,a1,a2⟩:=hc
 obtain⟨t',b1,b2⟩:=ha
 obtain⟨t'',c1,c2⟩:=hb
 refine⟨_,Lp a1 b1 c1,λC M H n ρ σ D2 E R L w=>?_⟩
 refine a2 C M H n ρ σ _ _ R w λb H1 n1 e1 f1 p=>?_
 cases b with
 | true=>exact b2 C M H1 n1 ρ σ D2 E (R.step e1 f1) L p
 | false=>exact c2 C M H1 n1 ρ σ D2 E (R.step e1 f1) L p
theorem Ah{i:Nat}{x:Str}{pos':Pos}(hN:X.N.Nodup)(hi:X.N[i]?=some x)(hx:Loc X.env.scope x)(he:DE X e κe wa)(hk:autoParam (κe≠.tp) zau6._auto_1)(hs:autoParam (swapsWith e (some (.Name x pos')) pos.line X.env=pure false) zau3._auto_1)
  (hf:autoParam (X.fn x=true\/X.env.scope.names.lookup x=some .local) zau0._auto_1):DS X κ (.Assign [.Name x pos'] e pos) (BI i wa):=by
 obtain⟨t,a1,a2⟩:=he
 refine⟨_,Dq hN hi hx a1 hs hf,λC M H n ρ σ D2 E R L w=>?_⟩
 refine a2 C M H n ρ σ _ _ R w λv H' d n' e1 f1 r1 p=>?_
 exact L.nx M H' n' _ _ ((R.step e1 f1).set (r1.shOf R.dom hk)) p
end
section
variable {X:Cx}{κ κe:Kd}{e:Expr}{wa:DW}{pos:Pos}
noncomputable def Px(i:Nat)(w:DW):Af:=λD2 n ρ=>w n ρ λd n1=>D2.nx n1 (ρ.set i (.ow d))
theorem OD{i:Nat}{x:Str}{pos':Pos}(hN:X.N.Nodup)(hi:X.N[i]?=some x)(hx:Loc X.env.scope x)(he:DE X e .fr wa)(hs:autoParam (swapsWith e (some (.Name x pos')) pos.line X.env=pure false) zau3._auto_1)
  (hf:autoParam (X.fn x=true\/X.env.scope.names.lookup x=some .local) zau0._auto_1):DS X κ (.Assign [.Name x pos'] e pos) (Px i wa):=by
 obtain⟨t,a1,a2⟩:=he
 refine⟨_,Dq hN hi hx a1 hs hf,λC M H n ρ σ D2 E R L w=>?_⟩
 refine a2 C M H n ρ σ _ _ R w λv H' d n' e1 f1 r1 p=>?_
 obtain⟨a,rfl,h1,h2⟩:=r1
 exact L.nx _ H' n' _ _ (R.setOw e1 f1 h1 h2) p
noncomputable def VU(i:Nat)(w:Af):Af:=λD2 n ρ=>∃d,ρ[i]?=some (.ow d)/\w D2 n (ρ.set i (.sh d))
theorem Up{K:Frag}{C:Fm}{M:Addr->Prop}{H:Hp}{n:Nat}{ρ:List Slot}{σ:L2.St}{i:Nat}{d:D}(R:Rel K C M H n ρ σ)(hi:ρ[i]?=some (.ow d)):∃M',Rel K C M' H n (ρ.set i (.sh d)) σ:=by
 obtain⟨a,e1,_⟩:=R.sl i _ hi
 exact⟨_,R.freeze hi e1⟩
theorem S2{st:List Stmt}{w:Af}(i:Nat)(h:Pq X κ st w):Pq X κ st (VU i w):=by
 obtain⟨t,a1,a2⟩:=h
 refine⟨t,a1,λC M H n ρ σ D2 E R L ⟨d,hd,hw⟩=>?_⟩
 obtain⟨M',R'⟩:=Up R hd
 exact a2 C M' H n _ σ D2 E R' L hw
noncomputable def WS(K:Frag)(r:V->List V->Hp->VK->Prop)(f:D->List D->(D->D->Prop)->Prop):Prop:=∀(M:Addr->Prop) (H:Hp) (a:Addr) (d:D) (ds:List D) (vs:List V) (P:D->D->Prop) (Q:VK),M a->Tops K M H a d->Ats K M H ds vs->f d ds P ->
 (∀o e z v,Tops K M (BB H a o) a e->At K M (BB H a o) z v->P e z->Q v (BB H a o))->r (.ref a) vs H Q
noncomputable def Wp(i:Nat)(T:String)(f:D->List D->(D->D->Prop)->Prop)(ws:EK):Af:=λD2 n ρ=>∃d,ρ[i]?=some (.ow d)/\XZ T d/\ws n ρ λds n1=>f d ds λe _=>D2.nx n1 (ρ.set i (.ow e))
theorem F1{M:Addr->Prop}{H:Hp}{a:Addr}{o u:HO}(m:M a)(e:H a=some u)(t:autoParam (∀vs,u≠.tup vs) zau7._auto_1):Pres M H M (BB H a o):=⟨λb o' q nb=>by rw [AT (λz=>nb (by rw [z]; exact m))]; exact q,λ_ z=>.inl z,λb vs q=>by rw [AT (λz=>by rw [z,e] at q; exact t vs (TW q))]; exact q⟩
theorem WF{x name:Str}{p apos cpos:Pos}{T id:String}{r:V->List V->Hp->VK->Prop}{f:D->List D->(D->D->Prop)->Prop}{es:List Expr}{ws:EK}(i:Nat)(pa:PlainAttrs T)(slot:PySem.Slot T name id)(hty:typeOf (.builtin id)=pure (.type "method_descriptor"))
  (hm:Wl X id r) (hA:WS X.K r f) (h:PE X (.Name x p) (BG i)) (ha:VM X (e::es) ws)
  (hbase:autoParam (attributeBase (.Name x p) name X.env (eval (.Name x p) X.env)=eval (.Name x p) X.env) zau3._auto_1)
  (hfew:autoParam (((backTo cpos (starEach (e::es) X.env)).all (λx=>!x.1)&&(backToKw cpos (keywordEach [] X.env)).all (λx=>x.1.isSome)
   && decide ((e::es).length+([]:List Keyword).length+(if ([]:List Keyword).isEmpty then 0 else 1)<30))=true) zau3._auto_1)
  (hline:autoParam ((apos.endLine==cpos.line)=true) zau3._auto_1) (hs:autoParam (starEach (e::es) X.env=(false,eval e X.env)::starEach es X.env) zau3._auto_1) (hplain:autoParam ((backTo cpos (starEach es X.env)).any (·.1)=false) zau3._auto_1)
  (hsw:autoParam (swapsWith (.Call (.Attribute (.Name x p) name apos) (e::es) [] cpos) none pos.line X.env=pure false) zau3._auto_1) :
  DS X κ (.Expr (.Call (.Attribute (.Name x p) name apos) (e::es) [] cpos) pos) (Wp i T f ws):=by
 obtain⟨t,a1,a2⟩:=ha
 refine⟨_,SH (V1 pa slot hty hm h a1 hbase hfew hline hs hplain) hsw,λC M H n ρ σ D2 E R L ⟨d,hd,hT,hw⟩=>?_⟩
 obtain⟨a,e1,m,nv,tt⟩:=R.sl i _ hd
 refine⟨.ref a,getD_some e1,Um hT (tt.att nv),?_⟩
 refine a2 C M H n ρ σ _ _ R hw λvs H1 ds n1 ee f1 r1 p=>?_
 have R1:=R.step ee f1
 obtain⟨a',e1',m',nv',tt'⟩:=R1.sl i _ hd
 rw [e1] at e1'
 cases e1'
 exact hA M H1 a d ds vs _ _ m' tt' r1 p λo d' z v t2 hz pp=>L.nx M _ n1 _ σ (R1.mut hd e1 t2) pp
noncomputable def Ut(d:D)(ds:List D)(P:D->D->Prop):Prop:=∃xs ys,d=.lst xs/\ds=[.lst ys]/\xs.length+ys.length<=sizeLine/\P (.lst (xs++ys)) .non
theorem WM{K:Frag}:WS K Ni Ut:=by
 intro M H a d ds vs P Q m t hv w q
 obtain⟨xs,ys,rfl,rfl,hl,w⟩:=w
 obtain⟨us,h1,h2⟩:=t
 obtain⟨u,r,rfl,hu,hr⟩:=hv
 cases (show r=[] from hr)
 obtain⟨b,zs,rfl,hb,hz⟩:=hu
 refine⟨a,b,us,zs,rfl,rfl,h1,hb.2,by rw [h2.length,hz.length]; exact hl,q _ (.lst (xs++ys)) .non _ ⟨us++zs,AY,?_⟩ rfl w⟩
 exact(h2.append hz).pres (F1 m h1)
end
noncomputable def Yields(K:Frag)(M:Addr->Prop)(H:Hp)(J:It)(ds:List D):Prop:=∀(i:Nat) (M':Addr->Prop) (H':Hp),Pres M H M' H'->(∀a,M' a->∃o,H' a=some o) ->
 (∀d,ds[i]?=some d->J.go i H'/\∀x H2,J.yld i H' x H2->Grow H' H2/\At K M' H2 d x)/\(ds.length<=i->J.stop i H')
noncomputable def OR(K:Frag)(U M:Addr->Prop)(H:Hp)(J:It)(ds:List D):Prop:=∀(i:Nat) (M':Addr->Prop) (H':Hp),Pres M H M' H'->Ext U H H'->(∀a,M' a->∃o,H' a=some o) ->
 (∀d,ds[i]?=some d->J.go i H'/\∀x H2,J.yld i H' x H2->Grow H' H2/\At K M' H2 d x)/\(ds.length<=i->J.stop i H')
theorem Yields.e{K:Frag}{U M:Addr->Prop}{H:Hp}{J:It}{ds:List D}(h:Yields K M H J ds):OR K U M H J ds:=λi M' H' p _ d=>h i M' H' p d
noncomputable def WW(X:Cx)(tg iter:Expr)(w:EK):Prop:=∃wi,PI X tg iter wi/\∀(C:Fm) (M:Addr->Prop) (H:Hp) (n:Nat) (ρ:List Slot) (σ:L2.St) (P:List D->Nat->Prop) (R:It->Hp->Prop),Rel X.K C M H n ρ σ->w n ρ P ->
 (∀J H' ds n',Ext C.U H H'->FeedC X.K C.F M H' n'->OR X.K C.U M H' J ds->P ds n'->R J H')->wi σ H R
noncomputable def DI(X:Cx)(tg iter:Expr)(w:EK):Prop:=∃wi,PI X tg iter wi/\∀(C:Fm) (M:Addr->Prop) (H:Hp) (n:Nat) (ρ:List Slot) (σ:L2.St) (P:List D->Nat->Prop) (R:It->Hp->Prop),Rel X.K C M H n ρ σ->w n ρ P ->
 (∀J H' ds n',Ext C.U H H'->FeedC X.K C.F M H' n'->Yields X.K M H' J ds->P ds n'->R J H')->wi σ H R
noncomputable def signs(x:Str):List D:=x.cps.toList.map λc=>.str ⟨#[c]⟩
noncomputable def Bg(w:DW):EK:=λn ρ P=>w n ρ λd n1=>match d with
 | .lst ds=>P ds n1
 | .tup ds=>P ds n1
 | .str x=>P (signs x) n1
 | _=>False
theorem LO{K:Frag}{M:Addr->Prop}{H:Hp}{a:Addr}{vs:List V}{ds:List D}(h:NdL M H a vs)(hs:Ats K M H ds vs):Yields K M H (Rl K a) ds:=by
 intro i M' H' p _
 have hq:SqL K H' a vs:=(h.pres p).sq
 refine⟨λd hd=>?_,λhl=>⟨vs,hq,by rw [hs.length]; exact hl⟩⟩
 obtain⟨v,e,hv⟩:=(hs.pres p).get hd
 refine⟨⟨vs,v,hq,e⟩,λx H2 y=>?_⟩
 obtain⟨e2,y⟩:=y
 subst e2
 have:some v=some x:=e.symm.trans (y vs hq)
 cases this
 exact⟨.refl,hv⟩
theorem Hq{K:Frag}{M:Addr->Prop}{H:Hp}{a:Addr}{vs:List V}{ds:List D}(h:NdT M H a vs)(hs:Ats K M H ds vs):Yields K M H (Rk K a) ds:=by
 intro i M' H' p _
 have hq:SqT K H' a vs:=(h.pres p).sq
 refine⟨λd hd=>?_,λhl=>⟨vs,hq,by rw [hs.length]; exact hl⟩⟩
 obtain⟨v,e,hv⟩:=(hs.pres p).get hd
 refine⟨⟨vs,v,hq,e⟩,λx H2 y=>?_⟩
 obtain⟨e2,y⟩:=y
 subst e2
 have:some v=some x:=e.symm.trans (y vs hq)
 cases this
 exact⟨.refl,hv⟩
theorem yields_str{K:Frag}{M:Addr->Prop}{H:Hp}{z:Str}:Yields K M H (Wm z) (signs z):=by
 intro i M' H' p _
 refine⟨λd hd=>?_,λhl=>?_⟩
 ·unfold signs at hd
  rw [On] at hd
  have hi:i<z.cps.size:=by
   cases q:z.cps.toList[i]? with
   | none=>rw [q] at hd; cases hd
   | some c=>simpa using (X4.mp q).1
  refine⟨hi,λx H2 y=>?_⟩
  obtain⟨e2,c,hc,rfl⟩:=y
  subst e2
  have:z.cps.toList[i]?=some c:=by simpa using hc
  rw [this] at hd
  have hd':D.str ⟨#[c]⟩=d:=TW hd
  subst hd'
  exact⟨.refl,rfl,by rw [Yj]; show 1<=16777216; decide⟩
 ·show z.cps.size<=i
  unfold signs at hl
  simpa using hl
noncomputable def DJ(lo:Int)(n:Nat):List D:=(YN n).map fun(i:Nat)=>.int (lo+(i:Int))
theorem Fk{K:Frag}{M:Addr->Prop}{H:Hp}{lo:Int}{m:Nat}:Yields K M H (T3 lo m) (DJ lo m):=by
 intro i M' H' p _
 refine⟨λd hd=>?_,λhl=>?_⟩
 ·unfold DJ at hd
  rw [On] at hd
  have hi:i<m:=by
   cases q:(YN m)[i]? with
   | none=>rw [q] at hd; cases hd
   | some c=>simpa using (X4.mp q).1
  rw [am hi] at hd
  have hd':D.int (lo+i)=d:=TW hd
  subst hd'
  refine⟨hi,λx H2 y=>?_⟩
  obtain⟨e2,e3⟩:=y
  subst e2
  exact⟨.refl,e3⟩
 ·show m<=i
  unfold DJ at hl
  simpa using hl
section
variable {X:Cx}{tg e e2:Expr}{es:List Expr}{κ:Kd}{wa:DW}{ws:EK}{p pos:Pos}
theorem Iu(h:DE X e κ wa)(hk:autoParam (κ≠.tp) zau6._auto_1):DI X tg e (Bg wa):=by
 obtain⟨t,a1,a2⟩:=h
 refine⟨_,M5 a1,λC M H n ρ σ P Rr R w q=>?_⟩
 refine a2 C M H n ρ σ _ _ R w λv H1 d n1 e1 f1 r1 p=>?_
 have hv:=r1.shOf R.dom hk
 cases d with
 | lst ds =>
  obtain⟨a,vs,e,hn,hs⟩:=hv
  exact .inl ⟨a,e,⟨vs,hn.sq⟩,q _ H1 ds n1 e1 f1 (LO hn hs) p⟩
 | tup ds =>
  obtain⟨a,vs,e,hn,hs⟩:=hv
  exact .inr (.inl ⟨a,e,⟨vs,hn.sq⟩,q _ H1 ds n1 e1 f1 (Hq hn hs) p⟩)
 | str z=>exact .inr (.inr ⟨z,hv.1,q _ H1 _ n1 e1 f1 yields_str p⟩)
 | _=>exact p.elim
noncomputable def Jd(ws:EK):EK:=λn ρ P=>ws n ρ λds n1=>∃j:Int,ds=[.int j]/\(-(2 ^ 62)<=j/\j<2 ^ 62)/\P (DJ 0 j.toNat) n1
theorem DR(hg:Gl X "range")(hm:X.mg "range"=none)(ha:TQ X [e] ws)(hs:autoParam (starEach [e] X.env=[(false,eval e X.env)]) zau3._auto_1):DI X tg (.Call (.Name "range" p) [e] [] pos) (Jd ws):=by
 obtain⟨t,a1,a2⟩:=ha
 refine⟨_,CL hg hm a1 hs,λC M H n ρ σ P Rr R w q=>?_⟩
 refine a2 C M H n ρ σ _ _ R w λvs H1 ds n1 e1 f1 r1 p=>?_
 obtain⟨j,rfl,hj,p⟩:=p
 cases r1 with
 | cons r rr =>
  cases rr
  have hv:_=V.int j:=r
  exact⟨j,by rw [hv],hj.1,hj.2,q _ H1 _ n1 e1 f1 Fk p⟩
theorem DI.c(h:DI X tg e ws):WW X tg e ws:=by
 obtain⟨wi,a1,a2⟩:=h
 exact⟨wi,a1,λC M H n ρ σ P Rr R w q=>a2 C M H n ρ σ P Rr R w λJ H' ds n' e1 f1 y p=>q J H' ds n' e1 f1 y.e p⟩
theorem CH(h:DE X e κ wa):WW X tg e (Bg wa):=by
 obtain⟨t,a1,a2⟩:=h
 refine⟨_,M5 a1,λC M H n ρ σ P Rr R w q=>?_⟩
 refine a2 C M H n ρ σ _ _ R w λv H1 d n1 e1 f1 r1 p=>?_
 have hv:AtT X.K C.V M H1 d v:=r1.tpOf R.dom R.vM
 cases d with
 | lst ds =>
  obtain⟨a,vs,e,nv,hr,hs⟩:=hv
  refine .inl ⟨a,e,⟨vs,.inl hr⟩,q _ H1 ds n1 e1 f1 (λi M' H' pr ex _=>?_) p⟩
  have hq:SqL X.K H' a vs:=by
   rcases hr with hr | ⟨o,hr⟩
   ·exact .inl (.inl (ex.keep hr λz=>nv (R.uV a z)))
   ·exact .inl (.inr ⟨o,ex.keep hr λz=>nv (R.uV a z)⟩)
  refine⟨λd hd=>?_,λhl=>⟨vs,hq,by rw [hs.length]; exact hl⟩⟩
  obtain⟨v,e,hv⟩:=(hs.pres pr).get hd
  refine⟨⟨vs,v,hq,e⟩,λx H2 y=>?_⟩
  obtain⟨e2,y⟩:=y
  subst e2
  have:some v=some x:=e.symm.trans (y vs hq)
  cases this
  exact⟨.refl,hv⟩
 | tup ds =>
  obtain⟨a,vs,e,hn,hs⟩:=hv
  exact .inr (.inl ⟨a,e,⟨vs,hn.sq⟩,q _ H1 ds n1 e1 f1 (Hq hn hs).e p⟩)
 | str z=>exact .inr (.inr ⟨z,hv.1,q _ H1 _ n1 e1 f1 yields_str.e p⟩)
 | _=>exact p.elim
end
noncomputable abbrev BW:=D->List Slot->(List Slot->Prop)->Prop
noncomputable def DG(X:Cx)(tg:Expr)(b:BW):Prop:=∃g,PG X tg g/\∀(C:Fm) (M:Addr->Prop) (H:Hp) (n:Nat) (ρ:List Slot) (σ:L2.St) (d:D) (v:V) (P:List Slot->Prop) (Q:L2.St->Hp->Prop),Rel X.K C M H n ρ σ->At X.K M H d v->b d ρ P ->
 (∀ρ' σ',Rel X.K C M H n ρ' σ'->P ρ'->Q σ' H)->g v σ H Q
noncomputable def A9(i:Nat):BW:=λd ρ P=>P (ρ.set i (.sh d))
theorem Ax{X:Cx}{i:Nat}{x:Str}{pos:Pos}(hN:X.N.Nodup)(hi:X.N[i]?=some x)(hx:Loc X.env.scope x)(hf:autoParam (X.fn x=true\/X.env.scope.names.lookup x=some .local) zau0._auto_1):DG X (.Name x pos) (A9 i) :=
 ⟨_,CF hN hi hx hf,λC M H n ρ σ d v P Q R h w q=>q _ _ (R.set h) w⟩
noncomputable def DL(b:BW)(body:Af)(D2:E2):List D->Nat->List Slot->Prop
 | [],n,ρ=>D2.nx n ρ
 | d::ds,n,ρ=>b d ρ λρ1=>body { D2 with nx:=DL b body D2 ds,ct:=DL b body D2 ds,bk:=D2.nx } n ρ1
noncomputable def JH(src:EK)(b:BW)(body:Af):Af:=λD2 n ρ=>src n ρ λds n1=>DL b body D2 ds n1 ρ
theorem Rel.unpin{K:Frag}{C:Fm}{p:(Addr->Prop)×Hp}{M:Addr->Prop}{H:Hp}{n:Nat}{ρ:List Slot}{σ:L2.St}(R:Rel K { C with pins:=p::C.pins } M H n ρ σ):Rel K C M H n ρ σ :=
 ⟨R.len,R.sub,R.dom,R.ext,R.fU,R.uV,R.vM,R.feed,R.sl,λq hq=>R.pin q (Sc _ hq),R.br0,R.new,R.two,R.kept⟩
theorem Rel.pinned{K:Frag}{C:Fm}{M:Addr->Prop}{H:Hp}{n:Nat}{ρ:List Slot}{σ:L2.St}(R:Rel K C M H n ρ σ):Rel K { C with pins:=(M,H)::C.pins } M H n ρ σ :=
 ⟨R.len,R.sub,R.dom,R.ext,R.fU,R.uV,R.vM,R.feed,R.sl,λq hq=>(X_.mp hq).elim (λe=>e▸Pres.refl M H) (R.pin q),R.br0,R.new,R.two,R.kept⟩
section
variable {X:Cx}{κ:Kd}{tg iter:Expr}{body:List Stmt}{src:EK}{b:BW}{wb:Af}{pos:Pos}
theorem Dz(hp:PassesOwn (model X.prog X.w) X.A X.env X.xe)(hc:X.calm=true)(hi:DI X tg iter src)(hg:DG X tg b)(hb:Pq X κ body wb)
  (hs:autoParam (∀x,foldedSetIterable iter X.env x=pure x) zau2._auto_1):DS X κ (.For tg iter body [] pos) (JH src b wb):=by
 obtain⟨wi,a1,a2⟩:=hi
 obtain⟨g,g1,g2⟩:=hg
 obtain⟨tb,b1,b2⟩:=hb
 refine⟨_,Gi hp hc a1 g1 b1 hs,λC M H n ρ σ D2 E R L w=>?_⟩
 refine a2 C M H n ρ σ _ _ R w λJ H1 ds n1 e1 f1 y w1=>?_
 have R1:=R.step e1 f1
 refine⟨λi m σ' H'=>m=ds.length - i/\i<=ds.length/\∃M' n' ρ',Rel X.K { C with pins:=(M,H1)::C.pins } M' H' n' ρ' σ'/\DL b wb D2 (ds.drop i) n' ρ',⟨ds.length,by simp,YB _,M,n1,ρ,R1.pinned,w1⟩,?_⟩
 rintro i m σ' H' ⟨rfl,hi,M',n',ρ',R',w'⟩
 have pr:Pres M H1 M' H':=R'.pin (M,H1) Op
 by_cases hlt:i<ds.length
 ·have ed:ds.drop i=ds[i]::ds.drop (i+1):=ZB hlt
  rw [ed] at w'
  obtain⟨go,yl⟩:=(y i M' H' pr R'.dom).1 ds[i] (FM hlt)
  refine .inr ⟨go,λσ2 H2=>∃M2 n2 ρ2,Rel X.K { C with pins:=(M,H1)::C.pins } M2 H2 n2 ρ2 σ2/\DL b wb D2 (ds.drop (i+1)) n2 ρ2,λσ2 H2 ⟨M2,n2,ρ2,R2',w2⟩=>⟨ds.length - (i+1),by omega,rfl,hlt,M2,n2,ρ2,R2',w2⟩,λx H2 hy=>?_⟩
  obtain⟨gr,hx⟩:=yl x H2 hy
  have R2':=R'.step gr.ext (R'.feed.grow gr)
  refine g2 _ M' H2 n' ρ' σ' ds[i] x _ _ R2' hx w' λρ3 σ3 R3 w3=>?_
  refine b2 _ M' H2 n' ρ3 σ3 { D2 with nx:=DL b wb D2 (ds.drop (i+1)),ct:=DL b wb D2 (ds.drop (i+1)),bk:=D2.nx } _ R3 ⟨λM4 H4 n4 ρ4 σ4 R4 w4=>⟨M4,n4,ρ4,R4,w4⟩,L.rt,λM4 H4 n4 ρ4 σ4 R4 w4=>L.nx M4 H4 n4 ρ4 σ4 R4.unpin w4,λM4 H4 n4 ρ4 σ4 R4 w4=>⟨M4,n4,ρ4,R4,w4⟩⟩ w3
 ·have e:i=ds.length:=by omega
  subst e
  rw [bY] at w'
  exact .inl ⟨(y _ M' H' pr R'.dom).2 (No _),L.nx M' H' n' ρ' σ' R'.unpin w'⟩
end
noncomputable def D7(b:BW)(tt:Ho)(te:DW)(P:List D->Nat->Prop):List D->List D->Nat->List Slot->Prop
 | [],acc,n,_=>P acc n
 | d::ds,acc,n,ρ=>b d ρ λρ1=>tt n ρ1 λc n1=>if c=true then te n1 ρ1 λy n2=>D7 b tt te P ds (acc++[y]) n2 ρ1 else D7 b tt te P ds acc n1 ρ1
noncomputable def O_:Slot->Slot
 | .ow d=>.br d
 | .lt _ d=>.br d
 | s=>s
theorem O9(s:Slot):(O_ s).owns=false:=by cases s <;> rfl
theorem Du{js:List (Option Nat)}{ρ:List Slot}{i:Nat}{s:Slot}(h:(js.map λo=>match o with | some i=>O_ ((ρ[i]?).getD .no) | none=>Slot.no)[i]?=some s):s.owns=false:=by
 rw [On] at h
 cases q:js[i]? with
 | none=>rw [q] at h; cases h
 | some o =>
  rw [q] at h
  cases o with
  | none =>
   have e:Slot.no=s:=TW h
   rw [← e]; rfl
  | some j =>
   have e:O_ ((ρ[j]?).getD .no)=s:=TW h
   rw [← e]; exact O9 _
noncomputable def F6(js:List (Option Nat))(ρ:List Slot):List Slot:=js.map λo=>match o with
 | some i=>O_ ((ρ[i]?).getD .no)
 | none=>.no
noncomputable def CU(js:List (Option Nat))(src:EK)(b:BW)(tt:Ho)(te:DW):DW:=λn ρ P=>src n ρ λds n1=>ds.length<=10000000/\D7 b tt te (λacc n2=>P (.lst acc) n2) ds [] n1 (F6 js ρ)
noncomputable def WV(X:Cx)(ifs:List Expr)(w:Ho):Prop:=∃t,WP X ifs t/\∀(C:Fm) (M:Addr->Prop) (H:Hp) (n:Nat) (ρ:List Slot) (σ:L2.St) (P:Bool->Nat->Prop) (Q:Bool->Hp->Prop),Rel X.K C M H n ρ σ->w n ρ P ->
 (∀b H' n',Ext C.U H H'->FeedC X.K C.F M H' n'->P b n'->Q b H')->t σ H Q
noncomputable def FR:Ho:=λn _ P=>P true n
theorem CG{X:Cx}:WV X [] FR:=⟨_,Nu,λC M H n ρ σ P Q R w q=>q true H n (Ext.refl _ _) R.feed w⟩
theorem OF{X:Cx}{c:Expr}{w:Ho}(h:DT X c w):WV X [c] w:=by
 obtain⟨t,h1,h2⟩:=h
 exact⟨t,SJ h1,h2⟩
theorem Jr{js:List (Option Nat)}{ρ:List Slot}{σ:L2.St}{i:Nat}{s:Slot}(hs:(F6 js ρ)[i]?=some s):s=.no\/∃(j:Nat) (s':Slot),ρ[j]?=some s'/\s=O_ s'/\((Bx js σ)[i]?).getD none=(σ[j]?).getD none:=by
 unfold F6 at hs
 unfold Bx
 rw [On] at hs ⊢
 cases q:js[i]? with
 | none=>rw [q] at hs; cases hs
 | some o =>
  rw [q] at hs
  cases o with
  | none=>exact .inl (TW hs).symm
  | some j =>
   have e:O_ ((ρ[j]?).getD .no)=s:=TW hs
   cases q2:ρ[j]? with
   | none=>rw [q2] at e; exact .inl e.symm
   | some s' =>
    rw [q2] at e
    exact .inr ⟨j,s',q2,e.symm,rfl⟩
theorem L5{K:Frag}{F:Option Fd}{U U' M M':Addr->Prop}{H H':Hp}{js:List (Option Nat)}{ρ:List Slot}{σ:L2.St}(hsl:∀(i:Nat) (s:Slot),ρ[i]?=some s->SlotOk K F U M H s ((σ[i]?).getD none))
  (pr:Pres M H M' H') (br:∀d v,AtT K U M H d v->AtT K U' M' H' d v):∀(i:Nat) (s:Slot),(F6 js ρ)[i]?=some s->SlotOk K F U' M' H' s (((Bx js σ)[i]?).getD none):=by
 intro i s hs
 rcases Jr (σ:=σ) hs with rfl | ⟨j,s',q,rfl,e⟩
 ·trivial
 ·rw [e]
  have h1:=hsl j s' q
  cases s' with
  | no=>trivial
  | sh d=>obtain⟨v,e1,h2⟩:=h1; exact⟨v,e1,h2.pres pr⟩
  | ex a nm ks ds=>obtain⟨e1,h2⟩:=h1; exact⟨e1,h2.pres pr⟩
  | br d=>obtain⟨v,e1,h2⟩:=h1; exact⟨v,e1,br d v h2⟩
  | fd=>exact h1
  | wd ks ds=>exact h1
  | ow d=>obtain⟨a,e1,_,nv,t⟩:=h1; exact⟨.ref a,e1,br d _ (t.att nv)⟩
  | lt a d=>obtain⟨e1,_,nv,t⟩:=h1; exact⟨.ref a,e1,br d _ (t.att nv)⟩
theorem N2{K:Frag}{F:Option Fd}{U M:Addr->Prop}{H:Hp}{js:List (Option Nat)}{ρ:List Slot}{σ:L2.St}(hsl:∀(i:Nat) (s:Slot),ρ[i]?=some s->SlotOk K F U M H s ((σ[i]?).getD none)){i:Nat}{d:D}{a:Addr}
  (hs:(F6 js ρ)[i]?=some (.br d)) (ha:((Bx js σ)[i]?).getD none=some (.ref a)):∃o,H a=some o:=by
 rcases Jr (σ:=σ) hs with z | ⟨j,s',q,z,e⟩
 ·cases z
 ·rw [e] at ha
  have h1:=hsl j s' q
  rw [ha] at h1
  cases s' with
  | br d=>obtain⟨v,e1,h2⟩:=h1; cases e1; exact h2.lies
  | ow d=>obtain⟨b,e1,_,nv,t⟩:=h1; cases e1; exact(t.att nv).lies
  | lt b d=>obtain⟨e1,_,nv,t⟩:=h1; cases e1; exact(t.att nv).lies
  | no=>cases z
  | sh d=>cases z
  | ex a nm ks ds=>cases z
  | fd=>cases z
  | wd ks ds=>cases z
section
variable {X:Cx}{κe:Kd}{tg elt iter:Expr}{ifs:List Expr}{sc:Scope}{pos:Pos}{src:EK}{b:BW}{tt:Ho}{te:DW}
theorem B1(hc:X.calm=true)(N':List Str)(js:List (Option Nat))(hi:WW X tg iter src)(hg:∀cl C s H fp,DG (A2 X sc N' cl C s H fp) tg b)(ht:∀cl C s H fp,WV (A2 X sc N' cl C s H fp) ifs tt)(he:∀cl C s H fp,DE (A2 X sc N' cl C s H fp) elt κe te)
  (hB:Iv sc X.env.scope X.N N' js=true) (hk:autoParam (κe≠.tp) zau6._auto_1)
  (hs:autoParam (∀x,foldedSetIterable iter X.env x=pure x) zau2._auto_1):DE X (.ListComp elt [⟨tg,iter,ifs,0⟩] sc pos) .fr (CU js src b tt te):=by
 obtain⟨wi,a1,a2⟩:=hi
 refine⟨_,SM hc N' js a1 hB hs,λC M H n ρ σ P Q R w q=>?_⟩
 refine a2 C M H n ρ σ _ _ R w λJ H1 ds n1 e1 f1 y w1=>?_
 obtain⟨hlen,w1⟩:=w1
 have R1:=R.step e1 f1
 intro l hl hkl cl Ca s0 H0 fp
 obtain⟨g,g1,g2⟩:=hg cl Ca s0 H0 fp
 obtain⟨tc,c1,c2⟩:=ht cl Ca s0 H0 fp
 obtain⟨tx,x1,x2⟩:=he cl Ca s0 H0 fp
 have noU:¬C.U l:=λz=>by
  obtain⟨o,z⟩:=R1.udom l z
  rw [hl] at z; cases z
 generalize hM':(λb=>M b\/b=l)=M'
 have M'l:M' l:=by rw [← hM']; exact .inr rfl
 have M'of:∀b,M b->M' b:=λb z=>by rw [← hM']; exact .inl z
 have ofM':∀b,M' b->M b\/b=l:=λb z=>by rw [← hM'] at z; exact z
 have inV:∀b,C.V b\/b=l->M' b:=λb z=>z.elim (λz=>M'of b (R1.vM b z)) λz=>by rw [z]; exact M'l
 have lenj:js.length=N'.length:=El (CompOk.of hB).cap
 refine⟨g,tc,tx,λi m σ' H'=>m=ds.length - i/\i<=ds.length/\∃n' ρ' acc vs,Rel X.K ⟨M',C.F,C.U,λb=>C.V b\/b=l,H1,[],[]⟩ M' H' n' ρ' σ'/\H' l=some (.lst vs)/\Ats X.K M' H' acc vs/\acc.length<=i/\Pres M H1 M' H' /\
   D7 b tt te (λacc n2=>P (.lst acc) n2) (ds.drop i) acc n' ρ',g1,c1,x1,⟨ds.length,by simp,YB _,n1,F6 js ρ,[],[],?_⟩,?_⟩
 ·have gr:Grow H1 (BB H1 l (.lst [])):=A5 hl
  have pr:Pres M H1 M' (BB H1 l (.lst [])):=⟨λb o e _=>gr.all b o e,λb z=>(ofM' b z).elim .inl λz=>.inr (by rw [z]; exact hl),λb vs e=>gr.all b _ e⟩
  refine⟨⟨?_,λa z=>z,λa z=>?_,gr.ext,R1.fU,λa z=>.inl (R1.uV a z),inV,f1.pres pr λf o _ e=>gr.all f.1 o e,?_,λp hp=>absurd hp (by simp),λi d a q z=>N2 R1.sl q z,λi s a q o _=>absurd o (by rw [Du q]; decide),λi j s t a q o _ _ _ _=>absurd o (by rw [Du q]; decide),λp hp=>absurd hp (by simp)⟩,AY,rfl,YB _,pr,w1⟩
  ·unfold F6 Bx
   rw [Db,Db]
  ·rcases ofM' a z with z | z
   ·obtain⟨o,z⟩:=R1.dom a z
    exact⟨o,gr.all a o z⟩
   ·subst z
    exact⟨_,AY⟩
  ·refine L5 R1.sl pr λd v h=>h.same pr (λa o _ e=>gr.all a o e) λa e n1 z=>z.elim n1 λz=>?_
   subst e
   obtain⟨o,w⟩:=h.lies
   rw [z,hl] at w
   cases w
 ·rintro i m σ' H' ⟨rfl,hi,n',ρ',acc,vs,R',hlv,hac,hal,pr,w'⟩
  by_cases hlt:i<ds.length
  ·have ed:ds.drop i=ds[i]::ds.drop (i+1):=ZB hlt
   rw [ed] at w'
   obtain⟨go,yl⟩:=(y i M' H' pr R'.ext R'.dom).1 ds[i] (FM hlt)
   refine .inr ⟨go,λx H2 hy=>?_⟩
   obtain⟨gr,hx⟩:=yl x H2 hy
   have R2':=R'.step gr.ext (R'.feed.grow gr)
   refine g2 _ M' H2 n' ρ' σ' ds[i] x _ _ R2' hx w' λρ3 σ3 R3 w3=>?_
   refine c2 _ M' H2 n' ρ3 σ3 _ _ R3 w3 λc H4 n4 e4 f4 w4=>?_
   have R4:=R3.step e4 f4
   have p4:Pres M' H' M' H4:=gr.pres.trans (R3.pres e4)
   have l4:H4 l=some (.lst vs):=e4.keep (gr.all _ _ hlv) noU
   cases c with
   | false=>exact⟨ds.length - (i+1),by omega,rfl,hlt,n4,ρ3,acc,vs,R4,l4,hac.pres p4,by omega,pr.trans p4,w4⟩
   | true =>
    refine x2 _ M' H4 n4 ρ3 σ3 _ _ R4 w4 λyv H5 d5 n5 e5 f5 r5 w5=>?_
    have R5:=R4.step e5 f5
    have p5:Pres M' H4 M' H5:=R4.pres e5
    have l5:H5 l=some (.lst vs):=e5.keep l4 noU
    have hy5:=r5.shOf R4.dom hk
    have a5:=(hac.pres p4).pres p5
    have pu:Pres M' H5 M' (BB H5 l (.lst (vs++[yv]))):=F1 M'l l5
    have hvl:vs.length=acc.length:=hac.length
    refine⟨vs,l5,by rw [Yj]; omega,ds.length - (i+1),by omega,rfl,hlt,n5,ρ3,acc++[d5],vs++[yv],?_,AY,(a5.append (Ats.one hy5)).pres pu,by rw [Rs,X9]; omega,(pr.trans p4).trans (p5.trans pu),w5⟩
    refine⟨R5.len,R5.sub,λa z=>?_,λb o e=>?_,R5.fU,R5.uV,R5.vM,?_,λj s hs=>?_,λp hp=>absurd hp (by simp),R5.br0,R5.new,R5.two,λp hp=>absurd hp (by simp)⟩
    ·by_cases ha:a=l
     ·subst ha; exact⟨_,AY⟩
     ·rw [AT ha]; exact R5.dom a z
    ·obtain⟨o',q1,q2⟩:=R5.ext b o e
     by_cases hb:b=l
     ·subst hb
      have e':H1 b=some o:=e
      rw [hl] at e'; cases e'
     ·exact⟨o',by rw [AT hb]; exact q1,q2⟩
    ·refine f5.pres pu λf o hf e=>?_
     rw [AT (λz=>noU (by rw [← z]; exact R1.fU f hf))]
     exact e
    ·have hs5:=R5.sl j s hs
     cases s with
     | no=>trivial
     | sh d=>obtain⟨v,e1,h2⟩:=hs5; exact⟨v,e1,h2.pres pu⟩
     | ex a nm ks ds=>obtain⟨e1,h2⟩:=hs5; exact⟨e1,h2.pres pu⟩
     | br d =>
      obtain⟨v,e1,h2⟩:=hs5
      refine⟨v,e1,h2.same pu (λa o z e=>?_) λ_ _ z=>z⟩
      subst z
      obtain⟨o3,w⟩:=R5.br0 j d a hs e1
      have hal:a≠l:=λz=>by
       have w':H1 a=some o3:=w
       rw [z,hl] at w'; cases w'
      rw [AT hal]; exact e
     | ow d =>
      obtain⟨a,e1,h2,_⟩:=hs5
      exact absurd h2 (R5.new j _ a hs rfl e1).1
     | lt a d =>
      obtain⟨e1,h2,_⟩:=hs5
      exact absurd h2 (R5.new j _ a hs rfl e1).1
     | fd=>exact hs5
     | wd ks ds=>exact hs5
  ·have e:i=ds.length:=by omega
   subst e
   rw [bY] at w'
   refine .inl ⟨(y _ M' H' pr R'.ext R'.dom).2 (No _),?_⟩
   have eb:Ext C.U H1 H':=R'.ext
   have less:Pres M' H' M H':=Pres.less M'of
   refine q _ H' (.lst acc) n' (e1.trans eb) (R'.feed.pres less λ_ _ _ z=>z) (VR.back e1 ?_) w'
   exact⟨l,rfl,hl,vs,hlv,by rw [hM']; exact hac⟩
end
theorem Oj{K:Frag}{F:Option Fd}{U V' M:Addr->Prop}{H:Hp}{n:Nat}{ss:List Slot}{vs:List V}{N:List Str}(h:WN K F U V' M H n ss vs)(hl:vs.length<=N.length) :
  Rel K ⟨M,F,U,V',H,[],[]⟩ M H n (ss++Re (N.length - ss.length) .no) (L2.start N vs):=by
 obtain⟨dom,fU,uV,vM,fd,pa⟩:=h
 have el:vs.length=ss.length:=Paired.length pa
 have go:∀{vs:List V} {ss:List Slot} {i:Nat} {s:Slot},Paired (KI K F V' M H) vs ss->ss[i]?=some s->∃v,vs[i]?=some v/\KI K F V' M H v s:=by
  intro vs ss i s pa
  induction pa generalizing i with
  | nil=>intro e; simp at e
  | cons r t ih =>
   intro e
   cases i with
   | zero=>simp at e; subst e; exact⟨_,rfl,r⟩
   | succ i =>
    obtain⟨v,e1,h1⟩:=ih (i:=i) (by simpa using e)
    exact⟨v,by simpa using e1,h1⟩
 have at_:∀(i:Nat) (s:Slot),(ss++Re (N.length - ss.length) Slot.no)[i]?=some s->s=.no\/∃v,((L2.start N vs)[i]?).getD none=some v/\KI K F V' M H v s:=by
  intro i s hs
  by_cases hi:i<ss.length
  ·rw [Z6 hi] at hs
   obtain⟨v,e1,h1⟩:=go pa hs
   refine .inr ⟨v,?_,h1⟩
   unfold L2.start
   rw [Z6 (by rw [Db,el]; exact hi),On,e1]
   rfl
  ·rw [ZU (by omega),aF] at hs
   split at hs
   ·exact .inl (TW hs).symm
   ·cases hs
 refine⟨?_,λa z=>z,dom,Ext.refl _ _,fU,uV,vM,fd,λi s hs=>?_,λp hp=>absurd hp (by simp),λi d a hs ha=>?_,λi s a hs o _=>?_,λi j s t a hs o _ _ _ _=>?_,λp hp=>absurd hp (by simp)⟩
 ·unfold L2.start
  simp only [Rs,Db,cB]
  omega
 ·rcases at_ i s hs with rfl | ⟨v,e,h⟩
  ·trivial
  ·rw [e]; exact h.1
 ·rcases at_ i _ hs with z | ⟨v,e,h⟩
  ·cases z
  ·rw [e] at ha
   cases ha
   obtain⟨v,e1,h1⟩:=h.1
   cases e1
   exact h1.lies
 ·rcases at_ i s hs with rfl | ⟨v,e,h⟩
  ·cases o
  ·rw [h.2] at o; cases o
 ·rcases at_ i s hs with rfl | ⟨v,e,h⟩
  ·cases o
  ·rw [h.2] at o; cases o
theorem Eh{P:Program}{w:World}{K:Frag}{mg:Str->Option Value}{base:Heap}{x qual:Str}{st:Stmt}{f:Addr}{fd:FuncData}{N ps:List Str}{k:Nat}{κ:Kd}{W:W2}{wb:Af}(F:Fun K x qual st f fd)(S:Ak N ps (AS st))(hNp:ps.length<=N.length)
  (hb:∀(cdv:Value) (A:Around) (outer:List Env) (s:Shared) (H:Hp) (E:XK),Room k (A.deeper (envOfC qual (AS st) s.heap.objs.size f cdv))->Pq (LC B8 P w K mg base N qual (AS st) f cdv A outer s H E).nox κ (Bt st) wb)
  (hW:∀ss n Pd,ss.length=ps.length->W ss n Pd->wb { nx:=λn _=>κ=.sh/\Pd .non n,rt:=Pd } n (ss++Re (N.length - ps.length) .no)) :
  BA P w K mg base B8 (k+1) f fd ps (DF K κ W ps.length):=by
 refine F.ok S (λvs H Q E h=>h.1) (λcdv A outer s H vs Q E hr h=>?_)
 obtain⟨hl,F0,U,V',M,n,ss,Pd,ra,hw,q⟩:=h
 obtain⟨t,t1,t2⟩:=hb cdv A outer s H E hr
 refine⟨t,t1,?_⟩
 have el:vs.length=ss.length:=Paired.length ra.2.2.2.2.2
 have R:=Oj (N:=N) ra (by omega)
 refine t2 ⟨M,F0,U,V',H,[],[]⟩ M H n _ _ { nx:=λn _=>κ=.sh/\Pd .non n,rt:=Pd } _ R ⟨λM1 H1 n1 ρ1 σ1 R1 p=>?_,λv H1 d n1 e1 f1 r1 p=>q v H1 d n1 e1 f1 r1 p,λ_ _ _ _ _ _ z=>z.elim,λ_ _ _ _ _ _ z=>z.elim⟩ ?_
 ·obtain⟨hk,p⟩:=p
  subst hk
  exact q .non H1 .non n1 R1.ext (R1.feed.pres (Pres.less R1.sub) λ_ _ _ z=>z) rfl p
 ·have e:ss.length=ps.length:=by omega
  have h1:=hW ss n Pd e hw
  rw [← e] at h1
  exact h1
end Dp
namespace L2
open PySem PySem.Spec PyProof.Rows
section
variable {X:Cx}
theorem Inv.rdl{pins:List (Addr×Obj)}{σ:L2.St}{H:Hp}{s:Shared}{l:Addr}{xs:List V}(I:Inv X pins σ H s)(h:Rd H l (.lst xs)):xs.length<=sizeLine/\∃(its:List Value) (n:Nat),Vals xs its/\xs.length=its.length/\s.heap.get? l=some { cls:=.type "list",data:=.seq its.toArray n }:=by
 obtain⟨z,its,n,r,e⟩:=h.ok I.hok
 exact⟨z,its,n,r,r.length,e⟩
theorem SV:OpR X (binaryOp .Add) (λx y H Q=>∃l b xs zs,x=.ref l/\y=.ref b/\Rd H l (.lst xs)/\Rd H b (.lst zs)/\xs.length+zs.length<=sizeLine/\∀p,H p=none->Q (.ref p) (BB H p (.lst (xs++zs)))):=by
 intro pins s σ H x y v u Q I rx ry h
 obtain⟨l,b,xs,zs,rfl,rfl,hH,hB,hz,q⟩:=h
 cases rx
 cases ry
 obtain⟨z,its,n,r,hl,e⟩:=I.rdl hH
 obtain⟨z2,its2,n2,r2,hl2,e2⟩:=I.rdl hB
 refine PySem.P.add_list e e2 ?_ (by rw [TM,TM]; omega)
 have ea:its.toArray++its2.toArray=(its++its2).toArray:=by simp
 rw [ea]
 exact⟨.ref _,_,I.lnew (t':=s.toks) (r.append r2) (by rw [Rs]; omega),rfl,q _ I.fresh⟩
end
end L2
namespace Dp
open PySem PySem.Spec PyProof.Rows L2
section
variable {K:Frag}
theorem AtT.int{U M:Addr->Prop}{H:Hp}{i:Int}{v:V}(h:AtT K U M H (.int i) v):v=.int i:=h
theorem AtT.bl{U M:Addr->Prop}{H:Hp}{i:Bool}{v:V}(h:AtT K U M H (.bl i) v):v=.bl i:=h
theorem AtT.str{U M:Addr->Prop}{H:Hp}{x:Str}{v:V}(h:AtT K U M H (.str x) v):v=.str x/\x.length<=sizeLine:=h
theorem AtT.tup{U M:Addr->Prop}{H:Hp}{ds:List D}{v:V}(h:AtT K U M H (.tup ds) v):∃a vs,v=.ref a/\NdT M H a vs/\Ats K M H ds vs:=h
noncomputable def Wh(g:Int->Int->(D->Prop)->Prop)(d e:D)(P:D->Prop):Prop:=match d,e with
 | .int i,.int j=>g i j P
 | _,_=>False
theorem K5{g:Int->Int->(D->Prop)->Prop}{d e:D}{P:D->Prop}(w:Wh g d e P):∃i j,d=.int i/\e=.int j/\g i j P:=by
 unfold Wh at w
 split at w
 ·exact⟨_,_,rfl,rfl,w⟩
 ·exact w.elim
noncomputable def f2(g:Int->Int->D):D->D->(D->Prop)->Prop:=Wh λi j P=>P (g i j)
noncomputable def Tr(C:Int->Int->Prop)(g:Int->Int->D):D->D->(D->Prop)->Prop:=Wh λi j P=>C i j/\P (g i j)
theorem Ra{g:Int->Int->Int}:Fj K .sh (Gz λi j=>.int (g i j)) (f2 λi j=>.int (g i j)):=by
 intro U M H d e x y P Q dom vM hx hy w q
 obtain⟨i,j,rfl,rfl,w⟩:=K5 w
 exact⟨i,j,hx,hy,q _ H (.int (g i j)) .refl rfl w⟩
theorem LJ{g:Int->Int->Bool}:Fj K .sh (Gz λi j=>.bl (g i j)) (f2 λi j=>.bl (g i j)):=by
 intro U M H d e x y P Q dom vM hx hy w q
 obtain⟨i,j,rfl,rfl,w⟩:=K5 w
 exact⟨i,j,hx,hy,q _ H (.bl (g i j)) .refl rfl w⟩
theorem Es{C:Int->Int->Prop}{g:Int->Int->Int}:Fj K .sh (rI C λi j=>.int (g i j)) (Tr C λi j=>.int (g i j)):=by
 intro U M H d e x y P Q dom vM hx hy w q
 obtain⟨i,j,rfl,rfl,w⟩:=K5 w
 exact⟨i,j,hx,hy,w.1,q _ H (.int (g i j)) .refl rfl w.2⟩
noncomputable def Wg(g:Str->Str->(D->Prop)->Prop)(d e:D)(P:D->Prop):Prop:=match d,e with
 | .str i,.str j=>g i j P
 | _,_=>False
theorem N9{g:Str->Str->(D->Prop)->Prop}{d e:D}{P:D->Prop}(w:Wg g d e P):∃i j,d=.str i/\e=.str j/\g i j P:=by
 unfold Wg at w
 split at w
 ·exact⟨_,_,rfl,rfl,w⟩
 ·exact w.elim
theorem RT{g:Str->Str->Bool}:Fj K .sh (λx y H Q=>∃i j,x=.str i/\y=.str j/\Q (.bl (g i j)) H) (Wg λi j P=>P (.bl (g i j))):=by
 intro U M H d e x y P Q dom vM hx hy w q
 obtain⟨i,j,rfl,rfl,w⟩:=N9 w
 exact⟨i,j,hx.1,hy.1,q _ H (.bl (g i j)) .refl rfl w⟩
theorem Ph:Fj K .sh (λx y H Q=>∃i j,x=.str i/\y=.str j/\i.length+j.length<=sizeLine/\Q (.str (i++j)) H) (Wg λi j P=>i.length+j.length<=sizeLine/\P (.str (i++j))):=by
 intro U M H d e x y P Q dom vM hx hy w q
 obtain⟨i,j,rfl,rfl,w⟩:=N9 w
 exact⟨i,j,hx.1,hy.1,w.1,q _ H (.str (i++j)) .refl ⟨rfl,by rw [show (i++j).length=i.length+j.length from Str.length_append i j]; exact w.1⟩ w.2⟩
noncomputable def W_(g:List D->List D->(D->Prop)->Prop)(d e:D)(P:D->Prop):Prop:=match d,e with
 | .tup i,.tup j=>g i j P
 | _,_=>False
noncomputable def XA(g:List D->List D->(D->Prop)->Prop)(d e:D)(P:D->Prop):Prop:=match d,e with
 | .lst i,.lst j=>g i j P
 | _,_=>False
theorem Sr{g:List D->List D->(D->Prop)->Prop}{d e:D}{P:D->Prop}(w:W_ g d e P):∃i j,d=.tup i/\e=.tup j/\g i j P:=by
 unfold W_ at w
 split at w
 ·exact⟨_,_,rfl,rfl,w⟩
 ·exact w.elim
theorem Su{g:List D->List D->(D->Prop)->Prop}{d e:D}{P:D->Prop}(w:XA g d e P):∃i j,d=.lst i/\e=.lst j/\g i j P:=by
 unfold XA at w
 split at w
 ·exact⟨_,_,rfl,rfl,w⟩
 ·exact w.elim
theorem Ik{M:Addr->Prop}{H:Hp}{p:Addr}{vs:List V}{ds:List D}(dom:∀a,M a->∃o,H a=some o)(hp:H p=none)(h:Ats K M H ds vs):At K M (BB H p (.tup vs)) (.tup ds) (.ref p):=by
 exact⟨p,vs,rfl,AY,h.pres (A5 hp).pres⟩
theorem Cb{U M:Addr->Prop}{H:Hp}{p:Addr}{vs:List V}{ds:List D}(hp:H p=none)(h:Ats K M H ds vs):VR K U M H (BB H p (.lst vs)) .fr (.ref p) (.lst ds) :=
 ⟨p,rfl,hp,vs,AY,h.pres (Il hp)⟩
theorem Pg:Fj K .sh (QT K) (W_ λi j P=>i≠[]/\i.length+j.length<=sizeLine/\P (.tup (i++j))):=by
 intro U M H d e x y P Q dom vM hx hy w q
 obtain⟨i,j,rfl,rfl,w⟩:=Sr w
 obtain⟨a,vs,rfl,ha,hs⟩:=hx.tup
 obtain⟨b,us,rfl,hb,ht⟩:=hy.tup
 have l1:=hs.length
 have l2:=ht.length
 refine⟨a,b,vs,us,rfl,rfl,ha.sq,hb.sq,λz=>w.1 ?_,by rw [l1,l2]; exact w.2.1,λz=>?_,λz p hp=>?_⟩
 ·rw [z] at l1; exact aG.mp l1.symm
 ·rw [z] at l2
  have:j=[]:=aG.mp l2.symm
  subst this
  exact q _ H (.tup i) .refl ⟨a,vs,rfl,ha,hs⟩ (by have:=w.2.2; rw [Yv] at this; exact this)
 ·exact q _ _ (.tup (i++j)) (A5 hp) (Ik dom hp (hs.append ht)) w.2.2
theorem Pj:Fj K .fr (λx y H Q=>∃l b xs zs,x=.ref l/\y=.ref b/\Rd H l (.lst xs)/\Rd H b (.lst zs)/\xs.length+zs.length<=sizeLine/\∀p,H p=none->Q (.ref p) (BB H p (.lst (xs++zs)))) (XA λi j P=>i.length+j.length<=sizeLine/\P (.lst (i++j))):=by
 intro U M H d e x y P Q dom vM hx hy w q
 obtain⟨i,j,rfl,rfl,w⟩:=Su w
 obtain⟨a,vs,rfl,_,ha,hs⟩:=hx
 obtain⟨b,us,rfl,_,hb,ht⟩:=hy
 exact⟨a,b,vs,us,rfl,rfl,ha,hb,by rw [hs.length,ht.length]; exact w.1,λp hp=>q _ _ (.lst (i++j)) (A5 hp) (Cb hp (hs.append ht)) w.2⟩
noncomputable def JW(neg:Bool)(d e:D)(P:D->Prop):Prop:=match d,e with
 | .bl i,.bl j=>P (.bl (if neg then !(i==j) else i==j))
 | .int i,.int j=>P (.bl (if neg then !(i==j) else i==j))
 | .str i,.str j=>P (.bl (if neg then !(i==j) else i==j))
 | _,_=>False
theorem OA{neg:Bool}{d e:D}{P:D->Prop}(w:JW neg d e P):(∃i j,d=.bl i/\e=.bl j/\P (.bl (if neg then !(i==j) else i==j)))\/(∃i j,d=.int i/\e=.int j/\P (.bl (if neg then !(i==j) else i==j)))\/∃i j,d=.str i/\e=.str j/\P (.bl (if neg then !(i==j) else i==j)):=by
 unfold JW at w
 split at w
 ·exact .inl ⟨_,_,rfl,rfl,w⟩
 ·exact .inr (.inl ⟨_,_,rfl,rfl,w⟩)
 ·exact .inr (.inr ⟨_,_,rfl,rfl,w⟩)
 ·exact w.elim
theorem E_:Fj K .sh XY (JW false):=by
 intro U M H d e x y P Q dom vM hx hy w q
 rcases OA w with ⟨i,j,rfl,rfl,w⟩ | ⟨i,j,rfl,rfl,w⟩ | ⟨i,j,rfl,rfl,w⟩
 ·rw [hx.bl,hy.bl]; exact⟨rfl,q _ H _ .refl (by rw [LA]; rfl) w⟩
 ·rw [hx.int,hy.int]; exact⟨rfl,q _ H _ .refl (by rw [Hc]; rfl) w⟩
 ·rw [hx.str.1,hy.str.1]; exact⟨rfl,q _ H _ .refl (by rw [Hb]; rfl) w⟩
theorem JA:Fj K .sh XU (JW true):=by
 intro U M H d e x y P Q dom vM hx hy w q
 rcases OA w with ⟨i,j,rfl,rfl,w⟩ | ⟨i,j,rfl,rfl,w⟩ | ⟨i,j,rfl,rfl,w⟩
 ·rw [hx.bl,hy.bl]; exact⟨rfl,q _ H _ .refl (by rw [LA]; rfl) w⟩
 ·rw [hx.int,hy.int]; exact⟨rfl,q _ H _ .refl (by rw [Hc]; rfl) w⟩
 ·rw [hx.str.1,hy.str.1]; exact⟨rfl,q _ H _ .refl (by rw [Hb]; rfl) w⟩
noncomputable def MD:D->Bool
 | .non=>true
 | _=>false
theorem MC{U M:Addr->Prop}{H:Hp}{d:D}{x:V}(h:AtT K U M H d x):decide (x=.non)=MD d:=by
 cases d with
 | non=>rw [show x=.non from h]; rfl
 | bl b=>rw [h.bl]; rfl
 | int i=>rw [h.int]; rfl
 | str z=>rw [h.str.1]; rfl
 | tup ds=>obtain⟨a,vs,rfl,_⟩:=h.tup; rfl
 | lst ds=>obtain⟨a,vs,rfl,_⟩:=h; rfl
 | dic ks ds=>obtain⟨a,vs,rfl,_⟩:=h; rfl
 | fdi ks ds=>obtain⟨a,vs,rfl,_⟩:=h; rfl
 | dit ks ds=>obtain⟨a,vs,rfl,_⟩:=h; rfl
noncomputable def BO(d e:D)(P:D->Prop):Prop:=match d,e with
 | .lst ds,.int i=>∃z,atI ds i=some z/\P z
 | .tup ds,.int i=>∃z,atI ds i=some z/\P z
 | .str x,.int i=>∃c,atI x.cps.toList i=some c/\P (.str ⟨#[c]⟩)
 | _,_=>False
theorem Sv{d e:D}{P:D->Prop}(w:BO d e P):(∃ds i z,d=.lst ds/\e=.int i/\atI ds i=some z/\P z)\/(∃ds i z,d=.tup ds/\e=.int i/\atI ds i=some z/\P z)\/∃x i c,d=.str x/\e=.int i/\atI x.cps.toList i=some c/\P (.str ⟨#[c]⟩):=by
 unfold BO at w
 split at w
 ·obtain⟨z,h1,h2⟩:=w; exact .inl ⟨_,_,z,rfl,rfl,h1,h2⟩
 ·obtain⟨z,h1,h2⟩:=w; exact .inr (.inl ⟨_,_,z,rfl,rfl,h1,h2⟩)
 ·obtain⟨z,h1,h2⟩:=w; exact .inr (.inr ⟨_,_,z,rfl,rfl,h1,h2⟩)
 ·exact w.elim
theorem Ats.atI{M:Addr->Prop}{H:Hp}{ds:List D}{vs:List V}{i:Int}{z:D}(h:Ats K M H ds vs)(e:atI ds i=some z):∃v,L2.atI vs i=some v/\At K M H z v:=by
 unfold L2.atI at e ⊢
 rw [h.length]
 cases q:Po ds.length i with
 | none=>rw [q] at e; cases e
 | some j =>
  rw [q] at e
  exact h.get e
theorem An:Fj K .sh (XW K) BO:=by
 intro U M H d e x y P Q dom vM hx hy w q
 rcases Sv w with ⟨ds,i,z,rfl,rfl,hz,w⟩ | ⟨ds,i,z,rfl,rfl,hz,w⟩ | ⟨x,i,c,rfl,rfl,hc,w⟩
 ·obtain⟨a,vs,rfl,_,ha,hs⟩:=hx
  obtain⟨v,hv,hAt⟩:=hs.atI hz
  exact .inl ⟨a,vs,i,v,rfl,hy,.inl ha,hv,q v H z .refl hAt w⟩
 ·obtain⟨a,vs,rfl,ha,hs⟩:=hx.tup
  obtain⟨v,hv,hAt⟩:=hs.atI hz
  exact .inr (.inl ⟨a,vs,i,v,rfl,hy,ha.sq,hv,q v H z .refl hAt w⟩)
 ·exact .inr (.inr ⟨x,i,c,hx.str.1,hy,hx.str.2,hc,q _ H (.str ⟨#[c]⟩) .refl ⟨rfl,by rw [Yj]; show 1<=16777216; decide⟩ w⟩)
noncomputable def cutD{α:Type}(xs:List α)(lo hi:Option Int):List α:=(xs.drop (HT.sIx xs.length 0 lo)).take (HT.sIx xs.length xs.length hi - HT.sIx xs.length 0 lo)
theorem Eb{R:V->D->Prop}{vs:List V}{d:D}(h:Paired R vs [d]):∃v,vs=[v]/\R v d:=by
 cases h with
 | cons r t=>cases t; exact⟨_,rfl,r⟩
noncomputable def W5:D->Option Nat
 | .str x=>some x.length
 | .tup xs=>some xs.length
 | .lst xs=>some xs.length
 | _=>none
noncomputable def C8(ds:List D)(P:D->Prop):Prop:=∃d n,ds=[d]/\W5 d=some n/\P (.int (n:Int))
theorem BN:Cu K .sh (λxs H Q=>∃x n,xs=[x]/\VJ K x H n/\Q (.int n) H) C8:=by
 intro U M H ds vs P Q dom vM hp w q
 obtain⟨d,n,rfl,hn,w⟩:=w
 obtain⟨v,rfl,hx⟩:=Eb hp
 refine⟨v,n,rfl,?_,q _ H (.int (n:Int)) .refl rfl w⟩
 cases d with
 | str z=>cases hn; rw [hx.str.1]; exact⟨hx.str.2,rfl⟩
 | tup xs =>
  cases hn
  obtain⟨a,us,rfl,ha,hs⟩:=hx.tup
  exact .inr ⟨us,ha.sq,hs.length.symm⟩
 | lst xs =>
  cases hn
  obtain⟨a,us,rfl,_,ha,hs⟩:=hx
  exact .inl ⟨us,.inl ha,hs.length.symm⟩
 | _=>cases hn
noncomputable def allB:List D->Option (List Bool)
 | []=>some []
 | .bl b::r=>(allB r).map (b::·)
 | _::_=>none
theorem OO{M:Addr->Prop}{H:Hp}:∀{ds:List D} {vs:List V} {bs:List Bool},allB ds=some bs->Ats K M H ds vs->vs=bs.map V.bl
 | [],vs,bs,e,h=>by cases e; exact h
 | .bl b::r,vs,bs,e,h=>by
  obtain⟨v,r',e1,h1,h2⟩:=h
  unfold allB at e
  obtain⟨bs',e2,rfl⟩:=YD.mp e
  rw [e1,OO e2 h2,show v=.bl b from h1]
  rfl
 | .non::r,vs,bs,e,h=>by unfold allB at e; cases e
 | .int _::r,vs,bs,e,h=>by unfold allB at e; cases e
 | .str _::r,vs,bs,e,h=>by unfold allB at e; cases e
 | .tup _::r,vs,bs,e,h=>by unfold allB at e; cases e
 | .lst _::r,vs,bs,e,h=>by unfold allB at e; cases e
 | .dic _ _::r,vs,bs,e,h=>by unfold allB at e; cases e
 | .fdi _ _::r,vs,bs,e,h=>by unfold allB at e; cases e
 | .dit _ _::r,vs,bs,e,h=>by unfold allB at e; cases e
noncomputable def Sx(ds:List D)(P:D->Prop):Prop:=∃xs bs,ds=[.lst xs]/\allB xs=some bs/\P (.bl (bs.all id))
theorem Tz:Cu K .sh (λxs H Q=>∃(p:Addr) (bs:List Bool),xs=[.ref p]/\SqL K H p (bs.map V.bl)/\Q (.bl (bs.all id)) H) Sx:=by
 intro U M H ds vs P Q dom vM hp w q
 obtain⟨xs,bs,rfl,e,w⟩:=w
 obtain⟨v,rfl,hx⟩:=Eb hp
 obtain⟨a,us,rfl,_,ha,hs⟩:=hx
 have:=OO e hs
 subst this
 exact⟨a,bs,rfl,.inl ha,q _ H (.bl (bs.all id)) .refl rfl w⟩
noncomputable def CJ:List D->Option (List Str)
 | []=>some []
 | .str b::r=>(CJ r).map (b::·)
 | _::_=>none
theorem OM{M:Addr->Prop}{H:Hp}:∀{ds:List D} {vs:List V} {bs:List Str},CJ ds=some bs->Ats K M H ds vs->vs=bs.map V.str
 | [],vs,bs,e,h=>by cases e; exact h
 | .str b::r,vs,bs,e,h=>by
  obtain⟨v,r',e1,h1,h2⟩:=h
  unfold CJ at e
  obtain⟨bs',e2,rfl⟩:=YD.mp e
  rw [e1,OM e2 h2,h1.1]
  rfl
 | .non::r,vs,bs,e,h=>by unfold CJ at e; cases e
 | .int _::r,vs,bs,e,h=>by unfold CJ at e; cases e
 | .bl _::r,vs,bs,e,h=>by unfold CJ at e; cases e
 | .tup _::r,vs,bs,e,h=>by unfold CJ at e; cases e
 | .lst _::r,vs,bs,e,h=>by unfold CJ at e; cases e
 | .dic _ _::r,vs,bs,e,h=>by unfold CJ at e; cases e
 | .fdi _ _::r,vs,bs,e,h=>by unfold CJ at e; cases e
 | .dit _ _::r,vs,bs,e,h=>by unfold CJ at e; cases e
noncomputable def K4(ds:List D)(P:D->Prop):Prop:=match ds with
 | [.lst xs]=>P (.lst xs)
 | [.tup xs]=>P (.lst xs)
 | _=>False
theorem OP:Cu K .fr (λxs H Q=>∃p ys,xs=[.ref p]/\(SqL K H p ys\/SqT K H p ys)/\∀l,H l=none->Q (.ref l) (BB H l (.lst ys))) K4:=by
 intro U M H ds vs P Q dom vM hp w q
 unfold K4 at w
 split at w
 ·obtain⟨v,rfl,hx⟩:=Eb hp
  obtain⟨a,us,rfl,_,ha,hs⟩:=hx
  exact⟨a,us,rfl,.inl (.inl ha),λl hl=>q _ _ _ (A5 hl) (Cb hl hs) w⟩
 ·obtain⟨v,rfl,hx⟩:=Eb hp
  obtain⟨a,us,rfl,ha,hs⟩:=hx.tup
  exact⟨a,us,rfl,.inr ha.sq,λl hl=>q _ _ _ (A5 hl) (Cb hl hs) w⟩
 ·exact w.elim
end
noncomputable def VX:D->String
 | .non => "NoneType"
 | .bl _ => "bool"
 | .int _ => "int"
 | .str _ => "str"
 | .tup _ => "tuple"
 | .lst _ => "list"
 | .dic _ _ => "dict"
 | .fdi _ _ => "dict"
 | .dit _ _ => "dict"
noncomputable def Ul(t T:String):Bool:=t==T||(t == "bool"&&T == "int")
noncomputable def Hu(T:String)(wa:DW):DW:=λn ρ P=>wa n ρ λd n1=>P (.bl (Ul (VX d) T)) n1
structure TL (K:Frag) (T:String):Prop where
 ans:∀t∈["NoneType","bool","int","str","tuple","list","dict"],PySem.W.kitOne K (.type t) (.type T)=some (Ul t T)
theorem Rp{K:Frag}{M U:Addr->Prop}{H:Hp}{d:D}{x:V}(h:AtT K U M H d x):Fi K H x (.type (VX d)):=by
 cases d with
 | non=>cases (show x=.non from h); exact .non
 | bl b=>cases h.bl; exact .bl b
 | int i=>cases h.int; exact .int i
 | str z=>cases h.str.1; exact .str z
 | tup ds =>
  obtain⟨a,vs,rfl,ha,hs⟩:=h.tup
  exact .tup ha
 | lst ds =>
  obtain⟨a,vs,rfl,_,ha,hs⟩:=h
  rcases ha with ha | ⟨o,ha⟩
  ·exact .lst ha
  ·exact .frz ha
 | dic ks ds =>
  obtain⟨a,vs,rfl,_,ha,_⟩:=h
  exact .dK ha
 | fdi ks ds =>
  obtain⟨a,vs,rfl,⟨o,_,ha⟩,_⟩:=h
  exact .dF ha
 | dit ks ds =>
  obtain⟨a,vs,rfl,_,ha,_⟩:=h
  exact .dT ha
theorem Rq(d:D):VX d∈["NoneType","bool","int","str","tuple","list","dict"]:=by cases d <;> simp [VX]
theorem Cd{X:Cx}{a:Expr}{κ:Kd}{wa:DW}{T:String}{Tn:Str}{p p2 pos:Pos}(kt:TL X.K T)(ha:DE X a κ wa)(hg:Gl X "isinstance")(hm:X.mg "isinstance"=none)(hgT:Gl X Tn)(hmT:X.mg Tn=none)(hvT:bootBuiltins Tn=some (.type T))
  (hnT:autoParam (Tn ≠ "__name__") zau1._auto_1) (hdT:autoParam ((Tn==("__debug__" : Str))=false) zau1._auto_1)
  (he:autoParam (starEach [a,.Name Tn p2] X.env=(false,eval a X.env)::starEach [.Name Tn p2] X.env) zau3._auto_1) (he2:autoParam (starEach [.Name Tn p2] X.env=[(false,eval (.Name Tn p2) X.env)]) zau3._auto_1)
  (hpl:autoParam ((backTo pos (starEach [.Name Tn p2] X.env)).any (·.1)=false) zau3._auto_1):DE X (.Call (.Name "isinstance" p) [a,.Name Tn p2] [] pos) .sh (Hu T wa):=by
 obtain⟨t,h1,h2⟩:=ha
 have pT:PE X (.Name Tn p2) (tC (.ty T)):=SO hgT hmT hvT (v:=.ty T) rfl hnT hdT
 refine⟨_,Ea MO hg hm (by decide +kernel) (Au h1 (Au pT BC he2) he) (by decide) (by decide) he hpl,λC M H n ρ σ P Q R w q=>?_⟩
 refine h2 C M H n ρ σ _ _ R w λv H1 d n1 e1 f1 r1 p=>?_
 exact⟨v,T,_,_,rfl,Rp (r1.tpOf R.dom R.vM),kt.ans _ (Rq d),q _ H1 (.bl (Ul (VX d) T)) n1 e1 f1 rfl p⟩
section
variable {K:Frag}{X:Cx}
noncomputable def Tq(d e:D)(P:D->Prop):Prop:=match d,e with
 | .int i,.int j=>P (.int (i+j))
 | .str i,.str j=>i.length+j.length<=sizeLine/\P (.str (i++j))
 | .tup i,.tup j=>i≠[]/\i.length+j.length<=sizeLine/\P (.tup (i++j))
 | .lst i,.lst j=>i.length+j.length<=sizeLine/\P (.lst (i++j))
 | _,_=>False
noncomputable def Tf:R2:=λx y H Q=>∃l b xs zs,x=.ref l/\y=.ref b/\Rd H l (.lst xs)/\Rd H b (.lst zs)/\xs.length+zs.length<=sizeLine/\∀p,H p=none->Q (.ref p) (BB H p (.lst (xs++zs)))
noncomputable def Te:R2:=λx y H Q=>∃i j,x=.str i/\y=.str j/\i.length+j.length<=sizeLine/\Q (.str (i++j)) H
noncomputable def TZ(g:Str->Str->Bool):R2:=λx y H Q=>∃i j,x=.str i/\y=.str j/\Q (.bl (g i j)) H
noncomputable def QU(K:Frag):R2:=λx y H Q=>(Gz λi j=>.int (i+j)) x y H Q\/Te x y H Q\/QT K x y H Q\/Tf x y H Q
theorem op_addU:OpR X (binaryOp .Add) (QU X.K):=op_add.or ((show OpR X (binaryOp .Add) Te from M9).or (op_catT.or (show OpR X (binaryOp .Add) Tf from SV)))
theorem LK:Fj X.K .sh (QU X.K) Tq:=λU M H d e x y P Q dom vM hx hy w q=>by
 unfold Tq at w
 split at w
 ·exact .inl (Ra (K:=X.K) (g:=λi j=>i+j) U M H (.int _) (.int _) x y P Q dom vM hx hy w q)
 ·exact .inr (.inl (Ph (K:=X.K) U M H (.str _) (.str _) x y P Q dom vM hx hy w q))
 ·exact .inr (.inr (.inl (Pg (K:=X.K) U M H (.tup _) (.tup _) x y P Q dom vM hx hy w q)))
 ·exact .inr (.inr (.inr (Pj (K:=X.K) U M H (.lst _) (.lst _) x y P Q dom vM hx hy w λv H' z g r p=>q v H' z g (r.shOf dom (by intro z; cases z)) p)))
 ·exact w.elim
noncomputable def WC(d e:D)(P:D->Prop):Prop:=match d,e with
 | .int i,.int j=>P (.bl (decide (i<j)))
 | .str i,.str j=>P (.bl (decide (i.cps.toList<j.cps.toList)))
 | _,_=>False
noncomputable def UK:R2:=λx y H Q=>(Gz λi j=>.bl (decide (i<j))) x y H Q\/TZ (λi j=>decide (i.cps.toList<j.cps.toList)) x y H Q
theorem op_ltU:OpR X (compareOp .Lt) UK:=op_lt.or O3
theorem Tx:Fj X.K .sh UK WC:=λU M H d e x y P Q dom vM hx hy w q=>by
 unfold WC at w
 split at w
 ·exact .inl (LJ (K:=X.K) (g:=λi j=>decide (i<j)) U M H (.int _) (.int _) x y P Q dom vM hx hy w q)
 ·exact .inr (RT (K:=X.K) (g:=λi j=>decide (i.cps.toList<j.cps.toList)) U M H (.str _) (.str _) x y P Q dom vM hx hy w q)
 ·exact w.elim
noncomputable def PV(d e:D)(P:D->Prop):Prop:=match d,e with
 | .int i,.int j=>P (.bl (decide (i<=j)))
 | .str i,.str j=>P (.bl (!(decide (j.cps.toList<i.cps.toList))))
 | _,_=>False
noncomputable def Vu:R2:=λx y H Q=>(Gz λi j=>.bl (decide (i<=j))) x y H Q\/TZ (λi j=>!(decide (j.cps.toList<i.cps.toList))) x y H Q
theorem Ko:OpR X (compareOp .LtE) Vu:=op_le.or O4
theorem OQ:Fj X.K .sh Vu PV:=λU M H d e x y P Q dom vM hx hy w q=>by
 unfold PV at w
 split at w
 ·exact .inl (LJ (K:=X.K) (g:=λi j=>decide (i<=j)) U M H (.int _) (.int _) x y P Q dom vM hx hy w q)
 ·exact .inr (RT (K:=X.K) (g:=λi j=>!(decide (j.cps.toList<i.cps.toList))) U M H (.str _) (.str _) x y P Q dom vM hx hy w q)
 ·exact w.elim
noncomputable def Vx:R2:=Gz λi j=>.bl (decide (j<i))
theorem Dr:OpR X (compareOp .Gt) Vx:=Tl
theorem GL:Fj X.K .sh Vx (f2 λi j=>.bl (decide (j<i))):=LJ
noncomputable def Vy:R2:=Gz λi j=>.bl (decide (j<=i))
theorem Fb:OpR X (compareOp .GtE) Vy:=To
theorem JB:Fj X.K .sh Vy (f2 λi j=>.bl (decide (j<=i))):=LJ
noncomputable def Vn:V->Option Int->Option Int->Hp->VK->Prop:=λx lo hi H Q=>∃z,x=.str z/\z.length<=sizeLine/\Q (.str (Txt.slice z lo hi)) H
theorem sl_U:SlR X Vn:=UE
noncomputable def VS(w:DW):DW:=λn ρ P=>w n ρ λd n1=>∃i,d=.int i/\P (.int (-i)) n1
theorem U1{a:Expr}{κ:Kd}{wa:DW}{pos:Pos}(h:DE X a κ wa):DE X (.UnaryOp .USub a pos) .sh (VS wa):=by
 obtain⟨t,h1,h2⟩:=h
 refine⟨_,V0 T9 h1,λC M H n ρ σ P Q R w q=>?_⟩
 refine h2 C M H n ρ σ _ _ R w λv H1 d n1 e1 f1 r1 p=>?_
 obtain⟨i,rfl,p⟩:=p
 exact⟨i,Qu r1,q _ H1 (.int (-i)) n1 e1 f1 rfl p⟩
noncomputable def Got(P:Program)(w:World)(K:Frag)(mg:Str->Option Value)(base:Heap)(x:Str)(k:Nat)(ps:List Str)(κ:Kd)(W:W2):Prop :=
 ∃f fd,BA P w K mg base B8 k f fd ps (DF K κ W ps.length)/\mg x=some (.ref f)/\keepIn K (.ref f)=true/\Binds K fd ps []/\∀ss n P,W ss n P->ss.length=ps.length
theorem AH{e:Expr}{es:List Expr}{k:Nat}{ps:List Str}{κ:Kd}{W:W2}{x:Str}{p pos:Pos}{was:VL}(G:Got X.prog X.w X.K X.mg X.base x k ps κ W)
  (hr:Room k X.A) (hg:Gl X x) (ha:WX X (e::es) was)
  (hdb:autoParam ((x==("__debug__" : Str))=false) zau1._auto_1) (he:autoParam (starEach (e::es) X.env=(false,eval e X.env)::starEach es X.env) zau3._auto_1) (hpl:autoParam ((backTo pos (starEach es X.env)).any (·.1)=false) zau3._auto_1) :
  DE X (.Call (.Name x p) (e::es) [] pos) κ (Ai W was):=by
 obtain⟨f,fd,G,hm,hk,hb,hW⟩:=G
 exact TB G hW hr hg hm hk hb ha hdb he hpl
noncomputable def Ti(np:Nat)(g:List D->D):W2:=λss n P=>∃ds:List D,ds.length=np/\ss=ds.map .sh/\P (g ds) n
theorem Ox{np:Nat}{g:List D->D}{ss:List Slot}{n:Nat}{P:D->Nat->Prop}(h:Ti np g ss n P):ss.length=np:=by
 obtain⟨ds,e,rfl,_⟩:=h
 rw [Db]; exact e
theorem N4:TL K "int":=⟨λt ht=>by
 simp only [X_,YG,or_false] at ht
 rcases ht with rfl | rfl | rfl | rfl | rfl | rfl | rfl <;> kernel_rfl⟩
theorem F8:TL K "bool":=⟨λt ht=>by
 simp only [X_,YG,or_false] at ht
 rcases ht with rfl | rfl | rfl | rfl | rfl | rfl | rfl <;> kernel_rfl⟩
theorem kit_tuple:TL K "tuple":=⟨λt ht=>by
 simp only [X_,YG,or_false] at ht
 rcases ht with rfl | rfl | rfl | rfl | rfl | rfl | rfl <;> kernel_rfl⟩
end
theorem MU{α:Type}(p:α->Bool):∀l:List α,allB (l.map λc=>.bl (p c))=some (l.map p)
 | []=>rfl
 | a::l=>by
  rw [X6,X6]
  unfold allB
  rw [MU p l]
  rfl
theorem RM{b1 b2:Bool}{P:D->Nat->Prop}{n:Nat}{k:(D->Nat->Prop)->Prop}(hk:b1=true->P (.bl b2) n->k P)(h:P (.bl (b1&&b2)) n):(match (.bl b1:D) with | .bl true=>k P | .bl false=>P (.bl false) n | _=>False):=by
 cases b1 with
 | false=>exact h
 | true=>exact hk rfl h
theorem Dy{P:Program}{w:World}{K:Frag}{mg:Str->Option Value}{base:Heap}{x:Str}{st:Stmt}{f:Addr}{fd:FuncData}{k:Nat}{ps:List Str}{κ:Kd}{W:W2}(F:Fun K x x st f fd)(m:mg x=some (.ref f))(b:Binds K fd ps [])
  (hW:∀ss n P,W ss n P->ss.length=ps.length) (ok:BA P w K mg base B8 k f fd ps (DF K κ W ps.length)):Got P w K mg base x k ps κ W:=⟨f,fd,ok,m,F.kp,b,hW⟩
noncomputable def Le(K:Frag):Sp:=λvs H Q _=>∃a ns,vs=[V.ref a]/\(bx (α:=Int) ns<=63/\SqL K H a (ns.map V.int))/\∀H',Q (.bl true) H'
noncomputable def KQ(K:Frag):Sp:=λvs H Q _=>∃a ns,vs=[V.ref a]/\(bx (α:=Int) ns<=63/\SqL K H a (ns.map V.int)) /\
 ∀(c f:Addr) (H':Hp),c≠f->H' c=some (.lst (ns.map V.int))->H' f=some (.lst [.ref c,.int 0,.int 0])->Q (.ref f) H'
theorem WH{ns:List Int}(h:ns.length<=63):JZ (ns.map V.int) none (some 63)=ns.map V.int:=by
 have e:HT.sIx (ns.map V.int).length (ns.map V.int).length (some 63)=ns.length:=by
  rw [show (63:Int)=((63:Nat):Int) from rfl,HT.sIx_nat,Db,Nat.min_eq_right h]
 unfold JZ
 rw [e,HT.sIx_none,aq,aY]
 exact Zs (by rw [Db]; exact No _)
theorem WA{P:Program}{w:World}{K:Frag}{mg:Str->Option Value}{base:Heap}{st s1:Stmt}{rest:List Stmt}{f:Addr}{fd:FuncData}{Nr:List Str}{k n0:Nat}{wb:Af}(F:Fun K "law" "law" st f fd)
  (S:Ak ("_law_script" :: "_law_feed_here"::Nr) ["_law_script"] (AS st)) (hbd:Bt st=s1::rest) (hn0:n0<=2 ^ 60)
  (h1:∀(cdv:Value) (A:Around) (outer:List Env) (s:Shared) (H:Hp) (E:XK),Room k (A.deeper (envOfC "law" (AS st) s.heap.objs.size f cdv)) ->
   PS (LC B8 P w K mg base ("_law_script" :: "_law_feed_here"::Nr) "law" (AS st) f cdv A outer s H E).nox s1 (Lc (Nd (KQ K) [] E0 (Lb (BG 0) Oe)) (G3 1)))
  (h2:∀(cdv:Value) (A:Around) (outer:List Env) (s:Shared) (H:Hp) (E:XK),Room k (A.deeper (envOfC "law" (AS st) s.heap.objs.size f cdv)) ->
   Pq (LC B8 P w K mg base ("_law_script" :: "_law_feed_here"::Nr) "law" (AS st) f cdv A outer s H E).nox .sh rest wb)
  (hW:wb { nx:=λ_ _=>False,rt:=λd _=>d=.bl true } n0 (.no::.fd::Re Nr.length .no)):BA P w K mg base B8 (k+1) f fd ["_law_script"] (Le K):=by
 refine F.ok S (λvs H Q E h=>?_) (λcdv A outer s H vs Q E hr h=>?_)
 ·obtain⟨a,ns,rfl,_⟩:=h
  rfl
 ·obtain⟨a,ns,rfl,⟨hl,hS⟩,q⟩:=h
  obtain⟨t,t1,t2⟩:=h2 cdv A outer s H E hr
  refine⟨Me (Lc (Nd (KQ K) [] E0 (Lb (BG 0) Oe)) (G3 1)) t,by rw [hbd]; exact A3 (h1 cdv A outer s H E hr) t1,?_⟩
  refine⟨_,rfl,a,ns,rfl,⟨hl,hS⟩,λc g H' hcg hc hg=>?_⟩
  have at_:∀(i:Nat) (sl:Slot),(Slot.no::Slot.fd::Re Nr.length Slot.no)[i]?=some sl->Slot.no=sl\/(Slot.fd=sl/\i=1):=by
   intro i sl hs
   match i,hs with
   | 0,hs=>exact .inl (TW hs)
   | 1,hs=>exact .inr ⟨TW hs,rfl⟩
   | i+2,hs =>
    rw [be,be,aF] at hs
    split at hs
    ·exact .inl (TW hs)
    ·cases hs
  have R:Rel K ⟨λb=>b=g,some ⟨g,c,none⟩,λb=>b=g,λb=>b=g,H',[],[]⟩ (λb=>b=g) H' n0 (.no::.fd::Re Nr.length .no) ((start ("_law_script" :: "_law_feed_here"::Nr) [V.ref a]).set 1 (some (.ref g))):=by
   refine⟨by simp [L2.start],λ_ z=>z,λb z=>⟨_,(congrArg H' z).trans hg⟩,Ext.refl _ _,λb z=>by rw [← TW z],λ_ z=>z,λ_ z=>z,λb z=>?_,λi sl hs=>?_,λp hp=>absurd hp (by simp),λi d b hs _=>?_,λi sl b hs o _=>?_,λi j sl t b hs o _ _ _ _=>?_,λp hp=>absurd hp (by simp)⟩
   ·have e:(⟨g,c,none⟩:Fd)=b:=TW z
    subst e
    exact .inl ⟨rfl,0,0,ns,hg,hcg,⟨hcg,hc⟩,hl,by decide,by omega⟩
   ·rcases at_ i sl hs with e | ⟨e,rfl⟩
    ·rw [← e]; trivial
    ·rw [← e]
     exact⟨⟨g,c,none⟩,by simp [L2.start],rfl,rfl⟩
   ·rcases at_ i _ hs with e | ⟨e,_⟩ <;> cases e
   ·rcases at_ i sl hs with e | ⟨e,_⟩ <;> (rw [← e] at o; cases o)
   ·rcases at_ i sl hs with e | ⟨e,_⟩ <;> (rw [← e] at o; cases o)
  refine t2 _ _ H' n0 _ _ { nx:=λ_ _=>False,rt:=λd _=>d=.bl true } _ R ⟨λ_ _ _ _ _ _ z=>z.elim,λv H2 d n' _ _ r p=>?_,λ_ _ _ _ _ _ z=>z.elim,λ_ _ _ _ _ _ z=>z.elim⟩ hW
  have e:d=.bl true:=p
  subst e
  have e2:v=.bl true:=r
  subst e2
  exact q H2
end Dp
namespace L2
open PySem PySem.Spec PyProof.Rows
section
variable {X:Cx}
theorem Fn:∀{us:List Value} {ys:List Str},StrsAre us ys->Vals (ys.map V.str) us
 | _,_,.nil=>.nil
 | _,_,.cons x t r=>.cons ⟨t,rfl⟩ (Fn r)
noncomputable def QQ(K:Frag):List V->Hp->VK->Prop:=λxs H Q=>∃(p:Addr) (ss:List Str),xs=[.ref p]/\SqL K H p (ss.map V.str)/\ss.length<64/\∀(ss':List Str) (l:Addr),ss'.Perm ss->sortedS ss'=true->H l=none->Q (.ref l) (BB H l (.lst (ss'.map V.str)))
theorem NP:CC X (.builtin "sorted") (QQ X.K):=by
 intro pins s σ H xs us Q I r h
 obtain⟨p,ss,rfl,hq,h64,q⟩:=h
 obtain⟨u,rfl,rx⟩:=vals1 r
 cases rx
 obtain⟨its,r',pl,hz⟩:=I.list hq
 have hlen:=r'.length
 rw [Db] at hlen
 refine sorted_strs pl.isList (Mh r') (by omega) λout ss' a1 a2 a3=>?_
 obtain⟨e,he⟩:=sortedAll_at s.heap its out
 have hl':ss'.length=ss.length:=a2.length_eq
 have hn:H (s.heap.objs.size+1)=none:=I.hok.fresh (Zb _)
 refine⟨.ref (s.heap.objs.size+1),_,I.laid (t':=s.toks) (λb o z=>sortedAll_old z) (Zb _) (show ObjOk X.prog X.w _ _ _ (.lst (ss'.map V.str)) from⟨?_,out.toList,e,Fn a1,?_⟩),rfl,q ss' _ a2 a3 hn⟩
 ·rw [Db,Yj]; omega
 ·exact he
noncomputable def Tc:R2:=λx y H Q=>∃z k,x=.str z/\y=.int k/\MulOk z k/\Q (.str (Txt.mul z k)) H
theorem SU:OpR X (binaryOp .Mult) Tc:=by
 intro pins s σ H x y v u Q I rx ry h
 obtain⟨z,k,rfl,rfl,hm,q⟩:=h
 obtain⟨t,rfl⟩:=rx
 obtain⟨t',rfl⟩:=ry
 exact SB.mul hm λt' k=>⟨.str _,H,I.tok _,⟨_,rfl⟩,q⟩
end
end L2
namespace Dp
open PySem PySem.Spec PyProof.Rows L2
section
variable {K:Frag}
noncomputable def E3(ds:List D)(P:D->Prop):Prop:=match ds with
 | [.lst xs]=>P (.tup xs)
 | [.tup xs]=>P (.tup xs)
 | _=>False
theorem GK:Cu K .sh (λxs H Q=>∃p ys,xs=[.ref p]/\((SqL K H p ys/\∀l,H l=none->Q (.ref l) (BB H l (.tup ys)))\/(SqT K H p ys/\Q (.ref p) H))) E3:=by
 intro U M H ds vs P Q dom vM hp w q
 unfold E3 at w
 split at w
 ·obtain⟨v,rfl,hx⟩:=Eb hp
  obtain⟨a,us,rfl,_,ha,hs⟩:=hx
  exact⟨a,us,rfl,.inl ⟨.inl ha,λl hl=>q _ _ (.tup _) (A5 hl) (Ik dom hl hs) w⟩⟩
 ·obtain⟨v,rfl,hx⟩:=Eb hp
  obtain⟨a,us,rfl,ha,hs⟩:=hx.tup
  exact⟨a,us,rfl,.inr ⟨ha.sq,q _ H (.tup _) .refl ⟨a,us,rfl,ha,hs⟩ w⟩⟩
 ·exact w.elim
theorem Ats.strs{M:Addr->Prop}{H:Hp}:∀{ss:List Str},(∀x∈ss,x.length<=sizeLine)->Ats K M H (ss.map D.str) (ss.map V.str)
 | [],_=>rfl
 | x::r,h=>⟨.str x,r.map V.str,rfl,⟨rfl,h x Op⟩,Ats.strs λy hy=>h y (Sc _ hy)⟩
theorem Ats.strs_le{M:Addr->Prop}{H:Hp}:∀{ss:List Str} {vs:List V},Ats K M H (ss.map D.str) vs->∀x∈ss,x.length<=sizeLine
 | [],_,_=>λx hx=>by cases hx
 | y::r,vs,h=>λx hx=>by
  obtain⟨v,t,e,h1,h2⟩:=h
  rcases X_.mp hx with rfl | hx
  ·exact h1.2
  ·exact Ats.strs_le h2 x hx
noncomputable def Q1(ds:List D)(P:D->Prop):Prop:=∃(xs:List D) (ss:List Str),ds=[.lst xs]/\CJ xs=some ss/\ss.length<64/\∀ss':List Str,ss'.Perm ss->sortedS ss'=true->P (.lst (ss'.map .str))
theorem ON:∀{xs:List D} {ss:List Str},CJ xs=some ss->xs=ss.map .str
 | [],ss,h=>by cases h; rfl
 | .str b::r,ss,h=>by
  unfold CJ at h
  obtain⟨t,e,rfl⟩:=YD.mp h
  rw [X6,← ON e]
 | .non::r,ss,h=>by unfold CJ at h; cases h
 | .int _::r,ss,h=>by unfold CJ at h; cases h
 | .bl _::r,ss,h=>by unfold CJ at h; cases h
 | .tup _::r,ss,h=>by unfold CJ at h; cases h
 | .lst _::r,ss,h=>by unfold CJ at h; cases h
 | .dic _ _::r,ss,h=>by unfold CJ at h; cases h
 | .fdi _ _::r,ss,h=>by unfold CJ at h; cases h
 | .dit _ _::r,ss,h=>by unfold CJ at h; cases h
theorem TK:Cu K .fr (QQ K) Q1:=by
 intro U M H ds vs P Q dom vM hp w q
 obtain⟨xs,ss,rfl,e,h64,w⟩:=w
 obtain⟨v,rfl,hx⟩:=Eb hp
 obtain⟨a,us,rfl,_,ha,hs⟩:=hx
 have:=OM e hs
 subst this
 have e2:=ON e
 subst e2
 refine⟨a,ss,rfl,.inl ha,h64,λss' l h1 h2 hl=>?_⟩
 exact q _ _ _ (A5 hl) (Cb hl (Ats.strs λx hx=>hs.strs_le x (h1.mem_iff.mp hx))) (w ss' h1 h2)
noncomputable def DN(d e:D)(P:D->Prop):Prop:=match d,e with
 | .int i,.int j=>CMul i j/\P (.int (i*j))
 | .str z,.int k=>MulOk z k/\(Txt.mul z k).length<=sizeLine/\P (.str (Txt.mul z k))
 | _,_=>False
noncomputable def Td:R2:=λx y H Q=>(rI CMul λi j=>.int (i*j)) x y H Q\/Tc x y H Q
theorem Bq{X:Cx}:OpR X (binaryOp .Mult) Td:=op_mul.or SU
theorem Cg:Fj K .sh Td DN:=λU M H d e x y P Q dom vM hx hy w q=>by
 unfold DN at w
 split at w
 ·exact .inl (Es (K:=K) (C:=CMul) (g:=λi j=>i*j) U M H (.int _) (.int _) x y P Q dom vM hx hy w q)
 ·rename_i z k
  exact .inr ⟨z,k,hx.1,hy,w.1,q _ H (.str _) .refl ⟨rfl,w.2.1⟩ w.2.2⟩
 ·exact w.elim
end
section
variable {X:Cx}{tg e e2:Expr}{es:List Expr}{ws:EK}{p pos:Pos}
noncomputable def Pz(ws:EK):EK:=λn ρ P=>ws n ρ λds n1=>∃i j:Int,ds=[.int i,.int j]/\(-(2 ^ 62)<=i/\i<2 ^ 62/\-(2 ^ 62)<=j/\j<2 ^ 62)/\P (DJ i (j - i).toNat) n1
theorem PY(hg:Gl X "range")(hm:X.mg "range"=none)(ha:TQ X [e,e2] ws)(hs:autoParam (starEach [e,e2] X.env=[(false,eval e X.env),(false,eval e2 X.env)]) zau3._auto_1)(hs2:autoParam (starEach [e2] X.env=[(false,eval e2 X.env)]) zau3._auto_1):DI X tg (.Call (.Name "range" p) [e,e2] [] pos) (Pz ws):=by
 obtain⟨t,a1,a2⟩:=ha
 refine⟨_,Oz hg hm a1 hs hs2,λC M H n ρ σ P Rr R w q=>?_⟩
 refine a2 C M H n ρ σ _ _ R w λvs H1 ds n1 e1 f1 r1 p=>?_
 obtain⟨i,j,rfl,hj,p⟩:=p
 cases r1 with
 | cons r rr =>
  cases rr with
  | cons r' rr =>
   cases rr
   have hv:_=V.int i:=r
   have hv':_=V.int j:=r'
   exact⟨i,j,by rw [hv,hv'],hj,q _ H1 _ n1 e1 f1 Fk p⟩
noncomputable def Wo(X:Cx)(ts:List Expr)(b:List D->List Slot->(List Slot->Prop)->Prop):Prop:=∃g,WQ X ts g/\∀(C:Fm) (M:Addr->Prop) (H:Hp) (n:Nat) (ρ:List Slot) (σ:L2.St) (ds:List D) (vs:List V) (P:List Slot->Prop) (Q:L2.St->Hp->Prop),Rel X.K C M H n ρ σ->Ats X.K M H ds vs->b ds ρ P ->
 (∀ρ' σ',Rel X.K C M H n ρ' σ'->P ρ'->Q σ' H)->g vs σ H Q
noncomputable def MS:List D->List Slot->(List Slot->Prop)->Prop:=λds ρ P=>ds=[]/\P ρ
noncomputable def By(b:BW)(bs:List D->List Slot->(List Slot->Prop)->Prop):List D->List Slot->(List Slot->Prop)->Prop:=λds ρ P=>match ds with
 | d::r=>b d ρ λρ1=>bs r ρ1 P
 | []=>False
theorem K_:Wo X [] MS:=⟨_,Nv,λC M H n ρ σ ds vs P Q R h w q=>by
 obtain⟨rfl,w⟩:=w
 exact⟨h,q ρ σ R w⟩⟩
theorem Bs{b:BW}{bs:List D->List Slot->(List Slot->Prop)->Prop}(h1:DG X e b)(h2:Wo X es bs)(hs:autoParam ((assignEach (e::es) X.env).map (·.2)=assign e X.env::(assignEach es X.env).map (·.2)) zau3._auto_1):Wo X (e::es) (By b bs):=by
 obtain⟨g,a1,a2⟩:=h1
 obtain⟨g',b1,b2⟩:=h2
 refine⟨_,Fx a1 b1 hs,λC M H n ρ σ ds vs P Q R h w q=>?_⟩
 cases ds with
 | nil=>exact w.elim
 | cons d r =>
  obtain⟨v,vr,e,hv,hr⟩:=h
  exact⟨v,vr,e,a2 C M H n ρ σ d v _ _ R hv w λρ' σ' R' w'=>b2 C M H n ρ' σ' r vr _ _ R' hr w' q⟩
noncomputable def RO(k:Nat)(bs:List D->List Slot->(List Slot->Prop)->Prop):BW:=λd ρ P=>match d with
 | .tup ds=>ds.length=k/\bs ds ρ P
 | _=>False
theorem NK{bs:List D->List Slot->(List Slot->Prop)->Prop}{k:Nat}{j:Nat}(hc:X.calm=true)(h:Wo X es bs)(hn:autoParam ((assignEach es X.env).length=k) zau3._auto_1)(hst:autoParam ((assignEach es X.env).findIdx? (·.1)=none) zau3._auto_1):DG X (.Tuple es j pos) (RO k bs):=by
 obtain⟨g,a1,a2⟩:=h
 refine⟨_,Qb hc a1 hn hst,λC M H n ρ σ d v P Q R h w q=>?_⟩
 cases d with
 | tup ds =>
  obtain⟨a,vs,rfl,hq,hs⟩:=h
  exact⟨a,vs,rfl,hq.sq,by rw [hs.length]; exact w.1,a2 C M H n ρ σ ds vs P Q R hs w.2 q⟩
 | _=>exact w.elim
end
end Dp
namespace L2
open PySem PySem.Spec PyProof.Rows
mutual
noncomputable def RV(H:Hp):PyData->V->Prop
 | .none,v=>v=.non
 | .bool b,v=>v=.bl b
 | .int i,v=>v=.int i
 | .str x,v=>v=.str x
 | .tuple xs,v=>∃a vs,v=.ref a/\H a=some (.tup vs)/\RVs H xs vs
 | .list xs,v=>∃a vs,v=.ref a/\Rd H a (.lst vs)/\RVs H xs vs
 | .dict _,_=>False
noncomputable def RVs(H:Hp):List PyData->List V->Prop
 | [],vs=>vs=[]
 | x::xs,vs=>∃v r,vs=v::r/\RV H x v/\RVs H xs r
end
section
variable {X:Cx}{pins:List (Addr×Obj)}{σ:L2.St}{H:Hp}{s:Shared}
mutual
theorem RV.reads(I:Inv X pins σ H s):∀{d:PyData} {v:V} {u:Value},RV H d v->RelV v u->∃as,Reads s.heap u d as
 | .none,v,u,h,r=>by
  cases (show v=.non from h)
  cases (show u=YM from r)
  exact⟨_,.none⟩
 | .bool b,v,u,h,r=>by
  cases (show v=.bl b from h)
  cases (show u=ZY b from r)
  exact⟨_,.bool b⟩
 | .int i,v,u,h,r=>by
  cases (show v=.int i from h)
  obtain⟨t,rfl⟩:=r
  exact⟨_,.int i t⟩
 | .str x,v,u,h,r=>by
  cases (show v=.str x from h)
  obtain⟨t,rfl⟩:=r
  exact⟨_,.str x t⟩
 | .tuple xs,v,u,h,r=>by
  obtain⟨a,vs,rfl,hq,hs⟩:=h
  cases r
  obtain⟨its,rv,⟨o,e,c,n,d⟩,_⟩:=I.tuple (X:=X) (xs:=vs) (.inl (.inl hq))
  obtain⟨as,ra⟩:=RVs.reads I hs rv
  exact⟨_,.tuple e c d ra⟩
 | .list xs,v,u,h,r=>by
  obtain⟨a,vs,rfl,hq,hs⟩:=h
  cases r
  obtain⟨its,rv,pl,_⟩:=I.list (X:=X) (xs:=vs) (.inl hq)
  obtain⟨o,e,c,n,d⟩:=pl.isList
  obtain⟨as,ra⟩:=RVs.reads I hs rv
  exact⟨_,.list e c d ra⟩
 | .dict _,v,u,h,r=>h.elim
theorem RVs.reads(I:Inv X pins σ H s):∀{ds:List PyData} {vs:List V} {us:List Value},RVs H ds vs->Vals vs us->∃as,ReadsAll s.heap us ds as
 | [],vs,us,h,r=>by
  cases (show vs=[] from h)
  cases r
  exact⟨_,.nil⟩
 | d::ds,vs,us,h,r=>by
  obtain⟨v,w,rfl,h1,h2⟩:=h
  cases r with
  | cons r1 r2 =>
   obtain⟨as,a1⟩:=RV.reads I h1 r1
   obtain⟨bs,a2⟩:=RVs.reads I h2 r2
   exact⟨_,.cons a1 a2⟩
end
end
theorem RV.noDict{H:Hp}:∀(d:PyData) (v:V),RV H d v->d.hasDict=false
 | d,v,h=>by
  have go:∀(n:Nat),(∀(d:PyData) (v:V),sizeOf d<=n->RV H d v->d.hasDict=false)/\∀(ds:List PyData) (vs:List V),sizeOf ds<=n->RVs H ds vs->bO ds=false:=by
   intro n
   induction n with
   | zero =>
    refine⟨λd v h _=>?_,λds vs h _=>?_⟩
    ·cases d <;> simp at h
    ·cases ds <;> simp at h
   | succ n ih =>
    refine⟨λd v h hr=>?_,λds vs h hr=>?_⟩
    ·cases d with
     | tuple xs =>
      obtain⟨a,vs,_,_,hs⟩:=hr
      simp only [Zw]
      exact ih.2 xs vs (by simp at h; omega) hs
     | list xs =>
      obtain⟨a,vs,_,_,hs⟩:=hr
      simp only [Zw]
      exact ih.2 xs vs (by simp at h; omega) hs
     | dict kvs=>exact(show False from hr).elim
     | none=>simp only [Zw]
     | bool b=>simp only [Zw]
     | int i=>simp only [Zw]
     | str x=>simp only [Zw]
    ·cases ds with
     | nil=>simp only [bO]
     | cons x xs =>
      obtain⟨v,w,_,h1,h2⟩:=hr
      simp only [bO,ih.1 x v (by simp at h; omega) h1,ih.2 xs w (by simp at h; omega) h2,bH]
  exact(go (sizeOf d)).1 d v (No _) h
section
variable {X:Cx}
noncomputable def Tb:List V->Hp->VK->Prop:=λxs H Q=>∃x d,xs=[x]/\RV H d x/\d.showable=true/\d.depth<=100/\d.shown.length<=sizeLine/\Q (.str d.shown) H
theorem J2{k:Nat}(hr:Room k X.A):CC X (.builtin "repr") Tb:=by
 intro pins s σ H xs us Q I r h
 obtain⟨x,d,rfl,hx,hs,hd,hz,q⟩:=h
 obtain⟨u,rfl,rx⟩:=vals1 r
 have hu:=hr.un
 cases d with
 | none =>
  cases (show x=.non from hx)
  cases (show u=YM from rx)
  exact PySem.P.repr_of_none ⟨.str _,H,I.tok _,⟨_,rfl⟩,q⟩
 | bool b =>
  cases (show x=.bl b from hx)
  cases (show u=ZY b from rx)
  refine PySem.P.repr_of_bool ⟨.str _,H,I.tok _,⟨_,rfl⟩,?_⟩
  have e:PyData.shown (.bool b)=if b then ("True" : Str) else "False":=by cases b <;> rfl
  rw [e] at q
  exact q
 | int i =>
  cases (show x=.int i from hx)
  obtain⟨t,rfl⟩:=rx
  refine PySem.P.repr_of_int (by simpa [PyData.showable] using hs) ⟨.str _,H,I.tok _,⟨_,rfl⟩,q⟩
 | str z =>
  cases (show x=.str z from hx)
  obtain⟨t,rfl⟩:=rx
  exact PySem.P.repr_of_str ⟨.str _,H,I.tok _,⟨_,rfl⟩,q⟩ hz
 | tuple ds =>
  obtain⟨as,ra⟩:=RV.reads I hx rx
  obtain⟨a,vs,rfl,_⟩:=id hx
  cases rx
  refine repr_of_reads' ra hs (PyData.noDict_hsm (RV.noDict _ _ hx)) hr.gd (by omega) (λ_ _ e=>e) (λh' u tk hk=>⟨.str _,H,I.kept (t':=tk) hk,⟨_,rfl⟩,q⟩) hz
 | list ds =>
  obtain⟨as,ra⟩:=RV.reads I hx rx
  obtain⟨a,vs,rfl,_⟩:=id hx
  cases rx
  refine repr_of_reads' ra hs (PyData.noDict_hsm (RV.noDict _ _ hx)) hr.gd (by omega) (λ_ _ e=>e) (λh' u tk hk=>⟨.str _,H,I.kept (t':=tk) hk,⟨_,rfl⟩,q⟩) hz
 | dict _=>exact(show False from hx).elim
noncomputable def Vz:R2:=λx y H Q=>∃d e,RV H d x/\RV H e y/\d.canLay0=true/\e.canLay0=true/\d.depth<=100/\Q (.bl (Yn d e)) H
theorem Gk{k:Nat}(hr:Room k X.A):OpR X (compareOp .Eq) Vz:=by
 intro pins s σ H x y v u Q I rx ry h
 obtain⟨d,e,hx,hy,h1,h2,hd,q⟩:=h
 obtain⟨as,ra⟩:=RV.reads I hx rx
 obtain⟨bs,rb⟩:=RV.reads I hy ry
 have hu:=hr.un
 have hm:min d.depth e.depth<=d.depth:=Nat.min_le_left _ _
 exact PySem.SeqAt.compareEq_reads ra rb h1 h2 (by omega) ⟨.bl _,H,I,rfl,q⟩
noncomputable def UL(neg:Bool):R2:=λx y H Q=>∃d es,RV H d x/\(RV H (.list es) y\/RV H (.tuple es) y)/\d.canLay0=true/\Y3 es=true/\d.depth<=100/\Q (.bl (if neg then !(es.any λy=>Yn y d) else es.any λy=>Yn y d)) H
theorem Ee{k:Nat}(hr:Room k X.A):OpR X (compareOp .In) (UL false):=by
 intro pins s σ H x y v u Q I rx ry h
 obtain⟨d,es,hx,hy,h1,h2,hd,q⟩:=h
 obtain⟨as,ra⟩:=RV.reads I hx rx
 have hu:=hr.un
 have hm:min (Ye es) d.depth<=d.depth:=aM _ _
 rcases hy with hy | hy
 ·obtain⟨bs,rb⟩:=RV.reads I hy ry
  exact PySem.SeqAt.in_list_reads rb ra h2 h1 (by omega) ⟨.bl _,H,I,rfl,q⟩
 ·obtain⟨bs,rb⟩:=RV.reads I hy ry
  exact PySem.SeqAt.in_tuple_reads rb ra h2 h1 (by omega) ⟨.bl _,H,I,rfl,q⟩
theorem CM{k:Nat}(hr:Room k X.A):OpR X (compareOp .NotIn) (UL true):=by
 intro pins s σ H x y v u Q I rx ry h
 obtain⟨d,es,hx,hy,h1,h2,hd,q⟩:=h
 obtain⟨as,ra⟩:=RV.reads I hx rx
 have hu:=hr.un
 have hm:min (Ye es) d.depth<=d.depth:=aM _ _
 rcases hy with hy | hy
 ·obtain⟨bs,rb⟩:=RV.reads I hy ry
  exact PySem.SeqAt.notIn_list_reads rb ra h2 h1 (by omega) ⟨.bl _,H,I,rfl,q⟩
 ·obtain⟨bs,rb⟩:=RV.reads I hy ry
  exact PySem.SeqAt.notIn_tuple_reads rb ra h2 h1 (by omega) ⟨.bl _,H,I,rfl,q⟩
end
end L2
namespace Dp
open PySem PySem.Spec PyProof.Rows L2
mutual
noncomputable def toPy:D->PyData
 | .non=>.none
 | .bl b=>.bool b
 | .int i=>.int i
 | .str x=>.str x
 | .tup ds=>.tuple (BD ds)
 | .lst ds=>.list (BD ds)
 | .dic _ _=>.dict []
 | .fdi _ _=>.dict []
 | .dit _ _=>.dict []
noncomputable def BD:List D->List PyData
 | []=>[]
 | d::ds=>toPy d::BD ds
end
theorem CK(ds:List D):BD ds=ds.map toPy:=by
 induction ds with
 | nil=>rfl
 | cons d r ih=>rw [BD,ih,X6]
section
variable {K:Frag}{M:Addr->Prop}{H:Hp}
mutual
theorem At.rv:∀{d:D} {v:V},At K M H d v->D6 d=true->RV H (toPy d) v
 | .non,v,h,_=>h
 | .bl b,v,h,_=>h
 | .int i,v,h,_=>h
 | .str x,v,h,_=>h.1
 | .tup ds,v,h,n=>by
  obtain⟨a,vs,e,hn,hs⟩:=h
  exact⟨a,vs,e,hn,Ats.rv hs n⟩
 | .lst ds,v,h,n=>by
  obtain⟨a,vs,e,hn,hs⟩:=h
  exact⟨a,vs,e,.inl hn.2,Ats.rv hs n⟩
 | .dic ks ds,v,h,n=>by cases n
 | .fdi ks ds,v,h,n=>by cases n
 | .dit ks ds,v,h,n=>by cases n
theorem Ats.rv:∀{ds:List D} {vs:List V},Ats K M H ds vs->Bj ds=true->RVs H (BD ds) vs
 | [],vs,h,_=>h
 | d::ds,vs,h,n=>by
  obtain⟨v,r,e,h1,h2⟩:=h
  have n':(D6 d&&Bj ds)=true:=n
  rw [YA] at n'
  exact⟨v,r,e,At.rv h1 n'.1,Ats.rv h2 n'.2⟩
end
theorem AtT.rv{U:Addr->Prop}{d:D}{v:V}(h:AtT K U M H d v)(n:D6 d=true):RV H (toPy d) v:=by
 cases d with
 | lst ds =>
  obtain⟨a,vs,e,_,hq,hs⟩:=h
  exact⟨a,vs,e,hq,Ats.rv hs n⟩
 | dic ks ds=>cases n
 | fdi ks ds=>cases n
 | dit ks ds=>cases n
 | non=>exact h
 | bl b=>exact h
 | int i=>exact h
 | str x=>exact h.1
 | tup ds=>exact At.rv (K:=K) (M:=M) (d:=.tup ds) h n
noncomputable def QG(d:D):Prop:=D6 d=true/\(toPy d).showable=true/\(toPy d).depth<=100/\(toPy d).shown.length<=sizeLine
noncomputable def Mi(d:D):Str:=(toPy d).shown
noncomputable def Q2(ds:List D)(P:D->Prop):Prop:=∃d,ds=[d]/\QG d/\P (.str (Mi d))
theorem RU:Cu K .sh Tb Q2:=by
 intro U M H ds vs P Q dom vM hp w q
 obtain⟨d,rfl,hd,w⟩:=w
 obtain⟨v,rfl,hx⟩:=Eb hp
 exact⟨v,toPy d,rfl,hx.rv hd.1,hd.2.1,hd.2.2.1,hd.2.2.2,q _ H (.str (Mi d)) .refl ⟨rfl,hd.2.2.2⟩ w⟩
noncomputable def B5(d:D):Prop:=D6 d=true/\(toPy d).canLay0=true/\(toPy d).depth<=100
noncomputable def Ei(d e:D):Bool:=Yn (toPy d) (toPy e)
noncomputable def Sw(d e:D)(P:D->Prop):Prop:=B5 d/\B5 e/\P (.bl (Ei d e))
theorem KA:Fj K .sh Vz Sw:=λU M H d e x y P Q dom vM hx hy w q =>
 ⟨toPy d,toPy e,hx.rv w.1.1,hy.rv w.2.1.1,w.1.2.1,w.2.1.2.1,w.1.2.2,q _ H (.bl (Ei d e)) .refl rfl w.2.2⟩
noncomputable def Oh:D->Option (List D)
 | .lst ds=>some ds
 | .tup ds=>some ds
 | _=>none
noncomputable def HL(neg:Bool)(d e:D)(P:D->Prop):Prop:=B5 d/\B5 e/\∃es,Oh e=some es/\P (.bl (if neg then !(es.any λy=>Ei y d) else es.any λy=>Ei y d))
theorem Ct{neg:Bool}:Fj K .sh (UL neg) (HL neg):=λU M H d e x y P Q dom vM hx hy w q=>by
 obtain⟨h1,h2,es,he,w⟩:=w
 have any_eq:∀es:List D,(es.map toPy).any (λy=>Yn y (toPy d))=es.any λy=>Ei y d:=λes=>by rw [List.any_map]; rfl
 cases e with
 | lst ds =>
  cases he
  refine⟨toPy d,BD es,hx.rv h1.1,.inl (hy.rv h2.1),h1.2.1,by simpa [toPy,PyData.canLay0] using h2.2.1,h1.2.2,?_⟩
  rw [CK,any_eq]
  exact q _ H (.bl _) .refl rfl w
 | tup ds =>
  cases he
  refine⟨toPy d,BD es,hx.rv h1.1,.inr (hy.rv h2.1),h1.2.1,by simpa [toPy,PyData.canLay0] using h2.2.1,h1.2.2,?_⟩
  rw [CK,any_eq]
  exact q _ H (.bl _) .refl rfl w
 | _=>cases he
noncomputable def Ur(d e:D)(P:D->Prop):Prop:=B5 d/\B5 e/\P (.bl (!Ei d e))
end
end Dp
namespace L2
open PySem PySem.Spec PyProof.Rows
noncomputable def Vr:R2:=λx y H Q=>∃d e,RV H d x/\RV H e y/\d.canLay0=true/\e.canLay0=true/\d.depth<=100/\Q (.bl (!PyData.eqv d e)) H
theorem M7{X:Cx}{k:Nat}(hr:Room k X.A):OpR X (compareOp .NotEq) Vr:=by
 intro pins s σ H x y v u Q I rx ry h
 obtain⟨d,e,hx,hy,h1,h2,hd,q⟩:=h
 obtain⟨as,ra⟩:=RV.reads I hx rx
 obtain⟨bs,rb⟩:=RV.reads I hy ry
 have hu:=hr.un
 have hm:min d.depth e.depth<=d.depth:=Nat.min_le_left _ _
 exact PySem.SeqAt.compareNe_reads ra rb h1 h2 (by omega) ⟨.bl _,H,I,rfl,q⟩
end L2
namespace Dp
open PySem PySem.Spec PyProof.Rows L2
theorem RW{K:Frag}:Fj K .sh Vr Ur:=λU M H d e x y P Q dom vM hx hy w q =>
 ⟨toPy d,toPy e,hx.rv w.1.1,hy.rv w.2.1.1,w.1.2.1,w.2.1.2.1,w.1.2.2,q _ H (.bl (!Ei d e)) .refl rfl w.2.2⟩
end Dp
namespace L2
open PySem PySem.Spec PyProof.Rows
noncomputable def kOf:Key->V
 | .inl i=>.int i
 | .inr x=>.str x
noncomputable def Wf:Key->Key->Bool
 | .inl i,.inl j=>decide (i<j)
 | .inr x,.inr y=>decide (x.cps.toList<y.cps.toList)
 | _,_=>false
noncomputable def Jl:Key->Key->Bool
 | .inl _,.inl _=>true
 | .inr _,.inr _=>true
 | _,_=>false
noncomputable def Gn:List Key->List Key->Bool
 | [],[]=>false
 | [],_::_=>true
 | _::_,[]=>false
 | x::xs,y::ys=>if x=y then Gn xs ys else Wf x y
noncomputable def Bh:List Key->List Key->Bool
 | x::xs,y::ys=>Jl x y&&Bh xs ys
 | _,_=>true
theorem Q5{A:Around}{s:Shared}{x y:Key}{u v:Value}(rx:RelV (kOf x) u)(ry:RelV (kOf y) v):∃e,SeqAt.EqAt A s u v e/\(e=true↔x=y):=by
 cases x with
 | inl i =>
  cases y with
  | inl j=>exact⟨_,K6 rx ry rfl rfl,by simp [kOf,WD]⟩
  | inr z=>exact⟨_,K6 rx ry rfl rfl,by simp [kOf,WD]⟩
 | inr z =>
  cases y with
  | inl j=>exact⟨_,K6 rx ry rfl rfl,by simp [kOf,WD]⟩
  | inr z'=>exact⟨_,K6 rx ry rfl rfl,by simp [kOf,WD]⟩
theorem QL(A:Around)(s:Shared){x y:Key}{u v:Value}(rx:RelV (kOf x) u)(ry:RelV (kOf y) v)(hs:Jl x y=true)(prog:Program)(w:World)(E:Value->Shared->Prop)(Q:Value->Shared->Prop)(h:Q (.bool (Wf x y)) s) :
  wpAny (model prog w) A (richCompare .Lt u v) Q E s:=by
 cases x with
 | inl i =>
  cases y with
  | inl j =>
   obtain⟨t,rfl⟩:=rx
   obtain⟨t',rfl⟩:=ry
   exact(bw h:wpAny (model prog w) A (compareOp .Lt (.int i t) (.int j t')) Q E s)
  | inr z=>cases hs
 | inr z =>
  cases y with
  | inl j=>cases hs
  | inr z' =>
   obtain⟨t,rfl⟩:=rx
   obtain⟨t',rfl⟩:=ry
   exact(PySem.P.lt_str h:wpAny (model prog w) A (compareOp .Lt (.str z t) (.str z' t')) Q E s)
section
open PySem.SeqAt
open PySem.AutoSeq1 (wpAny_loadPart')
open PySem.MeetsSeq PySem.MeetsSeq2 PySem.MeetsSeq3
theorem JI(l b:Addr)(items items2:Array Value)(n n2:Nat)(dd dd2:Option Addr)(sl sl2:Array (Option Value))(ns ms:List Key)(hi:Vals (ns.map kOf) items.toList)(hj:Vals (ms.map kOf) items2.toList)(hsame:Bh ns ms=true) :
  Meets (Builtin.«tuple.__lt__» ⟨[.ref l,.ref b],[]⟩)
   (λ_ R s=>s.heap.get? l=some { cls:=.type "tuple",dict:=dd,data:=.seq items n,slots:=sl }/\s.heap.get? b=some { cls:=.type "tuple",dict:=dd2,data:=.seq items2 n2,slots:=sl2 } /\
    R (.ok (.ret (.bool (Gn ns ms)))) s) :=
 .of_wp λprog w A R s h=>by
  obtain⟨hp,g,d,tk,os⟩:=s; obtain⟨hl,hb,h⟩:=h
  have f2:=AutoSeq1.sub_tuple_tuple
  have z1:items.size=ns.length:=by have:=hi.length; rw [Db] at this; rw [this]; simp
  have z2:items2.size=ms.length:=by have:=hj.length; rw [Db] at this; rw [this]; simp
  wp_walk using bn hl,bn hb,wpAny_forIn_list _ (λrest b s'=>b.1=none/\s'=⟨hp,g,d,tk,os⟩/\∃(vs ws:List Value) (ns' ms':List Key),rest=vs.zip ws /\
   Vals (ns'.map kOf) vs/\Vals (ms'.map kOf) ws/\Bh ns' ms'=true/\ns'.length+items2.size=ms'.length+items.size/\R (.ok (.ret (.bool (Gn ns' ms')))) ⟨hp,g,d,tk,os⟩) _
  case turn =>
   rintro ⟨y,x⟩ rest b s' ⟨hb',rfl,vs,ws,ns',ms',hz,hvi,hwi,hsm,hlen,hR⟩
   cases ns' with
   | nil=>cases hvi; rw [List.zip_nil_left] at hz; cases hz
   | cons a ns' =>
    cases ms' with
    | nil=>cases hwi; rw [List.zip_nil_right] at hz; cases hz
    | cons c ms' =>
     rw [X6] at hvi hwi
     cases hvi with
     | cons ra hvi' =>
      cases hwi with
      | cons rc hwi' =>
       rw [a9] at hz
       injection hz with hyx hrest
       injection hyx with hy hx
       subst hy hx
       have hR':R (.ok (.ret (.bool (if a=c then Gn ns' ms' else Wf a c)))) ⟨hp,g,d,tk,os⟩:=hR
       have hsm':(Jl a c&&Bh ns' ms')=true:=hsm
       rw [YA] at hsm'
       simp only [X5] at hlen
       obtain⟨e,he,hiff⟩:=Q5 (A:=A.in1) (s:=⟨hp,g,d,tk,os⟩) ra rc
       refine Ch (he prog w _ _ ?_)
       cases e with
       | true =>
        rw [if_pos (hiff.mp rfl)] at hR'
        wp_walk
        exact⟨rfl,rfl,_,_,_,_,hrest,hvi',hwi',hsm'.2,by omega,hR'⟩
       | false =>
        rw [if_neg (λq=>absurd (hiff.mpr q) Uf)] at hR'
        have hri:=QL A.in1 ⟨hp,g,d,tk,os⟩ ra rc hsm'.1 prog w
        wp_walk using hri
        exact⟨_,rfl,by simpa using hR'⟩
  case fin =>
   rintro ⟨b1,b2⟩ s' ⟨hb',rfl,vs,ws,ns',ms',hz,hvi,hwi,hsm,hlen,hR⟩
   simp only at hb'
   subst hb'
   have hv:Gn ns' ms'=decide (items.size<items2.size):=by
    cases ns' with
    | nil =>
     cases ms' with
     | nil =>
      simp only [Yr] at hlen
      exact(decide_eq_false (by omega)).symm
     | cons c u =>
      simp only [Yr,X5] at hlen
      exact(decide_eq_true (by omega)).symm
    | cons a t =>
     cases ms' with
     | nil =>
      simp only [Yr,X5] at hlen
      exact(decide_eq_false (by omega)).symm
     | cons c u =>
      rw [X6] at hvi hwi
      cases hvi
      cases hwi
      rw [a9] at hz
      cases hz
   rw [hv] at hR
   wp_walk
   exact⟨_,rfl,by simpa [Builtin.Tuple.tupleCompareSizes] using hR⟩
  case h =>
   exact⟨rfl,rfl,items.toList,items2.toList,ns,ms,rfl,hi,hj,hsame,by omega,h⟩
end
section
variable {X:Cx}
noncomputable def Vs(K:Frag):R2:=λx y H Q=>∃a b ns ms,x=.ref a/\y=.ref b/\SqT K H a (ns.map kOf)/\SqT K H b (ms.map kOf)/\Bh ns ms=true/\Q (.bl (Gn ns ms)) H
theorem UW(hu:X.A.units<cLine):OpR X (compareOp .Lt) (Vs X.K):=by
 intro pins s σ H x y v u Q I rx ry h
 obtain⟨a,b,ns,ms,rfl,rfl,ha,hb,hsm,q⟩:=h
 cases rx
 cases ry
 obtain⟨its,r1,p1,_⟩:=I.tuple ha
 obtain⟨its2,r2,p2,_⟩:=I.tuple hb
 obtain⟨⟨cls,dd,data,sl⟩,ho,hc,n,hd⟩:=id p1
 obtain⟨⟨cls2,dd2,data2,sl2⟩,ho2,hc2,n2,hd2⟩:=id p2
 simp only at hc hd hc2 hd2
 subst hc hd hc2 hd2
 exact richCompare_meets_room (op:=.Lt) ⟨_,ho,rfl⟩ ⟨_,ho2,rfl⟩ PySem.F.slot_tuple_lt PySem.F.entry_tuple_lt (PySem.F.args_tuple_lt_2 _ _) (JI a b its.toArray its2.toArray n n2 dd dd2 sl sl2 ns ms r1 r2 hsm)
  ⟨ho,ho2,show ZY (Gn ns ms)≠Value.notImplemented/\EP X pins σ Q (.bool (Gn ns ms)) s from⟨(λx=>nomatch x),⟨.bl _,H,I,rfl,q⟩⟩⟩ hu
end
noncomputable def ItAt(κ:Bool)(h:Heap)(it l:Addr)(k:Nat):Prop:=match κ with
 | true=>h.IsListIter it l k
 | false=>h.IsTupleIter it l k
noncomputable def SqAt(κ:Bool)(h:Heap)(l:Addr)(items:Array Value):Prop:=match κ with
 | true=>h.IsList l items
 | false=>h.IsTuple l items
section
variable {κ:Bool}{h h':Heap}{it l b:Addr}{k:Nat}{items:Array Value}
theorem ItAt.mv(x:ItAt κ h it l k)(e:∀o,h.get? it=some o->h'.get? it=some o):ItAt κ h' it l k:=by
 cases κ with
 | true=>obtain⟨o,ho,r⟩:=x; exact⟨o,e o ho,r⟩
 | false=>obtain⟨o,ho,r⟩:=x; exact⟨o,e o ho,r⟩
theorem SqAt.mv(x:SqAt κ h l items)(e:∀o,h.get? l=some o->h'.get? l=some o):SqAt κ h' l items:=by
 cases κ with
 | true=>obtain⟨o,ho,r⟩:=x; exact⟨o,e o ho,r⟩
 | false=>obtain⟨o,ho,r⟩:=x; exact⟨o,e o ho,r⟩
theorem ItAt.eb(x:ItAt κ h it l k)(hs:b8 b h h')(n:it≠b):ItAt κ h' it l k:=x.mv λo e=>hs it o n e
theorem SqAt.eb(x:SqAt κ h l items)(hs:b8 b h h')(n:l≠b):SqAt κ h' l items:=x.mv λo e=>hs l o n e
theorem ItAt.lies(x:ItAt κ h it l k):∃o,h.get? it=some o/\∀v,o.data≠.cell v:=by
 cases κ with
 | true=>obtain⟨o,ho,_,d⟩:=x; exact⟨o,ho,λv z=>by rw [d] at z; cases z⟩
 | false=>obtain⟨o,ho,_,d⟩:=x; exact⟨o,ho,λv z=>by rw [d] at z; cases z⟩
theorem SqAt.lies(x:SqAt κ h l items):∃o,h.get? l=some o:=by
 cases κ with
 | true=>obtain⟨o,ho,_⟩:=x; exact⟨o,ho⟩
 | false=>obtain⟨o,ho,_⟩:=x; exact⟨o,ho⟩
end
section
variable {prog:Program}{w:World}{A:Around}{E:Value->Shared->Prop}{s:Shared}
theorem DQ{κ:Bool}{it l:Addr}{i:Nat}{items:Array Value}{x:Value}{Q:Value->Shared->Prop}(hit:ItAt κ s.heap it l i)(hl:SqAt κ s.heap l items)(hx:items[i]?=some x)
  (hQ:∀h',ItAt κ h' it l (i+1)->ZP it s.heap h'->Q x { s with heap:=h' }):wpAny (model prog w) A (YL (.ref it)) Q E s:=by
 cases κ with
 | true=>exact wpAny_nextOf_list_item hit hl hx hQ
 | false =>
  have hit':s.heap.IsTupleIter it l i:=hit
  have hl':s.heap.IsTuple l items:=hl
  obtain⟨o,ho,hc,hd⟩:=id hit'; obtain⟨ol,hol,_,nl,hdl⟩:=hl'
  unfold YL
  refine Ch (YT (name:=Y6 "__next__") hit'.typeIs ZV (Yk ZV hit'.typeIs a_ ?_ (ar _)))
  show wpAny (model prog w) _ (field (.ref it) 0 >>= _) _ _ s; refine Ch (YS ho hd (x:=.ref l) rfl ?_)
  show wpAny (model prog w) _ (if (YO l==YM)=true then _ else _) _ _ s; rw [if_neg (show ¬((YO l==YM)=true) from Uf)]
  show wpAny (model prog w) _ (field (.ref it) 1 >>= _) _ _ s; refine Ch (YS ho hd (x:=.int i 0) rfl ?_)
  show wpAny (model prog w) _ (seqItems? (.ref l) >>= _) _ _ s; refine Ch (Yu hol hdl ?_); simp only [Yg,hx]
  refine Ch (au ho hd (by simp) (Go ⟨x,rfl,Go (hQ _ (show Heap.IsTupleIter _ it l (i+1) from ?_) (Z5 ..))⟩))
  exact⟨_,aR _ ho (Obj.isFreed_of_fields (aC hd _)),(Obj.cls_mapFields ..).trans hc,by(rw [aC hd]; simp [rawInt])⟩
theorem Ir{κ:Bool}{it l:Addr}{i:Nat}{items:Array Value}{Q:Value->Shared->Prop}(hh:A.handled=none)(hit:ItAt κ s.heap it l i)(hl:SqAt κ s.heap l items)(hx:items[i]?=none)
  (hE:∀h' e,b8 it s.heap h'->(∃o,h'.get? e=some o/\o.cls=.type "StopIteration")->E (.ref e) { s with heap:=h' }):wpAny (model prog w) A (YL (.ref it)) Q E s:=by
 cases κ with
 | true=>exact wpAny_nextOf_list_end hh hit hl hx hE
 | false =>
  have hit':s.heap.IsTupleIter it l i:=hit
  have hl':s.heap.IsTuple l items:=hl
  obtain⟨o,ho,hc,hd⟩:=id hit'; obtain⟨ol,hol,_,nl,hdl⟩:=hl'
  unfold YL
  refine Ch (YT (name:=Y6 "__next__") hit'.typeIs ZV (Yk ZV hit'.typeIs a_ ?_ (ar _)))
  show wpAny (model prog w) _ (field (.ref it) 0 >>= _) _ _ s; refine Ch (YS ho hd (x:=.ref l) rfl ?_)
  show wpAny (model prog w) _ (if (YO l==YM)=true then _ else _) _ _ s; rw [if_neg (show ¬((YO l==YM)=true) from Uf)]
  show wpAny (model prog w) _ (field (.ref it) 1 >>= _) _ _ s; refine Ch (YS ho hd (x:=.int i 0) rfl ?_)
  show wpAny (model prog w) _ (seqItems? (.ref l) >>= _) _ _ s; refine Ch (Yu hol hdl ?_); simp only [Yg,hx]
  refine Ch (Zz (Ch (au ho hd (by simp) ?_))); show wpAny (model prog w) _ (newExc (.type "StopIteration") [] >>= _) _ _ _
  refine Ch ?_; simp only [newExc,newTuple]; refine Ch (YZ ?_ (by size_fits))
  refine Ch (m:=firstArgMember _ _) (wpAny_of_eq (a:=YM) (by first | rfl | (simp only [firstArgMember]; rfl)) ?_); refine YZ ?_ (by size_fits)
  simp only [raiseNew]; refine Ch (wpAny_handled ?_); first | rw [show A.in1.handled=none from hh] | rw [hh]
  refine Ch (Go (wpAny_throw ?_)); exact hE _ _ (((Z5 ..).extBut.push _).push _) ⟨_,UF _ rfl,rfl⟩
structure Rc (z TI TO i1 i2 l1 l2:Addr):Prop where
 TIz:TI≠z
 TOz:TO≠z
 i1z:i1≠z
 i2z:i2≠z
 TOi1:TO≠i1
 TOi2:TO≠i2
 i12:i1≠i2
 l1z:l1≠z
 l1TO:l1≠TO
 l1i1:l1≠i1
 l1i2:l1≠i2
 l2z:l2≠z
 l2TO:l2≠TO
 l2i1:l2≠i1
 l2i2:l2≠i2
theorem Pr{κ1 κ2:Bool}{z TI TO i1 i2 l1 l2:Addr}{k:Nat}{xs ys:Array Value}{x y a b:Value}{Q:Value->Shared->Prop}(D:Rc z TI TO i1 i2 l1 l2)
  (hz:IsZip s.heap z TI TO .none) (hTI:IsPair s.heap TI (.ref i1) (.ref i2)) (hTO:IsPair s.heap TO a b) (h1:ItAt κ1 s.heap i1 l1 k) (h2:ItAt κ2 s.heap i2 l2 k) (hl1:SqAt κ1 s.heap l1 xs) (hl2:SqAt κ2 s.heap l2 ys) (hx:xs[k]?=some x) (hy:ys[k]?=some y)
  (hQ:∀h',IsZip h' z TI TO (rawInt s.heap.objs.size)->IsPair h' TO x y->ItAt κ1 h' i1 l1 (k+1)->ItAt κ2 h' i2 l2 (k+1)->IsPair h' s.heap.objs.size x y->h'.objs.size=s.heap.objs.size+1->(∀c o,c≠z->c≠TO->c≠i1->c≠i2->s.heap.get? c=some o->h'.get? c=some o)->Q (.ref s.heap.objs.size) { s with heap:=h' }) :
  wpAny (model prog w) A (Builtin.«zip.__next__» ⟨[.ref z],[]⟩) (λfin s'=>∃v,fin=.done (.ret v)/\Q v s') E s:=by
 show wpAny (model prog w) A (field (.ref z) 2 >>= _) _ _ _; refine Ch (YS hz rfl (x:=.bool false) rfl ?_)
 show wpAny (model prog w) A (field (.ref z) 3 >>= _) _ _ _; refine Ch (YS hz rfl (x:=.ref TI) rfl ?_); refine Ch (Yu hTI rfl ?_)
 show wpAny (model prog w) A (YK (.ref z) >>= _) _ _ _; refine Ch ?_; unfold YK
 refine Ch (YS hz rfl (x:=.none) rfl (Go ?_)); simp only [if_true]; refine Ch (Zz ?_); refine Ch (YS hz rfl (x:=.ref TO) rfl ?_)
 refine Ch (Y9 hz (by simp) λha hza hsa=>?_)
 replace hza:IsZip ha z TI TO .ellipsis:=hza
 refine Ch ?_; simp only [List.zipIdx_cons,List.zipIdx_nil,ZT,av]
 refine Ch (Ch (bJ ?_)); show wpAny (model prog w) _ (YL (.ref i1) >>= _) _ _ _
 refine Ch (DQ (h1.eb hsa.extBut D.i1z) (hl1.eb hsa.extBut D.l1z) hx λhb h1b hsb=>Go ?_)
 have hTOb:IsPair hb TO a b:=hsb.extBut _ _ D.TOi1 (hsa.extBut _ _ D.TOz hTO)
 refine Ch (Yu hTOb rfl ?_); refine Ch (aZ hTOb λhc hTOc hsc=>?_)
 replace hTOc:IsPair hc TO x b:=hTOc
 refine Ch (wpAny_letGo (Go ?_)); refine Ch (Ch (bJ ?_)); show wpAny (model prog w) _ (YL (.ref i2) >>= _) _ _ _
 refine Ch (DQ (((h2.eb hsa.extBut D.i2z).eb hsb.extBut D.i12.symm).eb hsc.extBut D.TOi2.symm) (((hl2.eb hsa.extBut D.l2z).eb hsb.extBut D.l2i1).eb hsc.extBut D.l2TO) hy λhd h2d hsd=>Go ?_)
 have hTOd:IsPair hd TO x b:=hsd.extBut _ _ D.TOi2 hTOc
 refine Ch (Yu hTOd rfl ?_); refine Ch (aZ hTOd λhe hTOe hse=>?_)
 replace hTOe:IsPair he TO x y:=hTOe
 refine Ch (wpAny_letGo (Go (Go ?_))); refine Ch (Yu hTOe rfl ?_); refine Ch (wpAny_newTuple ?_)
 have hsz:he.objs.size=s.heap.objs.size:=by rw [hse.1,hsd.1,hsc.1,hsb.1,hsa.1]
 have hze:IsZip he z TI TO .ellipsis:=hse.extBut _ _ D.TOz.symm (hsd.extBut _ _ D.i2z.symm (hsc.extBut _ _ D.TOz.symm (hsb.extBut _ _ D.i1z.symm hza)))
 have hke:∀c o,c≠z->c≠TO->c≠i1->c≠i2->s.heap.get? c=some o->he.get? c=some o:=λc o c1 c2 c3 c4 e=>hse.extBut _ _ c2 (hsd.extBut _ _ c4 (hsc.extBut _ _ c2 (hsb.extBut _ _ c3 (hsa.extBut _ _ c1 e))))
 have h1e:ItAt κ1 he i1 l1 (k+1):=((h1b.eb hsc.extBut D.TOi1.symm).eb hsd.extBut D.i12).eb hse.extBut D.TOi1.symm
 have h2e:ItAt κ2 he i2 l2 (k+1):=h2d.eb hse.extBut D.TOi2.symm
 have hzlt:z<he.objs.size:=Tk hze
 show wpAny (model prog w) _ (aD (.ref z) (.ref he.objs.size) >>= _) _ _ _; refine Ch ?_; unfold aD
 have hzf:IsZip (he.push { cls:=.type "tuple",data:=.seq #[x,y] }) z TI TO .ellipsis:=Ev _ hze
 refine Ch (Y9 hzf (by simp) λhg hzg hsg=>?_)
 replace hzg:IsZip hg z TI TO (rawInt he.objs.size):=hzg
 refine Y9 hzg (by simp) λhi hzi hsi=>?_
 replace hzi:IsZip hi z TI TO (rawInt he.objs.size):=hzi
 have up:∀c o,c≠z->he.get? c=some o->hi.get? c=some o:=λc o c1 e=>hsi.extBut _ _ c1 (hsg.extBut _ _ c1 (Ev _ e))
 have hTi:IsPair hi he.objs.size x y:=hsi.extBut _ _ (aW hzlt) (hsg.extBut _ _ (aW hzlt) (UF _ rfl))
 have hzs:hi.objs.size=he.objs.size+1:=by rw [hsi.1,hsg.1,Zc]
 rw [hsz] at hzi hTi hzs
 refine Go ⟨_,rfl,?_⟩
 show Q (.ref he.objs.size) _; rw [hsz]
 exact hQ hi hzi (up _ _ D.TOz hTOe) (h1e.mv λo e=>up _ o D.i1z e) (h2e.mv λo e=>up _ o D.i2z e) hTi hzs λc o c1 c2 c3 c4 e=>up c o c1 (hke c o c1 c2 c3 c4 e)
theorem Ez{κ1 κ2:Bool}{z TI TO i1 i2 l1 l2:Addr}{k:Nat}{xs ys:Array Value}{a b:Value}{Q:Fin->Shared->Prop}(hh:A.handled=none)(D:Rc z TI TO i1 i2 l1 l2)
  (hz:IsZip s.heap z TI TO .none) (hTI:IsPair s.heap TI (.ref i1) (.ref i2)) (hTO:IsPair s.heap TO a b) (h1:ItAt κ1 s.heap i1 l1 k) (h2:ItAt κ2 s.heap i2 l2 k) (hl1:SqAt κ1 s.heap l1 xs) (hl2:SqAt κ2 s.heap l2 ys) (hend:xs[k]?=none\/ys[k]?=none)
  (hE:∀h' e,(∀c o,c≠z->c≠TO->c≠i1->c≠i2->s.heap.get? c=some o->h'.get? c=some o)->(∃o,h'.get? e=some o/\o.cls=.type "StopIteration")->E (.ref e) { s with heap:=h' }) :
  wpAny (model prog w) A (Builtin.«zip.__next__» ⟨[.ref z],[]⟩) Q E s:=by
 show wpAny (model prog w) A (field (.ref z) 2 >>= _) _ _ _; refine Ch (YS hz rfl (x:=.bool false) rfl ?_)
 show wpAny (model prog w) A (field (.ref z) 3 >>= _) _ _ _; refine Ch (YS hz rfl (x:=.ref TI) rfl ?_); refine Ch (Yu hTI rfl ?_)
 show wpAny (model prog w) A (YK (.ref z) >>= _) _ _ _; refine Ch ?_; unfold YK
 refine Ch (YS hz rfl (x:=.none) rfl (Go ?_)); simp only [if_true]; refine Ch (Zz ?_); refine Ch (YS hz rfl (x:=.ref TO) rfl ?_)
 refine Ch (Y9 hz (by simp) λha hza hsa=>?_)
 replace hza:IsZip ha z TI TO .ellipsis:=hza
 refine Ch ?_; simp only [List.zipIdx_cons,List.zipIdx_nil,ZT,av]
 refine Ch (Ch (bJ ?_)); show wpAny (model prog w) _ (YL (.ref i1) >>= _) _ _ _
 cases hx:xs[k]? with
 | none =>
  refine Ch (Ir hh (h1.eb hsa.extBut D.i1z) (hl1.eb hsa.extBut D.l1z) hx λhb e hsb he=>?_)
  obtain⟨oe,hoe,hce⟩:=he
  have hzb:IsZip hb z TI TO .ellipsis:=hsb _ _ D.i1z.symm hza
  have hez:e≠z:=λx=>by subst x; rw [hzb] at hoe; cases hoe; simp at hce
  exact Y9 hzb (by simp) λhc _ hsc=>hE hc e (λc o c1 _ c3 _ x=>hsc.extBut _ _ c1 (hsb _ _ c3 (hsa.extBut _ _ c1 x))) ⟨oe,hsc.extBut _ _ hez hoe,hce⟩
 | some x =>
  have hy:ys[k]?=none:=by
   rcases hend with h | h
   ·rw [hx] at h; cases h
   ·exact h
  refine Ch (DQ (h1.eb hsa.extBut D.i1z) (hl1.eb hsa.extBut D.l1z) hx λhb h1b hsb=>Go ?_)
  have hTOb:IsPair hb TO a b:=hsb.extBut _ _ D.TOi1 (hsa.extBut _ _ D.TOz hTO)
  refine Ch (Yu hTOb rfl ?_); refine Ch (aZ hTOb λhc hTOc hsc=>?_)
  refine Ch (wpAny_letGo (Go ?_)); refine Ch (Ch (bJ ?_)); show wpAny (model prog w) _ (YL (.ref i2) >>= _) _ _ _
  refine Ch (Ir hh (((h2.eb hsa.extBut D.i2z).eb hsb.extBut D.i12.symm).eb hsc.extBut D.TOi2.symm) (((hl2.eb hsa.extBut D.l2z).eb hsb.extBut D.l2i1).eb hsc.extBut D.l2TO) hy λhd e hsd he=>?_)
  obtain⟨oe,hoe,hce⟩:=he
  have hzd:IsZip hd z TI TO .ellipsis:=hsd _ _ D.i2z.symm (hsc.extBut _ _ D.TOz.symm (hsb.extBut _ _ D.i1z.symm hza))
  have hez:e≠z:=λx=>by subst x; rw [hzd] at hoe; cases hoe; simp at hce
  exact Y9 hzd (by simp) λhf _ hsf=>hE hf e (λc o c1 c2 c3 c4 x=>hsf.extBut _ _ c1 (hsd _ _ c4 (hsc.extBut _ _ c2 (hsb.extBut _ _ c3 (hsa.extBut _ _ c1 x))))) ⟨oe,hsf.extBut _ _ hez hoe,hce⟩
end
noncomputable def Uk(κ:Bool):String:=match κ with
 | true => "list_iterator"
 | false => "tuple_iterator"
noncomputable def Qp(κ:Bool)(l:Addr):Obj:={ cls:=.type (Uk κ),data:=.fields #[.ref l,.int 0 0] }
noncomputable abbrev zA(κ1:Bool)(h:Heap)(l1:Addr):Heap:=h.push (Qp κ1 l1)
noncomputable abbrev zB(κ1 κ2:Bool)(h:Heap)(l1 l2:Addr):Heap:=(zA κ1 h l1).push (Qp κ2 l2)
noncomputable abbrev zC(κ1 κ2:Bool)(h:Heap)(l1 l2:Addr):Heap:=(zB κ1 κ2 h l1 l2).push { cls:=.type "tuple",data:=.seq #[.ref h.objs.size,.ref (zA κ1 h l1).objs.size] }
noncomputable abbrev zD(κ1 κ2:Bool)(h:Heap)(l1 l2:Addr):Heap:=(zC κ1 κ2 h l1 l2).push { cls:=.type "tuple",data:=.seq #[.none,.none] }
noncomputable abbrev zE(κ1 κ2:Bool)(h:Heap)(l1 l2:Addr):Heap:=(zD κ1 κ2 h l1 l2).push { cls:=.type "zip",data:=.fields #[.none,.bool false,.bool false,.ref (zB κ1 κ2 h l1 l2).objs.size,.ref (zC κ1 κ2 h l1 l2).objs.size] }
theorem Sb(κ1 κ2:Bool)(l1 l2:Addr)(xs ys:Array Value):Meets (Builtin.«zip.__new__» ⟨[.type "zip",.ref l1,.ref l2],[]⟩)
  (λ_ R s=>SqAt κ1 s.heap l1 xs/\SqAt κ2 s.heap l2 ys/\R (.ok (.ret (.ref (zD κ1 κ2 s.heap l1 l2).objs.size))) { s with heap:=zE κ1 κ2 s.heap l1 l2 }) :=
 .of_wp λprog w A R s h=>by
  obtain⟨hp,g,d,tk,os⟩:=s; obtain⟨hl1,hl2,h⟩:=h
  have hsub:=sub_zip
  have hL2:SqAt κ2 (zA κ1 hp l1) l2 ys:=hl2.mv λo e=>Ev _ e
  cases κ1 with
  | true =>
   have g1:Heap.IsList (aL ⟨hp,g,d,tk,os⟩) l1 xs:=hl1
   cases κ2 with
   | true =>
    have g2:Heap.IsList (aL ⟨hp.push { cls:=.type "list_iterator",data:=.fields #[.ref l1,.int 0 0] },g,d,tk,os⟩) l2 ys:=hL2
    wp_walk using ZW g1,ZW g2
    exact⟨_,rfl,h⟩
   | false =>
    have g2:cQ (aL ⟨hp.push { cls:=.type "list_iterator",data:=.fields #[.ref l1,.int 0 0] },g,d,tk,os⟩) l2 ys:=hL2
    wp_walk using ZW g1,Zp g2
    exact⟨_,rfl,h⟩
  | false =>
   have g1:cQ (aL ⟨hp,g,d,tk,os⟩) l1 xs:=hl1
   cases κ2 with
   | true =>
    have g2:Heap.IsList (aL ⟨hp.push { cls:=.type "tuple_iterator",data:=.fields #[.ref l1,.int 0 0] },g,d,tk,os⟩) l2 ys:=hL2
    wp_walk using Zp g1,ZW g2
    exact⟨_,rfl,h⟩
   | false =>
    have g2:cQ (aL ⟨hp.push { cls:=.type "tuple_iterator",data:=.fields #[.ref l1,.int 0 0] },g,d,tk,os⟩) l2 ys:=hL2
    wp_walk using Zp g1,Zp g2
    exact⟨_,rfl,h⟩
theorem MB(κ:Bool)(h:Heap)(l:Addr):ItAt κ (h.push (Qp κ l)) h.objs.size l 0:=by
 cases κ with
 | true=>exact⟨_,UF _ rfl,rfl,rfl⟩
 | false=>exact⟨_,UF _ rfl,rfl,rfl⟩
section
variable {prog:Program}{w:World}{A:Around}{E:Value->Shared->Prop}{s:Shared}
theorem LH{κ1 κ2:Bool}{l1 l2:Addr}{xs ys:Array Value}{Q:Value->Shared->Prop}(hl1:SqAt κ1 s.heap l1 xs)(hl2:SqAt κ2 s.heap l2 ys)
  (h:∀h',IsZip h' (s.heap.objs.size+4) (s.heap.objs.size+2) (s.heap.objs.size+3) .none->IsPair h' (s.heap.objs.size+2) (.ref s.heap.objs.size) (.ref (s.heap.objs.size+1))->IsPair h' (s.heap.objs.size+3) .none .none ->
   ItAt κ1 h' s.heap.objs.size l1 0->ItAt κ2 h' (s.heap.objs.size+1) l2 0->(∀c o,s.heap.get? c=some o->h'.get? c=some o)->Q (.ref (s.heap.objs.size+4)) { s with heap:=h' }) :
  wpAny (model prog w) A (call (.type "zip") [.ref l1,.ref l2]) Q E s:=by
 refine callType_new F.called_zip (by decide) (F.typeCall_zip_2 _ _) (F.newCall_zip_2 _ _) (λobj=>F.args_object_init_3 obj _ _) F.entry_zip_new (Sb κ1 κ2 l1 l2 xs ys) ⟨hl1,hl2,?_⟩
 have z1:(zA κ1 s.heap l1).objs.size=s.heap.objs.size+1:=Zc ..
 have z2:(zB κ1 κ2 s.heap l1 l2).objs.size=s.heap.objs.size+2:=by rw [Zc,z1]
 have z3:(zC κ1 κ2 s.heap l1 l2).objs.size=s.heap.objs.size+3:=by rw [Zc,z2]
 have z4:(zD κ1 κ2 s.heap l1 l2).objs.size=s.heap.objs.size+4:=by rw [Zc,z3]
 have g5:(zE κ1 κ2 s.heap l1 l2).get? (zD κ1 κ2 s.heap l1 l2).objs.size=some _:=UF _ rfl
 have g4:(zE κ1 κ2 s.heap l1 l2).get? (zC κ1 κ2 s.heap l1 l2).objs.size=some _:=Ev _ (UF _ rfl)
 have g3:(zE κ1 κ2 s.heap l1 l2).get? (zB κ1 κ2 s.heap l1 l2).objs.size=some _:=Ev _ (Ev _ (UF _ rfl))
 have i2:ItAt κ2 (zE κ1 κ2 s.heap l1 l2) (zA κ1 s.heap l1).objs.size l2 0:=(MB κ2 (zA κ1 s.heap l1) l2).mv λo e=>Ev _ (Ev _ (Ev _ e))
 have i1:ItAt κ1 (zE κ1 κ2 s.heap l1 l2) s.heap.objs.size l1 0:=(MB κ1 s.heap l1).mv λo e=>Ev _ (Ev _ (Ev _ (Ev _ e)))
 rw [z4] at g5
 rw [z3] at g4
 rw [z2] at g3
 rw [z1] at i2
 have fin:=h (zE κ1 κ2 s.heap l1 l2) (by rw [IsZip,g5,z2,z3]) (by rw [IsPair,g3,z1]) g4 i1 i2 (λc o e=>Ev _ (Ev _ (Ev _ (Ev _ (Ev _ e)))))
 refine⟨⟨_,by rw [z4]; exact g5,rfl⟩,?_⟩
 rw [z4]
 exact fin
theorem JV{κ1 κ2:Bool}{z TI TO i1 i2 l1 l2:Addr}{k:Nat}{xs ys:Array Value}{x y a b:Value}{Q:Option Value->Shared->Prop}(D:Rc z TI TO i1 i2 l1 l2)
  (hz:IsZip s.heap z TI TO .none) (hTI:IsPair s.heap TI (.ref i1) (.ref i2)) (hTO:IsPair s.heap TO a b) (h1:ItAt κ1 s.heap i1 l1 k) (h2:ItAt κ2 s.heap i2 l2 k) (hl1:SqAt κ1 s.heap l1 xs) (hl2:SqAt κ2 s.heap l2 ys) (hx:xs[k]?=some x) (hy:ys[k]?=some y)
  (hQ:∀h',IsZip h' z TI TO (rawInt s.heap.objs.size)->IsPair h' TO x y->ItAt κ1 h' i1 l1 (k+1)->ItAt κ2 h' i2 l2 (k+1)->IsPair h' s.heap.objs.size x y->h'.objs.size=s.heap.objs.size+1->(∀c o,c≠z->c≠TO->c≠i1->c≠i2->s.heap.get? c=some o->h'.get? c=some o)->Q (some (.ref s.heap.objs.size)) { s with heap:=h' }) :
  wpAny (model prog w) A (pyNext (.ref z)) Q E s:=by
 have hT:s.TypeIs (.ref z) "zip":=⟨_,hz,rfl⟩
 unfold pyNext
 exact Ch (Z4 (YT (name:=Y6 "__next__") hT ZF (Yk ZF hT aN
  (Pr D hz hTI hTO h1 h2 hl1 hl2 hx hy λh' a1 a2 a3 a4 a5 a6 a7=>Go (hQ h' a1 a2 a3 a4 a5 a6 a7)) (aJ _))))
theorem Ky{κ1 κ2:Bool}{z TI TO i1 i2 l1 l2:Addr}{k:Nat}{xs ys:Array Value}{a b:Value}{Q:Option Value->Shared->Prop}(hh:A.handled=none)(D:Rc z TI TO i1 i2 l1 l2)
  (hz:IsZip s.heap z TI TO .none) (hTI:IsPair s.heap TI (.ref i1) (.ref i2)) (hTO:IsPair s.heap TO a b) (h1:ItAt κ1 s.heap i1 l1 k) (h2:ItAt κ2 s.heap i2 l2 k) (hl1:SqAt κ1 s.heap l1 xs) (hl2:SqAt κ2 s.heap l2 ys) (hend:xs[k]?=none\/ys[k]?=none)
  (hQ:∀h',(∀c o,c≠z->c≠TO->c≠i1->c≠i2->s.heap.get? c=some o->h'.get? c=some o)->Q none { s with heap:=h' }):wpAny (model prog w) A (pyNext (.ref z)) Q E s:=by
 have hT:s.TypeIs (.ref z) "zip":=⟨_,hz,rfl⟩
 unfold pyNext
 refine Ch (Z4 (YT (name:=Y6 "__next__") hT ZF (Yk ZF hT aN (Ez hh D hz hTI hTO h1 h2 hl1 hl2 hend λh' e hk he=>?_) (aJ _))))
 obtain⟨o,ho,hc⟩:=he
 exact Ch (bZ (T := "StopIteration") (b:=true) ⟨o,ho,hc⟩ isSubtype_stop (Go (hQ _ hk)))
end
section
variable {X:Cx}{pins:List (Addr×Obj)}{σ:L2.St}{H:Hp}{s:Shared}{h':Heap}
end
noncomputable def SqK(κ:Bool)(K:Frag)(H:Hp)(a:Addr)(xs:List V):Prop:=match κ with
 | true=>SqL K H a xs
 | false=>SqT K H a xs
theorem SqK.at{κ:Bool}{X:Cx}{pins:List (Addr×Obj)}{σ:L2.St}{H:Hp}{s:Shared}{a:Addr}{xs:List V}(I:Inv X pins σ H s)(h:SqK κ X.K H a xs):∃its:List Value,Vals xs its/\SqAt κ s.heap a its.toArray:=by
 cases κ with
 | true=>obtain⟨its,r,pl,_⟩:=I.list h; exact⟨its,r,pl.isList⟩
 | false=>obtain⟨its,r,p,_⟩:=I.tuple h; exact⟨its,r,p⟩
structure Xb (κ1 κ2:Bool) (z TI TO i1 i2 a b:Addr) (k:Nat) (h:Heap):Prop where
 z:IsZip h z TI TO .none
 ti:IsPair h TI (.ref i1) (.ref i2)
 to:∃a b,IsPair h TO a b
 i1:ItAt κ1 h i1 a k
 i2:ItAt κ2 h i2 b k
section
variable {X:Cx}
theorem T7(n a b:Nat)(h1:a<n)(h2:b<n):Rc (n+4) (n+2) (n+3) n (n+1) a b:=by
 constructor <;> (show (_:Nat)≠(_:Nat); omega)
end
end L2
namespace Dp
open PySem PySem.Spec PyProof.Rows L2
section
variable {K:Frag}
theorem Mj{U V' M:Addr->Prop}{H:Hp}{d:D}{v:V}{ds:List D}(h:AtT K V' M H d v)(e:Oh d=some ds)(uV:∀a,U a->V' a)(vM:∀a,V' a->M a):∃κ a vs,v=.ref a/\Ats K M H ds vs/\∀M' H',Pres M H M' H'->Ext U H H'->SqK κ K H' a vs:=by
 cases d with
 | lst xs =>
  cases e
  obtain⟨a,vs,e1,n1,hq,hs⟩:=h
  refine⟨true,a,vs,e1,hs,λM' H' _ ex=>?_⟩
  rcases hq with hq | ⟨o,hq⟩
  ·exact .inl (.inl (ex.keep hq λz=>n1 (uV a z)))
  ·exact .inl (.inr ⟨o,ex.keep hq λz=>n1 (uV a z)⟩)
 | tup xs =>
  cases e
  obtain⟨a,vs,e1,hq,hs⟩:=h
  exact⟨false,a,vs,e1,hs,λM' H' pr _=>(hq.pres pr).sq⟩
 | _=>cases e
end
section
variable {X:Cx}{e1 e2:Expr}{es:List Expr}{j:Nat}{tpos p pos:Pos}{ws:EK}
noncomputable def W7:D->Option Key
 | .int i=>some (.inl i)
 | .str x=>some (.inr x)
 | _=>none
noncomputable def Ic:List D->Option (List Key)
 | []=>some []
 | d::ds=>match W7 d,Ic ds with
  | some k,some ks=>some (k::ks)
  | _,_=>none
theorem F9{K:Frag}{M:Addr->Prop}{H:Hp}:∀{ds:List D} {vs:List V} {ks:List Key},Ic ds=some ks->Ats K M H ds vs->vs=ks.map kOf
 | [],vs,ks,e,h=>by cases e; exact h
 | d::ds,vs,ks,e,h=>by
  obtain⟨v,r,e1,h1,h2⟩:=h
  unfold Ic at e
  split at e
  ·rename_i k ks' hk hks
   cases e
   rw [e1,F9 hks h2,X6]
   congr 1
   cases d with
   | int i=>cases hk; exact h1
   | str x=>cases hk; exact h1.1
   | _=>cases hk
  ·cases e
noncomputable def Ss(d e:D)(P:D->Prop):Prop:=match d,e with
 | .int i,.int j=>P (.bl (decide (i<j)))
 | .str i,.str j=>P (.bl (decide (i.cps.toList<j.cps.toList)))
 | .tup xs,.tup ys=>∃ks ls,Ic xs=some ks/\Ic ys=some ls/\Bh ks ls=true/\P (.bl (Gn ks ls))
 | _,_=>False
noncomputable def Vt(K:Frag):R2:=λx y H Q=>UK x y H Q\/Vs K x y H Q
theorem M8{k:Nat}(hr:Room k X.A):OpR X (compareOp .Lt) (Vt X.K):=op_ltU.or (UW hr.units0)
theorem RY:Fj X.K .sh (Vt X.K) Ss:=λU M H d e x y P Q dom vM hx hy w q=>by
 unfold Ss at w
 split at w
 ·exact .inl (Tx (X:=X) U M H (.int _) (.int _) x y P Q dom vM hx hy w q)
 ·exact .inl (Tx (X:=X) U M H (.str _) (.str _) x y P Q dom vM hx hy w q)
 ·obtain⟨ks,ls,h1,h2,h3,w⟩:=w
  obtain⟨a,vs,rfl,ha,hs⟩:=hx.tup
  obtain⟨b,us,rfl,hb,ht⟩:=hy.tup
  have e1:=F9 h1 hs
  have e2:=F9 h2 ht
  subst e1 e2
  exact .inr ⟨a,b,ks,ls,rfl,rfl,ha.sq,hb.sq,h3,q _ H (.bl _) .refl rfl w⟩
 ·exact w.elim
end
end Dp
namespace L2
open PySem PySem.Spec PyProof.Rows
section
variable {prog:Program}{w:World}{A:Around}{E:Value->Shared->Prop}{s:Shared}
theorem LZ{t sl:Addr}{items:Array Value}{vl vu:Value}{lo hi:Option Int}{Q:Value->Shared->Prop}(ht:IsTup s.heap t items)(hs:s.heap.IsSliceOf sl vl vu .none)(pl:IsPart vl lo)(pu:IsPart vu hi)
  (hw:HT.sIx items.size 0 lo=0/\HT.sIx items.size items.size hi=items.size) (h:Q (.ref t) s):wpAny (model prog w) A (getItem (.ref t) (.ref sl)) Q E s:=by
 obtain⟨os,hos,hcs,hds⟩:=id hs
 have hTs:s.TypeIs (.ref sl) "slice":=⟨os,hos,hcs⟩
 unfold getItem
 (try with_reducible refine Yp ?_); (first | refine Ch (Go ?_) | skip)
 refine Ch (wpAny_sequenceKey ht.typeIs (by decide) (Ch (YT (name:=Y6 "__getitem__") ht.typeIs Ya (Yk Ya ht.typeIs entry_tuple_getitem ?_ (args_tuple_getitem _ _)))))
 show wpAny (model prog w) _ (bG (.ref t) >>= _) _ _ s
 refine Ch (tupleItemsOf_ ht (Ch (aB hTs ?_))); rw [if_pos (by decide)]
 refine Ch (HT.sliceApplied_gen hs pl pu ?_)
 have hyes:(((HT.sIx items.size 0 lo:Nat):Int)==0&&(1:Int)==1&&(HT.sIx items.size items.size hi - HT.sIx items.size 0 lo)==items.size)=true:=by rw [hw.1,hw.2]; simp
 show wpAny (model prog w) _ (if (((HT.sIx items.size 0 lo:Nat):Int)==0&&(1:Int)==1&&(HT.sIx items.size items.size hi - HT.sIx items.size 0 lo)==items.size)=true then _ else _) _ _ s
 rw [if_pos hyes]
 refine Ch (m:=bK _) ?_
 unfold bK
 refine Ch (aB ht.typeIs (Go ?_))
 show wpAny (model prog w) _ (if ((bR "tuple"==bR "tuple")=true) then _ else _) _ _ s
 rw [if_pos (by decide)]
 first
  | exact Ch (Zz (Ch (Go (Go ⟨_,rfl,Go h⟩))))
  | exact Ch (Zz (Go ⟨_,rfl,Go h⟩))
  | exact Ch (Ch (Zz (Go (Go ⟨_,rfl,Go h⟩))))
end
section
variable {X:Cx}{e st:Expr}{te tst:TE}{pos p2:Pos}
noncomputable def Ta(K:Frag):V->Option Int->Option Int->Hp->VK->Prop:=λx lo hi H Q=>∃a xs,x=.ref a/\SqT K H a xs/\(HT.sIx xs.length 0 lo=0/\HT.sIx xs.length xs.length hi=xs.length)/\Q (.ref a) H
theorem R0:SlR X (Ta X.K):=by
 intro pins s σ H x v vl vu lo hi sl Q I rx hs pl pu h
 obtain⟨a,xs,rfl,hx,hw,q⟩:=h
 cases rx
 obtain⟨its,r,ht,hz⟩:=I.tuple hx
 have hlen:its.toArray.size=xs.length:=by rw [TM]; exact r.length.symm
 exact⟨"tuple",_,Ya.lookup,ht.typeIs,LZ ht hs pl pu (by rw [hlen]; exact hw) ⟨.ref a,H,I,rfl,q⟩⟩
end
section
variable {X:Cx}
noncomputable def QS(K:Frag):R2:=λx y H Q=>∃a b ys,x=.ref a/\y=.ref b/\SqT K H a []/\SqT K H b ys/\Q (.ref b) H
theorem Qf:OpR X (binaryOp .Add) (QS X.K):=by
 intro pins s σ H x y v u Q I rx ry h
 obtain⟨a,b,ys,rfl,rfl,ha,hb,q⟩:=h
 cases rx
 cases ry
 obtain⟨its,r1,p1,_⟩:=I.tuple ha
 obtain⟨its2,r2,p2,_⟩:=I.tuple hb
 cases r1
 obtain⟨⟨cls,dd,data,sl⟩,ho,hc,n,hd⟩:=id p1
 obtain⟨⟨cls2,dd2,data2,sl2⟩,ho2,hc2,n2,hd2⟩:=id p2
 simp only at hc hd hc2 hd2
 subst hc hd hc2 hd2
 exact concat_meets ⟨_,ho,rfl⟩ ⟨_,ho2,rfl⟩ bW seq_tuple_add PySem.F.slot_tuple_add PySem.F.entry_tuple_add (PySem.F.args_tuple_add_2 _ _) (tuple_addW0 a b _ its2.toArray n n2 dd dd2 sl sl2 (by simp)) ⟨ho,ho2,⟨.ref b,H,I,rfl,q⟩⟩
noncomputable def bI(b:Bool):Int:=if b=true then 1 else 0
noncomputable def Wd(g:Int->Int->Int):R2:=λx y H Q=>∃k j,x=.bl k/\y=.int j/\Q (.int (g (bI k) j)) H
noncomputable def XX(g:Int->Int->Int):R2:=λx y H Q=>∃i k,x=.int i/\y=.bl k/\Q (.int (g i (bI k))) H
theorem op_add_bi:OpR X (binaryOp .Add) (Wd λi j=>i+j):=by
 intro pins s σ H x y v u Q I rx ry h
 obtain⟨k,j,rfl,rfl,q⟩:=h
 cases rx
 obtain⟨t,rfl⟩:=ry
 exact PySem.IntBool.add_bool_int ⟨.int _,H,I.tok _,⟨_,rfl⟩,q⟩
theorem op_sub_bi:OpR X (binaryOp .Sub) (Wd λi j=>i - j):=by
 intro pins s σ H x y v u Q I rx ry h
 obtain⟨k,j,rfl,rfl,q⟩:=h
 cases rx
 obtain⟨t,rfl⟩:=ry
 exact PySem.IntBool.sub_bool_int ⟨.int _,H,I.tok _,⟨_,rfl⟩,q⟩
theorem O1:OpR X (binaryOp .Sub) (XX λi j=>i - j):=by
 intro pins s σ H x y v u Q I rx ry h
 obtain⟨i,k,rfl,rfl,q⟩:=h
 obtain⟨t,rfl⟩:=rx
 cases ry
 exact PySem.IntBool.sub_int_bool ⟨.int _,H,I.tok _,⟨_,rfl⟩,q⟩
end
end L2
namespace Dp
open PySem PySem.Spec PyProof.Rows L2
section
variable {K:Frag}{X:Cx}
noncomputable def A7(d e:D)(P:D->Prop):Prop:=match d,e with
 | .int i,.int j=>P (.int (i+j))
 | .bl k,.int j=>P (.int (bI k+j))
 | .str i,.str j=>i.length+j.length<=sizeLine/\P (.str (i++j))
 | .tup i,.tup j=>i.length+j.length<=sizeLine/\P (.tup (i++j))
 | .lst i,.lst j=>i.length+j.length<=sizeLine/\P (.lst (i++j))
 | _,_=>False
noncomputable def Tg(K:Frag):R2:=λx y H Q=>QU K x y H Q\/(Wd λi j=>i+j) x y H Q\/QS K x y H Q
theorem Ae:OpR X (binaryOp .Add) (Tg X.K):=op_addU.or (op_add_bi.or Qf)
theorem Aq:Fj X.K .sh (Tg X.K) A7:=λU M H d e x y P Q dom vM hx hy w q=>by
 unfold A7 at w
 split at w
 ·exact .inl (LK (X:=X) U M H (.int _) (.int _) x y P Q dom vM hx hy w q)
 ·rename_i k j
  exact .inr (.inl ⟨k,j,hx,hy,q _ H (.int _) .refl rfl w⟩)
 ·exact .inl (LK (X:=X) U M H (.str _) (.str _) x y P Q dom vM hx hy w q)
 ·rename_i i j
  cases i with
  | nil =>
   obtain⟨a,vs,rfl,ha,hs⟩:=hx.tup
   obtain⟨b,us,rfl,hb,ht⟩:=hy.tup
   cases (show vs=[] from hs)
   exact .inr (.inr ⟨a,b,us,rfl,rfl,ha.sq,hb.sq,q _ H (.tup j) .refl ⟨b,us,rfl,hb,ht⟩ (by have:=w.2; rw [YQ] at this; exact this)⟩)
  | cons i0 i=>exact .inl (LK (X:=X) U M H (.tup (i0::i)) (.tup j) x y P Q dom vM hx hy ⟨(by intro z; cases z),w⟩ q)
 ·exact .inl (LK (X:=X) U M H (.lst _) (.lst _) x y P Q dom vM hx hy w q)
 ·exact w.elim
noncomputable def D8(d e:D)(P:D->Prop):Prop:=match d,e with
 | .int i,.int j=>P (.int (i - j))
 | .bl k,.int j=>P (.int (bI k - j))
 | .int i,.bl k=>P (.int (i - bI k))
 | _,_=>False
noncomputable def TY:R2:=λx y H Q=>(Gz λi j=>.int (i - j)) x y H Q\/(Wd λi j=>i - j) x y H Q\/(XX λi j=>i - j) x y H Q
theorem Bb:OpR X (binaryOp .Sub) TY:=op_sub.or (op_sub_bi.or O1)
theorem Bz:Fj K .sh TY D8:=λU M H d e x y P Q dom vM hx hy w q=>by
 unfold D8 at w
 split at w
 ·exact .inl (Ra (K:=K) (g:=λi j=>i - j) U M H (.int _) (.int _) x y P Q dom vM hx hy w q)
 ·rename_i k j
  exact .inr (.inl ⟨k,j,hx,hy,q _ H (.int _) .refl rfl w⟩)
 ·rename_i i k
  exact .inr (.inr ⟨i,k,hx,hy,q _ H (.int _) .refl rfl w⟩)
 ·exact w.elim
noncomputable def PU(d:D)(lo hi:Option Int)(P:D->Prop):Prop:=match d with
 | .str z=>P (.str (Txt.slice z lo hi))
 | .lst xs=>P (.lst (cutD xs lo hi))
 | .tup xs=>P (.tup (cutD xs lo hi))
 | _=>False
noncomputable def Vq(K:Frag):V->Option Int->Option Int->Hp->VK->Prop:=λx lo hi H Q=>Vn x lo hi H Q\/Vp K x lo hi H Q\/Vo K x lo hi H Q\/Ta K x lo hi H Q
theorem Og:SlR X (Vq X.K):=sl_U.or (sl_list.or (sl_tup.or R0))
theorem OJ{M:Addr->Prop}{H:Hp}{ds:List D}{vs:List V}(lo hi:Option Int)(h:Ats K M H ds vs):Ats K M H (cutD ds lo hi) (JZ vs lo hi):=by
 unfold cutD JZ
 rw [h.length]
 exact(h.drop _).take _
theorem J_:Xc K .sh (Vq K) PU:=by
 intro U M H d x lo hi P Q dom vM hx w q
 unfold PU at w
 split at w
 ·rename_i z
  exact .inl ⟨z,hx.str.1,hx.str.2,q _ H (.str (Txt.slice z lo hi)) .refl ⟨rfl,YH (Txt.slice_le z lo hi) hx.str.2⟩ w⟩
 ·rename_i xs
  obtain⟨a,vs,rfl,_,ha,hs⟩:=hx
  exact .inr (.inl ⟨a,vs,rfl,.inl ha,λp hp=>q _ _ (.lst _) (A5 hp) ((Cb (U:=U) hp (OJ lo hi hs)).shOf dom (by intro z; cases z)) w⟩)
 ·rename_i xs
  obtain⟨a,vs,rfl,ha,hs⟩:=hx.tup
  by_cases hw:HT.sIx vs.length 0 lo=0/\HT.sIx vs.length vs.length hi=vs.length
  ·refine .inr (.inr (.inr ⟨a,vs,rfl,ha.sq,hw,?_⟩))
   have e:cutD xs lo hi=xs:=by
    unfold cutD
    rw [← hs.length,hw.1,hw.2,aq,aY,hs.length,List.take_length]
   rw [e] at w
   exact q _ H (.tup xs) .refl ⟨a,vs,rfl,ha,hs⟩ w
  ·exact .inr (.inr (.inl ⟨a,vs,rfl,ha.sq,hw,λp hp=>q _ _ (.tup _) (A5 hp) (Ik dom hp (OJ lo hi hs)) w⟩))
 ·exact w.elim
end
end Dp
namespace Nt
open PySem PySem.Spec PyProof.Rows L2 Dp
noncomputable def Bm:W2:=λss n P=>∃m:Int,ss=[.fd,.sh (.int m)]/\1<=m/\m<1073741824/\1<=n/\∀r:Int,0<=r->r<m->P (.int r) (n - 1)
noncomputable def cs(x:Str):List Nat:=x.cps.toList
theorem U5{x y:Str}(h:cs x=cs y):x=y:=by
 obtain⟨a⟩:=x
 obtain⟨b⟩:=y
 unfold cs at h
 exact congrArg Str.mk (Array.ext' h)
noncomputable def Sg(x:Str):Prop:=1<=x.length/\x.length<=8/\∀c∈cs x,97<=c/\c<=122
noncomputable def rising(xs:List Str):Prop:=xs.Pairwise λx y=>cs x<cs y
theorem Qi(a b:List Nat):ltCps a b=decide (a<b):=ltCps_eq a b
theorem G2:∀(l:List Str) (p:Str),risingS p l=true->(p::l).Pairwise λa b=>¬cs b<cs a
 | [],p,_=>bg _ _
 | x::r,p,h=>by
  have h':(!ltCps x.cps.toList p.cps.toList&&risingS x r)=true:=h
  rw [YA,Bool.not_eq_true',Qi,decide_eq_false_iff_not] at h'
  have ih:=G2 r x h'.2
  refine Yi.mpr ⟨λy hy=>?_,ih⟩
  rcases X_.mp hy with rfl | hy
  ·exact h'.1
  ·have h2:=(Yi.mp ih).1 y hy
   exact List.le_trans (l₁:=cs p) (l₂:=cs x) (l₃:=cs y) h'.1 h2
theorem JJ{l:List Str}(h:sortedS l=true)(nd:l.Nodup):rising l:=by
 have hp:l.Pairwise λa b=>¬cs b<cs a:=by
  cases l with
  | nil=>exact Zu
  | cons x r=>exact G2 r x h
 refine(hp.and nd).imp λ{a b} ⟨h1,h2⟩=>?_
 exact Classical.byContradiction λh3=>h2 (U5 (List.le_antisymm (as:=cs a) (bs:=cs b) h1 h3))
theorem DH(lo:Int)(n:Nat):(DJ lo n).length=n:=by unfold DJ; rw [Db,Yo]
theorem Lg{lo:Int}{n:Nat}{d:D}(h:d∈DJ lo n):∃k:Nat,k<n/\d=.int (lo+k):=by
 unfold DJ at h
 obtain⟨k,hk,rfl⟩:=XV.mp h
 exact⟨k,Yt.mp hk,rfl⟩
end Nt
namespace Dp
open PySem PySem.Spec PyProof.Rows L2
section
variable {X:Cx}
theorem Pa{k:Nat}{ps:List Str}{κ:Kd}{W:W2}{x:Str}{p pos:Pos}(G:Got X.prog X.w X.K X.mg X.base x k ps κ W)
  (hr:Room k X.A) (hg:Gl X x) (hdb:autoParam ((x==("__debug__" : Str))=false) zau1._auto_1):DE X (.Call (.Name x p) [] [] pos) κ (Ai W Al):=by
 obtain⟨f,fd,G,hm,hk,hb,hW⟩:=G
 refine⟨_,Qd G hr hg hm hk hb .nil Ny hdb,λC M H n ρ σ P Q R w q=>?_⟩
 show DF X.K κ W ps.length ([]++[]) H Q E0
 rw [Yv]
 refine⟨hW _ _ _ w,C.F,C.U,C.V,M,n,[],P,⟨R.dom,R.fU,R.uV,R.vM,R.feed,.nil⟩,w,λv H2 d n2 e2 f2 r2 p2=>?_⟩
 exact q v H2 d n2 e2 f2 r2 p2
end
end Dp
namespace K61
open PySem PySem.Spec PyProof.Rows L2 Dp Nt
noncomputable def top(i:Nat):Stmt:=PySem.Challenge.pw_thinnet_k61_cases_shown.main.body.getD i (.Pass ⟨0,0,0,0⟩)
noncomputable abbrev FU:Stmt:=top 1
noncomputable abbrev Cw:Stmt:=top 2
noncomputable abbrev Mn:Stmt:=top 3
noncomputable abbrev ET:Stmt:=top 4
noncomputable abbrev Ge:Stmt:=top 5
noncomputable abbrev Dh:Stmt:=top 7
noncomputable abbrev ER:Stmt:=top 8
noncomputable abbrev Gg:Stmt:=top 9
noncomputable abbrev ES:Stmt:=top 11
noncomputable abbrev CV:Stmt:=top 13
noncomputable abbrev EQ:Stmt:=top 17
noncomputable abbrev FT:Stmt:=top 18
noncomputable abbrev FV:Stmt:=top 19
noncomputable abbrev Kc:Stmt:=top 20
noncomputable abbrev EW:Stmt:=top 22
noncomputable abbrev Cm:Stmt:=top 23
noncomputable abbrev Dl:Stmt:=top 24
noncomputable abbrev Cz:Stmt:=top 25
noncomputable abbrev C0:Stmt:=top 26
noncomputable abbrev EU:Stmt:=top 27
noncomputable abbrev FW:Stmt:=top 28
noncomputable abbrev Di:Stmt:=top 29
noncomputable abbrev FX:Stmt:=top 30
noncomputable abbrev Do:Stmt:=top 31
noncomputable abbrev CW:Stmt:=top 32
noncomputable abbrev Dn:Stmt:=top 33
noncomputable abbrev C1:Stmt:=top 34
noncomputable abbrev C2:Stmt:=top 35
noncomputable abbrev Dk:Stmt:=top 36
noncomputable abbrev Bv:Stmt:=top 37
noncomputable abbrev Cy:Stmt:=top 38
noncomputable abbrev B6:Stmt:=top 39
noncomputable abbrev EV:Stmt:=top 40
noncomputable abbrev EX:Stmt:=top 41
noncomputable abbrev H_:Stmt:=top 42
structure Txt (K:Frag) (mg:Str->Option Value):Prop where
 n_abs:mg "abs"=none
 n_all:mg "all"=none
 n_bool:mg "bool"=none
 n_dict:mg "dict"=none
 n_int:mg "int"=none
 n_isinstance:mg "isinstance"=none
 n_len:mg "len"=none
 n_list:mg "list"=none
 n_max:mg "max"=none
 n_min:mg "min"=none
 n_range:mg "range"=none
 n_repr:mg "repr"=none
 n_sorted:mg "sorted"=none
 n_tuple:mg "tuple"=none
 n_zip:mg "zip"=none
 g_MOST_DEEP:∃t,mg "MOST_DEEP"=some (.int 15 t)
 g_MOST_CASES:∃t,mg "MOST_CASES"=some (.int 4000 t)
section
variable {P:Program}{w:World}{K:Frag}{mg:Str->Option Value}{base:Heap}
theorem sc__law_next:Ak ["_law_feed_here","_law_many","_law_digit","_law_at","_law_cell","_law_first"] ["_law_feed_here","_law_many"] (AS Cm):=⟨rfl,rfl,rfl,by decide +kernel,rfl,by decide +kernel,by decide +kernel⟩
theorem SY{f:Addr}{fd:FuncData}(F:Fun K "_law_next" "_law_next" Cm f fd)(ml:mg "len"=none):BA P w K mg base B8 1 f fd ["_law_feed_here","_law_many"] (DF K .sh Bm 2):=by
 refine F.ok sc__law_next (λvs H Q E h=>h.1) (λcdv A outer s H vs Q E hr h=>?_)
 obtain⟨hl,F0,U,V',M,n,ss,Pd,ra,⟨m,rfl,hm1,hm2,hn,hP⟩,q⟩:=h
 obtain⟨dom,fU,uV,vM,fd0,pa⟩:=ra
 cases pa with
 | cons r1 pa =>
 cases pa with
 | cons r2 pa =>
 cases pa
 obtain⟨⟨f0,c,tg⟩,e0,hF,ht⟩:=r1.1
 cases (show tg=none from ht)
 cases e0
 obtain⟨v2,e2,h2⟩:=r2.1
 cases e2
 cases (show _=V.int m from h2)
 obtain⟨_,a,r,cells,hf,hcf,hc,hcl,ha0,han⟩:=(fd0 ⟨f0,c,none⟩ hF).resolve_right fun⟨_,_,_,z,_⟩=>by cases z
 have fin:∀(a' r' z:Int) (H':Hp),(∀b o,H b=some o->b≠f0->H' b=some o)->H' f0=some (.lst [.ref c,.int a',.int r'])->0<=a'->a'<=a+1->0<=z->z<m->Q (.int z) H':=by
  intro a' r' z H' hk hf' h0 h1 hz0 hz1
  refine q (.int z) H' (.int z) (n - 1) (λb o e=>?_) (λg hg=>?_) rfl (hP z hz0 hz1)
  ·by_cases hb:b=f0
   ·subst hb
    exact⟨_,hf',λnu=>absurd (fU ⟨b,c,none⟩ hF) nu,λvs z=>by rw [z,hf] at e; cases e⟩
   ·exact⟨o,hk b o e hb,λ_=>rfl,λ_ _=>rfl⟩
  ·have:g=⟨f0,c,none⟩:=TW (hg.symm.trans hF)
   subst this
   exact .inl ⟨rfl,a',r',cells,hf',hcf,⟨hc.1,hk c _ hc.2 hcf⟩,hcl,h0,by omega⟩
 have hu:(A.deeper (envOfC "_law_next" (AS Cm) s.heap.objs.size f cdv)).units<cLine:=hr.units0
 have hsq:∀{H':Hp} {xs:List V},H' f0=some (.lst xs)->SqL K H' f0 xs:=λh=>SqL.of h
 have ed:∀z:Int,0<=z % m/\z % m<m:=λz=>⟨bo _ (by omega),bA _ (by omega)⟩
 refine⟨_,A3 (Lp (CD Tl (BP ix_list (pv 0) Av (λ_ _=>rfl)) Av (AX _))
   (A3 (Dq (i:=2) sc__law_next.nd rfl (T0 rfl) (BS C6 (BP ix_list (pv 0) Av (λ_ _=>rfl)) (pv 1)))
   (A3 (FZ (BS Fz (BP ix_list (pv 0) Av (λ_ _=>rfl)) (pv 1)) (Fa (pv 0) Av set_list))
   (Ba (Gh (pv 2))))) Fw)
  (A3 (Dq (i:=3) sc__law_next.nd rfl (T0 rfl) (BP ix_list (pv 0) Av (λ_ _=>rfl)))
  (A3 (FZ (BS op_add (pv 3) Av) (Fa (pv 0) Av set_list))
  (A3 (Dq (i:=4) sc__law_next.nd rfl (T0 rfl) (Ls (CD (O2 hu) (BP ix_list (pv 0) Av (λ_ _=>rfl)) (Gj BC) (AX _))
   (BP ix_list (BP ix_list (pv 0) Av (λ_ _=>rfl)) (BS C6 (pv 3) (Ea Ap rfl ml PySem.boot_len (Au (BP ix_list (pv 0) Av (λ_ _=>rfl)) BC))) (λ_ _=>rfl)) Av))
  (A3 (Lp (PW.pt (Mv (CD To (pv 4) (BS M6 Av Av) (AX _)) (Kk (CD op_lt (pv 3) (Ea Ap rfl ml PySem.boot_len (Au (BP ix_list (pv 0) Av (λ_ _=>rfl)) BC)) (AX _)))))
   (A3 (FZ (BS Fz (pv 4) (pv 1)) (Fa (pv 0) Av set_list))
   (Ba (Gh (BS C6 (pv 4) (pv 1))))) Fw)
  (A3 (Dq (i:=5) sc__law_next.nd rfl (T0 rfl) (BS C6 (BS op_mul (BS op_add (BS op_add (BS op_add (BS C6 (pv 4) Av) (BS op_mul (BS op_mul Av (pv 3)) (pv 3))) (BS op_mul Av (pv 3))) Av) Av) Av))
  (Ba (Gh (BS C6 (BS Fz (BS C6 (BS op_mul (BS op_add (pv 5) (BS op_mul Av (pv 3))) Av) Av) Av) (pv 1))))))))),?_⟩
 refine⟨_,rfl,f0,_,2,_,rfl,rfl,hsq hf,rfl,_,_,rfl,rfl,_,rfl,?_⟩
 refine EH (λc1=>?_) (λc1=>?_)
 ·refine⟨_,rfl,f0,_,2,_,rfl,rfl,hsq hf,rfl,_,rfl,_,_,rfl,rfl,(by show (0:Int)<m; omega),?_⟩
  refine⟨_,rfl,f0,_,2,_,rfl,rfl,hsq hf,rfl,_,rfl,_,_,rfl,rfl,⟨(by show (0:Int)<m; omega),hm2⟩,_,rfl,f0,_,2,2,rfl,rfl,hf,rfl,?_⟩
  refine⟨_,rfl,?_⟩
  exact fin a _ _ _ (λb o e hb=>by rw [AT hb]; exact e) AY ha0 (by omega) (ed _).1 (ed _).2
 ·-- at=feed[1]; feed[1]=at+1
  refine⟨_,rfl,f0,_,1,_,rfl,rfl,hsq hf,rfl,?_⟩
  refine⟨_,rfl,_,_,rfl,rfl,_,rfl,f0,_,1,1,rfl,rfl,hf,rfl,?_⟩
  generalize hH1:BB H f0 (.lst ([V.ref c,V.int a,V.int r].set 1 (V.int (a+1))))=H1
  have f1:H1 f0=some (.lst [.ref c,.int (a+1),.int r]):=by rw [← hH1]; exact AY
  have k1:∀b o,H b=some o->b≠f0->H1 b=some o:=λb o e hb=>by rw [← hH1,AT hb]; exact e
  have c1':H1 c=some (.lst (cells.map V.int)):=k1 c _ hc.2 hcf
  have rest:∀(z:Int) (H2:Hp),(∀b o,H1 b=some o->H2 b=some o) ->
    (Me (Vd (Vj (QB (Cj (Gz λi j=>V.bl (decide (j<=i))) (BG 4) (Cj (rI Ro λi j=>V.int (i ^ j.toNat)) (tC (V.int 10)) (tC (V.int 18))))) (QB (Cj (Gz λi j=>V.bl (decide (i<j))) (BG 3) (Wc (λxs H Q=>∃x n,xs=[x]/\VJ K x H n/\Q (V.int n) H) (Lb (Cj (Ou K) (BG 0) (tC (V.int 0))) Oe))))) (Me (Lc (Cj (rI Pm λi j=>V.int (i / j)) (BG 4) (BG 1)) (Uo (BG 0) (tC (V.int 2)) QR)) (Rv (Cj (rI (λ_ j=>0<j) λi j=>V.int (i % j)) (BG 4) (BG 1)))) TV) (Me (Lc (Cj (rI (λ_ j=>0<j) λi j=>V.int (i % j)) (Cj (rI CMul λi j=>V.int (i*j)) (Cj (Gz λi j=>V.int (i+j)) (Cj (Gz λi j=>V.int (i+j)) (Cj (Gz λi j=>V.int (i+j)) (Cj (rI (λ_ j=>0<j) λi j=>V.int (i % j)) (BG 4) (tC (V.int 1000003))) (Cj (rI CMul λi j=>V.int (i*j)) (Cj (rI CMul λi j=>V.int (i*j)) (tC (V.int 41)) (BG 3)) (BG 3))) (Cj (rI CMul λi j=>V.int (i*j)) (tC (V.int 17)) (BG 3))) (tC (V.int 3))) (tC (V.int 51749))) (tC (V.int 999917))) (G3 5)) (Rv (Cj (rI (λ_ j=>0<j) λi j=>V.int (i % j)) (Cj (rI Pm λi j=>V.int (i / j)) (Cj (rI (λ_ j=>0<j) λi j=>V.int (i % j)) (Cj (rI CMul λi j=>V.int (i*j)) (Cj (Gz λi j=>V.int (i+j)) (BG 5) (Cj (rI CMul λi j=>V.int (i*j)) (tC (V.int 8111)) (BG 3))) (tC (V.int 39373))) (tC (V.int 2097143))) (tC (V.int 3))) (BG 1)))))
     { nx:=λ_ H'=>Q .non H',rt:=Q } [some (.ref f0),some (.int m),none,some (.int a),some (.int z),none] H2:=by
   intro z H2 k2
   have f2:=k2 _ _ f1
   have c2:=k2 _ _ c1'
   have lastWay:∀H3:Hp,H3=H2->(Me (Lc (Cj (rI (λ_ j=>0<j) λi j=>V.int (i % j)) (Cj (rI CMul λi j=>V.int (i*j)) (Cj (Gz λi j=>V.int (i+j)) (Cj (Gz λi j=>V.int (i+j)) (Cj (Gz λi j=>V.int (i+j)) (Cj (rI (λ_ j=>0<j) λi j=>V.int (i % j)) (BG 4) (tC (V.int 1000003))) (Cj (rI CMul λi j=>V.int (i*j)) (Cj (rI CMul λi j=>V.int (i*j)) (tC (V.int 41)) (BG 3)) (BG 3))) (Cj (rI CMul λi j=>V.int (i*j)) (tC (V.int 17)) (BG 3))) (tC (V.int 3))) (tC (V.int 51749))) (tC (V.int 999917))) (G3 5)) (Rv (Cj (rI (λ_ j=>0<j) λi j=>V.int (i % j)) (Cj (rI Pm λi j=>V.int (i / j)) (Cj (rI (λ_ j=>0<j) λi j=>V.int (i % j)) (Cj (rI CMul λi j=>V.int (i*j)) (Cj (Gz λi j=>V.int (i+j)) (BG 5) (Cj (rI CMul λi j=>V.int (i*j)) (tC (V.int 8111)) (BG 3))) (tC (V.int 39373))) (tC (V.int 2097143))) (tC (V.int 3))) (BG 1))))
     { nx:=λ_ H'=>Q .non H',rt:=Q } [some (.ref f0),some (.int m),none,some (.int a),some (.int z),none] H3:=by
    intro H3 e3
    subst e3
    have hb:CMul (41*a) a:=.inr ⟨by omega,by omega⟩
    refine⟨_,rfl,_,_,rfl,rfl,(by show (0:Int)<1000003; decide),_,rfl,_,_,rfl,rfl,.inl ⟨by decide,by decide⟩,_,rfl,_,_,rfl,rfl,hb,_,_,rfl,rfl,_,rfl,_,_,rfl,rfl,.inl ⟨by decide,by decide⟩,_,_,rfl,rfl,_,_,rfl,rfl,_,_,rfl,rfl,.inr ⟨by decide,by decide⟩,_,_,rfl,rfl,(by show (0:Int)<999917; decide),?_⟩
    refine⟨_,rfl,_,rfl,_,_,rfl,rfl,.inl ⟨by decide,by decide⟩,_,_,rfl,rfl,_,_,rfl,rfl,.inr ⟨by decide,by decide⟩,_,_,rfl,rfl,(by show (0:Int)<2097143; decide),_,_,rfl,rfl,⟨by decide,by decide⟩,_,rfl,_,_,rfl,rfl,(by show (0:Int)<m; omega),?_⟩
    exact fin (a+1) r _ _ (λb o e hb=>k2 b o (k1 b o e hb)) f2 (by omega) (by omega) (ed _).1 (ed _).2
   refine⟨_,rfl,_,_,rfl,rfl,⟨by decide,by decide,by decide⟩,_,_,rfl,rfl,_,rfl,?_⟩
   refine EH (λc3=>?_) (λc3=>?_)
   ·refine⟨_,rfl,_,rfl,f0,_,0,_,rfl,rfl,hsq f2,rfl,_,_,rfl,.inl ⟨_,SqL.of c2,rfl⟩,_,_,rfl,rfl,_,rfl,?_⟩
    refine EH (λc4=>?_) (λc4=>lastWay H2 rfl)
    refine⟨_,rfl,_,rfl,_,_,rfl,rfl,⟨(by show (0:Int)<m; omega),hm2⟩,_,rfl,f0,_,2,2,rfl,rfl,f2,rfl,?_⟩
    refine⟨_,rfl,_,rfl,_,_,rfl,rfl,(by show (0:Int)<m; omega),?_⟩
    exact fin (a+1) _ _ _ (λb o e hb=>by rw [AT hb]; exact k2 b o (k1 b o e hb)) AY (by omega) (by omega) (ed _).1 (ed _).2
   ·refine EH (λc4=>absurd c4 (by simp)) (λ_=>lastWay H2 rfl)
  refine⟨_,rfl,f0,_,0,_,rfl,rfl,hsq f1,rfl,(by show 0<=sizeLine; decide),λp hp=>?_⟩
  have kp:∀b o,H1 b=some o->BB H1 p (.lst []) b=some o:=λb o e=>by rw [AT (A1 e hp)]; exact e
  refine⟨c,p,_,rfl,rfl,SqL.of (kp _ _ c1'),SqL.of AY,_,rfl,?_⟩
  cases cells with
  | nil=>exact Be (rest 0 _ kp)
  | cons z0 cs =>
   refine Dx ?_
   have hlen:(((z0::cs).map V.int).length:Int)=(cs.length:Int)+1:=by simp
   have hpos:(0:Int)<(((z0::cs).map V.int).length:Int):=by omega
   obtain⟨z,hz⟩:∃z,atI ((z0::cs).map V.int) (a % (((z0::cs).map V.int).length:Int))=some (.int z):=by
    have h1:=bo a (show (((z0::cs).map V.int).length:Int)≠0 by omega)
    have h2:=bA a hpos
    generalize a % (((z0::cs).map V.int).length:Int)=j at h1 h2
    obtain⟨k,rfl⟩:∃k:Nat,j=(k:Int):=⟨j.toNat,by omega⟩
    have hk:k<(z0::cs).length:=by rw [Db] at h2; omega
    refine⟨(z0::cs)[k],AO ?_⟩
    rw [On,FM hk]
    rfl
   refine⟨_,rfl,f0,_,0,_,rfl,rfl,hsq (kp _ _ f1),rfl,_,rfl,_,rfl,f0,_,0,_,rfl,rfl,hsq (kp _ _ f1),rfl,_,_,rfl,.inl ⟨_,SqL.of (kp _ _ c1'),rfl⟩,_,_,rfl,rfl,hpos,c,_,_,_,rfl,rfl,SqL.of (kp _ _ c1'),hz,?_⟩
   exact rest z _ kp
end
end K61
namespace Nt
open PySem PySem.Spec PyProof.Rows L2 Dp
theorem Jo{α β:Type}{f:α->β}:∀{l:List α},l.Nodup->(∀a∈l,∀b∈l,f a=f b->a=b)->(l.map f).Nodup
 | [],_,_=>Yz
 | a::l,h,hf=>by
  rw [YX] at h
  rw [X6,YX]
  refine⟨λhm=>?_,Jo h.2 λx hx y hy=>hf x (Sc _ hx) y (Sc _ hy)⟩
  obtain⟨b,hb,e⟩:=XV.mp hm
  exact h.1 (hf a Op b (Sc _ hb) e.symm▸hb)
theorem RS(ss:List Str):CJ (ss.map .str)=some ss:=by
 induction ss with
 | nil=>rfl
 | cons y r ih =>
  rw [X6]
  unfold CJ
  rw [ih]
  rfl
theorem CN{b:BW}{body:Af}{D2:E2}{all:List D}(I:List D->Nat->List Slot->Prop)(hend:∀n ρ,I all n ρ->D2.nx n ρ)
  (hstep:∀(pre:List D) (d:D) (post:List D) (n:Nat) (ρ:List Slot) (nx:Nat->List Slot->Prop),all=pre++d::post->I pre n ρ->(∀n' ρ',I (pre++[d]) n' ρ'->nx n' ρ')->b d ρ λρ1=>body { D2 with nx:=nx,ct:=nx,bk:=D2.nx } n ρ1) :
  ∀(ds pre:List D) (n:Nat) (ρ:List Slot),all=pre++ds->I pre n ρ->DL b body D2 ds n ρ
 | [],pre,n,ρ,e,h=>by
  rw [Yv] at e
  subst e
  exact hend n ρ h
 | d::ds,pre,n,ρ,e,h=>hstep pre d ds n ρ (DL b body D2 ds) e h λn' ρ' h'=>CN I hend hstep ds (pre++[d]) n' ρ' (by rw [e,Ym]; rfl) h'
theorem HQ{lo:Int}{n:Nat}{pre post:List D}{d:D}(h:DJ lo n=pre++d::post):d=.int (lo+(pre.length:Int))/\pre.length<n:=by
 have hl:=congrArg bx h
 rw [DH,Rs,X5] at hl
 have e:(DJ lo n)[pre.length]?=some d:=by rw [h,ZU (No _),ac]; rfl
 unfold DJ at e
 rw [On,am (by omega)] at e
 exact⟨(TW e).symm,by omega⟩
structure A0 where
 a:Str
 b:Str
 len:Int
structure Net where
 ps:List Str
 ts:List A0
noncomputable def Am(t:A0):D:=.tup [.str t.a,.str t.b,.int t.len]
noncomputable def E5(N:Net):D:=.tup [.tup (N.ps.map .str),.tup (N.ts.map Am)]
noncomputable def Ej(s t:A0):Prop:=cs s.a<cs t.a\/(s.a=t.a/\cs s.b<cs t.b)
structure Net.Ok (N:Net):Prop where
 names:∀x∈N.ps,Sg x
 rise:rising N.ps
 tin:∀t∈N.ts,t.a∈N.ps/\t.b∈N.ps/\cs t.a<cs t.b/\1<=t.len/\t.len<=1000000
 trise:N.ts.Pairwise Ej
structure Ix where
 i:Nat
 j:Nat
 len:Int
noncomputable abbrev EE(Pd:D->Nat->Prop):E2:={ nx:=λn _=>Kd.sh=.sh/\Pd .non n,rt:=Pd }
theorem Bc{b:BW}{te:DW}{P:List D->Nat->Prop}(g:D->D)(I:List Slot->Prop):∀(ds acc:List D) (n:Nat) (ρ:List Slot),
  (∀d∈ds,∀(ρ:List Slot) (n:Nat) (nx:D->Nat->List Slot->Prop),I ρ->(∀ρ',I ρ'->nx (g d) n ρ')->b d ρ λρ1=>te n ρ1 λy n2=>nx y n2 ρ1)->I ρ->P (acc++ds.map g) n->D7 b FR te P ds acc n ρ
 | [],acc,n,ρ,_,_,h=>by rw [Zv,Yv] at h; exact h
 | d::ds,acc,n,ρ,ht,hρ,h=>ht d Op ρ n (λy n2 ρ1=>D7 b FR te P ds (acc++[y]) n2 ρ1) hρ λρ' hρ' =>
  Bc g I ds (acc++[g d]) n ρ' (λd hd=>ht d (Sc _ hd)) hρ' (by rw [Ym]; exact h)
theorem MG{α:Type}{l:List α}{p:α->Bool}{P:D->Prop}(h:P (.bl (l.all p))):Sx [.lst (l.map λa=>.bl (p a))] P :=
 ⟨_,_,rfl,MU p l,by rw [List.all_map]; exact h⟩
theorem VB{b1 b2:Bool}{P:D->Nat->Prop}{n:Nat}{k:(D->Nat->Prop)->Prop}(hk:b1=true->P (.bl b2) n->k P)(h:P (.bl (b1&&b2)) n):(match (.bl b1:D) with | .bl true=>k P | .bl false=>P (.bl false) n | _=>False):=RM hk h
noncomputable abbrev Wb(g:D->Bool):W2:=Ti 1 λds=>.bl (g (ds.getD 0 .non))
theorem Wb.out{g:D->Bool}{ss:List Slot}{n:Nat}{P:D->Nat->Prop}(h:Wb g ss n P):∃d,ss=[.sh d]/\P (.bl (g d)) n:=by
 obtain⟨ds,hl,rfl,h⟩:=h
 match ds,hl with
 | [d],_=>exact⟨d,rfl,h⟩
noncomputable def Pt:D->Bool
 | .int _=>true
 | _=>false
noncomputable def tupleOfB(k:Int):D->Bool
 | .tup xs=>((xs.length:Int)==k)
 | _=>false
noncomputable abbrev JF:W2:=Wb Pt
noncomputable abbrev Ci:W2:=λss n P=>∃k d,ss=[.sh (.int k),.sh d]/\P (.bl (tupleOfB k d)) n
noncomputable def NS:Af:=(Ay (KL (Hu "int" (AD 0)) (VQ (Hu "bool" (AD 0)))))
noncomputable def Ja:Af:=(Ay (KL (Hu "tuple" (AD 1)) (Ag (JW false) (DC C8 (AK (AD 1) Aj)) (AD 0))))
section
variable {ss:List Slot}{n:Nat}{Pd:D->Nat->Prop}
theorem Lk(h:JF ss n Pd):NS (EE Pd) n (ss++Re 0 .no):=by
 obtain⟨d,rfl,q⟩:=h.out
 cases d <;> exact q
theorem IF(h:Ci ss n Pd):Ja (EE Pd) n (ss++Re 0 .no):=by
 obtain⟨k,d,rfl,h⟩:=h
 cases d with
 | tup xs=>exact⟨_,_,rfl,rfl,h⟩
 | _=>exact h
end
theorem Ld{x:Str}(h:∀c∈cs x,c<1114112):PyData.strOk x=true:=by
 unfold PyData.strOk
 rw [← Array.all_toList,Y8]
 intro c hc
 exact decide_eq_true (h c hc)
theorem Ib{x:Str}(h:Sg x):B5 (.str x):=⟨rfl,Ld λc hc=>by have:=h.2.2 c hc; omega,YB _⟩
theorem L6{ps:List Str}(h:∀p∈ps,Sg p):Bj (ps.map .str)=true/\Y3 (BD (ps.map .str))=true/\Ye (BD (ps.map .str))=0:=by
 induction ps with
 | nil=>exact⟨rfl,rfl,rfl⟩
 | cons p r ih =>
  obtain⟨h1,h2,h3⟩:=ih λq hq=>h q (Sc _ hq)
  have hp:=Ib (h p Op)
  refine⟨by rw [X6,Bj,h1]; rfl,?_,?_⟩
  ·rw [X6,BD,Y3,h2,bL]
   exact hp.2.1
  ·rw [X6,BD,Ye,h3]
   rfl
theorem Gr{ps:List Str}(h:∀p∈ps,Sg p):B5 (.tup (ps.map .str)):=by
 obtain⟨h1,h2,h3⟩:=L6 h
 refine⟨h1,h2,?_⟩
 show Ye (BD (ps.map .str))+1<=100
 rw [h3]; decide
theorem E4(x y:Str):Ei (.str x) (.str y)=(x==y):=rfl
section
variable {ss:List Slot}{n:Nat}{Pd:D->Nat->Prop}
end
mutual
noncomputable def GA(B:Nat):D->Prop
 | .int i=>i.natAbs<=B
 | .str x=>∀c∈cs x,c<1114112
 | .tup ds=>Io B ds
 | .lst ds=>Io B ds
 | .dic _ _=>False
 | .fdi _ _=>False
 | .dit _ _=>False
 | _=>True
noncomputable def Io(B:Nat):List D->Prop
 | []=>True
 | d::ds=>GA B d/\Io B ds
end
mutual
noncomputable def Of:D->Nat
 | .int _=>200
 | .str x=>x.length
 | .tup ds=>Pn ds
 | .lst ds=>Pn ds
 | _=>0
noncomputable def Pn:List D->Nat
 | []=>0
 | d::ds=>Of d+1+Pn ds
end
mutual
noncomputable def MW:D->Nat
 | .tup ds=>JY ds+1
 | .lst ds=>JY ds+1
 | _=>0
noncomputable def JY:List D->Nat
 | []=>0
 | d::ds=>max (MW d) (JY ds)
end
theorem fines_iff{B:Nat}:∀{ds:List D},Io B ds↔∀d∈ds,GA B d
 | []=>⟨(λ_ d h=>by cases h),λ_=>trivial⟩
 | d::ds=>by
  have ih:=@fines_iff B ds
  constructor
  ·rintro ⟨h1,h2⟩ e he
   rcases X_.mp he with rfl | he
   ·exact h1
   ·exact ih.mp h2 e he
  ·exact λh=>⟨h d Op,ih.mpr λe he=>h e (Sc _ he)⟩
theorem dps_le{k:Nat}:∀{ds:List D},JY ds<=k↔∀d∈ds,MW d<=k
 | []=>⟨(λ_ d h=>by cases h),λ_=>YB _⟩
 | d::ds=>by
  have ih:=@dps_le k ds
  show max (MW d) (JY ds)<=k↔_
  rw [Nat.max_le,ih]
  constructor
  ·rintro ⟨h1,h2⟩ e he
   rcases X_.mp he with rfl | he
   ·exact h1
   ·exact h2 e he
  ·exact λh=>⟨h d Op,λe he=>h e (Sc _ he)⟩
theorem Jz{B C:Nat}(h:B<=C):∀(n:Nat),(∀d:D,sizeOf d<=n->GA B d->GA C d)/\∀ds:List D,sizeOf ds<=n->Io B ds->Io C ds:=by
 intro n
 induction n with
 | zero =>
  refine⟨λd hd _=>?_,λds hd _=>?_⟩
  ·cases d <;> simp at hd
  ·cases ds <;> simp at hd
 | succ n ih =>
  refine⟨λd hd hf=>?_,λds hd hf=>?_⟩
  ·cases d with
   | int i=>exact YH (show i.natAbs<=B from hf) h
   | str x=>exact hf
   | tup ds=>exact ih.2 ds (by simp at hd; omega) hf
   | lst ds=>exact ih.2 ds (by simp at hd; omega) hf
   | dic ks ds=>exact(show False from hf).elim
   | fdi ks ds=>exact(show False from hf).elim
   | dit ks ds=>exact(show False from hf).elim
   | non=>trivial
   | bl b=>trivial
  ·cases ds with
   | nil=>trivial
   | cons d ds=>exact⟨ih.1 d (by simp at hd; omega) hf.1,ih.2 ds (by simp at hd; omega) hf.2⟩
mutual
theorem HX{B:Nat}(hB:B<10 ^ 45):∀{d:D},GA B d->D6 d=true/\(toPy d).showable=true/\(toPy d).canLay0=true/\(toPy d).depth=MW d/\(toPy d).leavesShort 60=true/\(toPy d).weight<=Of d
 | .non,_=>⟨rfl,rfl,rfl,rfl,rfl,No _⟩
 | .bl b,_=>⟨rfl,rfl,rfl,rfl,rfl,No _⟩
 | .int i,h=>by
  have h':i.natAbs<=B:=h
  have hlt:i.natAbs<10 ^ 45:=az h' hB
  have h2:i.natAbs<2 ^ 150:=Nat.lt_trans hlt (by decide)
  have hl:i.natAbs.log2<150:=by
   by_cases h0:i.natAbs=0
   ·rw [h0]; decide
   ·exact(Nat.log2_lt h0).mpr h2
  refine⟨rfl,?_,rfl,rfl,?_,?_⟩
  ·show decide (i.natAbs.log2<1920)=true
   exact decide_eq_true (by omega)
  ·show decide ((PyData.shown (.int i)).length<=60)=true
   refine decide_eq_true ?_
   have:=int_text_length_le10 (a:=i) (k:=45) (by decide) hlt
   show (Y6 (toString i)).length<=60
   rw [PySem.ofString_length]
   omega
  ·show (if i==0 then 0 else i.natAbs.log2+1)<=200
   split <;> omega
 | .str x,h=>by
  have h':∀c∈cs x,c<1114112:=h
  refine⟨rfl,rfl,Ld h',rfl,?_,No _⟩
  show (x.cps.toList.all λc=>decide (c<16 ^ 8))=true
  rw [Y8]
  intro c hc
  exact decide_eq_true (Nat.lt_trans (h' c hc) (by decide))
 | .tup ds,h=>by
  obtain⟨h1,h2,h3,h4,h5,h6⟩:=Im hB (ds:=ds) h
  refine⟨h1,h2,h3,?_,h5,h6⟩
  show Ye (BD ds)+1=JY ds+1
  rw [h4]
 | .lst ds,h=>by
  obtain⟨h1,h2,h3,h4,h5,h6⟩:=Im hB (ds:=ds) h
  refine⟨h1,h2,h3,?_,h5,h6⟩
  show Ye (BD ds)+1=JY ds+1
  rw [h4]
 | .dic ks ds,h=>(show False from h).elim
 | .fdi ks ds,h=>(show False from h).elim
 | .dit ks ds,h=>(show False from h).elim
theorem Im{B:Nat}(hB:B<10 ^ 45):∀{ds:List D},Io B ds->Bj ds=true/\PyData.showableAll (BD ds)=true/\Y3 (BD ds)=true/\Ye (BD ds)=JY ds/\cC 60 (BD ds)=true/\PyData.weightAll (BD ds)<=Pn ds
 | [],_=>⟨rfl,rfl,rfl,rfl,rfl,No _⟩
 | d::ds,h=>by
  obtain⟨h1,h2,h3,h4,h5,h6⟩:=HX hB (d:=d) h.1
  obtain⟨g1,g2,g3,g4,g5,g6⟩:=Im hB (ds:=ds) h.2
  refine⟨?_,?_,?_,?_,?_,?_⟩
  ·show (D6 d&&Bj ds)=true
   rw [h1,g1]; rfl
  ·show ((toPy d).showable&&PyData.showableAll (BD ds))=true
   rw [h2,g2]; rfl
  ·show ((toPy d).canLay0&&Y3 (BD ds))=true
   rw [h3,g3]; rfl
  ·show max (toPy d).depth (Ye (BD ds))=max (MW d) (JY ds)
   rw [h4,g4]
  ·show ((toPy d).leavesShort 60&&cC 60 (BD ds))=true
   rw [h5,g5]; rfl
  ·show (toPy d).weight+1+PyData.weightAll (BD ds)<=Of d+1+Pn ds
   omega
end
theorem R6{B:Nat}{d:D}(hB:B<10 ^ 45)(h:GA B d)(hd:MW d<=100)(hs:Of d<=200000):QG d:=by
 obtain⟨h1,h2,h3,h4,h5,h6⟩:=HX hB h
 refine⟨h1,h2,by rw [h4]; exact hd,?_⟩
 have:=PyData.shown_le 60 (by decide) (toPy d) h5
 rw [PySem.sizeLine_eq]
 have:62*(toPy d).weight<=62*200000:=Nat.mul_le_mul_left _ (by omega)
 omega
theorem Gp{B:Nat}{d:D}(hB:B<10 ^ 45)(h:GA B d)(hd:MW d<=100):B5 d:=by
 obtain⟨h1,h2,h3,h4,h5,h6⟩:=HX hB h
 exact⟨h1,h3,by rw [h4]; exact hd⟩
section
variable {ss:List Slot}{n:Nat}{Pd:D->Nat->Prop}
end
section
variable {ss:List Slot}{n:Nat}{Pd:D->Nat->Prop}
end
theorem PF{α:Type}(p:α->Bool)(l:List α):Bj (l.map λa=>D.bl (p a))=true/\Y3 (BD (l.map λa=>D.bl (p a)))=true/\Ye (BD (l.map λa=>D.bl (p a)))=0:=by
 induction l with
 | nil=>exact⟨rfl,rfl,rfl⟩
 | cons a r ih =>
  obtain⟨h1,h2,h3⟩:=ih
  refine⟨by rw [X6,Bj,h1]; rfl,by rw [X6,BD,Y3,h2,bL]; rfl,?_⟩
  rw [X6,BD,Ye,h3]
  rfl
section
variable {ss:List Slot}{n:Nat}{Pd:D->Nat->Prop}
end
noncomputable def item(d:D):Prop:=GA 1000001 d/\Of d<=450/\MW d<=1
theorem Mg{k:Nat}:∀{ds:List D},(∀d∈ds,Of d+1<=k)->Pn ds<=k*ds.length
 | [],_=>YB _
 | d::ds,h=>by
  have h1:=h d Op
  have h2:=Mg (ds:=ds) λe he=>h e (Sc _ he)
  show Of d+1+Pn ds<=k*(ds.length+1)
  rw [Nat.mul_succ]; omega
theorem DM{B:Nat}{xs:List D}(h:∀d∈xs,GA B d):GA B (.tup xs):=fines_iff.mpr h
theorem item_str{x:Str}(h1:x.length<=8)(h2:∀c∈cs x,c<1114112):item (.str x):=⟨h2,by show x.length<=450; omega,YB _⟩
theorem Gu{x:Str}(h:Sg x):item (.str x):=item_str h.2.1 λc hc=>by have:=h.2.2 c hc; omega
theorem Qo{a b:Str}{l:Int}(ha:item (.str a))(hb:item (.str b))(la:a.length<=8)(lb:b.length<=8)(hl:l.natAbs<=1000001):item (.tup [.str a,.str b,.int l]):=by
 refine⟨DM λd hd=>?_,?_,?_⟩
 ·simp only [X_,YG,or_false] at hd
  rcases hd with rfl | rfl | rfl
  ·exact ha.1
  ·exact hb.1
  ·exact hl
 ·show a.length+1+(b.length+1+(200+1+0))<=450
  omega
 ·show max 0 (max 0 (max 0 0))+1<=1
  decide
theorem CZ{N:Net}(ok:N.Ok):∀d∈N.ts.map Am,item d:=λd hd=>by
 obtain⟨t,ht,rfl⟩:=XV.mp hd
 obtain⟨h1,h2,_,h3,h4⟩:=ok.tin t ht
 have n1:=ok.names _ h1
 have n2:=ok.names _ h2
 exact Qo (Gu n1) (Gu n2) n1.2.1 n2.2.1 (by omega)
theorem Sf{N:Net}(ok:N.Ok):∀d∈N.ps.map D.str,item d:=λd hd=>by
 obtain⟨x,hx,rfl⟩:=XV.mp hd
 exact Gu (ok.names x hx)
theorem UA{xs ys:List D}(hx:∀d∈xs,item d)(hy:∀d∈ys,item d)(lx:xs.length<=26)(ly:ys.length<=80):GA 1000001 (.tup [.tup xs,.tup ys])/\Of (.tup [.tup xs,.tup ys])<=48000/\MW (.tup [.tup xs,.tup ys])<=3:=by
 have s1:=Mg (k:=451) λd hd=>aO (hx d hd).2.1
 have s2:=Mg (k:=451) λd hd=>aO (hy d hd).2.1
 have d1:JY xs<=1:=dps_le.mpr λd hd=>(hx d hd).2.2
 have d2:JY ys<=1:=dps_le.mpr λd hd=>(hy d hd).2.2
 refine⟨DM λd hd=>?_,?_,?_⟩
 ·simp only [X_,YG,or_false] at hd
  rcases hd with rfl | rfl
  ·exact DM λd hd=>(hx d hd).1
  ·exact DM λd hd=>(hy d hd).1
 ·show Pn xs+1+(Pn ys+1+0)<=48000
  omega
 ·show max (JY xs+1) (max (JY ys+1) 0)+1<=3
  omega
theorem E8(x:Str):¬cs x<cs x:=Zx _
theorem z1:1<=sizeLine:=by decide
theorem z2:2<=sizeLine:=by decide
theorem z3:3<=sizeLine:=by decide
theorem z0:0<=sizeLine:=YB _
theorem Xo:Ro 10 6:=⟨by decide,by decide,by decide⟩
section
variable {ss:List Slot}{n:Nat}{Pd:D->Nat->Prop}
end
end Nt
namespace L2
open PySem PySem.Spec PyProof.Rows
section
variable {X:Cx}{tg elt iter:Expr}{ifs:List Expr}{sc:Scope}{pos spos pos':Pos}{N':List Str}{js:List (Option Nat)}{wi:TI}{i:Nat}{x:Str}
theorem Nk(hc:X.calm=true)(N':List Str)(js:List (Option Nat))(hi:PI X tg iter wi)
  (hB:Iv sc X.env.scope X.N N' js=true) (hN:X.N.Nodup) (hix:X.N[i]?=some x) (hx:Loc X.env.scope x)
  (hsw:swapsWith (.ListComp elt [⟨tg,iter,ifs,0⟩] sc pos) (some (.Name x pos')) spos.line X.env=pure true)
  (hs:autoParam (∀x,foldedSetIterable iter X.env x=pure x) zau2._auto_1)
  (hf:autoParam (X.fn x=true\/X.env.scope.names.lookup x=some .local) zau0._auto_1) :
  PS X (.Assign [.Name x pos'] (.ListComp elt [⟨tg,iter,ifs,0⟩] sc pos) spos) (Lc (QD X sc N' js tg elt ifs wi) (G3 i)):=by
 intro pins s σ H D I h
 have O:CompOk X sc N' js:=CompOk.of hB
 obtain⟨cl,hclos,hcl,hcl2⟩:=Iw (scope:=sc) (env:=X.env) λx hx=>I.ok.has x (O.free x hx)
 rw [exec_Assign_Name_used _ _ _ _ hsw]
 refine Ch (bE (Ch ?_))
 show wpAny _ _ (do let _ ← comprehension (.ListComp elt [⟨tg,iter,ifs,0⟩] sc pos) sc X.env _ (newList []) false (eval iter X.env) (some (assign (.Name x pos') X.env))) _ _ s
 refine Ch (Yl (wpAny_comprehension_free (Q:=λ_ s'=>SP X pins D .next s') (use:=some (assign (.Name x pos') X.env)) rfl hs hclos O.kind O.names (BX (hi pins s σ H _ I h) λv s1 h1=>BX h1 λitv s2 h2=>?_))
  (λ_ s' hq=>Go (Go hq)) λ_ _ e=>e)
 obtain⟨it,fp,tn,J,H2,e,I2,T,st2,f2,hq⟩:=h2
 subst e
 have kfree:X.K.lookup s2.heap.objs.size=none:=by
  cases q:X.K.lookup s2.heap.objs.size with
  | none=>rfl
  | some o=>exact absurd (Tk (I2.kIn _ _ q)) (Yy _)
 obtain⟨g,tt,te,W,hg,ht,he,⟨m0,w0⟩,hW⟩:=hq s2.heap.objs.size (I2.hok.fresh (No _)) kfree cl (s2.heap.objs.size+1) s2 H2 fp
 refine YZ (wpAny_newFunctionEnv O.cell (by intro y hy; simp at hy) (λh₁ hns₁ hsb₁=>?_) O.kind)
 dsimp only at hns₁ hsb₁ ⊢
 generalize hH2:s2.heap.push { cls:=.type "list",dict:=none,data:=.seq ([]:List Value).toArray }=Hh at hns₁ hsb₁ ⊢
 have hCe:Hh.objs.size=s2.heap.objs.size+1:=by rw [← hH2,Zc]
 have hlt:∀b∈fp,b<s2.heap.objs.size:=λb hb=>by
  obtain⟨o,e,_⟩:=T.obj _ _ st2 b hb
  exact Tk e
 have old:∀b o,s2.heap.get? b=some o->h₁.get? b=some o:=λb o e=>hsb₁.extBut b o (by rw [hCe]; exact YE (bN (Tk e))) (Ev _ (hH2▸Ev _ e))
 have hD:∃n,h₁.get? s2.heap.objs.size=some { cls:=.type "list",data:=.seq #[] n }:=⟨_,hsb₁.extBut _ _ (by rw [hCe]; exact YE (Nat.lt_succ_self _)) (Ev _ (hH2▸UF _ rfl))⟩
 have I3:∀tk,Inv (A2 X sc N' cl (s2.heap.objs.size+1) s2 H2 fp) [] (Bx js σ) (BB H2 s2.heap.objs.size (.lst [])) { s2 with heap:=h₁,toks:=tk }:=λtk =>
  ME I2 hc O hcl hcl2 f2 (λb hb=>let ⟨o,e,_⟩:=T.obj _ _ st2 b hb; ⟨o,e⟩) (by rw [← hCe]; exact hns₁) old hD
 have st3:tn 0 h₁:=T.keep _ _ _ st2 λb hb o e=>old b o e
 have fr3:∀b∈fp,BB H2 s2.heap.objs.size (.lst []) b=none:=λb hb=>by
  rw [AT (YE (hlt b hb))]
  exact(f2 b hb).1
 have loop:∀tk,codeAny (model X.prog X.w) X.A (.compLoop (.ListComp elt [⟨tg,iter,ifs,0⟩] sc pos) 0 (.ref it) (.ref s2.heap.objs.size) (compEnvC sc cl (s2.heap.objs.size+1) X.env))
   (compPost (model X.prog X.w) X.A X.xe (some (assign (.Name x pos') X.env)) (λ_ s'=>SP X pins D .next s') (.ref s2.heap.objs.size) (s2.heap.objs.size+1)) { s2 with heap:=h₁,toks:=tk }:=λtk=>by
  refine J1 (W:=W) (m0:=m0) (Q:=λv H1=>G3 i v σ H1 λσ2 H2=>D.nx σ2 H2) I2 f2 hlt (Zb _) T hg ht he hW (λσ' H' s' J' q'=>?_) (I3 tk) st3 fr3 w0
  obtain⟨m,hn,_⟩:=J'.loc
  have hCn:H' (s2.heap.objs.size+1)=none:=J'.free
  have I4:Inv X pins σ H' s':=Ij (h':=s'.heap) I2 f2 (Zb _) J' λb _=>rfl
  obtain⟨g1,g2,g3,g4,g5,g6⟩:=I2.fpOk (b:=s2.heap.objs.size+1) (Zb _) hCn
  show wpAny (model X.prog X.w) X.A (assign (.Name x pos') X.env (.ref s2.heap.objs.size)) (λ_ s''=>∃m,s''.heap.Ns (s2.heap.objs.size+1) m/\∀h',ZP (s2.heap.objs.size+1) s''.heap h'->SP X pins D .next { s'' with heap:=h' }) X.xe s'
  refine wpAny_assign_Name (Ji (v:=.ref s2.heap.objs.size) I4 hN hix hx rfl (λs5 I5 ⟨a,hsame,ha⟩=>?_) hf)
  have na:s2.heap.objs.size+1≠a:=by
   rcases ha with rfl | ha
   ·exact g2
   ·exact λz=>g5 _ _ ha z.symm
  refine⟨m,hn.sameBut hsame na,λh' hs'=>?_⟩
  exact⟨_,H',I5.turned (t':=s5.toks) (it:=s2.heap.objs.size+1) (λb o hb e=>hs'.extBut b o hb e) hCn g2 g4 g5 g6,q'⟩
 rw [show (newEnv sc Hh.objs.size X.env.globals cl X.env.qual none .none (some X.env) builtinsNs).locals=s2.heap.objs.size+1 from hCe]
 show codeAny (model X.prog X.w) X.A (.compStart (.ListComp elt [⟨tg,iter,ifs,0⟩] sc pos) 0 (.ref it) (.ref s2.heap.objs.size) (compEnvC sc cl (s2.heap.objs.size+1) X.env)) _ _
 exact codeAny_compStart_list (loop _) (T.self _ 0 _ _ _ st3 (loop _))
end
end L2
namespace Dp
open PySem PySem.Spec PyProof.Rows L2
section
variable {X:Cx}{κe:Kd}{tg elt iter:Expr}{ifs:List Expr}{sc:Scope}{pos:Pos}{src:EK}{b:BW}{tt:Ho}{te:DW}
theorem RK(hc:X.calm=true)(N':List Str)(js:List (Option Nat))(hi:WW X tg iter src)(hg:∀cl C s H fp,DG (A2 X sc N' cl C s H fp) tg b)(ht:∀cl C s H fp,WV (A2 X sc N' cl C s H fp) ifs tt)(he:∀cl C s H fp,DE (A2 X sc N' cl C s H fp) elt κe te)
  (hB:Iv sc X.env.scope X.N N' js=true) (hk:autoParam (κe≠.tp) zau6._auto_1)
  (hs:autoParam (∀x,foldedSetIterable iter X.env x=pure x) zau2._auto_1):∃wi,PI X tg iter wi/\∀(C:Fm) (M:Addr->Prop) (H:Hp) (n:Nat) (ρ:List Slot) (σ:L2.St) (P:D->Nat->Prop) (Q:VK),Rel X.K C M H n ρ σ->CU js src b tt te n ρ P ->
   (∀v H' d n',Ext C.U H H'->FeedC X.K C.F M H' n'->VR X.K C.V M H H' .fr v d->P d n'->Q v H')->QD X sc N' js tg elt ifs wi σ H Q:=by
 obtain⟨wi,a1,a2⟩:=hi
 refine⟨wi,a1,λC M H n ρ σ P Q R w q=>?_⟩
 refine a2 C M H n ρ σ _ _ R w λJ H1 ds n1 e1 f1 y w1=>?_
 obtain⟨hlen,w1⟩:=w1
 have R1:=R.step e1 f1
 intro l hl hkl cl Ca s0 H0 fp
 obtain⟨g,g1,g2⟩:=hg cl Ca s0 H0 fp
 obtain⟨tc,c1,c2⟩:=ht cl Ca s0 H0 fp
 obtain⟨tx,x1,x2⟩:=he cl Ca s0 H0 fp
 have noU:¬C.U l:=λz=>by
  obtain⟨o,z⟩:=R1.udom l z
  rw [hl] at z; cases z
 generalize hM':(λb=>M b\/b=l)=M'
 have M'l:M' l:=by rw [← hM']; exact .inr rfl
 have M'of:∀b,M b->M' b:=λb z=>by rw [← hM']; exact .inl z
 have ofM':∀b,M' b->M b\/b=l:=λb z=>by rw [← hM'] at z; exact z
 have inV:∀b,C.V b\/b=l->M' b:=λb z=>z.elim (λz=>M'of b (R1.vM b z)) λz=>by rw [z]; exact M'l
 have lenj:js.length=N'.length:=El (CompOk.of hB).cap
 refine⟨g,tc,tx,λi m σ' H'=>m=ds.length - i/\i<=ds.length/\∃n' ρ' acc vs,Rel X.K ⟨M',C.F,C.U,λb=>C.V b\/b=l,H1,[],[]⟩ M' H' n' ρ' σ'/\H' l=some (.lst vs)/\Ats X.K M' H' acc vs/\acc.length<=i/\Pres M H1 M' H' /\
   D7 b tt te (λacc n2=>P (.lst acc) n2) (ds.drop i) acc n' ρ',g1,c1,x1,⟨ds.length,by simp,YB _,n1,F6 js ρ,[],[],?_⟩,?_⟩
 ·have gr:Grow H1 (BB H1 l (.lst [])):=A5 hl
  have pr:Pres M H1 M' (BB H1 l (.lst [])):=⟨λb o e _=>gr.all b o e,λb z=>(ofM' b z).elim .inl λz=>.inr (by rw [z]; exact hl),λb vs e=>gr.all b _ e⟩
  refine⟨⟨?_,λa z=>z,λa z=>?_,gr.ext,R1.fU,λa z=>.inl (R1.uV a z),inV,f1.pres pr λf o _ e=>gr.all f.1 o e,?_,λp hp=>absurd hp (by simp),λi d a q z=>N2 R1.sl q z,λi s a q o _=>absurd o (by rw [Du q]; decide),λi j s t a q o _ _ _ _=>absurd o (by rw [Du q]; decide),λp hp=>absurd hp (by simp)⟩,AY,rfl,YB _,pr,w1⟩
  ·unfold F6 Bx
   rw [Db,Db]
  ·rcases ofM' a z with z | z
   ·obtain⟨o,z⟩:=R1.dom a z
    exact⟨o,gr.all a o z⟩
   ·subst z
    exact⟨_,AY⟩
  ·refine L5 R1.sl pr λd v h=>h.same pr (λa o _ e=>gr.all a o e) λa e n1 z=>z.elim n1 λz=>?_
   subst e
   obtain⟨o,w⟩:=h.lies
   rw [z,hl] at w
   cases w
 ·rintro i m σ' H' ⟨rfl,hi,n',ρ',acc,vs,R',hlv,hac,hal,pr,w'⟩
  by_cases hlt:i<ds.length
  ·have ed:ds.drop i=ds[i]::ds.drop (i+1):=ZB hlt
   rw [ed] at w'
   obtain⟨go,yl⟩:=(y i M' H' pr R'.ext R'.dom).1 ds[i] (FM hlt)
   refine .inr ⟨go,λx H2 hy=>?_⟩
   obtain⟨gr,hx⟩:=yl x H2 hy
   have R2':=R'.step gr.ext (R'.feed.grow gr)
   refine g2 _ M' H2 n' ρ' σ' ds[i] x _ _ R2' hx w' λρ3 σ3 R3 w3=>?_
   refine c2 _ M' H2 n' ρ3 σ3 _ _ R3 w3 λc H4 n4 e4 f4 w4=>?_
   have R4:=R3.step e4 f4
   have p4:Pres M' H' M' H4:=gr.pres.trans (R3.pres e4)
   have l4:H4 l=some (.lst vs):=e4.keep (gr.all _ _ hlv) noU
   cases c with
   | false=>exact⟨ds.length - (i+1),by omega,rfl,hlt,n4,ρ3,acc,vs,R4,l4,hac.pres p4,by omega,pr.trans p4,w4⟩
   | true =>
    refine x2 _ M' H4 n4 ρ3 σ3 _ _ R4 w4 λyv H5 d5 n5 e5 f5 r5 w5=>?_
    have R5:=R4.step e5 f5
    have p5:Pres M' H4 M' H5:=R4.pres e5
    have l5:H5 l=some (.lst vs):=e5.keep l4 noU
    have hy5:=r5.shOf R4.dom hk
    have a5:=(hac.pres p4).pres p5
    have pu:Pres M' H5 M' (BB H5 l (.lst (vs++[yv]))):=F1 M'l l5
    have hvl:vs.length=acc.length:=hac.length
    refine⟨vs,l5,by rw [Yj]; omega,ds.length - (i+1),by omega,rfl,hlt,n5,ρ3,acc++[d5],vs++[yv],?_,AY,(a5.append (Ats.one hy5)).pres pu,by rw [Rs,X9]; omega,(pr.trans p4).trans (p5.trans pu),w5⟩
    refine⟨R5.len,R5.sub,λa z=>?_,λb o e=>?_,R5.fU,R5.uV,R5.vM,?_,λj s hs=>?_,λp hp=>absurd hp (by simp),R5.br0,R5.new,R5.two,λp hp=>absurd hp (by simp)⟩
    ·by_cases ha:a=l
     ·subst ha; exact⟨_,AY⟩
     ·rw [AT ha]; exact R5.dom a z
    ·obtain⟨o',q1,q2⟩:=R5.ext b o e
     by_cases hb:b=l
     ·subst hb
      have e':H1 b=some o:=e
      rw [hl] at e'; cases e'
     ·exact⟨o',by rw [AT hb]; exact q1,q2⟩
    ·refine f5.pres pu λf o hf e=>?_
     rw [AT (λz=>noU (by rw [← z]; exact R1.fU f hf))]
     exact e
    ·have hs5:=R5.sl j s hs
     cases s with
     | no=>trivial
     | sh d=>obtain⟨v,e1,h2⟩:=hs5; exact⟨v,e1,h2.pres pu⟩
     | ex a nm ks ds=>obtain⟨e1,h2⟩:=hs5; exact⟨e1,h2.pres pu⟩
     | br d =>
      obtain⟨v,e1,h2⟩:=hs5
      refine⟨v,e1,h2.same pu (λa o z e=>?_) λ_ _ z=>z⟩
      subst z
      obtain⟨o3,w⟩:=R5.br0 j d a hs e1
      have hal:a≠l:=λz=>by
       have w':H1 a=some o3:=w
       rw [z,hl] at w'; cases w'
      rw [AT hal]; exact e
     | ow d =>
      obtain⟨a,e1,h2,_⟩:=hs5
      exact absurd h2 (R5.new j _ a hs rfl e1).1
     | lt a d =>
      obtain⟨e1,h2,_⟩:=hs5
      exact absurd h2 (R5.new j _ a hs rfl e1).1
     | fd=>exact hs5
     | wd ks ds=>exact hs5
  ·have e:i=ds.length:=by omega
   subst e
   rw [bY] at w'
   refine .inl ⟨(y _ M' H' pr R'.ext R'.dom).2 (No _),?_⟩
   have eb:Ext C.U H1 H':=R'.ext
   have less:Pres M' H' M H':=Pres.less M'of
   refine q _ H' (.lst acc) n' (e1.trans eb) (R'.feed.pres less λ_ _ _ z=>z) (VR.back e1 ?_) w'
   exact⟨l,rfl,hl,vs,hlv,by rw [hM']; exact hac⟩
theorem S4{κ:Kd}{i:Nat}{x:Str}{pos' spos:Pos}(hN:X.N.Nodup)(hix:X.N[i]?=some x)(hx:Loc X.env.scope x)(hc:X.calm=true)(N':List Str)(js:List (Option Nat))(hi:WW X tg iter src)(hg:∀cl C s H fp,DG (A2 X sc N' cl C s H fp) tg b)(ht:∀cl C s H fp,WV (A2 X sc N' cl C s H fp) ifs tt)(he:∀cl C s H fp,DE (A2 X sc N' cl C s H fp) elt κe te)
  (hB:Iv sc X.env.scope X.N N' js=true) (hsw:autoParam (swapsWith (.ListComp elt [⟨tg,iter,ifs,0⟩] sc pos) (some (.Name x pos')) spos.line X.env=pure true) zau3._auto_1) (hk:autoParam (κe≠.tp) zau6._auto_1)
  (hs:autoParam (∀x,foldedSetIterable iter X.env x=pure x) zau2._auto_1)
  (hf:autoParam (X.fn x=true\/X.env.scope.names.lookup x=some .local) zau0._auto_1):DS X κ (.Assign [.Name x pos'] (.ListComp elt [⟨tg,iter,ifs,0⟩] sc pos) spos) (BI i (CU js src b tt te)):=by
 obtain⟨wi,a1,a2⟩:=RK hc N' js hi hg ht he hB hk hs
 refine⟨_,Nk hc N' js a1 hB hN hix hx hsw hs hf,λC M H n ρ σ D2 E R L w=>?_⟩
 refine a2 C M H n ρ σ _ _ R w λv H' d n' e1 f1 r1 p=>?_
 exact L.nx M H' n' _ _ ((R.step e1 f1).set (r1.shOf R.dom (by intro z; cases z))) p
end
end Dp
namespace L2
open PySem PySem.Spec PyProof.Rows
noncomputable def Nj:R2:=λx y H Q=>∃a v,x=.ref a/\DGet H a y (some v)/\Q v H
end L2
namespace Dp
open PySem PySem.Spec PyProof.Rows L2
noncomputable def Cv:List Key->List D->Key->Option D
 | k0::ks,d::ds,k=>if k0=k then some d else Cv ks ds k
 | _,_,_=>none
section
variable {K:Frag}{X:Cx}
theorem KO{M:Addr->Prop}{H:Hp}{k:Key}:∀{ks:List Key} {ds:List D} {vs:List V},Ats K M H ds vs ->
  match Cv ks ds k with
  | some z=>∃v,Bu (ks.zip vs) k=some v/\At K M H z v
  | none=>Bu (ks.zip vs) k=none
 | [],ds,vs,h=>by unfold Cv; exact rfl
 | k0::ks,[],vs,h=>by cases h; exact rfl
 | k0::ks,d::ds,vs,h=>by
  obtain⟨v,r,rfl,h1,h2⟩:=h
  have ih:=KO (k:=k) (ks:=ks) h2
  unfold Cv
  by_cases e:k0=k
  ·rw [if_pos e]
   refine⟨v,?_,h1⟩
   show Bu ((k0,v)::ks.zip r) k=some v
   rw [EL e]
  ·rw [if_neg e]
   have:Bu ((k0,v)::ks.zip r) k=Bu (ks.zip r) k:=EM e
   rw [show (k0::ks).zip (v::r)=(k0,v)::ks.zip r from rfl,this]
   exact ih
noncomputable def keyOf:D->Option Key
 | .int i=>some (.inl i)
 | .str x=>some (.inr x)
 | _=>none
theorem Ig{U M:Addr->Prop}{H:Hp}{d:D}{v:V}{k:Key}(e:keyOf d=some k)(h:AtT K U M H d v):v=kV k:=by
 cases d with
 | int i=>cases e; exact h
 | str x=>cases e; exact h.str.1
 | _=>cases e
noncomputable def Tu:D->Option (List Key×List D)
 | .dic ks ds=>some (ks,ds)
 | .fdi ks ds=>some (ks,ds)
 | _=>none
theorem Uz{U M:Addr->Prop}{H:Hp}{d:D}{x:V}{ks:List Key}{ds:List D}(e:Tu d=some (ks,ds))(h:AtT K U M H d x):∃a vs,x=.ref a/\Rd H a (.dK (ks.zip vs))/\Ats K M H ds vs:=by
 cases d with
 | dic k2 d2=>cases e; obtain⟨a,vs,rfl,_,ha,_,hs⟩:=h; exact⟨a,vs,rfl,.inl ha,hs⟩
 | fdi k2 d2=>cases e; obtain⟨a,vs,rfl,⟨o,_,ha⟩,_,hs⟩:=h; exact⟨a,vs,rfl,.inr ⟨o,ha⟩,hs⟩
 | _=>cases e
theorem S8{H:Hp}{a:Addr}{kvs:List (Key×V)}{k:Key}(e:Rd H a (.dK kvs)):DGet H a (kV k) (Bu kvs k):=.inl ⟨kvs,k,e,rfl,rfl⟩
noncomputable def FG(d e:D)(P:D->Prop):Prop:=∃ks ds k z,Tu d=some (ks,ds)/\keyOf e=some k/\Cv ks ds k=some z/\P z
theorem VE:Fj K .sh Nj FG:=λU M H d e x y P Q dom vM hx hy w q=>by
 obtain⟨ks,ds,k,z,hd,he,hz,w⟩:=w
 obtain⟨a,vs,rfl,ha,hs⟩:=Uz hd hx
 have h:=KO (k:=k) (ks:=ks) hs
 rw [hz] at h
 obtain⟨v,h1,h2⟩:=h
 exact⟨a,v,rfl,by rw [Ig he hy,← h1]; exact S8 ha,q v H z .refl h2 w⟩
variable {a b:Expr}{κa κb:Kd}{wa wb:DW}{pos:Pos}
theorem CI{k:Nat}(hr:Room k X.A)(ha:DE X a κa wa)(hb:DE X b κb wb)(hs:autoParam (Pk b) zau5._auto_1):DE X (.Subscript a b pos) .sh (Ag FG wa wb):=by
 obtain⟨ta,ha1,ha2⟩:=ha
 obtain⟨tb,hb1,hb2⟩:=hb
 exact⟨Cj Nj ta tb,HS (Jx hr) ha1 hb1 hs,λC M H n ρ σ P Q R w q=>D1 VE ha2 hb2 C M H n ρ σ P Q R w q⟩
end
end Dp
namespace So
open PySem PySem.W PyProof.Rows
section
variable {O:KeyOrd}{key:Nat->O.α}{N:Nat}{cmp:Nat->Nat->(Bool->Shared->Prop)->Shared->Prop}{s:Shared}{p p0:Array Nat}
noncomputable def KN(O:KeyOrd)(key:Nat->O.α)(p:Array Nat)(i:Nat):O.α:=key (p.getD i 0)
noncomputable def Srt(O:KeyOrd)(key:Nat->O.α)(p:Array Nat)(k:Nat):Prop:=∀i j,i<=j->j<k->O.kle (KN O key p i) (KN O key p j)
noncomputable def WR(O:KeyOrd)(key:Nat->O.α)(p:Array Nat)(k:Nat):Prop:=∀i j,i<=j->j<k->O.kle (KN O key p j) (KN O key p i)
noncomputable def T6(O:KeyOrd)(key:Nat->O.α)(N:Nat)(cmp:Nat->Nat->(Bool->Shared->Prop)->Shared->Prop)(s:Shared):Prop:=∀(i j:Nat) (C:Bool->Shared->Prop),i<N->j<N->C (O.blt (key i) (key j)) s->cmp i j C s
noncomputable def Bd(N:Nat)(p:Array Nat):Prop:=0<N/\∀x∈p,x<N
theorem K3(p:Array Nat)(i:Nat):p.getD i 0=(p[i]?).getD 0:=by
 simp
theorem Bd.get(h:Bd N p)(i:Nat):p.getD i 0<N:=by
 rw [K3]
 cases e:p[i]? with
 | none=>exact h.1
 | some x=>exact h.2 x (Array.mem_of_getElem? e)
theorem Bd.perm{p':Array Nat}(h:Bd N p)(hp:p'.Perm p):Bd N p':=⟨h.1,λx hx=>h.2 x (hp.mem_iff.mp hx)⟩
theorem Ey{p q:Array Nat}{i j:Nat}(h:p[i]?=q[j]?):KN O key p i=KN O key q j:=by
 unfold KN
 rw [K3,K3,h]
theorem KH{src d:Nat}(hs:src<p.size)(hd:d<=src)(k:Nat) :
  KN O key (bubble p src d) k=if k=src - d then KN O key p src else if src - d<k/\k<=src then KN O key p (k - 1) else KN O key p k:=by
 have e:=getElem?_bubble hs d hd k
 by_cases h1:k=src - d
 ·rw [if_pos h1] at e ⊢; exact Ey e
 ·rw [if_neg h1] at e ⊢
  by_cases h2:src - d<k/\k<=src
  ·rw [if_pos h2] at e ⊢; exact Ey e
  ·rw [if_neg h2] at e ⊢; exact Ey e
theorem Gx{i j:Nat}(hj:j<=p.size)(k:Nat):KN O key (kas_rev p i j) k=if i<=k/\k<j then KN O key p (i+j - 1 - k) else KN O key p k:=by
 have e:=getElem?_mirror_all (i:=i) hj k
 unfold kas_rev
 by_cases h1:i<=k/\k<j
 ·rw [if_pos h1] at e ⊢; exact Ey e
 ·rw [if_neg h1] at e ⊢; exact Ey e
theorem BU{i j:Nat}(hj:j<=p.size)(heq:∀k,i<=k->k<j->KN O key p k=KN O key p (j - 1))(k:Nat):KN O key (kas_rev p i j) k=KN O key p k:=by
 rw [Gx hj]
 split
 ·rw [heq _ (by omega) (by omega),heq k (by omega) (by omega)]
 ·rfl
theorem Bn(p:Array Nat)(i j:Nat):(kas_rev p i j).Perm p:=mirror_perm _ _ _ _
theorem yes{α:Type}{T₁ T₂:KasT α}{Q:α->Shared->Prop}(h:T₁.kasWp cmp Q s):(if true=true then T₁ else T₂).kasWp cmp Q s:=by rw [if_pos rfl]; exact h
theorem no{α:Type}{T₁ T₂:KasT α}{Q:α->Shared->Prop}(h:T₂.kasWp cmp Q s):(if false=true then T₁ else T₂).kasWp cmp Q s:=by rw [if_neg (by simp)]; exact h
theorem NU(hC:T6 O key N cmp s)(hb:Bd N p){nrem:Nat}{G:Nat->Shared->Prop}:∀(f n:Nat),1<=n->n+f=nrem->Srt O key p n ->
  (∀m,n<=m->m<=nrem->Srt O key p m->(m=nrem\/O.klt (KN O key p m) (KN O key p (m - 1)))->G m s)->(kas_asc p f n).kasWp cmp G s
 | 0,n,_,e,hs,h=>h n (No _) (by omega) hs (.inl (by omega))
 | f+1,n,h1,e,hs,h=>by
  show cmp (p.getD n 0) (p.getD (n - 1) 0) (λc s'=>(if c=true then KasT.ret n else kas_asc p f (n+1)).kasWp cmp G s') s
  refine hC _ _ _ (hb.get n) (hb.get _) ?_
  cases hless:O.blt (key (p.getD n 0)) (key (p.getD (n - 1) 0)) with
  | true=>exact yes (h n (No _) (by omega) hs (.inr hless))
  | false =>
   refine no (NU hC hb f (n+1) (by omega) (by omega) (λi j hij hj=>?_) λm m1 m2 m3 m4=>h m (by omega) m2 m3 m4)
   by_cases hjx:j<n
   ·exact hs i j hij hjx
   ·have hj':j=n:=by omega
    subst hj'
    by_cases hi':i=j
    ·subst hi'; exact Y5 _
    ·exact aP (hs i (j - 1) (by omega) (by omega)) hless
theorem HZ(hC:T6 O key N cmp s){nrem:Nat}{G:Array Nat×Nat×Nat->Shared->Prop}:∀(f:Nat) (p:Array Nat) (n q:Nat),p.Perm p0->Bd N p->nrem<=p.size->1<=n->n+f=nrem->WR O key p n->q+1<=n ->
  (∀i,n - (q+1)<=i->i<n->KN O key p i=KN O key p (n - 1)) ->
  (∀p' m q',p'.Perm p0->Bd N p'->p'.size=p.size->n<=m->m<=nrem->WR O key p' m->q'+1<=m->(∀i,m - (q'+1)<=i->i<m->KN O key p' i=KN O key p' (m - 1))->G (p',m,q') s)->(kas_desc f p n q).kasWp cmp G s
 | 0,p,n,q,hp,hb,hz,h1,e,hs,hq,he,h=>h p n q hp hb rfl (No _) (by omega) hs hq he
 | f+1,p,n,q,hp,hb,hz,h1,e,hs,hq,he,h=>by
  show cmp (p.getD n 0) (p.getD (n - 1) 0) (λc s'=>(if c=true then (if q > 0 then kas_desc f (kas_rev p (n - (q+1)) n) (n+1) 0 else kas_desc f p (n+1) 0)
   else .ask (p.getD (n - 1) 0) (p.getD n 0) λd=>if d=true then .ret (p,n,q) else kas_desc f p (n+1) (q+1)).kasWp cmp G s') s
  refine hC _ _ _ (hb.get n) (hb.get _) ?_
  cases hless:O.blt (key (p.getD n 0)) (key (p.getD (n - 1) 0)) with
  | true =>
   have hl:O.klt (KN O key p n) (KN O key p (n - 1)):=hless
   have step1:∀xs:Array Nat,(∀k,KN O key xs k=KN O key p k)->WR O key xs (n+1):=by
    intro xs hk i j hij hj
    rw [hk,hk]
    by_cases hjx:j<n
    ·exact hs i j hij hjx
    ·have hj':j=n:=by omega
     subst hj'
     by_cases hi':i=j
     ·subst hi'; exact Y5 _
     ·exact aP (aK hl) (hs i (j - 1) (by omega) (by omega))
   refine yes ?_
   have hsz:n<=p.size:=by omega
   by_cases hq0:q > 0
   ·rw [if_pos hq0]
    refine HZ hC f _ (n+1) 0 ((Bn _ _ _).trans hp) (hb.perm (Bn _ _ _)) (by rw [kas_rev_size]; exact hz) (by omega) (by omega) (step1 _ (BU hsz he)) (by omega) (λi a b=>by congr 1; omega) λp' m q' a1 a2 a3 a4 a5 a6 a7 a8=>h p' m q' a1 a2 (a3.trans (kas_rev_size _ _)) (by omega) a5 a6 a7 a8
   ·rw [if_neg hq0]
    exact HZ hC f _ (n+1) 0 hp hb hz (by omega) (by omega) (step1 _ λ_=>rfl) (by omega) (λi a b=>by congr 1; omega) λp' m q' a1 a2 a3 a4 a5 a6 a7 a8=>h p' m q' a1 a2 a3 (by omega) a5 a6 a7 a8
  | false =>
   refine no ?_
   show cmp (p.getD (n - 1) 0) (p.getD n 0) (λd s'=>(if d=true then KasT.ret (p,n,q) else kas_desc f p (n+1) (q+1)).kasWp cmp G s') s
   refine hC _ _ _ (hb.get _) (hb.get n) ?_
   cases hlarger:O.blt (key (p.getD (n - 1) 0)) (key (p.getD n 0)) with
   | true=>exact yes (h p n q hp hb rfl (No _) (by omega) hs hq he)
   | false =>
    have heqx:KN O key p n=KN O key p (n - 1):=cL (O:=O) hlarger hless
    refine no (HZ hC f p (n+1) (q+1) hp hb hz (by omega) (by omega) (λi j hij hj=>?_) (by omega) (λi a b=>?_) λp' m q' a1 a2 a3 a4 a5 a6 a7 a8=>h p' m q' a1 a2 a3 (by omega) a5 a6 a7 a8)
    ·by_cases hjx:j<n
     ·exact hs i j hij hjx
     ·have hj':j=n:=by omega
      subst hj'
      by_cases hi':i=j
      ·subst hi'; exact Y5 _
      ·rw [heqx]; exact hs i (j - 1) (by omega) (by omega)
    ·rw [show n+1 - 1=n by omega]
     by_cases hix:i=n
     ·subst hix; rfl
     ·rw [heqx]; exact he i (by omega) (by omega)
theorem La(hC:T6 O key N cmp s){n nrem:Nat}{G:Nat×Array Nat->Shared->Prop}(hp:p.Perm p0)(hb:Bd N p)(hz:nrem<=p.size)(h1:1<=n)(hn:n<=nrem)(hs:WR O key p n)
  (h:∀m p',p'.Perm p0->Bd N p'->p'.size=p.size->1<=m->m<=nrem->Srt O key p' m->G (m,p') s):(kas_tail3 n nrem p).kasWp cmp G s:=by
 unfold kas_tail3
 rw [KasT.kasWp_bind]
 have hsz:n<=p.size:=by omega
 refine NU hC (hb.perm (Bn _ _ _)) (nrem - n) n h1 (by omega) (λi j hij hj=>?_) λm m1 m2 m3 _=>h m _ ((Bn _ _ _).trans hp) (hb.perm (Bn _ _ _)) (kas_rev_size _ _) (by omega) m2 m3
 rw [Gx hsz,Gx hsz,if_pos (by omega),if_pos (by omega)]
 exact hs _ _ (by omega) (by omega)
theorem G4(hC:T6 O key N cmp s){n nrem:Nat}{G:Nat×Array Nat->Shared->Prop}(hp:p.Perm p0)(hb:Bd N p)(hz:nrem<=p.size)(hn:n+1<=nrem)(hs:WR O key p (n+1))
  (h:∀m p',p'.Perm p0->Bd N p'->p'.size=p.size->1<=m->m<=nrem->Srt O key p' m->G (m,p') s):(kas_descPart n nrem p).kasWp cmp G s:=by
 unfold kas_descPart
 rw [KasT.kasWp_bind]
 refine HZ (p0:=p0) hC (nrem - (n+1)) p (n+1) 0 hp hb hz (by omega) (by omega) hs (by omega) (λi a b=>by congr 1; omega) λp' m q' a1 a2 a3 a4 a5 a6 a7 a8=>?_
 have hsz:m<=p'.size:=by omega
 show (if q' > 0 then kas_tail3 m nrem (kas_rev p' (m - (q'+1)) m) else kas_tail3 m nrem p').kasWp cmp G s
 by_cases hq0:q' > 0
 ·rw [if_pos hq0]
  refine La hC ((Bn _ _ _).trans a1) (a2.perm (Bn _ _ _)) (by rw [kas_rev_size]; omega) (by omega) a5 (λi j hij hj=>?_) λm' p'' b1 b2 b3 b4 b5 b6=>h m' p'' b1 b2 (b3.trans ((kas_rev_size _ _).trans a3)) b4 b5 b6
  rw [BU hsz a8,BU hsz a8]
  exact a6 i j hij hj
 ·rw [if_neg hq0]
  exact La hC a1 a2 (by omega) (by omega) a5 a6 λm' p'' b1 b2 b3 b4 b5 b6=>h m' p'' b1 b2 (b3.trans a3) b4 b5 b6
theorem RJ(hC:T6 O key N cmp s){nrem:Nat}{G:Nat×Array Nat->Shared->Prop}(hp:p.Perm p0)(hb:Bd N p)(hz:nrem<=p.size)(h1:1<=nrem)
  (h:∀m p',p'.Perm p0->Bd N p'->p'.size=p.size->1<=m->m<=nrem->Srt O key p' m->G (m,p') s):(kas_count nrem p).kasWp cmp G s:=by
 unfold kas_count
 rw [KasT.kasWp_bind]
 refine NU (nrem:=nrem) hC hb (nrem - 1) 1 (No _) (by omega) (λi j hij hj=>by have:i=j:=(by omega); subst this; exact Y5 _) λn hn1 hn2 hsn hor=>?_
 by_cases hnn:n=nrem
 ·rw [if_pos (by simpa using hnn)]
  exact h n p hp hb rfl hn1 hn2 hsn
 ·rw [if_neg (by simpa using hnn)]
  have hlt:O.klt (KN O key p n) (KN O key p (n - 1)):=hor.resolve_left hnn
  by_cases hgt:n > 1
  ·rw [if_pos hgt]
   show cmp (p.getD 0 0) (p.getD (n - 1) 0) (λc s'=>(if c=true then KasT.ret (n,p) else kas_descPart n nrem (kas_rev p 0 n)).kasWp cmp G s') s
   refine hC _ _ _ (hb.get _) (hb.get _) ?_
   cases hrose:O.blt (key (p.getD 0 0)) (key (p.getD (n - 1) 0)) with
   | true=>exact yes (h n p hp hb rfl hn1 hn2 hsn)
   | false =>
    have hrose':O.kle (KN O key p (n - 1)) (KN O key p 0):=hrose
    have hsz:n<=p.size:=by omega
    have hall:∀k,0<=k->k<n->KN O key p k=KN O key p (n - 1):=by
     intro k _ hk
     have a1:=hsn 0 k (by omega) hk
     have a2:=hsn k (n - 1) (by omega) (by omega)
     exact cL a2 (aP hrose' a1)
    refine no (G4 hC ((Bn _ _ _).trans hp) (hb.perm (Bn _ _ _)) (by rw [kas_rev_size]; exact hz) (by omega) (λi j hij hj=>?_) λm' p'' b1 b2 b3 b4 b5 b6=>h m' p'' b1 b2 (b3.trans (kas_rev_size _ _)) b4 b5 b6)
    rw [BU hsz hall,BU hsz hall]
    by_cases hjn:j<n
    ·rw [hall i (by omega) (by omega),hall j (by omega) hjn]; exact Y5 _
    ·have hj':j=n:=by omega
     subst hj'
     by_cases hi':i=j
     ·subst hi'; exact Y5 _
     ·rw [hall i (by omega) (by omega)]; exact aK hlt
  ·rw [if_neg hgt]
   have hn1':n=1:=by omega
   subst hn1'
   refine G4 hC hp hb hz (by omega) (λi j hij hj=>?_) h
   by_cases hi':i=j
   ·subst hi'; exact Y5 _
   ·have hi0:i=0:=by omega
    have hj1:j=1:=by omega
    subst hi0; subst hj1
    exact aK hlt
theorem IJ(hC:T6 O key N cmp s)(hb:Bd N p){k:Nat}(hs:Srt O key p k){G:Nat->Shared->Prop}
  (h:∀l,l<=k->(∀i,i<l->O.kle (KN O key p i) (KN O key p k))->(∀i,l<=i->i<k->O.klt (KN O key p k) (KN O key p i))->G l s):∀(f l r:Nat),l<=r->r<=k->r - l<=f ->
  (∀i,i<l->O.kle (KN O key p i) (KN O key p k))->(∀i,r<=i->i<k->O.klt (KN O key p k) (KN O key p i))->(kas_place p k f l r).kasWp cmp G s
 | 0,l,r,hlr,hrk,hm,hlo,hhi=>by
  have:l=r:=by omega
  subst this
  exact h l hrk hlo hhi
 | f+1,l,r,hlr,hrk,hm,hlo,hhi=>by
  unfold kas_place
  by_cases hge:l≥r
  ·rw [if_pos hge]
   have:l=r:=by omega
   subst this
   exact h l hrk hlo hhi
  ·rw [if_neg hge]
   show cmp (p.getD k 0) (p.getD ((l+r) / 2) 0) (λc s'=>(if c=true then kas_place p k f l ((l+r) / 2) else kas_place p k f ((l+r) / 2+1) r).kasWp cmp G s') s
   refine hC _ _ _ (hb.get _) (hb.get _) ?_
   cases hless:O.blt (key (p.getD k 0)) (key (p.getD ((l+r) / 2) 0)) with
   | true =>
    have hl:O.klt (KN O key p k) (KN O key p ((l+r) / 2)):=hless
    exact yes (IJ hC hb hs h f l ((l+r) / 2) (by omega) (by omega) (by omega) hlo λi h1 h2=>KeyOrd.klt_of_klt_of_kle hl (hs _ _ h1 h2))
   | false =>
    have hl:O.kle (KN O key p ((l+r) / 2)) (KN O key p k):=hless
    exact no (IJ hC hb hs h f ((l+r) / 2+1) r (by omega) (by omega) (by omega) (λi h1=>aP (hs i ((l+r) / 2) (by omega) (by omega)) hl) hhi)
theorem D1(hC:T6 O key N cmp s){n:Nat}{G:Array Nat->Shared->Prop}(h:∀p',p'.Perm p0->Srt O key p' n->G p' s):∀(f:Nat) (p:Array Nat) (k:Nat),p.Perm p0->Bd N p->n<=p.size->k+f=n->Srt O key p k->(kas_bin f p k).kasWp cmp G s
 | 0,p,k,hp,hb,hz,e,hs=>h p hp (by rw [← e]; exact hs)
 | f+1,p,k,hp,hb,hz,e,hs=>by
  rw [show kas_bin (f+1) p k=(kas_place p k k 0 k).bind λl=>kas_bin f (bubble p k (k - l)) (k+1) from rfl,KasT.kasWp_bind]
  refine IJ hC hb hs (λl hlk hlo hhi=>?_) k 0 k (YB _) (No _) (by omega) (λi hi=>by omega) λi a b=>by omega
  have hks:k<p.size:=by omega
  refine D1 hC h f _ (k+1) ((bubble_perm _ _ _).trans hp) (hb.perm (bubble_perm _ _ _)) (by rw [bubble_size]; exact hz) (by omega) λi j hij hj=>?_
  rw [KH hks (by omega),KH hks (by omega),show k - (k - l)=l by omega]
  by_cases hi1:i=l
  ·rw [if_pos hi1]
   by_cases hj1:j=l
   ·rw [if_pos hj1]; exact Y5 _
   ·rw [if_neg hj1,if_pos (by omega)]
    exact aK (hhi (j - 1) (by omega) (by omega))
  ·rw [if_neg hi1]
   by_cases hi2:l<i/\i<=k
   ·rw [if_pos hi2,if_neg (by omega),if_pos (by omega)]
    exact hs (i - 1) (j - 1) (by omega) (by omega)
   ·rw [if_neg hi2]
    by_cases hj1:j=l
    ·rw [if_pos hj1]; exact hlo i (by omega)
    ·rw [if_neg hj1]
     by_cases hj2:l<j/\j<=k
     ·rw [if_pos hj2]
      exact hs i (j - 1) (by omega) (by omega)
     ·rw [if_neg hj2]
      exact hs i j hij (by omega)
theorem sort_ok{n:Nat}(h1:1<=n)(hC:T6 O key n cmp s){G:Array Nat->Shared->Prop}(h:∀p,p.Perm (Yb (YN n))->Srt O key p n->G p s):(kas_sort n).kasWp cmp G s:=by
 unfold kas_sort
 rw [KasT.kasWp_bind]
 have hb:Bd n (Yb (YN n)):=⟨h1,λx hx=>by simpa using hx⟩
 have hsz:(Yb (YN n)).size=n:=by simp
 refine RJ hC (cT _) hb (by omega) h1 λm p' a1 a2 a3 a4 a5 a6=>?_
 show (if m<n then kas_bin (n - max m 1) p' (max m 1) else KasT.ret p').kasWp cmp G s
 by_cases hlt:m<n
 ·rw [if_pos hlt,show max m 1=m by omega]
  exact D1 (p0:=Yb (YN n)) hC h (n - m) p' m a1 a2 (by omega) (by omega) a6
 ·rw [if_neg hlt]
  exact h p' a1 (by rw [show n=m by omega]; exact a6)
end
end So
namespace L2
open PySem PySem.Spec PyProof.Rows PySem.W
noncomputable def Uc:Key->Key->Bool
 | .inl i,.inl j=>decide (i<j)
 | .inr x,.inr y=>decide (x.cps.toList<y.cps.toList)
 | .inl _,.inr _=>true
 | .inr _,.inl _=>false
noncomputable def B7:List Key->List Key->Bool
 | [],[]=>false
 | [],_::_=>true
 | _::_,[]=>false
 | x::xs,y::ys=>if x=y then B7 xs ys else Uc x y
theorem ND:∀x:Key,Uc x x=false
 | .inl i=>decide_eq_false (Int.lt_irrefl i)
 | .inr x=>decide_eq_false (Zx _)
theorem O8:∀x y z:Key,Uc x y=true->Uc y z=true->Uc x z=true
 | .inl i,.inl j,.inl k,h1,h2=>decide_eq_true (Int.lt_trans (of_decide_eq_true h1) (of_decide_eq_true h2))
 | .inr i,.inr j,.inr k,h1,h2=>decide_eq_true (List.lt_trans (of_decide_eq_true h1) (of_decide_eq_true h2))
 | .inl i,.inl j,.inr k,_,_=>rfl
 | .inl i,.inr j,.inr k,_,_=>rfl
 | .inl i,.inr j,.inl k,_,h=>by cases h
 | .inr i,.inl j,_,h,_=>by cases h
 | .inr i,.inr j,.inl k,_,h=>by cases h
theorem Jp:∀x y:Key,Uc x y=false->Uc y x=false->x=y
 | .inl i,.inl j,h1,h2=>congrArg aQ (by have a:=of_decide_eq_false h1; have b:=of_decide_eq_false h2; omega)
 | .inr x,.inr y,h1,h2=>by
  have a:=of_decide_eq_false h1
  have b:=of_decide_eq_false h2
  have e:x.cps.toList=y.cps.toList:=List.le_antisymm (as:=x.cps.toList) (bs:=y.cps.toList) b a
  obtain⟨u⟩:=x
  obtain⟨v⟩:=y
  exact congrArg YJ (congrArg Str.mk (Array.ext' e))
 | .inl i,.inr j,h,_=>by cases h
 | .inr i,.inl j,_,h=>by cases h
theorem Ef:∀x:List Key,B7 x x=false
 | []=>rfl
 | x::xs=>by unfold B7; rw [if_pos rfl]; exact Ef xs
theorem Dv:∀x y z:List Key,B7 x y=true->B7 y z=true->B7 x z=true
 | [],[],_,h,_=>by cases h
 | [],_::_,[],_,h=>by cases h
 | [],_::_,_::_,_,_=>rfl
 | _::_,[],_,h,_=>by cases h
 | _::_,_::_,[],_,h=>by cases h
 | x::xs,y::ys,z::zs,h1,h2=>by
  unfold B7 at h1 h2 ⊢
  by_cases e1:x=y
  ·subst e1
   rw [if_pos rfl] at h1
   by_cases e2:x=z
   ·subst e2
    rw [if_pos rfl] at h2 ⊢
    exact Dv xs ys zs h1 h2
   ·rw [if_neg e2] at h2 ⊢
    exact h2
  ·rw [if_neg e1] at h1
   by_cases e2:y=z
   ·subst e2
    rw [if_neg e1]
    exact h1
   ·rw [if_neg e2] at h2
    have h3:=O8 x y z h1 h2
    by_cases e3:x=z
    ·subst e3
     rw [ND] at h3
     cases h3
    ·rw [if_neg e3]
     exact h3
theorem Dw:∀x y:List Key,B7 x y=false->B7 y x=false->x=y
 | [],[],_,_=>rfl
 | [],_::_,h,_=>by cases h
 | _::_,[],_,h=>by cases h
 | x::xs,y::ys,h1,h2=>by
  unfold B7 at h1 h2
  by_cases e:x=y
  ·subst e
   rw [if_pos rfl] at h1 h2
   rw [Dw xs ys h1 h2]
  ·rw [if_neg e] at h1
   rw [if_neg (λz=>e z.symm)] at h2
   exact absurd (Jp x y h1 h2) e
noncomputable def SS:KeyOrd:=⟨List Key,B7,Ef,Dv,λa b c h=>by
 cases h1:B7 a b with
 | true=>exact .inl rfl
 | false =>
  cases h2:B7 b a with
  | true=>exact .inr (Dv b a c h2 h)
  | false=>rw [← Dw a b h1 h2]; exact .inr h,Dw⟩
theorem N3:∀x y:List Key,Bh x y=true->Gn x y=B7 x y
 | [],[],_=>rfl
 | [],_::_,_=>rfl
 | _::_,[],_=>rfl
 | x::xs,y::ys,h=>by
  have h':(Jl x y&&Bh xs ys)=true:=h
  rw [YA] at h'
  unfold Gn B7
  by_cases e:x=y
  ·rw [if_pos e,if_pos e]; exact N3 xs ys h'.2
  ·rw [if_neg e,if_neg e]
   cases x with
   | inl i=>cases y with
    | inl j=>rfl
    | inr z=>cases h'.1
   | inr i=>cases y with
    | inl j=>cases h'.1
    | inr z=>rfl
section
variable {prog:Program}{w:World}{A:Around}{E:Value->Shared->Prop}{s:Shared}
theorem Qj{b:Bool}{Q:Bool->Shared->Prop}{nx ny:Nat}:∀(ns ms:List Key) (us ws:List Value) (i:Nat),Vals (ns.map kOf) us->Vals (ms.map kOf) ws->Bh ns ms=true->ns.length+ny=ms.length+nx->Q (Gn ns ms) s ->
  KatLex prog w A b (decide (nx<ny)) Q (us.zip ws) i s
 | [],[],us,ws,i,h1,h2,_,hl,q=>by
  cases h1
  cases h2
  refine kat_nil ?_
  rw [show decide (nx<ny)=false from decide_eq_false (by simp only [Yr] at hl; omega)]
  exact q
 | [],m::ms,us,ws,i,h1,h2,_,hl,q=>by
  cases h1
  rw [List.zip_nil_left]
  refine kat_nil ?_
  rw [show decide (nx<ny)=true from decide_eq_true (by simp only [Yr,X5] at hl; omega)]
  exact q
 | n::ns,[],us,ws,i,h1,h2,_,hl,q=>by
  cases h2
  rw [List.zip_nil_right]
  refine kat_nil ?_
  rw [show decide (nx<ny)=false from decide_eq_false (by simp only [Yr,X5] at hl; omega)]
  exact q
 | n::ns,m::ms,us,ws,i,h1,h2,hs,hl,q=>by
  have hs':(Jl n m&&Bh ns ms)=true:=hs
  rw [YA] at hs'
  have q':Q (if n=m then Gn ns ms else Wf n m) s:=q
  cases h1 with
  | @cons _ u _ ur r1 t1 =>
   cases h2 with
   | @cons _ v _ vr r2 t2 =>
    rw [a9]
    have ih:n=m->KatLex prog w A b (decide (nx<ny)) Q (ur.zip vr) (i+1) s:=λe=>Qj ns ms ur vr (i+1) t1 t2 hs'.2 (by simp only [X5] at hl; omega) (by rw [if_pos e] at q'; exact q')
    cases n with
    | inl x =>
     cases m with
     | inr y=>cases hs'.1
     | inl y =>
      obtain⟨tu,rfl⟩:=r1
      obtain⟨tv,rfl⟩:=r2
      refine kat_cons (wpAny_eqBool_int ?_)
      by_cases e:x=y
      ·rw [show (x==y)=true by simpa using e]
       exact kat_yes (ih (by rw [e]))
      ·rw [show (x==y)=false by simpa using e]
       refine kat_no ?_
       rw [if_neg (λz=>e (Sum.inl.inj z))] at q'
       cases hf:(b&&i==0) with
       | true=>exact oneLt_int q'
       | false=>exact kat_one _ _ (bw (show PySem.W.BoolBack Q (.bool (decide (x<y))) s from q'))
    | inr x =>
     cases m with
     | inl y=>cases hs'.1
     | inr y =>
      obtain⟨tu,rfl⟩:=r1
      obtain⟨tv,rfl⟩:=r2
      refine kat_cons (wpAny_eqBool_str ?_)
      by_cases e:x=y
      ·rw [show decide (x=y)=true by simpa using e]
       exact kat_yes (ih (by rw [e]))
      ·rw [show decide (x=y)=false by simpa using e]
       refine kat_no ?_
       rw [if_neg (λz=>e (Yx z))] at q'
       cases hf:(b&&i==0) with
       | true=>exact oneLt_str q'
       | false=>exact kat_one _ _ (PySem.P.lt_str (show PySem.W.BoolBack Q (.bool (decide (x.cps.toList<y.cps.toList))) s from q'))
structure OX (h:Heap) (ks:List Value) (keys:List (List Key)):Prop where
 at_:∀(i:Nat) (ns:List Key),keys[i]?=some ns->∃a o its n,ks[i]?=some (.ref a)/\h.get? a=some o/\o.cls=.type "tuple"/\o.data=.seq its n/\Vals (ns.map kOf) its.toList
 len:ks.length=keys.length
 same:∀x∈keys,∀y∈keys,Bh x y=true
 ne:∀x∈keys,x≠[]
noncomputable def WZ:Key->String
 | .inl _ => "int"
 | .inr _ => "str"
theorem firsts{h:Heap}:∀(ks:List Value) (keys:List (List Key)) (T:String),ks.length=keys.length->(∀(i:Nat) (ns:List Key),keys[i]?=some ns->∃a o its n,ks[i]?=some (.ref a)/\h.get? a=some o/\o.cls=.type "tuple"/\o.data=.seq its n/\Vals (ns.map kOf) its.toList) ->
  (∀x∈keys,∃k r,x=k::r/\WZ k=T)->∃fs:List Value,KatTups h ks fs/\fs.length=keys.length/\∀v∈fs,typeOf v=pure (.type T)
 | [],[],T,_,_,_=>⟨[],trivial,rfl,λv hv=>by cases hv⟩
 | [],_::_,T,hl,_,_=>by cases hl
 | _::_,[],T,hl,_,_=>by cases hl
 | k::ks,x::keys,T,hl,h1,h2=>by
  obtain⟨fs,g1,g2,g3⟩:=firsts ks keys T (by simpa using hl) (λi ns e=>by
   obtain⟨a,o,its,n,e1,r⟩:=h1 (i+1) ns (by simpa using e)
   exact⟨a,o,its,n,by simpa using e1,r⟩) λy hy=>h2 y (Sc _ hy)
  obtain⟨a,o,its,n,e1,e2,e3,e4,e5⟩:=h1 0 x rfl
  have e1:k=.ref a:=by simpa using e1
  subst e1
  obtain⟨k,r,rfl,hk⟩:=h2 x Op
  rw [X6] at e5
  cases hits:its.toList with
  | nil=>rw [hits] at e5; cases e5
  | cons f tl =>
   rw [hits] at e5
   cases e5 with
   | cons r1 r2 =>
    refine⟨f::fs,KatTups.cons e2 e3 e4 (by rw [← aS,hits]; rfl) g1,by rw [X5,X5,g2],λv hv=>?_⟩
    rcases X_.mp hv with rfl | hv
    ·cases k with
     | inl i=>obtain⟨t,rfl⟩:=r1; subst hk; rfl
     | inr i=>obtain⟨t,rfl⟩:=r1; subst hk; rfl
    ·exact g3 v hv
theorem Oc{ks:List Value}{keys:List (List Key)}(K:OX s.heap ks keys)(h2:2<=ks.length){G:Array Nat->Shared->Prop}(h:∀p,p.Perm (Yb (YN ks.length))->So.Srt SS (λi=>keys.getD i []) p ks.length->G p s) :
  wpAny (model prog w) A (keyKind' ks.toArray) (λκ s'=>(kas_sort ks.length).kasWp (kas_ask prog w A κ ks) G s') (λ_ _=>False) s:=by
 obtain⟨x0,xr,hx⟩:∃x0 xr,keys=x0::xr:=by
  cases e:keys with
  | nil=>have:=K.len; rw [e] at this; simp only [Yr] at this; omega
  | cons x r=>exact⟨x,r,rfl⟩
 have m0:x0∈keys:=by rw [hx]; exact Op
 obtain⟨k0,r0,e0⟩:∃k r,x0=k::r:=by
  cases e:x0 with
  | nil=>exact absurd e (K.ne x0 m0)
  | cons k r=>exact⟨k,r,rfl⟩
 have hty:∀x∈keys,∃k r,x=k::r/\WZ k=WZ k0:=λx hm=>by
  cases e:x with
  | nil=>exact absurd e (K.ne x hm)
  | cons k r =>
   refine⟨k,r,rfl,?_⟩
   have hsm:=K.same x hm x0 m0
   rw [e,e0] at hsm
   have hsm:(Jl k k0&&Bh r r0)=true:=hsm
   rw [YA] at hsm
   cases k with
   | inl i=>cases k0 with
    | inl j=>rfl
    | inr j=>cases hsm.1
   | inr i=>cases k0 with
    | inl j=>cases hsm.1
    | inr j=>rfl
 obtain⟨fs,g1,g2,g3⟩:=firsts ks keys (WZ k0) K.len K.at_ hty
 refine kat_kind g1 (by rw [g2,← K.len]; omega) (λv hv=>by rw [g3 v hv]; exact Looks.now) (by simp) ?_
 refine So.sort_ok (O:=SS) (key:=λi=>keys.getD i []) (by omega) (λi j C hi hj hC=>?_) h
 have hi':i<keys.length:=by rw [← K.len]; exact hi
 have hj':j<keys.length:=by rw [← K.len]; exact hj
 obtain⟨a,o,its,n,e1,e2,e3,e4,e5⟩:=K.at_ i keys[i] (FM hi')
 obtain⟨a',o',its',n',e1',e2',e3',e4',e5'⟩:=K.at_ j keys[j] (FM hj')
 unfold kas_ask
 rw [show ks.getD i YM=.ref a by rw [X8,e1]; rfl,show ks.getD j YM=.ref a' by rw [X8,e1']; rfl]
 have hsm:=K.same _ (ZL hi') _ (ZL hj')
 refine kat_lt e2 e4 e2' e4' (Qj keys[i] keys[j] _ _ 0 e5 e5' hsm ?_ ?_)
 ·have l1:=e5.length
  have l2:=e5'.length
  have l3:(keys[i].map kOf).length=keys[i].length:=Db ..
  have l4:(keys[j].map kOf).length=keys[j].length:=Db ..
  have l5:its.toList.length=its.size:=YY
  have l6:its'.toList.length=its'.size:=YY
  omega
 ·rw [N3 _ _ hsm]
  have g1:keys.getD i []=keys[i]:=by rw [X8,FM hi']; rfl
  have g2:keys.getD j []=keys[j]:=by rw [X8,FM hj']; rfl
  have hC':C (B7 (keys.getD i []) (keys.getD j [])) s:=hC
  rw [g1,g2] at hC'
  exact hC'
theorem Fp{v:Value}{kw:List (Str×Value)}{Q:Value->Shared->Prop}(ha1:argsOk "sorted" ⟨[v],kw⟩)(ha2:∀x,argsOk "list.sort" ⟨[.ref x],kw⟩)
  (hc:wpAny (model prog w) A.in1 (collect v) (λvs s1=>vs.length<=sizeLine/\wpAny (model prog w) A.in1.in1 (Builtin.«list.sort» ⟨[.ref s1.heap.objs.size],kw⟩) (λfin s'=>fin=.done (.ret .none)/\Q (.ref s1.heap.objs.size) s') E { s1 with heap:=s1.heap.push (seqObj "list" vs.toArray 0) }) E s) :
  wpAny (model prog w) A (call (.builtin "sorted") [v] kw) Q E s:=by
 refine call_function_entry_kw kind_sorted plain_sorted entry_sorted ha1 ?_
 unfold Builtin.«sorted»
 refine Ch (m:=checkCount "sorted" 1 1 _) (Go ?_)
 refine Ch (Yl hc (λvs s1 h=>?_) λ_ _ x=>x)
 refine Ch (wpAny_newList ?_ h.1)
 have hoL:(s1.heap.push (seqObj "list" vs.toArray 0)).get? s1.heap.objs.size=some (seqObj "list" vs.toArray 0):=UF _ rfl
 refine Ch (Yp (wpAny_call_entry_kw PyProof.Rows.slot_list_sort ⟨_,hoL,rfl⟩ PyProof.Rows.entry_list_sort (Yl h.2 (λfin s' hf=>?_) λ_ _ x=>x) (ha2 _)))
 exact⟨_,hf.1,Go ⟨_,rfl,hf.2⟩⟩
noncomputable def Gy(h:Heap)(D:Addr)(vs:List Value):Heap:=((h.update D (Y7 λ_=>(#[]:Array Value))).push (seqObj "tuple" vs.toArray 0)).push (seqObj "list" #[] 0)
theorem Jk{h:Heap}{D:Addr}{vs:List Value}{b:Addr}{o:Obj}(hb:b≠D)(e:h.get? b=some o):(Gy h D vs).get? b=some o :=
 Ev _ (Ev _ ((ZN _ _ (Yq hb)).trans e))
theorem QF{h:Heap}{D:Addr}{vs:List Value}{n:Nat}(ho:h.get? D=some (seqObj "list" vs.toArray n)):∃e1,(Gy h D vs).get? D=some (seqObj "list" #[] e1)/\(h.update D (Y7 λ_=>(#[]:Array Value))).get? D=some (seqObj "list" #[] e1):=by
 obtain⟨e1,ho1⟩:∃e1,(h.update D (Y7 λ_=>(#[]:Array Value))).get? D=some (seqObj "list" #[] e1):=⟨_,bp ho λ_=>#[]⟩
 exact⟨e1,Ev _ (Ev _ ho1),ho1⟩
theorem L4{D:Addr}{vs:List Value}{n:Nat}{P:PySem.Fin->Shared->Prop}{G:Array Nat->Prop}(ho:s.heap.get? D=some (seqObj "list" vs.toArray n))(h64:vs.length<64)
  (hk:2<=vs.length->wpAny (model prog w) A (keyKind' vs.toArray) (λκ s'=>(kas_sort vs.length).kasWp (kas_ask prog w A κ vs) (λp s''=>s''={ s with heap:=Gy s.heap D vs }/\G p) s') (λ_ _=>False) { s with heap:=Gy s.heap D vs })
  (h1:vs.length<2->G (Yb (YN vs.length))) (hfin:∀(p:Array Nat) (h':Heap) (c:Nat),p.size=vs.length->G p->(∀b o,b≠D->s.heap.get? b=some o->h'.get? b=some o)->h'.get? D=some (seqObj "list" (Yb (p.toList.map λi=>vs.getD i YM)) c)->P (.done (.ret .none)) { s with heap:=h' }) :
  wpAny (model prog w) A (Builtin.«list.sort» ⟨[.ref D],[]⟩) P E s:=by
 obtain⟨e1,ho6,ho1⟩:=QF ho
 have fin:∀(p:Array Nat),p.size=vs.length->G p->P (.done (.ret .none)) { s with heap:=(Gy s.heap D vs).update D (Y7 λ_=>Yb (p.toList.map λi=>vs.getD i YM)) }:=λp hp hg=>by
  obtain⟨c2,hc2⟩:∃c2,((Gy s.heap D vs).update D (Y7 λ_=>Yb (p.toList.map λi=>vs.getD i YM))).get? D=some (seqObj "list" (Yb (p.toList.map λi=>vs.getD i YM)) c2):=⟨_,bp ho6 λ_=>Yb (p.toList.map λi=>vs.getD i YM)⟩
  exact hfin p _ c2 hp hg (λb o hb e=>(ZN _ _ (Yq hb)).trans (Jk hb e)) hc2
 rw [list_sort_plain]
 refine Ch (listItems_at ho rfl ?_)
 refine Ch (bM ho rfl ?_ (by rw [TM,Yj]; omega) (YB _))
 refine Ch (seqEpoch_at ho1 rfl ?_)
 refine Ch (wpAny_newTuple ?_ (by show vs.length<=_; rw [Yj]; omega))
 refine Ch (wpAny_newList ?_ (YB _))
 refine Yp ?_
 show wpAny (model prog w) A _ P E { s with heap:=Gy s.heap D vs }
 dsimp only
 by_cases h2:vs.length<2
 ·have h2':vs.toArray.size<2:=by rw [TM]; exact h2
  rw [if_pos h2',if_pos h2']
  refine Ch (Go ?_)
  rw [StateT.run_pure]
  refine Ch (Go ?_)
  dsimp only
  refine Ch (seqEpoch_at ho6 rfl ?_)
  have hsz:(Yb (YN vs.length)).size=vs.length:=by simp
  have hout:(arrOf (SortSt.mk' general' (vs.toArray.zip vs.toArray) #[] 7 none)).map (·.2)=Yb ((Yb (YN vs.length)).toList.map λi=>vs.getD i YM):=by
   refine kat_snds rfl ?_
   have e:=kas_range (vs.toArray.zip vs.toArray)
   rw [show (vs.toArray.zip vs.toArray).size=vs.length by simp] at e
   exact e.symm
  rw [hout]
  refine Ch (bM ho6 rfl ?_ (YB _) (by rw [TM,Db,YY,hsz,Yj]; omega))
  simp only [bne_self_eq_false,Yd,if_false]
  exact Go (fin _ hsz (h1 h2))
 ·have h2':¬vs.toArray.size<2:=by rw [TM]; exact h2
  rw [if_neg h2',if_neg h2']
  refine Ch (Yl (hk (by omega)) (λκ s0 hk=>?_) λ_ _ x=>x.elim)
  refine Ch (Yl (kat_run (Q:=λst' s'=>∃p:Array Nat,p.size=vs.length/\arrOf st'=p.map (kas_item (vs.toArray.zip vs.toArray))/\failedOf st'=none/\s'={ s with heap:=Gy s.heap D vs }/\G p)
   rfl (by omega) h64 (λp' st' s' a1 a2 a3 a4=>⟨p',a1,a2,a3,a4⟩) hk) ?_ λ_ _ e=>e)
  rintro ⟨⟨⟩,st'⟩ s' ⟨p,hp,har,hf,rfl,hg⟩
  dsimp only
  have hout:=kat_snds rfl har
  have hsz:(Yb (p.toList.map λi=>vs.getD i YM)).size=vs.length:=by rw [TM,Db,YY,hp]
  rw [hout]
  refine Ch (seqEpoch_at ho6 rfl ?_)
  refine Ch (bM ho6 rfl ?_ (YB _) (YH (bX hsz) (by rw [Yj]; omega)))
  rw [hf]
  simp only [bne_self_eq_false,Yd,if_false]
  exact Go (fin p hp hg)
end
section
variable {X:Cx}{pins:List (Addr×Obj)}{σ:L2.St}{H:Hp}{s:Shared}{h':Heap}
structure Xv (X:Cx) (pins:List (Addr×Obj)) (D:Addr):Prop where
 new:X.s₀.heap.objs.size<=D
 loc:D≠X.env.locals
 cell:∀x c,X.env.cells.lookup x=some c->c≠D
 pin:∀p∈X.pn++pins,p.1≠D
 fs:D∉X.fs
structure KeysAt (K:Frag) (H:Hp) (vs:List V) (keys:List (List Key)):Prop where
 len:vs.length=keys.length
 at_:∀(i:Nat) (ns:List Key),keys[i]?=some ns->∃a,vs[i]?=some (.ref a)/\SqT K H a (ns.map kOf)
 same:∀x∈keys,∀y∈keys,Bh x y=true
 ne:∀x∈keys,x≠[]
noncomputable def KG(keys:List (List Key))(ix:List Nat):Prop:=ix.Perm (YN keys.length)/\∀i j,i<=j->j<keys.length->B7 (keys.getD (ix.getD j 0) []) (keys.getD (ix.getD i 0) [])=false
theorem KeysAt.tups{vs:List V}{us:List Value}{keys:List (List Key)}(I:Inv X pins σ H s)(r:Vals vs us)(k:KeysAt X.K H vs keys){h':Heap}(hk:∀b o,s.heap.get? b=some o->h'.get? b=some o):OX h' us keys:=by
 refine⟨λi ns e=>?_,r.length.symm.trans k.len,k.same,k.ne⟩
 obtain⟨a,e1,h1⟩:=k.at_ i ns e
 obtain⟨u,e2,r2⟩:=r.get e1
 cases r2
 obtain⟨its,r3,⟨o,ho,hc,n,hd⟩,_⟩:=I.tuple h1
 exact⟨a,o,its.toArray,n,e2,hk a o ho,hc,hd,by rw [List.toList_toArray]; exact r3⟩
theorem Jg:∀{vs:List V} {us:List Value},Vals vs us->∀i:Nat,RelV (vs.getD i .non) (us.getD i YM)
 | _,_,.nil,i=>by simp [RelV]
 | _,_,.cons r t,0=>by simpa using r
 | _,_,.cons r t,i+1=>by simpa using Jg t i
theorem LS{f:Nat->V}{g:Nat->Value}(h:∀i,RelV (f i) (g i)):∀ix:List Nat,Vals (ix.map f) (ix.map g)
 | []=>.nil
 | i::ix=>.cons (h i) (LS h ix)
theorem getD_list(p:Array Nat)(i:Nat):p.getD i 0=p.toList.getD i 0:=by simp
theorem UU{keys:List (List Key)}{n:Nat}{p:Array Nat}(hn:keys.length=n)(h1:p.Perm (Yb (YN n)))(h2:So.Srt SS (λi=>keys.getD i []) p n):KG keys p.toList:=by
 subst hn
 refine⟨Array.perm_iff_toList_perm.mp h1,λi j hij hj=>?_⟩
 have h:=h2 i j hij hj
 unfold So.KN at h
 rw [getD_list,getD_list] at h
 exact h
theorem Jj{A':Around}{E':Value->Shared->Prop}{vs:List V}{us:List Value}{keys:List (List Key)}{Q:VK}(I:Inv X pins σ H s)(r:Vals vs us)(h64:vs.length<64)(k:KeysAt X.K H vs keys)
  (q:∀(ix:List Nat) (l:Addr),KG keys ix->H l=none->Q (.ref l) (BB H l (.lst (ix.map λi=>vs.getD i .non)))) :
  wpAny (model X.prog X.w) A' (Builtin.«list.sort» ⟨[.ref s.heap.objs.size],[]⟩) (λfin s'=>fin=.done (.ret .none)/\EP X pins σ Q (.ref s.heap.objs.size) s') E' { s with heap:=s.heap.push (seqObj "list" us.toArray 0) }:=by
 have hl:=r.length
 have hkl:keys.length=us.length:=k.len.symm.trans hl
 refine L4 (G:=λp=>p.Perm (Yb (YN us.length))/\So.Srt SS (λi=>keys.getD i []) p us.length) (n:=0) (UF _ rfl) (by omega) (λh2=>?_) (λh1=>⟨cT _,λi j hij hj=>?_⟩) (λp h' c hp hg hold hD=>⟨rfl,?_⟩)
 ·refine Oc (keys:=keys) (k.tups I r λb o e=>?_) h2 (λp a b=>⟨rfl,a,b⟩)
  exact Jk (YE (Tk e)) (Ev _ e)
 ·have:i=j:=by omega
  subst this
  exact Y5 _
 ·have hf:H s.heap.objs.size=none:=I.fresh
  have hix:(p.toList.map λi=>vs.getD i .non).length=us.length:=by rw [Db,YY,hp]
  refine⟨.ref s.heap.objs.size,BB H s.heap.objs.size (.lst (p.toList.map λi=>vs.getD i .non)),I.laid (t':=s.toks) (λb o e=>hold b o (YE (Tk e)) (Ev _ e)) (No _) ⟨by rw [hix,← hl,Yj]; omega,_,c,LS (Jg r) p.toList,hD⟩,rfl,q _ _ (UU hkl hg.1 hg.2) hf⟩
theorem ML{prog:Program}{w:World}{A:Around}{E:Value->Shared->Prop}{s:Shared}{l:Addr}{vs:List Value}{Q:List Value->Shared->Prop}(hl:IsTup s.heap l vs.toArray)
  (h:Q vs { s with heap:=(s.heap.push (seqObj "list" #[] 0)).update s.heap.objs.size (Y7 (·++vs.toArray)) }) (hsz:vs.length<=sizeLine) :
  wpAny (model prog w) A (collect (.ref l)) Q E s:=by
 obtain⟨o,ho,hc,n,hd⟩:=id hl
 unfold collect
 refine Ch (wpAny_runValue (Z8 entry_proto_collect' ?_))
 show wpAny _ _ (do again (.builtin "list.__iadd__" ⟨[← newList [],.ref l],[]⟩)) _ _ s
 refine Ch (wpAny_newList (Go ⟨Code.quiet_builtin _ (by decide +kernel),Z8 entry_list_iadd' ?_⟩))
 show wpAny _ _ (bB (.ref s.heap.objs.size) (.ref l) (.ref s.heap.objs.size)) _ _ { s with heap:=s.heap.push (seqObj "list" #[] 0) }
 unfold bB
 have ho':(s.heap.push (seqObj "list" #[] 0)).get? l=some o:=Ev _ ho
 refine Ch (aB (T := "tuple") ⟨o,ho',hc⟩ ?_)
 have ht:(bR "tuple"==bR "tuple")=true:=by rfl
 rw [if_pos (by rw [ht]; simp)]
 refine Ch (listItems_at ho' hd ?_)
 refine Ch (listItems_at (xs:=#[]) (n:=0) (UF _ rfl) rfl ?_)
 rw [if_neg (by simp)]
 refine Ch (bM (xs:=#[]) (n:=0) (UF _ rfl) rfl ?_ (YB _) (by show (#[]++vs.toArray).size<=sizeLine+1; simp only [Array.size_append,TM,Yr]; omega))
 refine Go ?_
 show wpAny (model prog w) A (do
   let o ← load s.heap.objs.size
   match o.data with
   | .seq xs _=>pure xs.toList
   | _=>unsupported "internal:collect") Q E { s with heap:=(s.heap.push (seqObj "list" #[] 0)).update s.heap.objs.size (Y7 (·++vs.toArray)) }
 refine Ch (wpAny_load (bp (UF _ rfl) _) ?_)
 show wpAny _ _ (pure ((#[]:Array Value)++vs.toArray).toList) Q E _
 rw [show ((#[]:Array Value)++vs.toArray).toList=vs by simp]
 exact Go h
theorem MM{h:Heap}{g:Array Value->Array Value}{b:Addr}{o:Obj}(e:h.get? b=some o):((h.push (seqObj "list" #[] 0)).update h.objs.size (Y7 g)).get? b=some o :=
 (ZN _ _ (Yq (YE (Tk e)))).trans (Ev _ e)
theorem RL{κ:Bool}{A':Around}{E':Value->Shared->Prop}{p:Addr}{vs:List V}{Q:List Value->Shared->Prop}(I:Inv X pins σ H s)(h:SqK κ X.K H p vs)(q:∀us s1,Vals vs us->vs.length<=sizeLine->Inv X pins σ H s1->Q us s1) :
  wpAny (model X.prog X.w) A' (collect (.ref p)) Q E' s:=by
 cases κ with
 | true =>
  obtain⟨its,r,pl,hz⟩:=I.list h
  exact collect_list pl.isList (q its _ r hz (I.kept (t':=s.toks) λb o e=>MM e)) (by rw [← r.length]; exact hz)
 | false =>
  obtain⟨its,r,pl,hz⟩:=I.tuple h
  exact ML pl (q its _ r hz (I.kept (t':=s.toks) λb o e=>MM e)) (by rw [← r.length]; exact hz)
noncomputable def QP(K:Frag):List V->Hp->VK->Prop:=λxs H Q=>∃(κ:Bool) (p:Addr) (vs:List V) (keys:List (List Key)),xs=[.ref p]/\SqK κ K H p vs/\vs.length<64/\KeysAt K H vs keys /\
 ∀(ix:List Nat) (l:Addr),KG keys ix->H l=none->Q (.ref l) (BB H l (.lst (ix.map λi=>vs.getD i .non)))
theorem NO:CC X (.builtin "sorted") (QP X.K):=by
 intro pins s σ H xs us Q I r h
 obtain⟨κ,p,vs,keys,rfl,hq,h64,hk,q⟩:=h
 obtain⟨u,rfl,rx⟩:=vals1 r
 cases rx
 refine Fp (kw:=[]) (args_sorted1 _) (λx=>args_list_sort _) (RL I hq λus s1 r1 hz I1=>⟨by rw [← r1.length]; exact hz,?_⟩)
 exact Jj I1 r1 h64 hk q
end
end L2
namespace L2
open PySem PySem.Spec PyProof.Rows
noncomputable def Sj(H:Hp)(L:List Addr)(f:Addr->Obj):Hp:=λb=>if b∈L then (H b).map (HO.frz (f b)) else H b
theorem MF{H:Hp}{L:List Addr}{f:Addr->Obj}{b:Addr}(h:b∉L):Sj H L f b=H b:=by unfold Sj; rw [if_neg h]
section
variable {X:Cx}{pins:List (Addr×Obj)}{σ:L2.St}{H:Hp}{s:Shared}
end
end L2
namespace Nt
open PySem PySem.Spec PyProof.Rows L2 Dp
noncomputable def W4(ts:List A0)(p:Str):List (Str×Int):=ts.flatMap λt=>(if t.a=p then [(t.b,t.len)] else [])++(if t.b=p then [(t.a,t.len)] else [])
structure Xy (H:Hp) (d:Addr) (as:List (Str×Addr)) (tb:Str->List (Key×V)) (H':Hp):Prop where
 old:∀b o,H b=some o->H' b=some o
 new:H d=none
 top:H' d=some (.dK (as.map λx=>(.inr x.1,.ref x.2)))
 inn:∀x∈as,H x.2=none/\x.2≠d/\H' x.2=some (.dK (tb x.1))
 ads:(as.map (·.2)).Nodup
 nms:(as.map (·.1)).Nodup
theorem Fu{xs:List Str}(h:rising xs):xs.Nodup:=h.imp λ{a b} hlt e=>by rw [e] at hlt; exact Zx _ hlt
end Nt
namespace L2
open PySem PySem.Spec PyProof.Rows PySem.W
section
variable {X:Cx}{pins:List (Addr×Obj)}{σ:L2.St}{H:Hp}{s:Shared}{h':Heap}
theorem Lu{α β:Type}{F:α->β->Prop}:∀{l₁:List α} {l₂:List β} {j:Nat} {a:α} {b:β},Paired F l₁ l₂->l₁[j]?=some a->l₂[j]?=some b->F a b
 | _,_,_,_,_,.nil,h,_=>by simp at h
 | _,_,0,_,_,.cons r t,h1,h2=>by
  have h1:=TW (by simpa using h1)
  have h2:=TW (by simpa using h2)
  subst h1 h2
  exact r
 | _,_,j+1,_,_,.cons r t,h1,h2=>Lu (j:=j) t (by simpa using h1) (by simpa using h2)
theorem Je:∀as:List Addr,Vals (as.map V.ref) (as.map YO)
 | []=>.nil
 | a::as=>.cons rfl (Je as)
end
end L2
namespace Dp
open PySem PySem.Spec PyProof.Rows L2
section
variable {X:Cx}{K:Frag}
noncomputable def Q3(ds:List D)(P:D->Prop):Prop:=match ds with
 | [.int i,.int j]=>P (.int (if j > i then j else i))
 | _=>False
noncomputable def N_(ds:List D)(P:D->Prop):Prop:=match ds with
 | [.int i,.int j]=>P (.int (if j<i then j else i))
 | _=>False
noncomputable def Q4(ds:List D)(P:D->Prop):Prop:=match ds with
 | [.int i]=>P (.int (if i<0 then -i else i))
 | _=>False
theorem VD:Cu K .sh (λxs H Q=>∃i j,xs=[.int i,.int j]/\Q (.int (if j > i then j else i)) H) Q3:=by
 intro U M H ds vs P Q dom vM hp w q
 unfold Q3 at w
 split at w
 ·rename_i i j
  cases hp with
  | cons r1 r2=>cases r2 with
   | cons r3 r4 =>
    cases r4
    cases r1.int
    cases r3.int
    exact⟨i,j,rfl,q _ H (.int _) .refl rfl w⟩
 ·exact w.elim
theorem RX:Cu K .sh (λxs H Q=>∃i j,xs=[.int i,.int j]/\Q (.int (if j<i then j else i)) H) N_:=by
 intro U M H ds vs P Q dom vM hp w q
 unfold N_ at w
 split at w
 ·rename_i i j
  cases hp with
  | cons r1 r2=>cases r2 with
   | cons r3 r4 =>
    cases r4
    cases r1.int
    cases r3.int
    exact⟨i,j,rfl,q _ H (.int _) .refl rfl w⟩
 ·exact w.elim
theorem Rb:Cu K .sh (λxs H Q=>∃i,xs=[.int i]/\Q (.int (if i<0 then -i else i)) H) Q4:=by
 intro U M H ds vs P Q dom vM hp w q
 unfold Q4 at w
 split at w
 ·rename_i i
  cases hp with
  | cons r1 r2 =>
   cases r2
   cases r1.int
   exact⟨i,rfl,q _ H (.int _) .refl rfl w⟩
 ·exact w.elim
end
noncomputable def Ie:D->Option (List Key)
 | .tup xs=>Ic xs
 | _=>none
noncomputable def MV(kf:D->Option (List Key))(xs:List D):Prop:=xs.Pairwise λa b=>∀ka kb,kf a=some ka->kf b=some kb->B7 kb ka=false
noncomputable def Keyed(kf:D->Option (List Key))(xs:List D):Prop:=(∀x∈xs,∃k,kf x=some k/\k≠[])/\∀x∈xs,∀y∈xs,∀ka kb,kf x=some ka->kf y=some kb->Bh ka kb=true
theorem range_getD(xs:List D):(YN xs.length).map (λi=>xs.getD i .non)=xs:=by
 apply List.ext_getElem
 ·simp
 ·intro i h1 h2
  simp [h2]
theorem SR{kf:D->Option (List Key)}{xs:List D}{keys:List (List Key)}{ix:List Nat}(hl:keys.length=xs.length)(hk:∀(i:Nat) (x:D),xs[i]?=some x->∃k,keys[i]?=some k/\kf x=some k)(h:KG keys ix) :
  (ix.map λi=>xs.getD i .non).Perm xs/\MV kf (ix.map λi=>xs.getD i .non):=by
 obtain⟨hp,hs⟩:=h
 constructor
 ·have:=hp.map λi=>xs.getD i D.non
  rw [hl,range_getD] at this
  exact this
 ·unfold MV
  rw [Z9]
  intro i j hi hj hij ka kb ea eb
  rw [bc] at ea eb
  rw [Db] at hi hj
  have il:ix.length=keys.length:=by rw [hp.length_eq,Yo]
  have g:∀i (h:i<ix.length) k,kf (xs.getD ix[i] .non)=some k->keys.getD (ix.getD i 0) []=k:=λi h k e=>by
   have hm:ix[i]<keys.length:=Yt.mp (hp.mem_iff.mp (ZL h))
   have hx:ix[i]<xs.length:=by rw [← hl]; exact hm
   obtain⟨k',e1,e2⟩:=hk ix[i] xs[ix[i]] (FM hx)
   have e3:xs.getD ix[i] .non=xs[ix[i]]:=by rw [X8,FM hx]; rfl
   rw [e3,e2] at e
   have e4:ix.getD i 0=ix[i]:=by rw [X8,FM h]; rfl
   rw [e4,X8,e1]
   exact TW e
  have:=hs i j (aA hij) (by rw [← il]; exact hj)
  rw [g i hi ka ea,g j hj kb eb] at this
  exact this
theorem Js{kf:D->Option (List Key)}:∀{xs:List D},(∀x∈xs,∃k,kf x=some k/\k≠[])->∃keys:List (List Key),keys.length=xs.length/\(∀(i:Nat) (x:D),xs[i]?=some x->∃k,keys[i]?=some k/\kf x=some k/\k≠[])
 | [],_=>⟨[],rfl,λi x e=>by simp at e⟩
 | x::xs,h=>by
  obtain⟨k,e1,e2⟩:=h x Op
  obtain⟨keys,l,g⟩:=Js (xs:=xs) λy hy=>h y (Sc _ hy)
  refine⟨k::keys,by rw [X5,X5,l],λi y e=>?_⟩
  cases i with
  | zero =>
   have e:x=y:=by simpa using e
   subst e
   exact⟨k,rfl,e1,e2⟩
  | succ i =>
   obtain⟨k',a,b⟩:=g i y (by simpa using e)
   exact⟨k',by simpa using a,b⟩
section
variable {K:Frag}{M:Addr->Prop}{H:Hp}
theorem Ats.getD:∀{ds:List D} {vs:List V},Ats K M H ds vs->∀i:Nat,At K M H (ds.getD i .non) (vs.getD i .non)
 | [],vs,h,i=>by cases (show vs=[] from h); simp [At]
 | d::ds,vs,h,0=>by
  obtain⟨v,r,e,h1,h2⟩:=h
  subst e
  simpa using h1
 | d::ds,vs,h,i+1=>by
  obtain⟨v,r,e,h1,h2⟩:=h
  subst e
  simpa using Ats.getD h2 i
theorem Ats.pick{ds:List D}{vs:List V}(h:Ats K M H ds vs):∀ix:List Nat,Ats K M H (ix.map λi=>ds.getD i .non) (ix.map λi=>vs.getD i .non)
 | []=>rfl
 | i::ix=>⟨_,_,rfl,h.getD i,Ats.pick h ix⟩
theorem PH{kf:D->Option (List Key)}{ds:List D}{vs:List V}{keys:List (List Key)}(hkf:∀d k v,d∈ds->kf d=some k->At K M H d v->∃a,v=.ref a/\SqT K H a (k.map kOf))(hs:Ats K M H ds vs)(hK:Keyed kf ds)(hl:keys.length=ds.length)(hk:∀(i:Nat) (x:D),ds[i]?=some x->∃k,keys[i]?=some k/\kf x=some k/\k≠[]):KeysAt K H vs keys:=by
 have from_:∀(i:Nat) (ns:List Key),keys[i]?=some ns->∃x,ds[i]?=some x/\kf x=some ns/\ns≠[]:=λi ns e=>by
  have hi:i<ds.length:=by rw [← hl]; exact(X4.mp e).1
  obtain⟨k,e1,e2,e3⟩:=hk i ds[i] (FM hi)
  rw [e] at e1
  cases e1
  exact⟨ds[i],FM hi,e2,e3⟩
 refine⟨hs.length.trans hl.symm,λi ns e=>?_,λx hx y hy=>?_,λx hx=>?_⟩
 ·obtain⟨d,e1,e2,_⟩:=from_ i ns e
  obtain⟨v,e3,h3⟩:=hs.get e1
  obtain⟨a,rfl,h4⟩:=hkf d ns v (YW e1) e2 h3
  exact⟨a,e3,h4⟩
 ·obtain⟨i,hi⟩:=Y_.mp hx
  obtain⟨j,hj⟩:=Y_.mp hy
  obtain⟨d,e1,e2,_⟩:=from_ i x hi
  obtain⟨d',e1',e2',_⟩:=from_ j y hj
  exact hK.2 d (YW e1) d' (YW e1') x y e2 e2'
 ·obtain⟨i,hi⟩:=Y_.mp hx
  obtain⟨d,e1,e2,e3⟩:=from_ i x hi
  exact e3
theorem PJ{d:D}{k:List Key}{v:V}(e:Ie d=some k)(h:At K M H d v):∃a,v=.ref a/\SqT K H a (k.map kOf):=by
 cases d with
 | tup xs =>
  obtain⟨a,vs,e1,hn,hs⟩:=h
  have:=F9 (show Ic xs=some k from e) hs
  subst this
  exact⟨a,e1,hn.sq⟩
 | _=>cases e
noncomputable def Q0(ds:List D)(P:D->Prop):Prop:=∃d xs,ds=[d]/\Oh d=some xs/\xs.length<64/\Keyed Ie xs/\∀xs':List D,xs'.Perm xs->MV Ie xs'->P (.lst xs')
theorem TJ:Cu K .fr (QP K) Q0:=by
 intro U M H ds vs P Q dom vM hp w q
 obtain⟨d,xs,rfl,e,h64,hK,w⟩:=w
 obtain⟨v,rfl,hx⟩:=Eb hp
 obtain⟨κ,a,us,rfl,hs,sq⟩:=Mj (U:=U) hx e (λ_ z=>z) vM
 obtain⟨keys,hl,hk⟩:=Js hK.1
 refine⟨κ,a,us,keys,rfl,sq M H (Pres.refl _ _) (Ext.refl _ _),by rw [hs.length]; exact h64,PH (λd k v _=>PJ) hs hK hl hk,λix l ho hn=>?_⟩
 obtain⟨o1,o2⟩:=SR (kf:=Ie) hl (λi x e=>by obtain⟨k,a,b,_⟩:=hk i x e; exact⟨k,a,b⟩) ho
 exact q _ _ (.lst (ix.map λi=>xs.getD i .non)) (A5 hn) (Cb hn (hs.pick ix)) (w _ o1 o2)
end
section
variable {X:Cx}{a e:Expr}{κa:Kd}{wa:DW}{pos p fp kp apos cpos:Pos}
noncomputable def XH:Key->D
 | .inl i=>.int i
 | .inr x=>.str x
noncomputable def F_:Key->Prop
 | .inl _=>True
 | .inr x=>x.length<=sizeLine
theorem U2{K:Frag}{M:Addr->Prop}{H:Hp}{k:Key}(h:F_ k):At K M H (XH k) (kOf k):=by
 cases k with
 | inl i=>exact rfl
 | inr x=>exact⟨rfl,h⟩
end
end Dp
namespace L2
open PySem PySem.Spec PyProof.Rows
section
open PySem.MeetsSeq
open PySem.AutoSeq1 (wpAny_loadPart')
end
section
variable {X:Cx}
end
end L2
namespace Dp
open PySem PySem.Spec PyProof.Rows L2
noncomputable def Pu(c:Ho)(wb:Af):Af:=λD2 n ρ=>∃W:Nat->Nat->List Slot->Prop,(∃m,W m n ρ)/\∀m n ρ,W m n ρ ->
 c n ρ λb n1=>if b=true then ∃N:Nat->List Slot->Prop,(∀n' ρ',N n' ρ'->∃m',m'<m/\W m' n' ρ')/\wb { D2 with nx:=N,ct:=N,bk:=D2.nx } n1 ρ else D2.nx n1 ρ
section
variable {X:Cx}{κ:Kd}{c:Expr}{body:List Stmt}{wc:Ho}{wb:Af}{pos:Pos}
theorem RA(hp:PassesOwn (model X.prog X.w) X.A X.env X.xe)(hc:DT X c wc)(hb:Pq X κ body wb):DS X κ (.While c body [] pos) (Pu wc wb):=by
 obtain⟨tc,c1,c2⟩:=hc
 obtain⟨tb,b1,b2⟩:=hb
 refine⟨_,QY hp c1 b1,λC M H n ρ σ D2 E R L w=>?_⟩
 obtain⟨W,⟨m0,w0⟩,turn⟩:=w
 refine⟨λm σ' H'=>∃M' n' ρ',Rel X.K C M' H' n' ρ' σ'/\W m n' ρ',⟨m0,M,n,ρ,R,w0⟩,?_⟩
 rintro m σ' H' ⟨M',n',ρ',R',w'⟩
 refine c2 C M' H' n' ρ' σ' _ _ R' (turn m n' ρ' w') λb H2 n2 e f p=>?_
 have R2:=R'.step e f
 cases b with
 | true =>
  rw [if_pos rfl] at p ⊢
  obtain⟨N,hN,p⟩:=p
  refine⟨λσ3 H3=>∃M3 n3 ρ3,Rel X.K C M3 H3 n3 ρ3 σ3/\N n3 ρ3,λσ3 H3 ⟨M3,n3,ρ3,R3,w3⟩=>?_,?_⟩
  ·obtain⟨m',hm,w4⟩:=hN n3 ρ3 w3
   exact⟨m',hm,M3,n3,ρ3,R3,w4⟩
  ·exact b2 C M' H2 n2 ρ' σ' { D2 with nx:=N,ct:=N,bk:=D2.nx } _ R2 ⟨λM4 H4 n4 ρ4 σ4 R4 w4=>⟨M4,n4,ρ4,R4,w4⟩,L.rt,λM4 H4 n4 ρ4 σ4 R4 w4=>L.nx M4 H4 n4 ρ4 σ4 R4 w4,λM4 H4 n4 ρ4 σ4 R4 w4=>⟨M4,n4,ρ4,R4,w4⟩⟩ p
 | false =>
  rw [if_neg (by decide)] at p ⊢
  exact L.nx M' H2 n2 ρ' σ' R2 p
end
section
variable {X:Cx}{κ:Kd}{tg:Expr}{body:List Stmt}{b:BW}{wb:Af}{pos p:Pos}{x:Str}{i:Nat}
end
end Dp
namespace Nt
open PySem PySem.Spec PyProof.Rows L2 Dp
noncomputable def VZ(s t:A0):Decidable (s=t) :=
 if h:s.a=t.a/\s.b=t.b/\s.len=t.len then .isTrue (by obtain⟨a,b,l⟩:=s; obtain⟨a',b',l'⟩:=t; obtain⟨h1,h2,h3⟩:=h; simp only at h1 h2 h3; subst h1 h2 h3; rfl) else .isFalse λe=>h (by rw [e]; exact⟨rfl,rfl,rfl⟩)
noncomputable instance:DecidableEq A0:=VZ
noncomputable abbrev EF(Pd:D->Nat->Prop):E2:={ nx:=λn _=>Kd.fr=.sh/\Pd .non n,rt:=Pd }
noncomputable def Vm(t:A0):List Key:=[.inl t.len,.inr t.a,.inr t.b]
noncomputable def U7(ts:List A0):Prop:=ts.Pairwise λs t=>B7 (Vm t) (Vm s)=false
theorem Nw{α:Type}{R:α->α->Prop}(anti:∀a b,R a b->R b a->a=b):∀{l1 l2:List α},l1.Perm l2->l1.Pairwise R->l2.Pairwise R->l1=l2
 | [],l2,p,_,_=>(List.nil_perm.mp p).symm
 | a::l1,[],p,_,_=>absurd (List.perm_nil.mp p) (List.cons_ne_nil _ _)
 | a::l1,b::l2,p,h1,h2=>by
  have e:a=b:=by
   rcases X_.mp (p.mem_iff.mp Op) with e | h
   ·exact e
   ·rcases X_.mp (p.mem_iff.mpr (Op (a:=b) (l:=l2))) with e | h'
    ·exact e.symm
    ·exact anti a b ((Yi.mp h1).1 b h') ((Yi.mp h2).1 a h)
  subst e
  rw [Nw anti ((List.perm_cons a).mp p) (Yi.mp h1).2 (Yi.mp h2).2]
theorem VW{α:Type}{f:α->D}{g:D->α}(hg:∀x,g (f x)=x){xs:List D}{ts:List α}(h:xs.Perm (ts.map f)):∃ts':List α,ts'.Perm ts/\xs=ts'.map f:=by
 refine⟨xs.map g,?_,?_⟩
 ·have:=h.map g
  rw [Ys,show g∘f=id from funext hg,b9] at this
  exact this
 ·rw [Ys]
  have:∀x∈xs,(f∘g) x=x:=λx hx=>by
   obtain⟨t,_,rfl⟩:=XV.mp (h.mem_iff.mp hx)
   show f (g (f t))=f t
   rw [hg]
  rw [Yf this,List.map_id']
noncomputable def XG:D->A0
 | .tup [.str a,.str b,.int l]=>⟨a,b,l⟩
 | _=>⟨"","",0⟩
section
variable {ss:List Slot}{n:Nat}{Pd:D->Nat->Prop}
theorem NB{N:Net}(ok:N.Ok){x:Str}{p:Str×Int}(h:p∈W4 N.ts x):p.1∈N.ps/\1<=p.2/\p.2<=1000000/\∃t∈N.ts,t.len=p.2/\((t.a=x/\t.b=p.1)\/(t.b=x/\t.a=p.1)):=by
 unfold W4 at h
 obtain⟨t,ht,h⟩:=Zf.mp h
 obtain⟨m1,m2,m3,m4,m5⟩:=ok.tin t ht
 rcases YI.mp h with h | h
 ·split at h
  ·rename_i e
   rw [X7.mp h]
   exact⟨m2,m4,m5,t,ht,rfl,.inl ⟨e,rfl⟩⟩
  ·cases h
 ·split at h
  ·rename_i e
   rw [X7.mp h]
   exact⟨m1,m4,m5,t,ht,rfl,.inr ⟨e,rfl⟩⟩
  ·cases h
theorem OB(s t:A0):Ei (Am s) (Am t)=true↔s=t:=by
 obtain⟨a,b,l⟩:=s
 obtain⟨a',b',l'⟩:=t
 show (a==a'&&(b==b'&&(l==l'&&true)))=true↔_
 rw [bL,YA,YA,beq_iff_eq,beq_iff_eq,beq_iff_eq]
 constructor
 ·rintro ⟨rfl,rfl,rfl⟩; rfl
 ·rintro h; cases h; exact⟨rfl,rfl,rfl⟩
theorem PD{xs:List D}(h:∀d∈xs,item d):B5 (.lst xs):=by
 have d1:JY xs<=1:=dps_le.mpr λd hd=>(h d hd).2.2
 exact Gp (B:=1000001) (by decide) (fines_iff.mpr λd hd=>(h d hd).1) (by show JY xs+1<=100; omega)
end
noncomputable def HD(t:A0):List Key:=[.inr t.a,.inr t.b,.inl t.len]
noncomputable def MQ(ts:List A0):Prop:=ts.Pairwise λs t=>B7 (HD t) (HD s)=false
noncomputable def VY(N:Net)(d:D):Prop:=∃s∈N.ts,d=Am s
noncomputable def Od(N:Net)(d:D):Bool:=@decide (VY N d) (Zk _)
theorem tofB_iff{N:Net}{d:D}:Od N d=true↔VY N d:=by
 unfold Od
 exact @decide_eq_true_iff _ (Zk _)
theorem Ts{a:Str}{x:D}(h:Ei (.str a) x=true):x=.str a:=by
 cases x with
 | str b =>
  have h:(a==b)=true:=h
  rw [eq_of_beq h]
 | _=>cases h
theorem PX{s:A0}{d:D}(h:Ei (Am s) d=true):∃z,d=.tup [.str s.a,.str s.b,z]/\∀i,z=.int i->i=s.len:=by
 cases d with
 | tup xs =>
  match xs,h with
  | [x,y,z],h =>
   have h:(Yn (toPy (.str s.a)) (toPy x)&&(Yn (toPy (.str s.b)) (toPy y)&&(Yn (.int s.len) (toPy z)&&true)))=true:=h
   rw [bL,YA,YA] at h
   refine⟨z,by rw [Ts (a:=s.a) (x:=x) h.1,Ts (a:=s.b) (x:=y) h.2.1],λi e=>?_⟩
   subst e
   have h3:(s.len==i)=true:=h.2.2
   exact(eq_of_beq h3).symm
  | [],h=>cases h
  | [x],h=>exact absurd h (by show ¬((Yn (toPy (.str s.a)) (toPy x)&&false)=true); simp)
  | [x,y],h=>exact absurd h (by show ¬((Yn (toPy (.str s.a)) (toPy x)&&(Yn (toPy (.str s.b)) (toPy y)&&false))=true); simp)
  | x::y::z::u::r,h=>exact absurd h (by show ¬((Yn (toPy (.str s.a)) (toPy x)&&(Yn (toPy (.str s.b)) (toPy y)&&(Yn (.int s.len) (toPy z)&&false)))=true); simp)
 | _=>cases h
theorem JX(s:A0):¬Ej s s:=by
 rintro (h | ⟨_,h⟩) <;> exact E8 _ h
theorem Rt{s t:A0}(h:Ej s t):B7 (HD s) (HD t)=true:=by
 show (if (YJ s.a:Key)=.inr t.a then (if (YJ s.b:Key)=.inr t.b then (if (aQ s.len:Key)=.inl t.len then false else decide (s.len<t.len)) else decide (cs s.b<cs t.b)) else decide (cs s.a<cs t.a))=true
 rcases h with h | ⟨h,h'⟩
 ·rw [if_neg (λe=>E8 s.a (by rw [Yx e] at h ⊢; exact h)),decide_eq_true h]
 ·rw [if_pos (by rw [h]),if_neg (λe=>E8 s.b (by rw [Yx e] at h' ⊢; exact h')),decide_eq_true h']
theorem Iq{ts:List A0}(h:ts.Pairwise Ej):ts.Nodup:=h.imp λ{s t} h e=>by rw [e] at h; exact JX _ h
theorem sub_len{l m:List A0}(hl:l.Nodup)(hm:m.Nodup)(h:∀t∈l,t∈m):l.length<=m.length:=by
 have:l.Perm (m.filter λt=>decide (t∈l)):=(List.perm_ext_iff_of_nodup hl (hm.filter _)).mpr λt=>by
  rw [ZQ,decide_eq_true_eq]
  exact⟨λz=>⟨h t z,z⟩,λz=>z.2⟩
 rw [this.length_eq]
 exact cD _ _
end Nt
namespace L2
open PySem PySem.Spec PyProof.Rows PySem.W
section
variable {X:Cx}
end
end L2
namespace Dp
open PySem PySem.Spec PyProof.Rows L2
section
variable {X:Cx}{K:Frag}
end
end Dp
namespace Nt
open PySem PySem.Spec PyProof.Rows L2 Dp
section
variable {ss:List Slot}{n:Nat}{Pd:D->Nat->Prop}
theorem F5{b:BW}{tt:Ho}{te:DW}{P:List D->Nat->Prop}(c:D->Bool)(g:D->D)(I:List Slot->Prop):∀(ds acc:List D) (n:Nat) (ρ:List Slot),
  (∀d∈ds,∀(ρ:List Slot) (n:Nat) (nx:D->Nat->List Slot->Prop) (sk:Nat->List Slot->Prop),I ρ->(∀ρ',I ρ'->c d=true->nx (g d) n ρ')->(∀ρ',I ρ'->c d=false->sk n ρ')->b d ρ λρ1=>tt n ρ1 λc n1=>if c=true then te n1 ρ1 λy n2=>nx y n2 ρ1 else sk n1 ρ1)->I ρ->P (acc++(ds.filter c).map g) n->D7 b tt te P ds acc n ρ
 | [],acc,n,ρ,_,_,h=>by rw [List.filter_nil,Zv,Yv] at h; exact h
 | d::ds,acc,n,ρ,ht,hρ,h=>ht d Op ρ n (λy n2 ρ1=>D7 b tt te P ds (acc++[y]) n2 ρ1) (λn2 ρ1=>D7 b tt te P ds acc n2 ρ1) hρ
  (λρ' hρ' hc=>F5 c g I ds (acc++[g d]) n ρ' (λd hd=>ht d (Sc _ hd)) hρ' (by rw [List.filter_cons_of_pos hc] at h; rw [Ym]; exact h))
  (λρ' hρ' hc=>F5 c g I ds acc n ρ' (λd hd=>ht d (Sc _ hd)) hρ' (by rw [List.filter_cons_of_neg (by rw [hc]; decide)] at h; exact h))
end
noncomputable def Rg:W2:=λss n P=>∃(N:Net) (d:D),ss=[.sh (E5 N),.sh d]/\N.Ok/\B5 d/\P (.bl (Od N d)) n
noncomputable def G7:Af:=(Ay (KL (Ag (HL false) (AD 1) (Ag BO (AD 0) (wC (D.int 1)))) (Ai JF (AC (AL (Ag BO (AD 1) (wC (D.int 2)))) Al))))
theorem SQ{ts:List A0}(h:MV Ie (ts.map Am)):MQ ts:=by
 unfold MV at h
 rw [List.pairwise_map] at h
 exact h.imp λ{s t} z=>z _ _ rfl rfl
theorem F7{N:Net}(ok:N.Ok){ts:List A0}(h:∀t∈ts,t∈N.ts):B5 (.tup (ts.map Am))/\B5 (.lst (ts.map Am)):=by
 have it:∀d∈ts.map Am,item d:=λd hd=>by
  obtain⟨t,ht,rfl⟩:=XV.mp hd
  exact CZ ok _ (XV.mpr ⟨t,h t ht,rfl⟩)
 have d1:JY (ts.map Am)<=1:=dps_le.mpr λd hd=>(it d hd).2.2
 exact⟨Gp (B:=1000001) (by decide) (fines_iff.mpr λd hd=>(it d hd).1) (by show JY (ts.map Am)+1<=100; omega),PD it⟩
theorem Br{N:Net}(ok:N.Ok){t:A0}(h:t∈N.ts):B5 (Am t):=by
 have it:=CZ ok _ (XV.mpr ⟨t,h,rfl⟩)
 exact Gp (B:=1000001) (by decide) it.1 (by have:=it.2.2; omega)
theorem B3{ts:List A0}{t:A0}:((ts.map Am).any λy=>Ei y (Am t))=decide (t∈ts):=by
 rw [ZC,Zg,decide_eq_true_eq]
 constructor
 ·rintro ⟨d,hd,e⟩
  obtain⟨s,hs,rfl⟩:=XV.mp hd
  rw [← (OB s t).mp e]
  exact hs
 ·intro h
  exact⟨Am t,XV.mpr ⟨t,h,rfl⟩,(OB t t).mpr rfl⟩
section
variable {ss:List Slot}{n:Nat}{Pd:D->Nat->Prop}
theorem Ki(h:Rg ss n Pd):G7 (EE Pd) n (ss++Re 0 .no):=by
 obtain⟨N,d,rfl,ok,hl,p⟩:=h
 unfold G7
 refine⟨_,AO (j:=1) rfl,hl,(F7 ok λ_ h=>h).1,_,rfl,?_⟩
 cases c:(N.ts.map Am).any λy=>Ei y d with
 | false =>
  have:Od N d=false:=by
   rw [bP]
   intro z
   obtain⟨s,hs,rfl⟩:=tofB_iff.mp z
   rw [B3,decide_eq_true hs] at c
   cases c
  rw [this] at p
  exact p
 | true =>
  obtain⟨e,he,q⟩:=Zg.mp c
  obtain⟨s,hs,rfl⟩:=XV.mp he
  obtain⟨z,rfl,hz⟩:=PX q
  refine⟨_,AO (j:=2) rfl,[z],rfl,rfl,?_⟩
  have:Od N (.tup [.str s.a,.str s.b,z])=Pt z:=by
   rw [ZC,tofB_iff]
   constructor
   ·rintro ⟨t,_,e⟩
    have e:z=.int t.len:=by injection e with e; injection e with _ e; injection e with _ e; injection e
    rw [e]
    rfl
   ·intro hw
    cases z with
    | int i=>exact⟨s,hs,by rw [hz i rfl]; rfl⟩
    | _=>cases hw
  rw [this] at p
  exact p
end
section
variable {ss:List Slot}{n:Nat}{Pd:D->Nat->Prop}
end
theorem P9{s t:A0}(h:HD s=HD t):s=t:=by
 obtain⟨a,b,l⟩:=s
 obtain⟨a',b',l'⟩:=t
 unfold HD at h
 simp only [List.cons.injEq,Sum.inl.injEq,Sum.inr.injEq,and_true] at h
 obtain⟨rfl,rfl,rfl⟩:=h
 rfl
theorem Md{l1 l2:List A0}(p:l1.Perm l2)(h1:MQ l1)(h2:MQ l2):l1=l2:=Nw (λa b x y=>P9 (Dw _ _ y x)) p h1 h2
theorem NR{ts:List A0}(h:ts.Pairwise Ej):MQ ts:=h.imp λ{s t} z=>by
 cases e:B7 (HD t) (HD s) with
 | false=>rfl
 | true =>
  have:=Dv _ _ _ (Rt z) e
  rw [Ef] at this
  cases this
noncomputable def Hf:W2:=λss n P=>∃l t b x:Int,ss=[.sh (.int l),.sh (.tup [.int t,.int b]),.sh (.int x)]/\1<=b/\b<=1000000/\1<=t/\t<=1000000/\P (.bl (decide (l*b<=x*t))) n
noncomputable def G6:Af:=(Ay (Ag PV (Ag DN (AD 0) (Ag BO (AD 1) (wC (D.int 1)))) (Ag DN (AD 2) (Ag BO (AD 1) (wC (D.int 0))))))
section
variable {ss:List Slot}{n:Nat}{Pd:D->Nat->Prop}
theorem XI{i j:Int}(h0:0<=j)(h1:j<=1000000):CMul i j:=.inr ⟨by omega,by omega⟩
theorem Kh(h:Hf ss n Pd):G6 (EE Pd) n (ss++Re 0 .no):=by
 obtain⟨l,t,b,x,rfl,b0,b1,t0,t1,p⟩:=h
 unfold G6
 exact⟨_,AO (j:=1) rfl,XI (by omega) b1,_,AO (j:=0) rfl,XI (by omega) t1,p⟩
end
end Nt
namespace L2
open PySem PySem.Spec PyProof.Rows PySem.W
section
variable {prog:Program}{w:World}{A:Around}{E:Value->Shared->Prop}{R:Result->Shared->Prop}{I:Addr}{fp wr:List Addr}{n:Nat}{P:Nat->Value->Prop}{St:Nat->Heap->Prop}
end
section
variable {X:Cx}
end
end L2
namespace Dp
open PySem PySem.Spec PyProof.Rows L2
end Dp
namespace L2
open PySem PySem.Spec PyProof.Rows
end L2
namespace Dp
open PySem PySem.Spec PyProof.Rows L2
section
variable {X:Cx}{a:Expr}{κa:Kd}{wa:DW}{els:List Expr}{j:Nat}{tpos apos cpos:Pos}
end
section
variable {K:Frag}{C:Fm}{M:Addr->Prop}{H H':Hp}{n n':Nat}{ρ:List Slot}{σ:L2.St}
end
theorem Jh:∀{ks:List Key} {ds:List D} {k:Key},ks.length=ds.length->k∈ks->∃z,Cv ks ds k=some z
 | [],ds,k,_,h=>by cases h
 | a::ks,[],k,h,_=>by cases h
 | a::ks,d::ds,k,hl,h=>by
  unfold Cv
  by_cases e:a=k
  ·exact⟨d,if_pos e⟩
  ·rw [if_neg e]
   exact Jh (by simpa using hl) ((X_.mp h).resolve_left λz=>e z.symm)
section
variable {X:Cx}{a b e:Expr}{κ κa κb:Kd}{wa wb:DW}{pos pos':Pos}
noncomputable def NG(neg:Bool)(d e:D)(P:D->Prop):Prop:=e=.non/\P (.bl (if neg then !MD d else MD d))
theorem RZ{K:Frag}:Fj K .sh (λx y H Q=>y=.non/\Q (.bl (decide (x=.non))) H) (NG false):=λU M H d e x y P Q dom vM hx hy w q=>by
 obtain⟨rfl,w⟩:=w
 exact⟨hy,q _ H (.bl (MD d)) .refl (by rw [MC hx]; rfl) w⟩
theorem NW{K:Frag}:Fj K .sh (λx y H Q=>y=.non/\Q (.bl (!decide (x=.non))) H) (NG true):=λU M H d e x y P Q dom vM hx hy w q=>by
 obtain⟨rfl,w⟩:=w
 exact⟨hy,q _ H (.bl (!MD d)) .refl (by rw [MC hx]; rfl) w⟩
variable {apos cpos:Pos}{f:Expr}{κf:Kd}{wf:DW}
end
end Dp
namespace L2
open PySem PySem.Spec PyProof.Rows
open AutoSeq1 (wpAny_loadPart')
section
variable {prog:Program}{w:World}{A:Around}{E:Value->Shared->Prop}{s:Shared}{I:Addr}{fp wr:List Addr}{G:Array GenState->Array GenState->Prop}{n:Nat}{P:Nat->Value->Prop}{St:Nat->Shared->Prop}
end
section
variable {X:Cx}{e:Expr}{te:TE}{p1 p2 q1 q2:Pos}
end
end L2
namespace Dp
open PySem PySem.Spec PyProof.Rows L2
section
variable {X:Cx}{a:Expr}{κa:Kd}{wa:DW}{p1 p2 q1 q2:Pos}
end
end Dp
namespace Nt
open PySem PySem.Spec PyProof.Rows L2 Dp
noncomputable def Ed(N:Net)(x y:Str)(l:Int):Prop:=(y,l)∈W4 N.ts x
inductive Wk (N:Net) (s:Str):Str->Int->Prop
 | nil:Wk N s s 0
 | snoc {x y:Str} {d l:Int}:Wk N s x d->Ed N x y l->Wk N s y (d+l)
noncomputable def OZ(N:Net)(s x:Str)(d:Int):Prop:=Wk N s x d/\∀d',Wk N s x d'->d<=d'
theorem Ed.pos{N:Net}(ok:N.Ok){x y:Str}{l:Int}(h:Ed N x y l):1<=l/\l<=1000000:=by
 obtain⟨_,h1,h2,_⟩:=NB ok h
 exact⟨h1,h2⟩
theorem Ed.ins{N:Net}(ok:N.Ok){x y:Str}{l:Int}(h:Ed N x y l):y∈N.ps:=(NB ok h).1
theorem Wk.pos{N:Net}(ok:N.Ok){s x:Str}{d:Int}(h:Wk N s x d):0<=d:=by
 induction h with
 | nil=>exact ZO _
 | snoc _ he ih=>have:=he.pos ok; omega
theorem Wk.ins{N:Net}(ok:N.Ok){s x:Str}{d:Int}(hs:s∈N.ps)(h:Wk N s x d):x∈N.ps:=by
 cases h with
 | nil=>exact hs
 | snoc _ he=>exact he.ins ok
theorem GC{N:Net}{t:A0}(ht:t∈N.ts):Ed N t.a t.b t.len/\Ed N t.b t.a t.len:=by
 constructor
 ·exact Zf.mpr ⟨t,ht,Yc _ (by rw [if_pos rfl]; exact X7.mpr rfl)⟩
 ·exact Zf.mpr ⟨t,ht,YC _ (by rw [if_pos rfl]; exact X7.mpr rfl)⟩
theorem Ed.tie{N:Net}(ok:N.Ok){x y:Str}{l:Int}(h:Ed N x y l):∃t∈N.ts,t.len=l/\((t.a=x/\t.b=y)\/(t.b=x/\t.a=y)):=by
 obtain⟨_,_,_,t,ht,e,h⟩:=NB ok h
 exact⟨t,ht,e,h⟩
structure XR (ks:List Key) (ds:List D) (E5:α->D) (F:Str->Option α):Prop where
 len:ks.length=ds.length
 at_:∀x:Str,Cv ks ds (.inr x)=(F x).map E5
 dom:∀k∈ks,∃x:Str,k=.inr x
 nd:ks.Nodup
noncomputable abbrev Wn:=Str->Option (Int×Option Str)
structure Dj (N:Net) (s:Str) (F:Wn) (Wt:List Str):Prop where
 start:F s=some (0,none)
 ins:∀x,F x≠none->x∈N.ps
 wk:∀x d p,F x=some (d,p)->Wk N s x d
 prev:∀x d p,F x=some (d,p)->(p=none/\x=s)\/∃y dy q l,p=some y/\F y=some (dy,q)/\y∉Wt/\Ed N y x l/\d=dy+l
 wfound:∀x∈Wt,F x≠none
 nd:Wt.Nodup
 done:∀x d p y l,F x=some (d,p)->x∉Wt->Ed N x y l->∃dy q,F y=some (dy,q)/\dy<=d+l
 near:∀x d p y dy q,F x=some (d,p)->x∉Wt->F y=some (dy,q)->y∈Wt->d<=dy
structure Dm (N:Net) (s:Str) (F:Wn) (Wt:List Str) (v:Str) (dv:Int) (seen:List (Str×Int)):Prop where
 start:F s=some (0,none)
 ins:∀x,F x≠none->x∈N.ps
 wk:∀x d p,F x=some (d,p)->Wk N s x d
 prev:∀x d p,F x=some (d,p)->(p=none/\x=s)\/∃y dy q l,p=some y/\F y=some (dy,q)/\y∉Wt/\Ed N y x l/\d=dy+l
 wfound:∀x∈Wt,F x≠none
 nd:Wt.Nodup
 done:∀x d p y l,F x=some (d,p)->x∉Wt->x≠v->Ed N x y l->∃dy q,F y=some (dy,q)/\dy<=d+l
 near:∀x d p y dy q,F x=some (d,p)->x∉Wt->F y=some (dy,q)->y∈Wt->d<=dy
 here:∃p,F v=some (dv,p)
 out:v∉Wt
 least:∀x d p,F x=some (d,p)->x∉Wt->d<=dv
 gone:∀y l,(y,l)∈seen->∃dy q,F y=some (dy,q)/\dy<=dv+l
structure Told (N:Net) (s:Str) (F:Wn):Prop where
 start:F s=some (0,none)
 ins:∀x,F x≠none->x∈N.ps
 least:∀x d p,F x=some (d,p)->OZ N s x d
 all:∀x d,Wk N s x d->F x≠none
 prev:∀x d p,F x=some (d,p)->(p=none/\x=s)\/∃y dy q l,p=some y/\F y=some (dy,q)/\Ed N y x l/\d=dy+l
noncomputable abbrev Kn:=Str->Option Int
structure Bf (N:Net) (s:Str) (c:Nat) (K:Kn):Prop where
 start:∃d,K s=some d/\d<=0
 ins:∀x,K x≠none->x∈N.ps
 wk:∀x d,K x=some d->Wk N s x d
 top:∀x d,K x=some d->d<=1000000*(c:Int)
structure Xg (N:Net) (s:Str) (K:Kn):Prop where
 ins:∀x,K x≠none->x∈N.ps
 least:∀x d,K x=some d->OZ N s x d
 all:∀x d,Wk N s x d->K x≠none
 top:∀x d,K x=some d->d<=30000000
noncomputable def walk(N:Net):List Str->Int->Prop
 | [],_=>False
 | [_],d=>d=0
 | x::y::r,d=>∃l e,Ed N x y l/\walk N (y::r) e/\d=l+e
noncomputable def okN(N:Net):Prop:=N.Ok/\N.ps.length<=25/\N.ts.length<=60
section
variable {ss:List Slot}{n:Nat}{Pd:D->Nat->Prop}
end
structure Xt (N:Net) (F:Wn) (b:Str) (db:Int) (acc:List Str) (pl:Option Str):Prop where
 st:(acc=[]/\pl=some b)\/∃z r dz,acc.reverse=z::r/\F z=some (dz,pl)/\walk N acc.reverse (db - dz)/\acc.reverse.getLast?=some b
 nd:acc.Nodup
 ins:∀x∈acc,x∈N.ps
 less:∀y dy q,pl=some y->F y=some (dy,q)->∀x∈acc,∃dx qx,F x=some (dx,qx)/\dy<dx
 fnd:∀y,pl=some y->F y≠none
section
variable {ss:List Slot}{n:Nat}{Pd:D->Nat->Prop}
end
section
variable {ss:List Slot}{n:Nat}{Pd:D->Nat->Prop}
end
theorem Cq{α β:Type}(f:α->β)(xs:List α)(lo hi:Option Int):Dp.cutD (xs.map f) lo hi=(Dp.cutD xs lo hi).map f:=by
 unfold Dp.cutD
 rw [Db,← List.map_drop,← List.map_take]
section
variable {ss:List Slot}{n:Nat}{Pd:D->Nat->Prop}
end
end Nt
namespace Dp
open PySem PySem.Spec PyProof.Rows L2
section
variable {X:Cx}{κ:Kd}{tg:Expr}{body:List Stmt}{b:BW}{wb:Af}{pos p:Pos}{x:Str}{i:Nat}
end
end Dp
namespace Nt
open PySem PySem.Spec PyProof.Rows L2 Dp
noncomputable def sub(N:Net)(kept:List A0):Net:=⟨N.ps,N.ts.filter λu=>decide (u∈kept)⟩
noncomputable def V4(N:Net)(t b:Int)(u:A0):Prop:=∃d,OZ N u.a u.b d/\d*b<=u.len*t
noncomputable def LM:W2:=λss n P=>∃(N:Net) (z:D) (ts:List A0),ss=[.sh (E5 N),.br z]/\Oh z=some (ts.map Am)/\ts.length<64/\∀ts':List A0,ts'.Perm ts->MQ ts'->P (E5 ⟨N.ps,ts'⟩) n
noncomputable def MT:Af:=(Ay (CS (AK (Ag BO (AD 0) (wC (D.int 0))) (AK (DC E3 (AK (DC Q0 (AK (Jc 1) Aj)) Aj)) Aj))))
theorem Wk.mono{N N':Net}(h:∀t∈N.ts,t∈N'.ts){s x:Str}{d:Int}(hw:Wk N s x d):Wk N' s x d:=by
 induction hw with
 | nil=>exact .nil
 | snoc _ he ih =>
  refine .snoc ih ?_
  obtain⟨t,ht,z⟩:=Zf.mp he
  exact Zf.mpr ⟨t,h t ht,z⟩
section
variable {ss:List Slot}{n:Nat}{Pd:D->Nat->Prop}
theorem Oo(h:LM ss n Pd):MT (EE Pd) n (ss++Re 0 .no):=by
 obtain⟨N,z,ts,rfl,hz,h64,p⟩:=h
 unfold MT
 refine⟨_,AO (j:=0) rfl,z,_,rfl,hz,by rw [Db]; exact h64,⟨λx hx=>?_,λx hx y hy ka kb ea eb=>?_⟩,λxs' hp ho=>?_⟩
 ·obtain⟨t,_,rfl⟩:=XV.mp hx
  exact⟨HD t,rfl,List.cons_ne_nil _ _⟩
 ·obtain⟨t,_,rfl⟩:=XV.mp hx
  obtain⟨u,_,rfl⟩:=XV.mp hy
  cases (show some (HD t)=some ka from ea)
  cases (show some (HD u)=some kb from eb)
  rfl
 ·obtain⟨ts',h1,rfl⟩:=VW (g:=XG) (λ_=>rfl) hp
  exact⟨z2,p ts' h1 (SQ ho)⟩
end
section
variable {ss:List Slot}{n:Nat}{Pd:D->Nat->Prop}
end
section
variable {ss:List Slot}{n:Nat}{Pd:D->Nat->Prop}
end
end Nt
namespace L2
open PySem PySem.Spec PyProof.Rows
open PySem.AutoSeq1 (wpAny_loadPart')
theorem Ru{prog:Program}{w:World}{A:Around}{R:Result->Shared->Prop}{s:Shared}(t:Addr)(items:Array Value)(n:Nat)(x:Value)(e:Value->Bool)(j:Nat)(hj:j<items.size)(hit:e items[j]=true)(hno:∀m (hm:m<items.size),m<j->e items[m]=false)
  (hl:s.heap.get? t=some { cls:=.type "tuple",dict:=none,data:=.seq items n,slots:=#[] }) (he:∀y,y∈items->PySem.SeqAt.EqAt A.in1 s y x (e y))
  (h:R (.ok (.ret (.int (j:Int) s.toks))) { s with toks:=s.toks+1 }) :
  wpAny (model prog w) A.in1 (Builtin.«tuple.index» ⟨[.ref t,x],[]⟩) (λfin s'=>match fin with | .done f=>R (.ok f) s' | .again c'=>c'.quiet=true/\codeAny (model prog w) A c' R s') (λe s'=>R (.error e) s') s:=by
 obtain⟨hp,g,d,tk,os⟩:=s
 wp_walk using bn hl
 have go:∀(Q:Option _×Unit->Shared->Prop) (E:Value->Shared->Prop),(∀r,Q (some r,()) ⟨hp,g,d,tk+1,os⟩\/True)->∀(k i:Nat),i<=j->i+k=items.size ->
   (∀r:Fin,r=.done (.ret (.int (j:Int) tk))->Q (some r,()) ⟨hp,g,d,tk+1,os⟩) ->
   wpAny (model prog w) A.in1 (forIn (List.range' i k 1) ((none:Option Fin),()) (fun(i:Nat) __s=>match items[i]? with
      | some y=>do
       let __do_lift ← eqBool y x
       if __do_lift=true then do
         let __do_lift ← retInt (i:Int)
         pure (ForInStep.done (some __do_lift,()))
        else pure (ZE (none,()))
      | x=>pure (ZE (none,())))) Q E ⟨hp,g,d,tk,os⟩:=by
  intro Q E _ k
  induction k with
  | zero=>intro i h1 h2; omega
  | succ k ih =>
   intro i h1 h2 hQ
   have hlt:i<items.size:=by omega
   rw [List.range'_succ,ZT]
   have hi:items[i]?=some items[i]:=Z_ hlt
   simp only [hi]
   refine Ch (Ch (he _ (Array.getElem_mem hlt) prog w _ _ ?_))
   by_cases c:i=j
   ·subst c
    rw [hit]
    wp_walk
    exact hQ _ rfl
   ·rw [hno i hlt (by omega)]
    wp_walk
    exact ih (i+1) (by omega) (by omega) hQ
 show wpAny (model prog w) A.in1 (forIn [:min items.size items.size] ((none:Option Fin),()) _) _ _ _
 rw [Std.Legacy.Range.forIn_eq_forIn_range']
 have er:List.range' (Std.Legacy.Range.start [:min items.size items.size]) (cE [:min items.size items.size]) (Std.Legacy.Range.step [:min items.size items.size])=List.range' 0 items.size 1:=by
  simp [cE]
 rw [er]
 refine go _ _ (λ_=>.inr trivial) items.size 0 (YB _) (Nat.zero_add _) λr er=>?_
 subst er
 exact Go h
section
variable {X:Cx}
noncomputable def SD:V->List V->Hp->VK->Prop:=λx vs H Q=>∃(a:Addr) (xs:List V) (y:V) (ds:List PyData) (d:PyData) (j:Nat),x=.ref a/\vs=[y]/\H a=some (.tup xs)/\RVs H ds xs/\RV H d y/\Y3 ds=true/\d.canLay0=true/\d.depth<=100 /\
 (∃dj,ds[j]?=some dj/\Yn dj d=true)/\(∀m dm,m<j->ds[m]?=some dm->Yn dm d=false)/\Q (.int (j:Int)) H
theorem IY{k:Nat}(hr:Room k X.A):Wl X "tuple.index" SD:=by
 intro pins s σ H x vs v us Q I rx rv h
 obtain⟨l,xs,y,ds,d,j,rfl,rfl,hH,hds,hd,c1,c2,dd,⟨dj,hj,hit⟩,hno,q⟩:=h
 cases rx
 obtain⟨u,rfl,ru⟩:=rv.one
 obtain⟨z,its,r,⟨⟨cls,dt,data,sl⟩,e,e2,n,e3,e4,e5⟩⟩:=(show ObjOk X.prog X.w H s.heap l (.tup xs) from I.hok l _ hH)
 simp only at e2 e3 e4 e5
 subst e2 e3 e4 e5
 obtain⟨as,ra⟩:=RVs.reads I hds r
 obtain⟨bs,rb⟩:=RV.reads I hd ru
 have hm:=PySem.SeqAt.readsAll_map ds its as c1 ra
 have hlen:ds.length=its.length:=by rw [← hm,Db]
 have hu:=hr.un
 have hmin:min (Ye ds) d.depth<=d.depth:=aM _ _
 have at_:∀m dm,ds[m]?=some dm->∀(h:m<its.toArray.size),PySem.SeqAt.readOf s.heap its.toArray[m]=dm:=λm dm e h=>by
  rw [← hm,On] at e
  have h':m<its.length:=by simpa using h
  rw [FM h'] at e
  have e:=TW e
  simpa using e
 have hjl:j<its.length:=by rw [← hlen]; exact(X4.mp hj).1
 have key:=Ru (prog:=X.prog) (w:=X.w) (A:=X.A) (R:=wants (EP X pins σ Q) X.xe) l its.toArray n u (λy=>Yn (PySem.SeqAt.readOf s.heap y) d) j (by rw [TM]; exact hjl) (by rw [at_ j dj hj]; exact hit) (λm hm' hlt=>by
  have hml:m<ds.length:=by rw [hlen]; simpa using hm'
  rw [at_ m ds[m] (FM hml) hm']
  exact hno m ds[m] hlt (FM hml)) e (PySem.SeqAt.items_eqAt (vs:=its.toArray) (by rw [List.toList_toArray]; exact ra) rb c1 c2 (by omega)) ⟨.int j,H,I.tok _,⟨_,rfl⟩,q⟩
 exact wpAny_call (codeAny_call_builtin PySem.F.slot_tuple_index.plain PySem.F.entry_tuple_index (PySem.F.slot_tuple_index.check _ _ _ _ _ _ _ _ ⟨_,e,rfl⟩ (PySem.F.args_tuple_index_2 _ _) key))
noncomputable def Va(r:V->List V->Hp->VK->Prop)(to:TE)(t:TA):TE:=λσ H Q=>to σ H λx H1=>(∃a xs,x=.ref a/\H1 a=some (.tup xs))/\t σ H1 λxs H2=>r x xs H2 Q
theorem IN{o e:Expr}{es:List Expr}{to:TE}{t:TA}{name:Str}{apos cpos:Pos}{id:String}{r:V->List V->Hp->VK->Prop}(slot:Slot "tuple" name id)(hty:typeOf (.builtin id)=pure (.type "method_descriptor"))(hm:Wl X id r)(ho:PE X o to)(ha:PA X (e::es) t)
  (hbase:autoParam (attributeBase o name X.env (eval o X.env)=eval o X.env) zau3._auto_1)
  (hfew:autoParam (((backTo cpos (starEach (e::es) X.env)).all (λx=>!x.1)&&(backToKw cpos (keywordEach [] X.env)).all (λx=>x.1.isSome)
   && decide ((e::es).length+([]:List Keyword).length+(if ([]:List Keyword).isEmpty then 0 else 1)<30))=true) zau3._auto_1)
  (hline:autoParam ((apos.endLine==cpos.line)=true) zau3._auto_1) (hs:autoParam (starEach (e::es) X.env=(false,eval e X.env)::starEach es X.env) zau3._auto_1) (hplain:autoParam ((backTo cpos (starEach es X.env)).any (·.1)=false) zau3._auto_1) :
  PE X (.Call (.Attribute o name apos) (e::es) [] cpos) (Va r to t):=by
 intro pins s σ H Q I h
 refine wpAny_Call_method_late hbase hfew hline rfl (BX (ho pins s σ H _ I h) λv s1 ⟨x,H1,I1,r1,⟨a,xs,ex,hx⟩,q1⟩=>?_)
 subst ex
 have ev:v=YO a:=r1
 subst ev
 obtain⟨z,its,_,o,e1,e2,n,e3,e4,e5⟩:=(show ObjOk X.prog X.w H1 s1.heap a (.tup xs) from I1.hok a _ hx)
 refine⟨"tuple",id,PySem.F.plainAttrs_tuple,slot,hty,⟨o,e1,e2⟩,λb eb=>by cases eb; exact⟨o,e1,e4⟩,?_⟩
 have hA:=ha cpos pins s1 σ H1 _ I1 q1
 rw [hs] at hA ⊢
 refine bz (by show (false||(backTo cpos (starEach es X.env)).any (·.1))=false; rw [hplain] <;> rfl) (cI ?_)
 exact BX hA λus s2 ⟨vs,H2,I2,r2,q2⟩=>hm pins s2 σ H2 (.ref a) vs (.ref a) us Q I2 r1 r2 q2
end
end L2
namespace Dp
open PySem PySem.Spec PyProof.Rows L2
section
variable {X:Cx}{κa:Kd}{a e:Expr}{es:List Expr}{wa:DW}{ws:EK}
noncomputable def WB(d:D)(ds:List D)(P:D->Prop):Prop:=∃(xs:List D) (y:D) (j:Nat),d=.tup xs/\ds=[y]/\B5 (.tup xs)/\B5 y/\(∃x,xs[j]?=some x/\Ei x y=true)/\(∀m x,m<j->xs[m]?=some x->Ei x y=false)/\P (.int (j:Int))
noncomputable def MY(wo:DW)(ws:EK):DW:=λn ρ P=>wo n ρ λd n1=>(∃xs,d=.tup xs)/\ws n1 ρ λds n2=>WB d ds λz=>P z n2
theorem WL{K:Frag}:Xu K .sh "tuple" SD WB:=by
 intro U M H d ds x vs P Q dom vM hx hp w q
 obtain⟨xs,y,j,rfl,rfl,⟨n1,l1,_⟩,⟨n2,l2,d2⟩,⟨x0,hx0,hit⟩,hno,w⟩:=w
 obtain⟨v,rfl,hy⟩:=Eb hp
 obtain⟨a,us,rfl,hn,hs⟩:=hx.tup
 have get:∀(m:Nat) (p:PyData),(BD xs)[m]?=some p->∃x,xs[m]?=some x/\p=toPy x:=λm p e=>by
  rw [CK,On] at e
  obtain⟨x,e1,rfl⟩:=YD.mp e
  exact⟨x,e1,rfl⟩
 refine⟨a,us,v,BD xs,toPy y,j,rfl,rfl,hn,hs.rv n1,hy.rv n2,l1,l2,d2,⟨toPy x0,by rw [CK,On,hx0]; rfl,hit⟩,λm p hm e=>?_,q _ H (.int (j:Int)) .refl rfl w⟩
 obtain⟨x',e1,rfl⟩:=get m p e
 exact hno m x' hm e1
theorem Gv{k:Nat}{apos cpos:Pos}(hr:Room k X.A)(ho:DE X a κa wa)(ha:TQ X (e::es) ws)
  (hbase:autoParam (attributeBase a "index" X.env (eval a X.env)=eval a X.env) zau3._auto_1)
  (hfew:autoParam (((backTo cpos (starEach (e::es) X.env)).all (λx=>!x.1)&&(backToKw cpos (keywordEach [] X.env)).all (λx=>x.1.isSome)
   && decide ((e::es).length+([]:List Keyword).length+(if ([]:List Keyword).isEmpty then 0 else 1)<30))=true) zau3._auto_1)
  (hline:autoParam ((apos.endLine==cpos.line)=true) zau3._auto_1) (hs:autoParam (starEach (e::es) X.env=(false,eval e X.env)::starEach es X.env) zau3._auto_1) (hplain:autoParam ((backTo cpos (starEach es X.env)).any (·.1)=false) zau3._auto_1) :
  DE X (.Call (.Attribute a "index" apos) (e::es) [] cpos) .sh (MY wa ws):=by
 obtain⟨t,h1,h2⟩:=ho
 obtain⟨u,g1,g2⟩:=ha
 refine⟨_,IN PySem.F.slot_tuple_index PySem.F.type_tuple_index (IY hr) h1 g1 hbase hfew hline hs hplain,λC M H n ρ σ P Q R w q=>?_⟩
 refine h2 C M H n ρ σ _ _ R w λx H1 d n1 e1 f1 r1 p=>?_
 have R1:=R.step e1 f1
 have tx:=r1.tpOf R.dom R.vM
 obtain⟨⟨xs,rfl⟩,p⟩:=p
 refine⟨by obtain⟨a,us,rfl,hn,hs⟩:=tx.tup; exact⟨a,us,rfl,hn⟩,?_⟩
 refine g2 C M H1 n1 ρ σ _ _ R1 p λvs H2 ds n2 e2 f2 r2 p2=>?_
 have R2':=R1.step e2 f2
 refine WL C.V M H2 (.tup xs) ds x vs _ _ R2'.dom R2'.vM (tx.pres (R1.pres e2) e2 R.uV) r2 p2 λv H3 z g vr pz=>?_
 exact q v H3 z n2 ((e1.trans e2).trans g.ext) (f2.grow g) (VR.back (e1.trans e2) vr) pz
end
end Dp
namespace L2
open PySem PySem.Spec PyProof.Rows PySem.W
theorem NI:mroOf (.type "dict")=pure [.type "dict",.type "object"]:=by rw [mroOf_type]; kernel_rfl
theorem Uy:typeLookup (.type "dict") "__new__"=pure (some (.builtin "dict.__new__")):=by rw [typeLookup_type,builtinLookup_eq_fast]; kernel_rfl
theorem dp_called:TypeCalled "dict" "dict.__new__" "dict.__init__" :=
 ⟨by decide +kernel,by decide +kernel,⟨_,_,NI⟩,madeBy_type NI Uy (by decide +kernel),by decide +kernel,by rw [isSubtype_type]; kernel_rfl,PySem.F.slot_dict_init⟩
theorem S5(a:Value):checkTypeCall "dict" ⟨[a],[]⟩=pure ():=by kernel_rfl
theorem S6(a:Value):checkBuiltinCall "dict.__new__" ⟨[.type "dict",a],[]⟩=pure ():=by kernel_rfl
theorem K9:entryFor table "dict.__new__"=some Builtin.«dict.__new__»:=entryFor_of_tree (by kernel_rfl)
theorem GD:plainId "dict.__new__"=true:=by decide +kernel
theorem FH:entryFor table "dict.update.loop"=some Builtin.«dict.update.loop»:=entryFor_of_tree (by kernel_rfl)
theorem B0:plainId "dict.update.loop"=true:=by decide +kernel
section
variable {prog:Program}{w:World}{A:Around}{E:Value->Shared->Prop}{s:Shared}
theorem MJ(a:Value){Q₁:Value->Shared->Prop}(h:Q₁ (.ref s.heap.objs.size) { s with heap:=s.heap.push { cls:=.type "dict",data:=.dict #[] } }) :
  codeAny (model prog w) A (.call (.builtin "dict.__new__") ⟨[.type "dict",a],[]⟩) (wants Q₁ E) s:=by
 refine codeAny_of_tree ?_
 show wpAny _ A.in1 (do checkBuiltinCall "dict.__new__" ⟨[.type "dict",a],[]⟩; again (.builtin "dict.__new__" ⟨[.type "dict",a],[]⟩)) _ _ s
 refine Ch (wpAny_of_eq (S6 a) (Go ⟨plainId_quiet GD _,Z8 K9 ?_⟩))
 rw [ae GD _]
 unfold Builtin.«dict.__new__»
 have hsub:=dp_called.sub
 have hmro:=NI
 obtain⟨hp,g,d,tk,os⟩:=s
 wp_walk
 exact h
end
section
variable {prog:Program}{w:World}{A:Around}{R:Result->Shared->Prop}{I:Addr}{fp wr:List Addr}{n:Nat}{P:Nat->Value->Prop}{St:Nat->Heap->Prop}{K:Type}[DecidableEq K]{knd:KeyKind prog w K}
theorem stored_new{kvs:List (K×Value)}{k:K}{v:Value}(h:k∉kvs.map (·.1)):stored kvs k v=kvs++[(k,v)]:=by
 unfold stored
 rw [if_neg]
 intro z
 obtain⟨p,hp,e⟩:=Zg.mp z
 exact h (XV.mpr ⟨p,hp,of_decide_eq_true e⟩)
end
section
variable {X:Cx}
end
end L2
namespace Dp
open PySem PySem.Spec PyProof.Rows L2
end Dp
namespace Nt
open PySem PySem.Spec PyProof.Rows L2 Dp
noncomputable def Pp:D->Bool
 | .int i=>decide (0<=i)
 | _=>false
noncomputable def VN(N:Net):D->Bool
 | .tup xs=>((xs.length:Int)==(N.ps.length:Int))&&xs.all Pp
 | _=>false
noncomputable def W1:D->Int
 | .int i=>i
 | _=>0
noncomputable def C4(N:Net)(xs:List D)(a:Str):Int:=W1 ((Cv (N.ps.map .inr) xs (.inr a)).getD .non)
noncomputable def Bk(i:Int):Int:=if i<0 then -i else i
noncomputable def FF(N:Net):D->Bool
 | .tup xs=>VN N (.tup xs)&&N.ts.all λt=>decide (Bk (C4 N xs t.a - C4 N xs t.b)<=t.len)
 | _=>false
noncomputable def Bi(m:Int):Option Int->Int
 | some d=>if d<m then d else m
 | none=>m
noncomputable def Hj:W2:=λss n P=>∃(N:Net) (d:D),ss=[.sh (E5 N),.sh d]/\okN N/\P (.bl (VN N d)) n
noncomputable def Rh:W2:=λss n P=>∃(N:Net) (xs:List D) (a b:Str),ss=[.sh (E5 N),.sh (.tup xs),.sh (.str a),.sh (.str b)]/\okN N/\xs.length=N.ps.length/\(∀x∈xs,Pp x=true)/\a∈N.ps/\b∈N.ps/\P (.int (Bk (C4 N xs a - C4 N xs b))) n
noncomputable def OW:W2:=λss n P=>∃(N:Net) (d:D),ss=[.sh (E5 N),.sh d]/\okN N/\P (.bl (FF N d)) n
noncomputable def FK:Af:=(Ay (KL (Ai Ci (AC (AL (DC C8 (AK (Ag BO (AD 0) (wC (D.int 0))) Aj))) (AC (AL (AD 1)) Al))) (DC Sx (AK (CU [none] (Bg (AD 1)) (A9 0) FR (KL (Ai JF (AC (AL (AD 0)) Al)) (Ag (f2 λi j=>D.bl (decide (j<=i))) (AD 0) (wC (D.int 0))))) Aj))))
noncomputable def GI:Af:=(Ay (DC Q4 (AK (Ag D8 (Ag BO (AD 1) (MY (Ag BO (AD 0) (wC (D.int 0))) (AK (AD 2) Aj))) (Ag BO (AD 1) (MY (Ag BO (AD 0) (wC (D.int 0))) (AK (AD 3) Aj)))) Aj)))
noncomputable def I_:Af:=(Ar (BZ (B9 (Ao (Ai Hj (AC (AL (AD 0)) (AC (AL (AD 1)) Al))))) (Ay (wC (D.bl false))) A6)
 (Ay (DC Sx (AK (CU [some 0,some 1,none,none,none] (Bg (Ag BO (AD 0) (wC (D.int 1)))) (RO 3 (By (A9 2) (By (A9 3) (By (A9 4) MS)))) FR (Ag PV (Ai Rh (AC (AL (AD 0)) (AC (AL (AD 1)) (AC (AL (AD 2)) (AC (AL (AD 3)) Al))))) (AD 4))) Aj))))
theorem Na:∀{ks:List Key} {ds:List D} {k:Key} {z:D},Cv ks ds k=some z->z∈ds
 | [],_,k,z,h=>by cases h
 | _::_,[],k,z,h=>by cases h
 | k0::ks,d::ds,k,z,h=>by
  have h':(if k0=k then some d else Cv ks ds k)=some z:=h
  split at h'
  ·cases h'; exact Op
  ·exact Sc _ (Na h')
theorem MZ:∀{ps:List Str} {xs:List D} {j:Nat} {a:Str},ps.Nodup->ps[j]?=some a->Cv (ps.map .inr) xs (.inr a)=xs[j]?
 | [],xs,j,a,_,h=>by simp at h
 | p::ps,[],j,a,_,h=>by simp; rfl
 | p::ps,x::xs,j,a,nd,h=>by
  rw [YX] at nd
  show (if (YJ p:Key)=.inr a then some x else Cv (ps.map .inr) xs (.inr a))=_
  cases j with
  | zero =>
   cases (show p=a by simpa using h)
   rw [if_pos rfl]
   rfl
  | succ j =>
   have h:ps[j]?=some a:=by simpa using h
   rw [if_neg λz=>nd.1 (by rw [Yx z]; exact YW h),MZ nd.2 h]
   simp
theorem ge_int{d:D}(h:Pp d=true):∃i,d=.int i/\0<=i:=by
 cases d with
 | int i=>exact⟨i,rfl,of_decide_eq_true h⟩
 | _=>cases h
theorem Ke{ps:List Str}(h:rising ps):ps.Nodup:=List.Pairwise.imp (λ{a b} z e=>by rw [e] at z; exact E8 _ z) h
theorem P7{N:Net}{xs:List D}(hl:xs.length=N.ps.length)(hg:∀x∈xs,Pp x=true){a:Str}(ha:a∈N.ps):Cv (N.ps.map .inr) xs (.inr a)=some (.int (C4 N xs a)):=by
 obtain⟨z,hz⟩:=Jh (ks:=N.ps.map .inr) (ds:=xs) (k:=.inr a) (by rw [Db]; exact hl.symm) (XV.mpr ⟨a,ha,rfl⟩)
 obtain⟨i,rfl,_⟩:=ge_int (hg z (Na hz))
 unfold C4
 rw [hz]
 rfl
section
variable {ss:List Slot}{n:Nat}{Pd:D->Nat->Prop}
theorem IG(h:Hj ss n Pd):FK (EE Pd) n (ss++Re 0 .no):=by
 obtain⟨N,d,rfl,okn,p⟩:=h
 have l25:=okn.2.1
 unfold FK
 refine⟨_,AO (j:=0) rfl,_,_,rfl,rfl,_,d,rfl,?_⟩
 cases d with
 | tup xs =>
  have p':Pd (.bl (((xs.length:Int)==(N.ps.length:Int))&&xs.all Pp)) n:=p
  rw [Db]
  refine VB (b1:=((xs.length:Int)==(N.ps.length:Int))) (λhb p2=>?_) p'
  have hl:xs.length=N.ps.length:=by have:=beq_iff_eq.mp hb; omega
  refine⟨by show xs.length<=10000000; omega,?_⟩
  refine Bc (λd=>.bl (Pp d)) (λρ=>∃s,ρ=[s]) _ _ _ _ ?_ ⟨_,rfl⟩ ?_
  ·rintro d hd ρ m nx ⟨s,rfl⟩ hnx
   refine⟨[d],rfl,rfl,?_⟩
   cases d with
   | int i=>exact hnx _ ⟨_,rfl⟩
   | _=>exact hnx _ ⟨_,rfl⟩
  ·rw [YQ]
   exact MG (p:=Pp) (P:=λz=>Pd z n) p2
 | _=>exact p
theorem JM(h:Rh ss n Pd):GI (EE Pd) n (ss++Re 0 .no):=by
 obtain⟨N,xs,a,b,rfl,okn,hl,hg,ha,hb,p⟩:=h
 have nd:=Ke okn.1.rise
 have hlay:B5 (.tup (N.ps.map .str)):=Gr okn.1.names
 have idx:∀{a:Str},a∈N.ps->∃j:Nat,N.ps[j]?=some a/\xs[j]?=some (.int (C4 N xs a))/\B5 (.str a)/\(∃x,(N.ps.map D.str)[j]?=some x/\Ei x (.str a)=true)/\∀(m:Nat) (x:D),m<j->(N.ps.map D.str)[m]?=some x->Ei x (.str a)=false:=λ{a} ha=>by
  obtain⟨j,hj⟩:=Y_.mp ha
  refine⟨j,hj,by rw [← MZ nd hj,P7 hl hg ha],?_,⟨.str a,by rw [On,hj]; rfl,by rw [E4,beq_self_eq_true]⟩,λm x hm hx=>?_⟩
  ·exact Gp (B:=0) (by decide) (λc hc=>by have:=(okn.1.names a ha).2.2 c hc; omega) (YB _)
  ·rw [On] at hx
   obtain⟨y,hy,rfl⟩:=YD.mp hx
   rw [E4,beq_eq_false_iff_ne]
   intro e
   subst e
   obtain⟨h1,e1⟩:=X4.mp hy
   obtain⟨h2,e2⟩:=X4.mp hj
   have:=(bV nd).mp (e1.trans e2.symm)
   omega
 obtain⟨i,i1,i2,i3,i4,i5⟩:=idx ha
 obtain⟨j,j1,j2,j3,j4,j5⟩:=idx hb
 unfold GI
 exact⟨_,AO (j:=0) rfl,⟨_,rfl⟩,_,_,i,rfl,rfl,hlay,i3,i4,i5,_,AO i2,_,AO (j:=0) rfl,⟨_,rfl⟩,_,_,j,rfl,rfl,hlay,j3,j4,j5,_,AO j2,p⟩
theorem Ll(h:OW ss n Pd):I_ (EE Pd) n (ss++Re 0 .no):=by
 obtain⟨N,d,rfl,okn,p⟩:=h
 have ok:=okn.1
 have l60:=okn.2.2
 unfold I_
 refine⟨N,d,rfl,okn,?_⟩
 show if (!(VN N d))=true then _ else _
 cases hp:VN N d with
 | false =>
  have:FF N d=false:=by
   cases d with
   | tup xs=>show (VN N (.tup xs)&&_)=false; rw [hp]; rfl
   | _=>rfl
  rw [this] at p
  exact Dx p
 | true =>
  cases d with
  | tup xs =>
   have hp':(((xs.length:Int)==(N.ps.length:Int))&&xs.all Pp)=true:=hp
   rw [YA] at hp'
   have hl:xs.length=N.ps.length:=by have:=beq_iff_eq.mp hp'.1; omega
   have hg:∀x∈xs,Pp x=true:=Y8.mp hp'.2
   have p':Pd (.bl (VN N (.tup xs)&&N.ts.all λt=>decide (Bk (C4 N xs t.a - C4 N xs t.b)<=t.len))) n:=p
   rw [hp,Yh] at p'
   refine Be ⟨_,AO (j:=1) rfl,by show (N.ts.map Am).length<=10000000; rw [Db]; omega,?_⟩
   refine Bc (λd=>match d with | .tup [.str a,.str b,.int l]=>.bl (decide (Bk (C4 N xs a - C4 N xs b)<=l)) | _=>.non) (λρ=>∃s2 s3 s4,ρ=[.sh (E5 N),.sh (.tup xs),s2,s3,s4]) _ _ _ _ ?_ ⟨_,_,_,rfl⟩ ?_
   ·rintro d hd ρ m nx ⟨s2,s3,s4,rfl⟩ hnx
    obtain⟨t,ht,rfl⟩:=XV.mp hd
    obtain⟨m1,m2,_⟩:=ok.tin t ht
    exact⟨rfl,rfl,N,xs,t.a,t.b,rfl,okn,hl,hg,m1,m2,hnx _ ⟨_,_,_,rfl⟩⟩
   ·rw [YQ,Ys]
    exact MG (p:=λt:A0=>decide (Bk (C4 N xs t.a - C4 N xs t.b)<=t.len)) (P:=λz=>Pd z n) p'
  | _=>cases hp
end
theorem U3{m:Int}(hm:0<=m){o:Option Int}(ho:∀d,o=some d->0<=d):0<=Bi m o/\Bi m o<=m:=by
 cases o with
 | none=>exact⟨hm,ZO _⟩
 | some d =>
  have:=ho d rfl
  show 0<=(if d<m then d else m)/\(if d<m then d else m)<=m
  split <;> omega
end Nt
set_option maxHeartbeats 400000
namespace Nt
open PySem PySem.Spec PyProof.Rows L2 Dp
inductive Ca where
 | en
 | fa (u:A0) (p:List Int)
 | sp (u:A0) (c d:Ca)
noncomputable def Ca.cnt:Ca->Nat
 | .sp _ c d=>1+c.cnt+d.cnt
 | _=>1
noncomputable def Ca.dep:Ca->Nat
 | .sp _ c d=>1+max c.dep d.dep
 | _=>1
noncomputable def Ca.D:Ca->D
 | .en=>.tup [.str "enough"]
 | .fa u p=>.tup [.str "far",Am u,.tup (p.map .int)]
 | .sp u c d=>.tup [.str "split",Am u,c.D,d.D]
noncomputable def Bw(N:Net)(gone:List A0):Net:=⟨N.ps,N.ts.filter λt=>decide (t∉gone)⟩
noncomputable def GB(N:Net)(t b:Int)(gone:List A0)(u:A0)(p:List Int):Bool:=FF (Bw N gone) (.tup (p.map .int))&&decide (u.len*t<Bk (C4 N (p.map .int) u.a - C4 N (p.map .int) u.b)*b)
noncomputable def Gb(N:Net)(t b:Int)(many:Nat):List A0->List A0->Ca->Bool
 | kept,_,.en=>decide (many<=kept.length)
 | _,gone,.fa u p=>decide (u∈N.ts)&&decide (u∈gone)&&GB N t b gone u p
 | kept,gone,.sp u c d=>decide (u∈N.ts)&&decide (u∉kept)&&decide (u∉gone)&&Gb N t b many (kept++[u]) gone c&&Gb N t b many kept (gone++[u]) d
noncomputable def Rj(N:Net)(t b:Int)(S:List A0):Prop:=∀u∈N.ts,∃d,Wk ⟨N.ps,S⟩ u.a u.b d/\d*b<=u.len*t
theorem HU{N:Net}(ok:N.Ok)(gone:List A0):(Bw N gone).Ok:=⟨ok.names,ok.rise,λt ht=>ok.tin t (ZQ.mp ht).1,ok.trise.sublist ao⟩
theorem TC(x y z l d:Int)(h1:Bk (x - y)<=d)(h2:Bk (y - z)<=l):Bk (x - z)<=d+l:=by
 unfold Bk at *
 split at h1 <;> split at h2 <;> split <;> omega
theorem TD(x y:Int):Bk (x - y)=Bk (y - x):=by
 unfold Bk
 split <;> split <;> omega
theorem Sn{M:Net}(ok:M.Ok){xs:List D}(h:FF M (.tup xs)=true){a c:Str}{d:Int}(w:Wk M a c d):Bk (C4 M xs a - C4 M xs c)<=d:=by
 have h2:=(YA _ _▸h:_/\_).2
 induction w with
 | nil=>rw [Int.sub_self]; decide
 | snoc _ he ih =>
  obtain⟨t,ht,rfl,hx⟩:=he.tie ok
  have hf:=of_decide_eq_true (Y8.mp h2 t ht)
  refine TC _ _ _ _ _ ih ?_
  rcases hx with ⟨rfl,rfl⟩ | ⟨rfl,rfl⟩
  ·exact hf
  ·rw [TD]; exact hf
theorem IW{N:Net}(ok:N.Ok){t b:Int}(hb:0<=b){many:Nat}{S:List A0}(hS:∀u∈S,u∈N.ts)(nS:S.Nodup)(hk:Rj N t b S):∀(c:Ca) (kept gone:List A0),(∀u∈kept,u∈S)->kept.Nodup->(∀u∈gone,u∉S)->Gb N t b many kept gone c=true->many<=S.length
 | .en,kept,gone,h1,h2,h3,h=>by
  have:=of_decide_eq_true h
  have:=sub_len h2 nS h1
  omega
 | .fa u p,kept,gone,h1,h2,h3,h=>by
  unfold Gb GB at h
  simp only [YA,decide_eq_true_eq] at h
  obtain⟨⟨hu,hg⟩,hf,hlt⟩:=h
  obtain⟨d,w,hd⟩:=hk u hu
  have w':Wk (Bw N gone) u.a u.b d:=w.mono λs hs=>ZQ.mpr ⟨hS s hs,decide_eq_true (show ¬s∈gone from λz=>h3 s z hs)⟩
  have hw:=Sn (HU ok gone) hf w'
  have e:∀x,C4 (Bw N gone) (p.map .int) x=C4 N (p.map .int) x:=λ_=>rfl
  rw [e,e] at hw
  have:=Zq hw hb
  omega
 | .sp u c d,kept,gone,h1,h2,h3,h=>by
  unfold Gb at h
  simp only [YA,decide_eq_true_eq] at h
  obtain⟨⟨⟨⟨hu,n1⟩,n2⟩,hc⟩,hd⟩:=h
  by_cases hs:u∈S
  ·refine IW ok hb hS nS hk c (kept++[u]) gone (λv hv=>?_) (ZX.mpr ⟨h2,YX.mpr ⟨YG,Yz⟩,λx hx y hy e=>?_⟩) h3 hc
   ·rcases YI.mp hv with z | z
    ·exact h1 v z
    ·rw [X7.mp z]; exact hs
   ·rw [X7.mp hy] at e
    exact n1 (e▸hx)
  ·refine IW ok hb hS nS hk d kept (gone++[u]) h1 h2 (λv hv=>?_) hd
   rcases YI.mp hv with z | z
   ·exact h3 v z
   ·rw [X7.mp z]; exact hs
inductive Made (N:Net) (t b:Int) (many:Nat):List A0->List A0->List A0->Ca->Prop
 | en {kept gone left:List A0}:many<=kept.length->Made N t b many kept gone left .en
 | fa {kept gone left:List A0} {u:A0} {p:List Int}:u∈gone->GB N t b gone u p=true->Made N t b many kept gone left (.fa u p)
 | no {kept gone:List A0}:(∀u∈gone,∃d,Wk (Bw N gone) u.a u.b d/\d*b<=u.len*t)->Made N t b many kept gone [] .en
 | sp {kept gone left rest:List A0} {u:A0} {c d:Ca}:left.Perm (u::rest)->Made N t b many (kept++[u]) gone rest c->Made N t b many kept (gone++[u]) rest d->Made N t b many kept gone left (.sp u c d)
theorem Made.dep{N:Net}{t b:Int}{many:Nat}{kept gone left:List A0}{c:Ca}(h:Made N t b many kept gone left c):c.dep<=left.length+1/\c.cnt+1<=2 ^ (left.length+1):=by
 induction h with
 | @en _ _ left _=>exact⟨aO (YB _),by have:=bq left.length; show 1+1<=_; rw [af]; omega⟩
 | @fa _ _ left _ _ _ _=>exact⟨aO (YB _),by show 1+1<=_; rw [af]; have:=bq left.length; omega⟩
 | no _=>exact⟨No _,No _⟩
 | sp hp _ _ ih1 ih2 =>
  have e:=hp.length_eq
  rw [X5] at e
  rw [e]
  obtain⟨a1,a2⟩:=ih1
  obtain⟨b1,b2⟩:=ih2
  refine⟨?_,?_⟩
  ·show 1+max _ _<=_
   omega
  ·show 1+_+_+1<=_
   rw [af]
   omega
theorem Made.shows{N:Net}(ok:N.Ok){t b:Int}(h0:0<=b)(hbt:b<=t){many:Nat}(hm:∀S:List A0,S.Sublist N.ts->Rj N t b S->many<=S.length){kept gone left:List A0}{c:Ca}(h:Made N t b many kept gone left c)(hp:(kept++gone++left).Perm N.ts):Gb N t b many kept gone c=true:=by
 have nN:N.ts.Nodup:=Iq ok.trise
 induction h with
 | en h=>exact decide_eq_true h
 | fa hu hf =>
  unfold Gb
  rw [hf,decide_eq_true hu,decide_eq_true (hp.subset (Yc _ (YC _ hu)))]
  rfl
 | @no kept gone hw =>
  rw [Yv] at hp
  have nd:=hp.nodup_iff.mpr nN
  refine decide_eq_true ?_
  have hk:Rj N t b (Bw N gone).ts:=λu hu=>by
   by_cases hg:u∈gone
   ·exact hw u hg
   ·have hu':u∈(Bw N gone).ts:=ZQ.mpr ⟨hu,decide_eq_true hg⟩
    refine⟨u.len,?_,aj hbt (by have:=(ok.tin u hu).2.2.2.1; omega)⟩
    have:=Wk.snoc (Wk.nil (N:=Bw N gone) (s:=u.a)) (GC hu').1
    rw [Yw] at this
    exact this
  have h1:=hm (Bw N gone).ts ao hk
  have h2:(Bw N gone).ts.length<=kept.length:=by
   refine sub_len (nN.sublist ao) (ZX.mp nd).1 λx hx=>?_
   obtain⟨x1,x2⟩:=ZQ.mp hx
   rcases YI.mp (hp.symm.subset x1) with z | z
   ·exact z
   ·exact absurd z (of_decide_eq_true x2)
  omega
 | @sp kept gone left rest u c d hl _ _ ih1 ih2 =>
  have hu:u∈left:=hl.symm.subset Op
  have nd:=hp.nodup_iff.mpr nN
  have hx:u∉kept++gone:=λz=>(ZX.mp nd).2.2 u z u hu rfl
  have p1:(kept++[u]++gone++rest).Perm N.ts:=by
   refine ZG ?_ hp
   refine ZG ?_ (ZA _ hl.symm)
   simp only [Ym,Zy]
   exact ZA _ (bd.symm)
  have p2:(kept++(gone++[u])++rest).Perm N.ts:=by
   refine ZG ?_ hp
   refine ZG ?_ (ZA _ hl.symm)
   simp only [Ym,Zy]
   exact aw _
  unfold Gb
  rw [ih1 p1,ih2 p2,decide_eq_true (hp.subset (YC _ hu)),decide_eq_true (show ¬u∈kept from λz=>hx (Yc _ z)),decide_eq_true (show ¬u∈gone from λz=>hx (YC _ z))]
  rfl
end Nt
namespace Dp
open PySem PySem.Spec PyProof.Rows L2
theorem P6{l m:List (Key×V)}{k:Key}{v:V}(h:Bu l k=some v):Bu (l++m) k=some v:=by
 unfold Bu at h ⊢
 rw [List.find?_append]
 cases e:l.find? λkv=>decide (kv.1=k) with
 | none=>rw [e] at h; cases h
 | some p=>rw [e] at h; exact h
theorem Sm{ks:List Key}{vs:List V}{k:Key}(h:k∉ks):((ks.zip vs).find? λkv=>decide (kv.1=k))=none:=List.find?_eq_none.mpr λp hp=>by
 rw [decide_eq_true_eq]
 exact λz=>h (z▸(Zn (a:=p.1) (b:=p.2) hp).1)
theorem Ez{ks:List Key}{vs:List V}{k:Key}{v:V}(hl:ks.length=vs.length):(ks++[k]).zip (vs++[v])=ks.zip vs++[(k,v)]:=List.zip_append hl
theorem P5{ks:List Key}{vs:List V}{k:Key}{v:V}(h:k∉ks):Bu (ks.zip vs++[(k,v)]) k=some v:=by
 unfold Bu
 rw [List.find?_append,Sm h]
 simp
theorem QX{ks:List Key}{vs:List V}{k:Key}{v0 v:V}(h:k∉ks):putK (ks.zip vs++[(k,v0)]) k v=ks.zip vs++[(k,v)]:=by
 unfold putK
 rw [if_pos (by simp),YU]
 congr 1
 ·have:∀p∈ks.zip vs,(if p.1=k then (p.1,v) else p)=p:=λp hp=>if_neg fun(z:p.1=k)=>h (z▸(Zn (a:=p.1) (b:=p.2) hp).1)
  exact(Yf this).trans (b9 _)
 ·simp
theorem Rel.world{K:Frag}{C:Fm}{M:Addr->Prop}{H:Hp}{n:Nat}{ρ:List Slot}{σ:L2.St}(R:Rel K C M H n ρ σ){i:Nat}{ks:List Key}{ds:List D}(hd:ρ[i]?=some (.wd ks ds)):∃f vs,σ[i]?=some (some (.ref f.1))/\C.F=some f/\f.t=some (ks,ds,vs)/\T5 K M H f.1 ks ds vs n:=by
 obtain⟨f,vs,e1,hF,ht⟩:=R.sl i _ hd
 refine⟨f,vs,getD_some e1,hF,ht,?_⟩
 rcases R.feed f hF with ⟨t2,_⟩ | ⟨ks',ds',vs',t2,h⟩
 ·rw [ht] at t2; cases t2
 ·rw [ht] at t2; cases t2; exact h
section
variable {X:Cx}{x a b e:Expr}{κ κa κb:Kd}{wa wb:DW}{pos pos':Pos}{i k:Nat}
noncomputable def Gc(i:Nat)(wb:DW):DW:=λn ρ P=>∃ks ds,ρ[i]?=some (.wd ks ds)/\wb n ρ λk n1=>∃key z,keyOf k=some key/\Cv ks ds key=some z/\P z n1
theorem Cc(hr:Room k X.A)(hx:PE X x (BG i))(hb:DE X b κb wb)(hs:autoParam (Pk b) zau5._auto_1):DE X (.Subscript x b pos) .sh (Gc i wb):=by
 obtain⟨tb,hb1,hb2⟩:=hb
 refine⟨_,HS (Jx hr) hx hb1 hs,λC M H n ρ σ P Q R w q=>?_⟩
 obtain⟨ks,ds,hd,w⟩:=w
 obtain⟨f,vs,e1,hF,ht,_⟩:=R.world hd
 refine⟨.ref f.1,e1,?_⟩
 refine hb2 C M H n ρ σ _ _ R w λy H1 kk n1 ee ff rr p=>?_
 obtain⟨key,z,hk,hz,p⟩:=p
 have R1:=R.step ee ff
 obtain⟨f',vs',_,hF',ht',r,hH,hl,hs',_⟩:=R1.world hd
 rw [hF] at hF'
 cases hF'
 rw [ht] at ht'
 cases ht'
 have hv:=KO (k:=key) (ks:=ks) hs'
 rw [hz] at hv
 obtain⟨v,hv,hat⟩:=hv
 rw [Ez (by rw [hl,hs'.length])] at hH
 refine⟨f.1,v,rfl,?_,q v H1 z n1 ee ff hat p⟩
 rw [Ig hk (rr.tpOf R.dom R.vM),← P6 (m:=[((YJ "room" : Key),V.int r)]) hv]
 exact DGet.k hH
noncomputable def Py(i:Nat):DW:=λn ρ P=>∃ks ds,ρ[i]?=some (.wd ks ds)/\(YJ "room" : Key)∉ks/\∀r:Int,(n:Int)<=r->r<=100000->P (.int r) n
theorem Hd{jc cp}(hr:Room k X.A)(hx:PE X x (BG i))(hs:autoParam (Pk (.Constant (.str "room") jc cp)) zau5._auto_1):DE X (.Subscript x (.Constant (.str "room") jc cp) pos) .sh (Py i):=by
 refine⟨_,HS (Jx hr) hx C5 hs,λC M H n ρ σ P Q R w q=>?_⟩
 obtain⟨ks,ds,hd,hno,w⟩:=w
 obtain⟨f,vs,e1,hF,ht,r,hH,hl,hs',h1,h2,_⟩:=R.world hd
 rw [Ez (by rw [hl,hs'.length])] at hH
 refine⟨.ref f.1,e1,f.1,.int r,rfl,?_,q _ H (.int r) n (Ext.refl _ _) R.feed rfl (w r h1 h2)⟩
 have:=DGet.k (k:=.inr "room") hH
 rw [P5 hno] at this
 exact this
noncomputable def LQ(i:Nat)(wb:DW):Af:=λD2 n ρ=>∃ks ds,ρ[i]?=some (.wd ks ds)/\(YJ "room" : Key)∉ks/\ks.length<=10/\wb n ρ λd n1=>∃(r:Int) (n2:Nat),d=.int r/\(n2:Int)<=r/\r<=100000/\D2.nx n2 ρ
theorem OE{jc cp}(hr:Room k X.A)(hx:PE X x (BG i))(hb:DE X b κb wb)(hk:autoParam (κb≠.tp) zau6._auto_1)
  (hs:autoParam (swapsWith b (some (.Subscript x (.Constant (.str "room") jc cp) pos')) pos.line X.env=pure false) zau3._auto_1):DS X κ (.Assign [.Subscript x (.Constant (.str "room") jc cp) pos'] b pos) (LQ i wb):=by
 obtain⟨u,g1,g2⟩:=hb
 refine⟨_,Nl (Jx hr) hx C5 g1 hs,λC M H n ρ σ D2 E R L w=>?_⟩
 obtain⟨ks,ds,hd,hno,hk10,w⟩:=w
 refine g2 C M H n ρ σ _ _ R w λv H1 d n1 e1 f1 r1 p=>?_
 obtain⟨r,n2,rfl,h1,h2,p⟩:=p
 have R1:=R.step e1 f1
 obtain⟨f,vs,ea,hF,ht,r0,hH,hl,hs',_,_,hnd⟩:=R1.world hd
 have hv:v=.int r:=r1.shOf R.dom hk
 have hlen:ks.length=vs.length:=by rw [hl,hs'.length]
 rw [Ez hlen] at hH
 have mf:M f.1:=R1.vM _ (R1.uV _ (R1.fU f hF))
 have szl:=PySem.sizeLine_eq
 refine⟨.ref f.1,ea,f.1,_,rfl,DPut.k (k:=.inr "room") hH (by rw [Rs,Zr]; show _+1<_; omega),?_⟩
 rw [hv,QX hno]
 have pr:Pres M H1 M (BB H1 f.1 (.dK (ks.zip vs++[((YJ "room" : Key),V.int r)]))):=F1 mf hH
 refine L.nx M _ n2 _ σ (R1.step (λc o ec=>?_) λg hg=>?_) p
 ·by_cases hc:c=f.1
  ·rw [hc,hH] at ec
   cases ec
   exact⟨_,by rw [hc]; exact AY,λnu=>absurd (hc▸R1.fU f hF) nu,λvs z=>by cases z⟩
  ·exact⟨o,by rw [AT hc]; exact ec,λ_=>rfl,λ_ _=>rfl⟩
 ·have:g=f:=TW (hg.symm.trans hF)
  subst this
  exact .inr ⟨ks,ds,vs,ht,r,by rw [Ez hlen]; exact AY,hl,hs'.pres pr,h1,h2,hnd⟩
noncomputable def Hs(i:Nat):Nat->List Slot->(Slot->Nat->Prop)->Prop:=λn ρ P=>match ρ[i]? with
 | some (.wd ks ds)=>P (.wd ks ds) n
 | _=>False
theorem DU(i:Nat){x:Str}{pos:Pos}(hN:autoParam (X.N[i]?=some x) zau3._auto_1)(hv:autoParam (VF X.env.scope x) zau4._auto_1)(hd:autoParam ((x==("__debug__" : Str))=false) zau1._auto_1)
  (hcd:autoParam ((x==("__classdict__" : Str))=false) zau1._auto_1):WY X (.Name x pos) (Hs i):=by
 refine⟨_,IM hN hv hd hcd,λC M H n ρ σ P Q R w q=>?_⟩
 unfold Hs at w
 split at w
 ·rename_i ks ds hd
  obtain⟨f,vs,e1,h1⟩:=R.sl i _ hd
  exact⟨.ref f.1,getD_some e1,q _ H (.wd ks ds) n (Ext.refl _ _) R.feed ⟨⟨f,vs,rfl,h1⟩,rfl⟩ w⟩
 ·exact w.elim
noncomputable def P2(W:W2)(i1 i2 i3 j:Nat)(k1 k2 k3:Str)(r:Nat)(c:Int):DW:=λn ρ P=>∃d1 d2 d3 d4,ρ[i1]?=some (.sh d1)/\ρ[i2]?=some (.sh d2)/\ρ[i3]?=some (.sh d3)/\ρ[j]?=some (.sh d4)/\Bj [d1,d2,d3]=true/\W [.wd [.inr k1,.inr k2,.inr k3] [d1,d2,d3],.sh (.lst []),.sh (.lst []),.sh d4,.sh (.int c)] r λd _=>P d n
theorem L3{k1 k2 k3 k4:Key}{v1 v2 v3 v4:V}(h:[k1,k2,k3,k4].Nodup):Ds [] [(k1,v1),(k2,v2),(k3,v3),(k4,v4)]=[(k1,v1),(k2,v2),(k3,v3),(k4,v4)]:=by
 simp only [YX,X_,YG,or_false,not_or,not_false_eq_true,and_true] at h
 obtain⟨⟨h1,h2,h3⟩,⟨h4,h5⟩,h6,_⟩:=h
 simp only [Ds,bj,List.foldl_nil,putK,List.any_nil,Zl,bH,Yd,if_false,YQ,List.cons_append,decide_eq_false h1,decide_eq_false h2,decide_eq_false h3,decide_eq_false h4,decide_eq_false h5,decide_eq_false h6]
theorem RH{ps:List Str}{W:W2}{fn:Str}{i1 i2 i3 j r:Nat}{c:Int}{k1 k2 k3:Str}{e1 e2 e3 e4:Expr}{p dp:Pos}{j1 j2 j3 j4 j5 j6 q1 q2 q3 q4 q5 q6 l1 l2}(G:Got X.prog X.w X.K X.mg X.base fn k ps .sh W)
  (hr:Room k X.A) (hg:Gl X fn) (h1:PE X e1 (BG i1)) (h2:PE X e2 (BG i2)) (h3:PE X e3 (BG i3)) (h4:PE X e4 (BG j)) (nd:[(YJ k1:Key),YJ k2,YJ k3,YJ "room"].Nodup) (h100:r<=100000) (hps:autoParam (ps.length=5) zau3._auto_1)
  (hdb:autoParam ((fn==("__debug__" : Str))=false) zau1._auto_1)
  (he:autoParam (starEach [.Dict [some (.Constant (.str k1) j1 q1),some (.Constant (.str k2) j2 q2),some (.Constant (.str k3) j3 q3),some (.Constant (.str "room") j4 q4)] [e1,e2,e3,.Constant (.int r) j5 q5] dp,.List [] l1,.List [] l2,e4,.Constant (.int c) j6 q6] X.env=(false,eval (.Dict [some (.Constant (.str k1) j1 q1),some (.Constant (.str k2) j2 q2),some (.Constant (.str k3) j3 q3),some (.Constant (.str "room") j4 q4)] [e1,e2,e3,.Constant (.int r) j5 q5] dp) X.env)::starEach [.List [] l1,.List [] l2,e4,.Constant (.int c) j6 q6] X.env) zau3._auto_1)
  (he2:autoParam (starEach [.List [] l1,.List [] l2,e4,.Constant (.int c) j6 q6] X.env=(false,eval (.List [] l1) X.env)::starEach [.List [] l2,e4,.Constant (.int c) j6 q6] X.env) zau3._auto_1) (he3:autoParam (starEach [.List [] l2,e4,.Constant (.int c) j6 q6] X.env=(false,eval (.List [] l2) X.env)::starEach [e4,.Constant (.int c) j6 q6] X.env) zau3._auto_1)
  (he4:autoParam (starEach [e4,.Constant (.int c) j6 q6] X.env=(false,eval e4 X.env)::starEach [.Constant (.int c) j6 q6] X.env) zau3._auto_1) (he5:autoParam (starEach [.Constant (.int c) j6 q6] X.env=[(false,eval (.Constant (.int c) j6 q6) X.env)]) zau3._auto_1)
  (hpl:autoParam ((backTo pos (starEach [.List [] l1,.List [] l2,e4,.Constant (.int c) j6 q6] X.env)).any (·.1)=false) zau3._auto_1) :
  DE X (.Call (.Name fn p) [.Dict [some (.Constant (.str k1) j1 q1),some (.Constant (.str k2) j2 q2),some (.Constant (.str k3) j3 q3),some (.Constant (.str "room") j4 q4)] [e1,e2,e3,.Constant (.int r) j5 q5] dp,.List [] l1,.List [] l2,e4,.Constant (.int c) j6 q6] [] pos) .sh (P2 W i1 i2 i3 j k1 k2 k3 r c):=by
 obtain⟨f,fd,G,hm,hk,hb,hW⟩:=G
 refine⟨_,Km G hr hg hm hk hb .nil Ny (Au (Nx (CY C5 h1 (CY C5 h2 (CY C5 h3 (CY C5 Av Nn)))) rfl rfl (by intro z; cases z) (show 4<=15 by decide)) (Au (Gj BC) (Au (Gj BC) (Au h4 (Au Av BC he5) he4) he3) he2) he) hdb he hpl,λC M H n ρ σ P Q R w q=>?_⟩
 obtain⟨d1,d2,d3,d4,s1,s2,s3,s4,hnd,w⟩:=w
 obtain⟨v1,e1',a1⟩:=R.sl i1 _ s1
 obtain⟨v2,e2',a2⟩:=R.sl i2 _ s2
 obtain⟨v3,e3',a3⟩:=R.sl i3 _ s3
 obtain⟨v4,e4',a4⟩:=R.sl j _ s4
 refine λpa hpa=>⟨v1,getD_some e1',v2,getD_some e2',v3,getD_some e3',AY,[(.inr k1,v1),(.inr k2,v2),(.inr k3,v3),(.inr "room",.int r)],rfl,(by decide:4<=15),?_⟩
 rw [L3 nd]
 refine⟨YB _,λb1 hb1=>⟨YB _,λb2 hb2=>⟨v4,getD_some e4',?_⟩⟩⟩
 have n1:b1≠pa:=λz=>by rw [z,AY] at hb1; cases hb1
 have n2:b2≠pa:=λz=>by rw [z,AT (Yq n1),AY] at hb2; cases hb2
 have n3:b2≠b1:=λz=>by rw [z,AY] at hb2; cases hb2
 generalize hH7:BB (BB (BB (BB H pa (.dK [])) pa (.dK [((YJ k1:Key),v1),(.inr k2,v2),(.inr k3,v3),(.inr "room",.int r)])) b1 (.lst [])) b2 (.lst [])=H7
 have o1:H b1=none:=by rw [AT n1,AT n1] at hb1; exact hb1
 have o2:H b2=none:=by rw [AT n3,AT n2,AT n2] at hb2; exact hb2
 have keep:∀b o,H b=some o->b≠pa/\H7 b=some o:=λb o e=>by
  have z1:b≠pa:=A1 e hpa
  exact⟨z1,by rw [← hH7,AT (A1 e o2),AT (A1 e o1),AT z1,AT z1]; exact e⟩
 have x0:H7 pa=some (.dK [((YJ k1:Key),v1),(.inr k2,v2),(.inr k3,v3),(.inr "room",.int r)]):=by rw [← hH7,AT (Yq n2),AT (Yq n1),AY]
 have x1:H7 b1=some (.lst []):=by rw [← hH7,AT (Yq n3),AY]
 have x2:H7 b2=some (.lst []):=by rw [← hH7,AY]
 have pr:Pres M H (λb=>M b\/b=pa) H7:=⟨λb o e _=>(keep b o e).2,λb z=>z.elim .inl λz=>.inr (by rw [z]; exact hpa),λb vs e=>(keep b _ e).2⟩
 have old:∀b,H b=none->¬M b:=λb e z=>by
  obtain⟨o,q⟩:=R.dom b z
  rw [e] at q; cases q
 show DF X.K .sh W ps.length _ H7 Q E0
 refine⟨by rw [hps]; rfl,some ⟨pa,pa,some ([.inr k1,.inr k2,.inr k3],[d1,d2,d3],[v1,v2,v3])⟩,(λb=>b=pa),(λb=>C.V b\/b=pa),(λb=>M b\/b=pa),r,_,_,⟨λb z=>?_,λg hg=>?_,λb z=>.inr z,λb z=>z.elim (λz=>.inl (R.vM b z)) .inr,λg hg=>?_,?_⟩,w,λv H' d n' ex fx rx px=>?_⟩
 ·rcases z with z | z
  ·obtain⟨o,q⟩:=R.dom b z
   exact⟨o,(keep b o q).2⟩
  ·rw [z]; exact⟨_,x0⟩
 ·cases hg; rfl
 ·cases hg
  exact .inr ⟨_,_,_,rfl,r,x0,rfl,⟨v1,_,rfl,a1.pres pr,v2,_,rfl,a2.pres pr,v3,_,rfl,a3.pres pr,rfl⟩,ZO _,by omega,hnd⟩
 ·refine .cons ⟨⟨_,_,rfl,rfl,rfl⟩,rfl⟩ (.cons ⟨⟨_,rfl,b1,[],rfl,⟨λz=>z.elim (old b1 o1) n1,x1⟩,rfl⟩,rfl⟩ (.cons ⟨⟨_,rfl,b2,[],rfl,⟨λz=>z.elim (old b2 o2) n2,x2⟩,rfl⟩,rfl⟩ (.cons ⟨⟨_,rfl,a4.pres pr⟩,rfl⟩ (.cons ⟨⟨_,rfl,rfl⟩,rfl⟩ .nil))))
 ·have stay:∀b o,H b=some o->H' b=some o:=λb o e=>ex.keep (keep b o e).2 (keep b o e).1
  refine q v H' d n (λb o e=>⟨o,stay b o e,λ_=>rfl,λ_ _=>rfl⟩) (R.feed.pres ⟨λb o e _=>stay b o e,λ_ z=>.inl z,λb vs e=>stay b _ e⟩ λf o _ e=>stay _ o e) ?_ px
  have hat:At X.K (λb=>M b\/b=pa) H' d v:=rx
  exact hat.pres ⟨λb o e _=>e,λb z=>.inl (.inl z),λb vs e=>e⟩
noncomputable def P1(i1 i2 i3:Nat)(k1 k2 k3:Str):DW:=λn ρ P=>∃d1 d2 d3,ρ[i1]?=some (.sh d1)/\ρ[i2]?=some (.sh d2)/\ρ[i3]?=some (.sh d3)/\P (.dic [.inr k1,.inr k2,.inr k3] [d1,d2,d3]) n
theorem Kz{k1 k2 k3:Key}{v1 v2 v3:V}(h:[k1,k2,k3].Nodup):Ds [] [(k1,v1),(k2,v2),(k3,v3)]=[(k1,v1),(k2,v2),(k3,v3)]:=by
 simp only [YX,X_,YG,or_false,not_or,not_false_eq_true,and_true] at h
 obtain⟨⟨h1,h2⟩,h4,_⟩:=h
 simp only [Ds,bj,List.foldl_nil,putK,List.any_nil,Zl,bH,Yd,if_false,YQ,List.cons_append,decide_eq_false h1,decide_eq_false h2,decide_eq_false h4]
theorem RG{i1 i2 i3:Nat}{k1 k2 k3:Str}{e1 e2 e3:Expr}{j1 j2 j3 q1 q2 q3}(h1:PE X e1 (BG i1))(h2:PE X e2 (BG i2))(h3:PE X e3 (BG i3))(nd:[(YJ k1:Key),YJ k2,YJ k3].Nodup) :
  DE X (.Dict [some (.Constant (.str k1) j1 q1),some (.Constant (.str k2) j2 q2),some (.Constant (.str k3) j3 q3)] [e1,e2,e3] pos) .fr (P1 i1 i2 i3 k1 k2 k3):=by
 refine⟨_,Nx (CY C5 h1 (CY C5 h2 (CY C5 h3 Nn))) rfl rfl (by intro z; cases z) (show 3<=15 by decide),λC M H n ρ σ P Q R w q=>?_⟩
 obtain⟨d1,d2,d3,s1,s2,s3,w⟩:=w
 obtain⟨v1,e1',a1⟩:=R.sl i1 _ s1
 obtain⟨v2,e2',a2⟩:=R.sl i2 _ s2
 obtain⟨v3,e3',a3⟩:=R.sl i3 _ s3
 refine λpa hpa=>⟨v1,getD_some e1',v2,getD_some e2',v3,getD_some e3',AY,[(.inr k1,v1),(.inr k2,v2),(.inr k3,v3)],rfl,(by decide:3<=15),?_⟩
 rw [Kz nd]
 have keep:∀b o,H b=some o->BB (BB H pa (.dK [])) pa (.dK [((YJ k1:Key),v1),(.inr k2,v2),(.inr k3,v3)]) b=some o:=λb o e=>by
  have z1:b≠pa:=A1 e hpa
  rw [AT z1,AT z1]; exact e
 have pr:Pres M H (λb=>M b\/b=pa) (BB (BB H pa (.dK [])) pa (.dK [((YJ k1:Key),v1),(.inr k2,v2),(.inr k3,v3)])):=⟨λb o e _=>keep b o e,λb z=>z.elim .inl λz=>.inr (by rw [z]; exact hpa),λb vs e=>keep b _ e⟩
 refine q _ _ (.dic [.inr k1,.inr k2,.inr k3] [d1,d2,d3]) n (λb o e=>⟨o,keep b o e,λ_=>rfl,λ_ _=>rfl⟩) (R.feed.pres ⟨λb o e _=>keep b o e,λ_ z=>.inl z,λb vs e=>keep b _ e⟩ λf o _ e=>keep _ o e) ⟨pa,rfl,hpa,[v1,v2,v3],AY,rfl,?_⟩ w
 exact⟨v1,_,rfl,a1.pres pr,v2,_,rfl,a2.pres pr,v3,_,rfl,a3.pres pr,rfl⟩
end
end Dp
namespace Nt
open PySem PySem.Spec PyProof.Rows L2 Dp
noncomputable def II(N:Net)(p:List Int):Prop:=p.length=N.ps.length/\∀x∈p,0<=x/\x<=10 ^ 14
noncomputable def HN(N:Net):Ca->Prop
 | .en=>True
 | .fa u p=>u∈N.ts/\II N p
 | .sp u c d=>u∈N.ts/\HN N c/\HN N d
noncomputable def ED(t b:Int):Prop:=1<=b/\b<=1000000/\1<=t/\t<=1000000
noncomputable def EG(N:Net)(l:List A0):Prop:=(∀u∈l,u∈N.ts)/\l.length<=100
noncomputable abbrev Bl(t b:Int):D:=.tup [.int t,.int b]
noncomputable abbrev DD(l:List A0):D:=.lst (l.map Am)
noncomputable def He:W2:=λss n P=>∃(N:Net) (gone:List A0),ss=[.sh (E5 N),.sh (DD gone)]/\okN N/\EG N gone/\P (E5 (Bw N gone)) n
noncomputable def NF(N:Net)(t b:Int)(u:A0)(p:List Int):D:=if FF N (.tup (p.map .int))=true then (if decide (Bk (C4 N (p.map .int) u.a - C4 N (p.map .int) u.b)*b<=u.len*t)=true then .str "near" else .non) else .str "fair"
noncomputable def E9:W2:=λss n P=>∃(N:Net) (t b:Int) (u:A0) (p:List Int),ss=[.sh (E5 N),.sh (Bl t b),.sh (Am u),.sh (.tup (p.map .int))]/\okN N/\ED t b/\u.a∈N.ps/\u.b∈N.ps/\II N p/\P (NF N t b u p) n
noncomputable def Hg:W2:=λss n P=>∃(N:Net) (t b:Int) (gone:List A0) (u:A0) (p:List Int),ss=[.sh (E5 N),.sh (Bl t b),.sh (DD gone),.sh (Ca.fa u p).D]/\okN N/\ED t b/\EG N gone/\u∈N.ts/\II N p/\P (.bl (decide (u∈gone)&&GB N t b gone u p)) n
noncomputable def Gw(j:Nat):W2:=λss n P=>∃(N:Net) (t b:Int) (many:Nat) (kept gone:List A0) (deep:Nat) (c:Ca),ss=[.sh (E5 N),.sh (Bl t b),.sh (.int (many:Int)),.sh (DD kept),.sh (DD gone),.sh (.int (deep:Int)),.sh c.D]/\okN N/\ED t b/\EG N kept/\EG N gone/\kept.length+c.dep<=90/\gone.length+c.dep<=90/\HN N c/\c.dep<=deep/\c.dep<=j+1/\P (.bl (Gb N t b many kept gone c)) n
noncomputable def De(j:Nat):W2:=λss n P=>∃c:Ca,ss=[.sh c.D]/\c.dep<=j+1/\P (.int (c.cnt:Int)) n
noncomputable def GV:W2:=λss n P=>∃(N:Net) (t b:Int) (many:Nat) (c:Ca),ss=[.sh (E5 N),.sh (Bl t b),.sh (.int (many:Int)),.sh c.D]/\okN N/\ED t b/\HN N c/\c.dep<=8/\c.cnt<=4000/\P (.bl (Gb N t b many [] [] c)) n
noncomputable def GH:Af:=(Ay (Ai LM (AC (AL (AD 0)) (AC (Pw (CU [some 1,none] (Bg (Ag BO (AD 0) (wC (D.int 1)))) (A9 1) (Ao (Ag (HL true) (AD 1) (AD 0))) (AD 1))) Al))))
noncomputable def Cr:Af:=(Ar (BZ (B9 (Ao (Ai OW (AC (AL (AD 0)) (AC (AL (AD 3)) Al))))) (Ay (wC (D.str "fair"))) A6)
 (Ay (VT (Ao (Ai Hf (AC (AL (Ai Rh (AC (AL (AD 0)) (AC (AL (AD 3)) (AC (AL (Ag BO (AD 2) (wC (D.int 0)))) (AC (AL (Ag BO (AD 2) (wC (D.int 1)))) Al)))))) (AC (AL (AD 1)) (AC (AL (Ag BO (AD 2) (wC (D.int 2)))) Al))))) (wC (D.str "near")) (wC D.non))))
noncomputable def Em:Af:=(Ar (BZ (Df (B9 (Ao (Ai Rg (AC (AL (AD 0)) (AC (AL (Ag BO (AD 3) (wC (D.int 1)))) Al))))) (Ao (Ag (HL true) (Ag BO (AD 3) (wC (D.int 1))) (AD 2)))) (Ay (wC (D.bl false))) A6)
 (Ay (Ag (NG false) (Ai E9 (AC (AL (Ai He (AC (AL (AD 0)) (AC (AL (AD 2)) Al)))) (AC (AL (AD 1)) (AC (AL (Ag BO (AD 3) (wC (D.int 1)))) (AC (AL (Ag BO (AD 3) (wC (D.int 2)))) Al))))) (wC D.non))))
noncomputable def FI(Wr:W2):Af:=(Ar (BZ (Ao (Ag (JW false) (AD 5) (wC (D.int 0)))) (Ay (wC (D.bl false))) A6)
 (Ar (BZ (Ao (Ag Sw (AD 6) (CS (AK (wC (D.str "enough")) Aj)))) (Ay (Ag (f2 λi j=>D.bl (decide (j<=i))) (DC C8 (AK (AD 3) Aj)) (AD 2))) A6)
 (Ar (BZ (P4 (Ao (Ai Ci (AC (AL (wC (D.int 3))) (AC (AL (AD 6)) Al)))) (Ao (Ag (JW false) (Ag BO (AD 6) (wC (D.int 0))) (wC (D.str "far"))))) (Ay (Ai Hg (AC (AL (AD 0)) (AC (AL (AD 1)) (AC (AL (AD 4)) (AC (AL (AD 6)) Al)))))) A6)
 (Ar (BZ (Df (B9 (Ao (Ai Ci (AC (AL (wC (D.int 4))) (AC (AL (AD 6)) Al))))) (Ao (Ag (JW true) (Ag BO (AD 6) (wC (D.int 0))) (wC (D.str "split"))))) (Ay (wC (D.bl false))) A6)
 (Ar (BI 7 (Ag BO (AD 6) (wC (D.int 1))))
 (Ar (BZ (Df (B9 (Ao (Ai Rg (AC (AL (AD 0)) (AC (AL (AD 7)) Al))))) (Df (Ao (Ag (HL false) (AD 7) (AD 3))) (Ao (Ag (HL false) (AD 7) (AD 4))))) (Ay (wC (D.bl false))) A6)
 (Ar (BZ (B9 (Ao (Ai Wr (AC (AL (AD 0)) (AC (AL (AD 1)) (AC (AL (AD 2)) (AC (AL (Ag A7 (AD 3) (CT (AK (AD 7) Aj)))) (AC (AL (AD 4)) (AC (AL (Ag D8 (AD 5) (wC (D.int 1)))) (AC (AL (Ag BO (AD 6) (wC (D.int 2)))) Al)))))))))) (Ay (wC (D.bl false))) A6)
 (Ay (Ai Wr (AC (AL (AD 0)) (AC (AL (AD 1)) (AC (AL (AD 2)) (AC (AL (AD 3)) (AC (AL (Ag A7 (AD 4) (CT (AK (AD 7) Aj)))) (AC (AL (Ag D8 (AD 5) (wC (D.int 1)))) (AC (AL (Ag BO (AD 6) (wC (D.int 3)))) Al))))))))))))))))
noncomputable def FJ(Wr:W2):Af:=(Ar (BZ (B9 (Ao (Ai Ci (AC (AL (wC (D.int 4))) (AC (AL (AD 0)) Al))))) (Ay (wC (D.int 1))) A6)
 (Ay (Ag A7 (Ag A7 (wC (D.int 1)) (Ai Wr (AC (AL (Ag BO (AD 0) (wC (D.int 2)))) Al))) (Ai Wr (AC (AL (Ag BO (AD 0) (wC (D.int 3)))) Al)))))
noncomputable def I0:Af:=(Ay (KL (Ai (Gw 7) (AC (AL (AD 0)) (AC (AL (AD 1)) (AC (AL (AD 2)) (AC (AL (CT Aj)) (AC (AL (CT Aj)) (AC (AL (wC (D.int 15))) (AC (AL (AD 3)) Al)))))))) (Ag PV (Ai (De 7) (AC (AL (AD 3)) Al)) (wC (D.int 4000)))))
theorem Nb{N:Net}{u:A0}(h:u∈N.ts):Od N (Am u)=true:=tofB_iff.mpr ⟨u,h,rfl⟩
theorem C7{N:Net}(ok:N.Ok){l:List A0}(h:EG N l):B5 (DD l):=(F7 ok h.1).2
theorem Lv{N:Net}(h:okN N)(gone:List A0):okN (Bw N gone):=⟨HU h.1 gone,h.2.1,YH (cD _ _) h.2.2⟩
theorem Co:∀c:Ca,1<=c.dep
 | .en=>No _
 | .fa _ _=>No _
 | .sp _ _ _=>Nat.le_add_right _ _
theorem GG{N:Net}(ok:N.Ok):∀c:Ca,HN N c->GA (10 ^ 14) c.D/\MW c.D<=c.dep+1
 | .en,_=>⟨⟨(show ∀c∈cs "enough",c<1114112 by decide +kernel),trivial⟩,by show max 0 0+1<=2; decide⟩
 | .fa u p,⟨hu,hp⟩=>by
  have it:=CZ ok _ (XV.mpr ⟨u,hu,rfl⟩)
  have hf:∀d∈p.map D.int,GA (10 ^ 14) d/\MW d=0:=λd hd=>by
   obtain⟨x,hx,rfl⟩:=XV.mp hd
   exact⟨by show x.natAbs<=_; have:=hp.2 x hx; omega,rfl⟩
  refine⟨⟨(show ∀c∈cs "far",c<1114112 by decide +kernel),(Jz (by decide) _).1 _ (No _) it.1,DM λd hd=>(hf d hd).1,trivial⟩,?_⟩
  have h1:=it.2.2
  have h2:JY (p.map D.int)<=0:=dps_le.mpr λd hd=>bX (hf d hd).2
  show max 0 (max (MW (Am u)) (max (JY (p.map D.int)+1) 0))+1<=2
  omega
 | .sp u c d,⟨hu,hc,hd⟩=>by
  have it:=CZ ok _ (XV.mpr ⟨u,hu,rfl⟩)
  obtain⟨c1,c2⟩:=GG ok c hc
  obtain⟨d1,d2⟩:=GG ok d hd
  refine⟨⟨(show ∀c∈cs "split",c<1114112 by decide +kernel),(Jz (by decide) _).1 _ (No _) it.1,c1,d1,trivial⟩,?_⟩
  have h1:=it.2.2
  have h3:=Co c
  show max 0 (max (MW (Am u)) (max (MW c.D) (max (MW d.D) 0)))+1<=1+max c.dep d.dep+1
  omega
theorem RN{N:Net}(ok:N.Ok){c:Ca}(h:HN N c)(hd:c.dep<=98):B5 c.D:=Gp (B:=10 ^ 14) (by decide) (GG ok c h).1 (by have:=(GG ok c h).2; omega)
theorem HY{N:Net}{p:List Int}(h:II N p):((p.map D.int).length=N.ps.length)/\∀x∈p.map D.int,Pp x=true:=⟨by rw [Db]; exact h.1,λx hx=>by
 obtain⟨y,hy,rfl⟩:=XV.mp hx
 exact decide_eq_true (h.2 y hy).1⟩
section
variable {ss:List Slot}{n:Nat}{Pd:D->Nat->Prop}
theorem Kf(h:He ss n Pd):GH (EE Pd) n (ss++Re 0 .no):=by
 obtain⟨M,gone,rfl,okm,hg,p⟩:=h
 have ok:=okm.1
 have l60:=okm.2.2
 unfold GH
 refine⟨_,AO (j:=1) rfl,by show (M.ts.map Am).length<=10000000; rw [Db]; omega,?_⟩
 refine F5 (λd=>!((gone.map Am).any λy=>Ei y d)) id (λρ=>∃s,ρ=[.sh (DD gone),s]) _ _ _ _ ?_ ⟨_,rfl⟩ ?_
 ·rintro d hd ρ m nx sk ⟨s,rfl⟩ h1 h2
  obtain⟨t,ht,rfl⟩:=XV.mp hd
  refine⟨Br ok ht,C7 ok hg,_,rfl,?_⟩
  exact EH (λc=>h1 _ ⟨_,rfl⟩ c) λc=>h2 _ ⟨_,rfl⟩ (bP.mpr c)
 ·rw [YQ,b9]
  have e:(M.ts.map Am).filter (λd=>!((gone.map Am).any λy=>Ei y d))=(Bw M gone).ts.map Am:=by
   rw [List.filter_map]
   congr 1
   refine List.filter_congr λt _=>?_
   show (!((gone.map Am).any λy=>Ei y (Am t)))=decide (¬t∈gone)
   rw [B3,decide_not]
  rw [e]
  have okd:=Lv okm gone
  refine⟨M,_,(Bw M gone).ts,rfl,rfl,by have:=okd.2.2; omega,λts' p1 p2=>?_⟩
  rw [Md p1 p2 (NR okd.1.trise)]
  exact p
theorem Fv(h:E9 ss n Pd):Cr (EE Pd) n (ss++Re 0 .no):=by
 obtain⟨N,t,b,u,p,rfl,okn,⟨b1,b2,t1,t2⟩,ha,hb,hp,q⟩:=h
 obtain⟨f1,f2⟩:=HY hp
 unfold Cr
 refine⟨N,_,rfl,okn,?_⟩
 unfold NF at q
 generalize FF N (.tup (p.map .int))=r at q
 show if (!r)=true then _ else _
 cases r with
 | false=>exact Dx q
 | true =>
  refine Be ⟨_,AO (j:=0) rfl,_,AO (j:=1) rfl,N,_,u.a,u.b,rfl,okn,f1,f2,ha,hb,_,AO (j:=2) rfl,_,t,b,u.len,rfl,b1,b2,t1,t2,?_⟩
  rw [if_pos rfl] at q
  have key:∀r:Bool,Pd (if r=true then .str "near" else .non) n->if r=true then Pd (.str "near") n else Pd .non n:=λr z=>by cases r <;> exact z
  exact key _ q
theorem IB(h:Hg ss n Pd):Em (EE Pd) n (ss++Re 0 .no):=by
 obtain⟨N,t,b,gone,u,p,rfl,okn,tm,hg,hu,hp,q⟩:=h
 obtain⟨ha,hb,_⟩:=okn.1.tin u hu
 unfold Em
 refine⟨_,AO (j:=1) rfl,N,_,rfl,okn.1,Br okn.1 hu,?_⟩
 rw [Nb hu]
 refine⟨_,AO (j:=1) rfl,Br okn.1 hu,C7 okn.1 hg,_,rfl,?_⟩
 rw [B3]
 show if (!decide (u∈gone))=true then _ else _
 cases e:decide (u∈gone) with
 | false=>rw [e] at q; exact Dx q
 | true =>
  rw [e,Yh] at q
  refine Be ⟨N,gone,rfl,okn,hg,_,AO (j:=1) rfl,_,AO (j:=2) rfl,Bw N gone,t,b,u,p,rfl,Lv okn gone,tm,ha,hb,hp,?_⟩
  unfold NF
  unfold GB at q
  cases e2:FF (Bw N gone) (.tup (p.map .int)) with
  | false =>
   rw [e2] at q
   rw [if_neg (by decide)]
   exact⟨rfl,q⟩
  | true =>
   rw [e2,Yh] at q
   rw [if_pos rfl]
   have ep:∀x,C4 (Bw N gone) (p.map .int) x=C4 N (p.map .int) x:=λ_=>rfl
   rw [ep,ep]
   by_cases c:Bk (C4 N (p.map .int) u.a - C4 N (p.map .int) u.b)*b<=u.len*t
   ·rw [decide_eq_true c,if_pos rfl]
    rw [decide_eq_false (by omega)] at q
    exact⟨rfl,q⟩
   ·rw [decide_eq_false c,if_neg (by decide)]
    rw [decide_eq_true (by omega)] at q
    exact⟨rfl,q⟩
theorem FA{Wr:W2}{j:Nat}(hrec:∀ss n P,j≠0->Gw (j - 1) ss n P->Wr ss n P)(h:Gw j ss n Pd):FI Wr (EE Pd) n (ss++Re 1 .no):=by
 obtain⟨N,t,b,many,kept,gone,deep,c,rfl,okn,tm,hk,hg,l1,l2,hc,hd,hj,q⟩:=h
 have ok:=okn.1
 have szl:=PySem.sizeLine_eq
 have dp:=Co c
 have layC:=RN ok hc (by omega)
 have layE:B5 (.tup [.str "enough"]):=RN (c:=.en) ok trivial (by decide)
 unfold FI
 show if ((deep:Int)==0)=true then _ else _
 rw [show ((deep:Int)==0)=false from beq_eq_false_iff_ne.mpr (by omega)]
 refine Be ⟨z1,layC,layE,?_⟩
 cases c with
 | en =>
  show if Ei (.tup [.str "enough"]) (.tup [.str "enough"])=true then _ else _
  rw [show Ei (.tup [.str "enough"]) (.tup [.str "enough"])=true by decide +kernel]
  refine Dx ⟨_,_,rfl,rfl,?_⟩
  show Pd (.bl (decide ((many:Int)<=(((kept.map Am).length:Nat):Int)))) n
  rw [show decide ((many:Int)<=(((kept.map Am).length:Nat):Int))=decide (many<=kept.length) from decide_eq_decide.mpr (by rw [Db]; omega)]
  exact q
 | fa u p =>
  rw [show Ei (Ca.fa u p).D (.tup [.str "enough"])=false from rfl]
  refine Be ⟨3,_,rfl,?_⟩
  refine Dx ⟨_,AO (j:=0) rfl,?_⟩
  refine⟨N,t,b,gone,u,p,rfl,okn,tm,hg,hc.1,hc.2,?_⟩
  rw [show Gb N t b many kept gone (.fa u p)=(decide (u∈N.ts)&&decide (u∈gone)&&GB N t b gone u p) from rfl,decide_eq_true hc.1,Yh] at q
  exact q
 | sp u c d =>
  obtain⟨hu,hc1,hc2⟩:=hc
  have hdep:1+max c.dep d.dep<=j+1:=hj
  have hdeep:1+max c.dep d.dep<=deep:=hd
  have hl1:kept.length+(1+max c.dep d.dep)<=90:=l1
  have hl2:gone.length+(1+max c.dep d.dep)<=90:=l2
  have p1:=Co c
  have p2:=Co d
  rw [show Ei (Ca.sp u c d).D (.tup [.str "enough"])=false from rfl]
  refine Be ⟨3,_,rfl,?_⟩
  refine Be (Be ⟨4,_,rfl,?_⟩)
  refine Be ⟨_,AO (j:=0) rfl,?_⟩
  refine⟨_,AO (j:=1) rfl,?_⟩
  refine⟨N,_,rfl,ok,Br ok hu,?_⟩
  rw [Nb hu]
  refine Be ⟨Br ok hu,C7 ok hk,_,rfl,?_⟩
  rw [B3]
  rw [show Gb N t b many kept gone (.sp u c d)=(decide (u∈N.ts)&&decide (u∉kept)&&decide (u∉gone)&&Gb N t b many (kept++[u]) gone c&&Gb N t b many kept (gone++[u]) d) from rfl,decide_eq_true hu,Yh,decide_not,decide_not] at q
  show if decide (u∈kept)=true then _ else _
  cases e1:decide (u∈kept) with
  | true=>rw [e1] at q; exact Dx (Dx q)
  | false =>
  rw [e1] at q
  refine Be ⟨Br ok hu,C7 ok hg,_,rfl,?_⟩
  rw [B3]
  show if decide (u∈gone)=true then _ else _
  cases e2:decide (u∈gone) with
  | true=>rw [e2] at q; exact Dx q
  | false =>
  rw [e2] at q
  have hk':EG N (kept++[u]):=⟨λv hv=>(YI.mp hv).elim (hk.1 v) λz=>by rw [X7.mp z]; exact hu,by rw [Rs,X9]; omega⟩
  have hg':EG N (gone++[u]):=⟨λv hv=>(YI.mp hv).elim (hg.1 v) λz=>by rw [X7.mp z]; exact hu,by rw [Rs,X9]; omega⟩
  have ek:kept.map Am++[Am u]=(kept++[u]).map Am:=by rw [YU]; rfl
  have eg:gone.map Am++[Am u]=(gone++[u]).map Am:=by rw [YU]; rfl
  have ed:(deep:Int) - 1=((deep - 1:Nat):Int):=by omega
  refine Be ⟨z1,by show (kept.map Am).length+1<=_; rw [Db]; omega,_,AO (j:=2) rfl,?_⟩
  rw [ek,ed]
  refine hrec _ _ _ (by omega) ⟨N,t,b,many,kept++[u],gone,deep - 1,c,rfl,okn,tm,hk',hg,by rw [Rs,X9]; omega,by omega,hc1,by omega,by omega,?_⟩
  show if (!Gb N t b many (kept++[u]) gone c)=true then _ else _
  cases e3:Gb N t b many (kept++[u]) gone c with
  | false=>rw [e3] at q; exact Dx q
  | true =>
  rw [e3] at q
  refine Be ⟨z1,by show (gone.map Am).length+1<=_; rw [Db]; omega,_,AO (j:=3) rfl,?_⟩
  rw [eg,ed]
  exact hrec _ _ _ (by omega) ⟨N,t,b,many,kept,gone++[u],deep - 1,d,rfl,okn,tm,hk,hg',by omega,by rw [Rs,X9]; omega,hc2,by omega,by omega,q⟩
theorem FC{Wr:W2}{j:Nat}(hrec:∀ss n P,j≠0->De (j - 1) ss n P->Wr ss n P)(h:De j ss n Pd):FJ Wr (EE Pd) n (ss++Re 0 .no):=by
 obtain⟨c,rfl,hj,q⟩:=h
 unfold FJ
 refine⟨4,_,rfl,?_⟩
 cases c with
 | en=>exact q
 | fa u p=>exact q
 | sp u c d =>
  have hdep:1+max c.dep d.dep<=j+1:=hj
  have p1:=Co c
  refine Be ⟨_,AO (j:=2) rfl,?_⟩
  refine hrec _ _ _ (by omega) ⟨c,rfl,by omega,_,AO (j:=3) rfl,?_⟩
  refine hrec _ _ _ (by omega) ⟨d,rfl,by omega,?_⟩
  exact q
theorem Mq(h:GV ss n Pd):I0 (EE Pd) n (ss++Re 0 .no):=by
 obtain⟨N,t,b,many,c,rfl,okn,tm,hc,hd,hn,q⟩:=h
 unfold I0
 refine⟨z0,z0,N,t,b,many,[],[],15,c,rfl,okn,tm,⟨λ_ z=>absurd z YG,by decide⟩,⟨λ_ z=>absurd z YG,by decide⟩,by show 0+c.dep<=90; omega,by show 0+c.dep<=90; omega,hc,by omega,hd,?_⟩
 cases e:Gb N t b many [] [] c with
 | false=>rw [e] at q; exact q
 | true =>
  rw [e] at q
  refine⟨c,rfl,hd,?_⟩
  show Pd (.bl (decide ((c.cnt:Int)<=4000))) n
  rw [decide_eq_true (by omega)]
  exact q
end
noncomputable abbrev XS(N:Net)(t b:Int)(many:Nat):Slot:=.wd [.inr "net",.inr "times",.inr "many"] [E5 N,Bl t b,.int (many:Int)]
noncomputable def Dd:W2:=λss n P=>∃(N:Net) (u:A0),ss=[.sh (E5 N),.sh (Am u)]/\N.Ok/\u∈N.ts/\P (.bl true) n
noncomputable def Hl:W2:=λss n P=>∃(N:Net) (t b:Int) (many:Nat) (gone:List A0) (u:A0) (p:List Int),ss=[XS N t b many,.sh (DD gone),.sh (Am u),.sh (.tup (p.map .int))]/\okN N/\ED t b/\EG N gone/\u∈N.ts/\II N p/\P (.bl (decide (u∈gone)&&GB N t b gone u p)) n
noncomputable def CP(j:Nat):W2:=λss n P=>∃(N:Net) (t b:Int) (many:Nat) (kept gone:List A0) (c:Ca) (deep:Nat),ss=[XS N t b many,.sh (DD kept),.sh (DD gone),.sh c.D,.sh (.int (deep:Int))]/\okN N/\ED t b/\EG N kept/\EG N gone/\kept.length+c.dep<=90/\gone.length+c.dep<=90/\HN N c/\deep+c.dep<=16/\c.dep<=j+1/\c.cnt<=n/\∀n',n - c.cnt<=n'->P (.bl (Gb N t b many kept gone c)) n'
noncomputable def GX:W2:=λss n P=>∃(N:Net) (t b:Int) (many:Nat) (c:Ca),ss=[.sh (E5 N),.sh (Bl t b),.sh (.int (many:Int)),.sh c.D]/\okN N/\ED t b/\HN N c/\c.dep<=8/\c.cnt<=4000/\P (.bl (Gb N t b many [] [] c)) n
noncomputable def DX:Af:=(Ar (BZ (Df (B9 (Ao (Hu "tuple" (AD 1)))) (Df (Ao (Ag (JW true) (DC C8 (AK (AD 1) Aj)) (wC (D.int 3)))) (Ao (Hu "bool" (Ag BO (AD 1) (wC (D.int 2))))))) (Ay (wC (D.bl false))) A6)
 (Ay (Ag (HL false) (AD 1) (Ag BO (AD 0) (wC (D.int 1))))))
noncomputable def D_(Wr:W2):Af:=(Ar (LQ 0 (Ag D8 (Py 0) (wC (D.int 1))))
 (Ar (BZ (Df (Ao (Ag Ss (Py 0) (wC (D.int 0)))) (Ao (Ag (f2 λi j=>D.bl (decide (j<i))) (AD 4) (wC (D.int 15))))) (Ay (wC (D.bl false))) A6)
 (Ar (BZ (Df (B9 (Ao (Hu "tuple" (AD 3)))) (Ao (Ag (JW false) (DC C8 (AK (AD 3) Aj)) (wC (D.int 0))))) (Ay (wC (D.bl false))) A6)
 (Ar (BZ (Ao (Ag (JW false) (Ag BO (AD 3) (wC (D.int 0))) (wC (D.str "enough")))) (Ay (KL (Ag (JW false) (DC C8 (AK (AD 3) Aj)) (wC (D.int 1))) (Ag (f2 λi j=>D.bl (decide (j<=i))) (DC C8 (AK (AD 1) Aj)) (Gc 0 (wC (D.str "many")))))) A6)
 (Ar (BZ (Ao (Ag (JW false) (Ag BO (AD 3) (wC (D.int 0))) (wC (D.str "far")))) (Ay (KL (Ag (JW false) (DC C8 (AK (AD 3) Aj)) (wC (D.int 3))) (Ai Hl (AC (Hs 0) (AC (AL (AD 2)) (AC (AL (Ag BO (AD 3) (wC (D.int 1)))) (AC (AL (Ag BO (AD 3) (wC (D.int 2)))) Al))))))) A6)
 (Ar (BZ (Df (Ao (Ag (JW true) (Ag BO (AD 3) (wC (D.int 0))) (wC (D.str "split")))) (Df (Ao (Ag (JW true) (DC C8 (AK (AD 3) Aj)) (wC (D.int 4)))) (B9 (Ao (Ai Dd (AC (AL (Gc 0 (wC (D.str "net")))) (AC (AL (Ag BO (AD 3) (wC (D.int 1)))) Al))))))) (Ay (wC (D.bl false))) A6)
 (Ar (BI 5 (Ag BO (AD 3) (wC (D.int 1))))
 (Ar (BZ (Ao (Ag (HL false) (AD 5) (Ag A7 (AD 1) (AD 2)))) (Ay (wC (D.bl false))) A6)
 (Ar (BZ (B9 (Ao (Ai Wr (AC (Hs 0) (AC (AL (Ag A7 (AD 1) (CT (AK (AD 5) Aj)))) (AC (AL (AD 2)) (AC (AL (Ag BO (AD 3) (wC (D.int 2)))) (AC (AL (Ag A7 (AD 4) (wC (D.int 1)))) Al)))))))) (Ay (wC (D.bl false))) A6)
 (Ay (Ai Wr (AC (Hs 0) (AC (AL (AD 1)) (AC (AL (Ag A7 (AD 2) (CT (AK (AD 5) Aj)))) (AC (AL (Ag BO (AD 3) (wC (D.int 3)))) (AC (AL (Ag A7 (AD 4) (wC (D.int 1)))) Al))))))))))))))))
noncomputable def CB:Af:=(Ay (P2 (CP 7) 0 1 2 3 "net" "times" "many" 4000 1))
theorem KJ(x y z:D):Cv [.inr "net",.inr "times",.inr "many"] [x,y,z] (.inr "net")=some x:=if_pos rfl
theorem Hr(x y z:D):Cv [.inr "net",.inr "times",.inr "many"] [x,y,z] (.inr "times")=some y:=by
 unfold Cv
 rw [if_neg (λz=>absurd (Yx z) (by decide +kernel))]
 exact if_pos rfl
theorem NX(x y z:D):Cv [.inr "net",.inr "times",.inr "many"] [x,y,z] (.inr "many")=some z:=by
 unfold Cv
 rw [if_neg (λz=>absurd (Yx z) (by decide +kernel))]
 unfold Cv
 rw [if_neg (λz=>absurd (Yx z) (by decide +kernel))]
 exact if_pos rfl
theorem key_ne{x y:Str}(h:x≠y):(YJ x:Key)≠YJ y:=λz=>h (Yx z)
theorem Kx:(YJ "room" : Key)∉[(YJ "net" : Key),.inr "times",.inr "many"]:=λz=>by
 simp only [X_,YG,or_false] at z
 rcases z with z | z | z <;> exact absurd z (key_ne (by decide +kernel))
theorem UZ:[(YJ "net" : Key),YJ "times",YJ "many"].Nodup:=by
 simp only [YX,X_,YG,or_false,not_or,not_false_eq_true,and_true,Yz]
 exact⟨⟨key_ne (by decide +kernel),key_ne (by decide +kernel)⟩,key_ne (by decide +kernel)⟩
theorem UY:[(YJ "net" : Key),YJ "times",YJ "many",YJ "room"].Nodup:=by
 simp only [YX,X_,YG,or_false,not_or,not_false_eq_true,and_true,Yz]
 exact⟨⟨key_ne (by decide +kernel),key_ne (by decide +kernel),key_ne (by decide +kernel)⟩,⟨key_ne (by decide +kernel),key_ne (by decide +kernel)⟩,key_ne (by decide +kernel)⟩
theorem LF:∀c:Ca,1<=c.cnt
 | .en=>No _
 | .fa _ _=>No _
 | .sp _ c d=>by show 1<=1+c.cnt+d.cnt; omega
section
variable {ss:List Slot}{n:Nat}{Pd:D->Nat->Prop}
theorem HG(h:Dd ss n Pd):DX (EE Pd) n (ss++Re 0 .no):=by
 obtain⟨N,u,rfl,ok,hu,q⟩:=h
 unfold DX
 refine⟨_,_,rfl,rfl,_,AO (j:=2) rfl,?_⟩
 refine⟨_,AO (j:=1) rfl,Br ok hu,(F7 ok λ_ z=>z).1,_,rfl,?_⟩
 rw [B3,decide_eq_true hu]
 exact q
theorem EZ{Wr:W2}{j:Nat}(hrec:∀ss n P,j≠0->CP (j - 1) ss n P->Wr ss n P)(h:CP j ss n Pd):D_ Wr (EE Pd) n (ss++Re 1 .no):=by
 obtain⟨N,t,b,many,kept,gone,c,deep,rfl,okn,tm,hk,hg,l1,l2,hc,hd,hj,hn,q⟩:=h
 have ok:=okn.1
 have szl:=PySem.sizeLine_eq
 have cp:=LF c
 have dp:=Co c
 unfold D_
 refine⟨_,_,rfl,Kx,(by decide:3<=10),_,_,rfl,Kx,λr r0 r1=>⟨r - 1,n - 1,rfl,by omega,by omega,?_⟩⟩
 refine⟨_,_,rfl,Kx,λr' r0' r1'=>?_⟩
 show if decide (r'<0)=true then _ else _
 rw [decide_eq_false (by omega)]
 refine Be ?_
 show if decide ((15:Int)<(deep:Int))=true then _ else _
 rw [decide_eq_false (by omega)]
 refine Be ?_
 cases c with
 | en =>
  refine⟨_,_,rfl,rfl,?_⟩
  refine⟨_,AO (j:=0) rfl,?_⟩
  refine⟨_,_,rfl,rfl,?_⟩
  refine⟨_,_,rfl,rfl,_,_,rfl,_,_,rfl,NX _ _ _,?_⟩
  show Pd (.bl (decide ((many:Int)<=(((kept.map Am).length:Nat):Int)))) (n - 1)
  rw [show decide ((many:Int)<=(((kept.map Am).length:Nat):Int))=decide (many<=kept.length) from decide_eq_decide.mpr (by rw [Db]; omega)]
  exact q _ (No _)
 | fa u p =>
  refine⟨_,_,rfl,rfl,?_⟩
  refine⟨_,AO (j:=0) rfl,?_⟩
  refine⟨_,AO (j:=0) rfl,?_⟩
  refine⟨_,_,rfl,rfl,?_⟩
  refine⟨_,AO (j:=1) rfl,_,AO (j:=2) rfl,N,t,b,many,gone,u,p,rfl,okn,tm,hg,hc.1,hc.2,?_⟩
  have q:=q (n - 1) (No _)
  rw [show Gb N t b many kept gone (.fa u p)=(decide (u∈N.ts)&&decide (u∈gone)&&GB N t b gone u p) from rfl,decide_eq_true hc.1,Yh] at q
  exact q
 | sp u c d =>
  obtain⟨hu,hc1,hc2⟩:=hc
  have hdep:1+max c.dep d.dep<=j+1:=hj
  have hdeep:deep+(1+max c.dep d.dep)<=16:=hd
  have hl1:kept.length+(1+max c.dep d.dep)<=90:=l1
  have hl2:gone.length+(1+max c.dep d.dep)<=90:=l2
  have hcnt:1+c.cnt+d.cnt<=n:=hn
  have p1:=Co c
  have p2:=Co d
  have c1:=LF c
  have c2:=LF d
  have q:∀n',n - (1+c.cnt+d.cnt)<=n'->Pd (.bl (decide (u∈N.ts)&&decide (u∉kept)&&decide (u∉gone)&&Gb N t b many (kept++[u]) gone c&&Gb N t b many kept (gone++[u]) d)) n':=q
  refine⟨_,_,rfl,rfl,?_⟩
  refine⟨_,AO (j:=0) rfl,?_⟩
  refine⟨_,AO (j:=0) rfl,?_⟩
  refine⟨_,AO (j:=0) rfl,?_⟩
  refine⟨_,_,rfl,rfl,?_⟩
  refine⟨_,_,rfl,_,_,rfl,KJ _ _ _,_,AO (j:=1) rfl,N,u,rfl,ok,hu,?_⟩
  refine⟨_,AO (j:=1) rfl,?_⟩
  have lay2:B5 (.lst ((kept++gone).map Am)):=(F7 ok λv hv=>(YI.mp hv).elim (hk.1 v) (hg.1 v)).2
  refine⟨by rw [Db,Db]; omega,?_⟩
  rw [← YU]
  refine⟨Br ok hu,lay2,_,rfl,?_⟩
  rw [B3]
  show if decide (u∈kept++gone)=true then _ else _
  by_cases hm:u∈kept++gone
  ·rw [decide_eq_true hm]
   refine Dx ?_
   have q:=q (n - 1) (by omega)
   rw [show (decide (u∈N.ts)&&decide (u∉kept)&&decide (u∉gone)&&Gb N t b many (kept++[u]) gone c&&Gb N t b many kept (gone++[u]) d)=false by
    rcases YI.mp hm with z | z
    ·rw [show decide (u∉kept)=false from decide_eq_false λw=>w z]; simp
    ·rw [show decide (u∉gone)=false from decide_eq_false λw=>w z]; simp] at q
   exact q
  rw [decide_eq_false hm]
  rw [decide_eq_true hu,show decide (u∉kept)=true from decide_eq_true λz=>hm (Yc _ z),show decide (u∉gone)=true from decide_eq_true λz=>hm (YC _ z)] at q
  have hk':EG N (kept++[u]):=⟨λv hv=>(YI.mp hv).elim (hk.1 v) λz=>by rw [X7.mp z]; exact hu,by rw [Rs,X9]; omega⟩
  have hg':EG N (gone++[u]):=⟨λv hv=>(YI.mp hv).elim (hg.1 v) λz=>by rw [X7.mp z]; exact hu,by rw [Rs,X9]; omega⟩
  have ek:kept.map Am++[Am u]=(kept++[u]).map Am:=by rw [YU]; rfl
  have eg:gone.map Am++[Am u]=(gone++[u]).map Am:=by rw [YU]; rfl
  refine Be ⟨z1,by show (kept.map Am).length+1<=_; rw [Db]; omega,_,AO (j:=2) rfl,?_⟩
  rw [ek]
  refine hrec _ _ _ (by omega) ⟨N,t,b,many,kept++[u],gone,c,deep+1,rfl,okn,tm,hk',hg,by rw [Rs,X9]; omega,by omega,hc1,by omega,by omega,by omega,λn1 hn1=>?_⟩
  show if (!Gb N t b many (kept++[u]) gone c)=true then _ else _
  cases e3:Gb N t b many (kept++[u]) gone c with
  | false =>
   rw [e3] at q
   exact Dx (q n1 (by omega))
  | true =>
  rw [e3] at q
  refine Be ⟨z1,by show (gone.map Am).length+1<=_; rw [Db]; omega,_,AO (j:=3) rfl,?_⟩
  rw [eg]
  exact hrec _ _ _ (by omega) ⟨N,t,b,many,kept,gone++[u],d,deep+1,rfl,okn,tm,hk,hg',by omega,by rw [Rs,X9]; omega,hc2,by omega,by omega,by omega,λn2 hn2=>q n2 (by omega)⟩
theorem FY(h:GX ss n Pd):CB (EE Pd) n (ss++Re 0 .no):=by
 obtain⟨N,t,b,many,c,rfl,okn,tm,hc,hd,hn,q⟩:=h
 unfold CB
 have nE:D6 (E5 N)=true:=(HX (B:=1000001) (by decide) (UA (Sf okn.1) (CZ okn.1) (by rw [Db]; have:=okn.2.1; omega) (by rw [Db]; have:=okn.2.2; omega)).1).1
 refine⟨_,_,_,_,rfl,rfl,rfl,rfl,?_,N,t,b,many,[],[],c,1,rfl,okn,tm,⟨λ_ z=>absurd z YG,by decide⟩,⟨λ_ z=>absurd z YG,by decide⟩,by show 0+c.dep<=90; omega,by show 0+c.dep<=90; omega,hc,by omega,hd,by omega,λn' _=>q⟩
 show (D6 (E5 N)&&_)=true
 rw [nE]
 rfl
end
end Nt
set_option maxHeartbeats 4000000
namespace Dp
open PySem PySem.Spec PyProof.Rows L2
section
variable {X:Cx}{pos:Pos}
end
end Dp
namespace L2
open PySem PySem.Spec PyProof.Rows
section
variable {X:Cx}
end
end L2
namespace Dp
open PySem PySem.Spec PyProof.Rows L2
section
variable {X:Cx}{a tg:Expr}{κa:Kd}{wa:DW}
mutual
theorem At.frz{K:Frag}{M:Addr->Prop}{H:Hp}{a:Addr}{f:Addr->Obj}{kvs:List (Key×V)}(ha:H a=some (.dK kvs)):∀{d:D} {v:V},D6 d=true->At K M H d v->At K M (Sj H [a] f) d v
 | .non,v,_,h=>h
 | .bl b,v,_,h=>h
 | .int i,v,_,h=>h
 | .str x,v,_,h=>h
 | .tup ds,v,hn,h=>by
  obtain⟨b,vs,e,n2,hs⟩:=h
  refine⟨b,vs,e,?_,Ats.frz ha hn hs⟩
  unfold NdT at n2 ⊢
  rw [MF λz=>by rw [X7.mp z,ha] at n2; cases n2]
  exact n2
 | .lst ds,v,hn,h=>by
  obtain⟨b,vs,e,⟨n1,n2⟩,hs⟩:=h
  refine⟨b,vs,e,⟨n1,?_⟩,Ats.frz ha hn hs⟩
  rw [MF λz=>by rw [X7.mp z,ha] at n2; cases n2]
  exact n2
 | .dic _ _,v,hn,h=>by cases hn
 | .fdi _ _,v,hn,h=>by cases hn
 | .dit _ _,v,hn,h=>by cases hn
theorem Ats.frz{K:Frag}{M:Addr->Prop}{H:Hp}{a:Addr}{f:Addr->Obj}{kvs:List (Key×V)}(ha:H a=some (.dK kvs)):∀{ds:List D} {vs:List V},Bj ds=true->Ats K M H ds vs->Ats K M (Sj H [a] f) ds vs
 | [],vs,_,h=>h
 | d::ds,vs,hn,h=>by
  obtain⟨v,r,e,h1,h2⟩:=h
  have hn:(D6 d&&Bj ds)=true:=hn
  rw [YA] at hn
  exact⟨v,r,e,At.frz ha hn.1 h1,Ats.frz ha hn.2 h2⟩
end
end
noncomputable def EN:List (List Key)->List D->List Key->Option D
 | k0::ks,d::ds,k=>if k0=k then some d else EN ks ds k
 | _,_,_=>none
noncomputable def L9:List D->Option (List Key)
 | []=>some []
 | d::ds=>match keyOf d,L9 ds with
  | some k,some ks=>some (k::ks)
  | _,_=>none
noncomputable def keysOf:D->Option (List Key)
 | .tup ds=>L9 ds
 | _=>none
section
variable {K:Frag}{X:Cx}
theorem LW{M:Addr->Prop}{H:Hp}{k:List Key}:∀{ks:List (List Key)} {ds:List D} {vs:List V},Ats K M H ds vs ->
  match EN ks ds k with
  | some z=>∃v,Bu (ks.zip vs) k=some v/\At K M H z v
  | none=>Bu (ks.zip vs) k=none
 | [],ds,vs,h=>by unfold EN; exact rfl
 | k0::ks,[],vs,h=>by cases h; exact rfl
 | k0::ks,d::ds,vs,h=>by
  obtain⟨v,r,rfl,h1,h2⟩:=h
  have ih:=LW (k:=k) (ks:=ks) h2
  unfold EN
  by_cases e:k0=k
  ·rw [if_pos e]
   refine⟨v,?_,h1⟩
   show Bu ((k0,v)::ks.zip r) k=some v
   rw [EL e]
  ·rw [if_neg e]
   have:Bu ((k0,v)::ks.zip r) k=Bu (ks.zip r) k:=EM e
   rw [show (k0::ks).zip (v::r)=(k0,v)::ks.zip r from rfl,this]
   exact ih
theorem Qm{M:Addr->Prop}{H:Hp}{d:D}{v:V}{k:Key}(e:keyOf d=some k)(h:At K M H d v):v=kV k:=by
 cases d with
 | int i=>cases e; exact h
 | str x=>cases e; exact h.1
 | _=>cases e
theorem L8{M:Addr->Prop}{H:Hp}:∀{ds:List D} {vs:List V} {ks:List Key},L9 ds=some ks->Ats K M H ds vs->vs=ks.map kV
 | [],vs,ks,e,h=>by cases e; exact h
 | d::ds,vs,ks,e,h=>by
  obtain⟨v,r,rfl,h1,h2⟩:=h
  unfold L9 at e
  cases c1:keyOf d with
  | none=>rw [c1] at e; cases e
  | some k =>
   cases c2:L9 ds with
   | none=>rw [c1,c2] at e; cases e
   | some k2 =>
    rw [c1,c2] at e
    cases e
    rw [L8 c2 h2,Qm c1 h1]
    rfl
theorem Jt{U M:Addr->Prop}{H:Hp}{d:D}{v:V}{k:List Key}(e:keysOf d=some k)(h:AtT K U M H d v):∃b,v=.ref b/\H b=some (.tup (k.map kV)):=by
 cases d with
 | tup ds =>
  obtain⟨a,vs,rfl,ha,hs⟩:=h.tup
  refine⟨a,rfl,?_⟩
  rw [← L8 e hs]
  exact ha
 | _=>cases e
theorem RD{U M:Addr->Prop}{H:Hp}{x:V}{ks:List (List Key)}{ds:List D}(h:AtT K U M H (.dit ks ds) x):∃a vs,x=.ref a/\Rd H a (.dT (ks.zip vs))/\Ats K M H ds vs:=by
 obtain⟨a,vs,rfl,_,ha,_,hs⟩:=h
 exact⟨a,vs,rfl,.inl ha,hs⟩
theorem S7{H:Hp}{a b:Addr}{kvs:List (List Key×V)}{k:List Key}(e:Rd H a (.dT kvs))(eb:H b=some (.tup (k.map kV))):DGet H a (.ref b) (Bu kvs k):=.inr ⟨kvs,k,b,e,rfl,eb,rfl⟩
noncomputable def Qy(d e:D)(P:D->Prop):Prop:=∃ks ds k z,d=.dit ks ds/\keysOf e=some k/\EN ks ds k=some z/\P z
theorem VC:Fj K .sh Nj Qy:=λU M H d e x y P Q dom vM hx hy w q=>by
 obtain⟨ks,ds,k,z,rfl,he,hz,w⟩:=w
 obtain⟨a,vs,rfl,ha,hs⟩:=RD hx
 obtain⟨b,rfl,eb⟩:=Jt he hy
 have h:=LW (k:=k) (ks:=ks) hs
 rw [hz] at h
 obtain⟨v,h1,h2⟩:=h
 exact⟨a,v,rfl,by rw [← h1]; exact S7 ha eb,q v H z .refl h2 w⟩
variable {a b:Expr}{κa κb:Kd}{wa wb:DW}{pos:Pos}
theorem S9{k:Nat}(hr:Room k X.A)(ha:DE X a κa wa)(hb:DE X b κb wb)(hs:autoParam (Pk b) zau5._auto_1):DE X (.Subscript a b pos) .sh (Ag Qy wa wb):=by
 obtain⟨ta,ha1,ha2⟩:=ha
 obtain⟨tb,hb1,hb2⟩:=hb
 exact⟨Cj Nj ta tb,HS (Jx hr) ha1 hb1 hs,λC M H n ρ σ P Q R w q=>D1 VC ha2 hb2 C M H n ρ σ P Q R w q⟩
end
noncomputable def Jy(ks:List (List Key))(k:List Key):Bool:=ks.any λk0=>decide (k0=k)
theorem hasK_iffU{ks:List (List Key)}{k:List Key}:Jy ks k=true↔k∈ks:=by
 unfold Jy
 rw [Zg]
 exact⟨fun⟨x,hx,e⟩=>by rw [← of_decide_eq_true e]; exact hx,λh=>⟨k,h,decide_eq_true rfl⟩⟩
noncomputable def Bp(ks:List (List Key))(k:List Key):List (List Key):=if Jy ks k=true then ks else ks++[k]
noncomputable def Bo{α:Type}(ks:List (List Key))(ds:List α)(k:List Key)(d:α):List α:=if Jy ks k=true then ag (λk0 d0=>if k0=k then d else d0) ks ds else ds++[d]
theorem RR{ks:List (List Key)}{vs:List V}(hl:ks.length=vs.length)(k:List Key):((ks.zip vs).any λkv=>decide (kv.1=k))=Jy ks k:=by
 rw [ZC,Zg,hasK_iffU]
 constructor
 ·rintro ⟨⟨a,b⟩,hm,e⟩
  have e:a=k:=of_decide_eq_true e
  rw [← e]
  exact(Zn hm).1
 ·intro h
  obtain⟨i,hi,e⟩:=Z0.mp h
  refine⟨(ks[i],vs[i]'(by omega)),?_,by rw [e]; exact decide_eq_true rfl⟩
  exact Z0.mpr ⟨i,by rw [Zr]; omega,by rw [List.getElem_zip]⟩
theorem Ow{ks:List (List Key)}{vs:List V}(hl:ks.length=vs.length)(k:List Key)(v:V):putK (ks.zip vs) k v=(Bp ks k).zip (Bo ks vs k v):=by
 unfold putK Bp Bo
 rw [RR hl]
 by_cases h:Jy ks k=true
 ·rw [if_pos h,if_pos h,if_pos h]
  have go:∀(ks:List (List Key)) (vs:List V),((ks.zip vs).map λkv=>if kv.1=k then (kv.1,v) else kv)=ks.zip (ag (λk0 d0=>if k0=k then v else d0) ks vs):=by
   intro ks
   induction ks with
   | nil=>intro vs; rfl
   | cons a ks ih =>
    intro vs
    cases vs with
    | nil=>rfl
    | cons b vs =>
     show (if a=k then (a,v) else (a,b))::_=(a,if a=k then v else b)::_
     exact List.cons_eq_cons.mpr ⟨by split <;> rfl,ih vs⟩
  exact go ks vs
 ·rw [if_neg h,if_neg h,if_neg h,List.zip_append hl]
  rfl
theorem Ats.putU{K:Frag}{M:Addr->Prop}{H:Hp}{k:List Key}{d:D}{v:V}(hd:At K M H d v):∀{ks:List (List Key)} {ds:List D} {vs:List V},Ats K M H ds vs->Ats K M H (ag (λk0 d0=>if k0=k then d else d0) ks ds) (ag (λk0 d0=>if k0=k then v else d0) ks vs)
 | [],ds,vs,h=>rfl
 | a::ks,[],vs,h=>by cases (show vs=[] from h); rfl
 | a::ks,e::ds,vs,h=>by
  obtain⟨u,r,rfl,h1,h2⟩:=h
  refine⟨_,_,rfl,?_,Ats.putU hd h2⟩
  show At K M H (if a=k then d else e) (if a=k then v else u)
  by_cases e1:a=k
  ·rw [if_pos e1,if_pos e1]; exact hd
  ·rw [if_neg e1,if_neg e1]; exact h1
theorem Ats.putXU{K:Frag}{M:Addr->Prop}{H:Hp}{k:List Key}{d:D}{v:V}{ks:List (List Key)}{ds:List D}{vs:List V}(hd:At K M H d v)(h:Ats K M H ds vs):Ats K M H (Bo ks ds k d) (Bo ks vs k v):=by
 unfold Bo
 split
 ·exact Ats.putU hd h
 ·exact h.append (Ats.one hd)
theorem Ln{α:Type}{ks:List (List Key)}{ds:List α}{k:List Key}{d:α}(hl:ks.length=ds.length):(Bp ks k).length=(Bo ks ds k d).length:=by
 unfold Bp Bo
 split
 ·rw [List.length_zipWith]; omega
 ·rw [Rs,Rs]; show ks.length+1=ds.length+1; omega
theorem FS:∀{ks:List (List Key)} {ds:List D} {k:List Key},ks.length=ds.length->k∈ks->∃z,EN ks ds k=some z
 | [],ds,k,_,h=>by cases h
 | a::ks,[],k,h,_=>by cases h
 | a::ks,d::ds,k,hl,h=>by
  unfold EN
  by_cases e:a=k
  ·exact⟨d,if_pos e⟩
  ·rw [if_neg e]
   exact FS (by simpa using hl) ((X_.mp h).resolve_left λz=>e z.symm)
section
variable {X:Cx}{a b e:Expr}{κ κa κb:Kd}{wa wb:DW}{pos pos':Pos}
noncomputable def P0:DW:=λn _ P=>P (.dit [] []) n
theorem RF:DE X (.Dict [] [] pos) .fr P0:=by
 refine⟨_,Qc,λC M H n ρ σ P Q R w q=>λp hp=>?_⟩
 have g:Grow H (BB H p (.dT [])):=A5 hp
 exact q _ _ (.dit [] []) n g.ext (R.feed.grow g) ⟨p,rfl,hp,[],AY,rfl,rfl⟩ w
noncomputable def TU(i:Nat)(wk wv:DW):Af:=λD2 n ρ=>∃ks ds,ρ[i]?=some (.ow (.dit ks ds))/\wv n ρ λd n1=>wk n1 ρ λk n2=>∃key,keysOf k=some key/\ks.length<sizeLine/\D2.nx n2 (ρ.set i (.ow (.dit (Bp ks key) (Bo ks ds key d))))
theorem S3{i k:Nat}{x:Expr}(hr:Room k X.A)(hx:PE X x (BG i))(ha:DE X a κa wa)(hb:DE X b κb wb)(hk:autoParam (κb≠.tp) zau6._auto_1)
  (hs:autoParam (swapsWith b (some (.Subscript x a pos')) pos.line X.env=pure false) zau3._auto_1):DS X κ (.Assign [.Subscript x a pos'] b pos) (TU i wa wb):=by
 obtain⟨t,h1,h2⟩:=ha
 obtain⟨u,g1,g2⟩:=hb
 refine⟨_,Nl (Jx hr) hx h1 g1 hs,λC M H n ρ σ D2 E R L w=>?_⟩
 obtain⟨ks,ds,hd,w⟩:=w
 refine g2 C M H n ρ σ _ _ R w λv H1 d n1 e1 f1 r1 p=>?_
 have R1:=R.step e1 f1
 obtain⟨ad,ea,m,nv,tt⟩:=R1.sl i _ hd
 refine⟨.ref ad,getD_some ea,?_⟩
 refine h2 C M H1 n1 ρ σ _ _ R1 p λy H2 kk n2 e2 f2 r2 p=>?_
 obtain⟨key,hkey,hlt,p⟩:=p
 have R2:=R1.step e2 f2
 obtain⟨ad',ea',m',nv',tt'⟩:=R2.sl i _ hd
 rw [ea] at ea'
 cases ea'
 obtain⟨vs,hH,hl,hs'⟩:=tt'
 have hat:At X.K M H2 d v:=(r1.shOf R.dom hk).pres (R1.pres e2)
 have hvl:ks.length=vs.length:=by rw [hl,hs'.length]
 obtain⟨b,rfl,eb⟩:=Jt hkey (r2.tpOf R1.dom R1.vM)
 refine⟨ad,_,rfl,DPut.t hH eb (by rw [Zr]; omega),L.nx M _ n2 _ σ (R2.mut (e:=.dit (Bp ks key) (Bo ks ds key d)) hd ea ⟨Bo ks vs key v,by rw [AY,Ow hvl],Ln hl,(hs'.putXU hat).pres (F1 m' hH)⟩) p⟩
variable {apos cpos:Pos}{f:Expr}{κf:Kd}{wf:DW}
end
end Dp
namespace L2
open PySem PySem.Spec PyProof.Rows PySem.W
noncomputable abbrev DB(h:Heap)(z TI TO:Addr)(f0:Value)(b:Bool):Prop:=h.get? z=some { cls:=.type "zip",dict:=none,data:=.fields #[f0,.bool b,.bool false,.ref TI,.ref TO],slots:=#[] }
theorem HM:typeLookup (.type "zip") "__getattr__"=pure none:=by rw [typeLookup_type,builtinLookup_eq_fast]; kernel_rfl
theorem EJ:entryFor table "zip.__getattribute__"=some Builtin.«object.__getattribute__» :=
 entryFor_alias (id' := "object.__getattribute__") (by kernel_rfl) (by decide +kernel) (by decide +kernel) (by kernel_rfl)
theorem Sz:typeLookup (.type "zip") "keys"=pure none:=am_miss_of_fast (by decide +kernel)
theorem Q8(a:Addr)(xs:Array Value)(name:Str)(u:Tok)(hmiss:typeLookup (.type "zip") name=pure none)(hname:(["__module__","__name__","__qualname__","__doc__","__annotations__"]:List Str).contains name=false)(hsz:autoParam (name.length+100<=sizeLine) zau8._auto_1) :
  Meets (Builtin.«object.__getattribute__» ⟨[.ref a,.str name u],[]⟩) (λA R s=>s.heap.get? a=some { cls:=.type "zip",dict:=none,data:=.fields xs,slots:=#[] }/\raisesAttr (.ref a) name A R s) :=
 Meets.of_wp λprog w A R s hs=>by
  obtain⟨hp,g,d,tk,os⟩:=s
  obtain⟨hx,hs⟩:=hs
  have hT:(⟨hp,g,d,tk,os⟩:Shared).TypeIs (.ref a) "zip":=⟨_,hx,rfl⟩
  unfold Builtin.«object.__getattribute__»
  repeat (any_goals (first | assumption | wp_step))
  simp only [hname,Yd,if_false]
  repeat (any_goals (first | assumption | wp_step))
  exact wpAny_raiseAttrError hs.1 hs.2 (attrMsg_fits (by decide +kernel) hsz)
section
variable {prog:Program}{w:World}{A:Around}{E:Value->Shared->Prop}{s:Shared}
theorem Sy{a:Addr}{xs:Array Value}{Q:Option Value->Shared->Prop}(hx:s.heap.get? a=some { cls:=.type "zip",dict:=none,data:=.fields xs,slots:=#[] })(hA:A.handled=none)
  (h:∀h' tk,(∀b o,s.heap.get? b=some o->h'.get? b=some o)->Q none { s with heap:=h',toks:=tk }):wpAny (model prog w) A (getAttr? (.ref a) "keys") Q E s:=by
 obtain⟨hp,g,d,tk,os⟩:=s
 have hT:∀tk',(⟨hp,g,d,tk',os⟩:Shared).TypeIs (.ref a) "zip":=λ_=>⟨_,hx,rfl⟩
 have f1:=sub_AttributeError
 have f3:=PySem.F.slot_zip_getattribute.lookup
 have f4:=PySem.F.slot_zip_getattribute.bind (.ref a)
 have f5:=HM
 unfold getAttr? getAttrBy? getAttrBy
 repeat (any_goals (first | assumption | exact hT _ | ((with_reducible show wpAny _ _ (call (Value.builtin "zip.__getattribute__") _ _) _ _ _); refine bS PySem.F.slot_zip_getattribute (hT _) EJ (PySem.F.args_zip_getattribute_2 _ _) (Q8 a xs "keys" _ Sz (by decide +kernel) (by decide +kernel)) ⟨hx,hA,λh' tk' e hx'=>?_⟩) | wp_step))
 obtain⟨t',u',he⟩:=hx'.there
 show wpAny _ _ (getattributeRaised _ _ _ _ _ _ _) _ _ _
 unfold getattributeRaised
 repeat (any_goals (first | assumption | wp_step))
 exact h _ _ hx'.keeps
theorem Q9{a:Addr}{o:Obj}{Q:Option Obj->Shared->Prop}(ho:s.heap.get? a=some o)(h:Q (some o) s):wpAny (model prog w) A (loadIfAlive a) Q E s:=by
 have h':Q (s.heap.get? a) s:=by rw [ho]; exact h
 exact λ_ _ _=>h'
theorem OC{z TI TO a:Addr}{b:Bool}{o:Obj}{Q:Bool->Shared->Prop}(hz:DB s.heap z TI TO (rawInt (a:Nat)) b)(ha:s.heap.get? a=some o)
  (hQ:∀h',DB h' z TI TO (rawInt (a:Nat)) true->ZP z s.heap h'->Q false { s with heap:=h' }):wpAny (model prog w) A (YK (.ref z)) Q E s:=by
 unfold YK
 refine Ch (YS hz rfl (x:=rawInt a) rfl ?_)
 show wpAny _ _ (loadIfAlive ((a:Int).toNat) >>= _) _ _ _
 rw [Yg]
 refine Ch (Q9 ha ?_)
 simp only [Option.isNone_some,Yd,if_false]
 refine Ch (YS hz rfl (x:=.bool b) rfl ?_)
 cases b with
 | true =>
  rw [if_neg (show ¬((ZY true != ZY true)=true) from Uf)]
  exact Go (hQ _ hz (Heap.SameBut.refl _ _))
 | false =>
  rw [if_pos (show (ZY false != ZY true)=true from rfl)]
  refine Ch (Y9 hz (by simp) λh₃ he₃ hs₃=>?_)
  exact Go (hQ h₃ he₃ hs₃)
theorem S0{κ1 κ2:Bool}{z TI TO i1 i2 l1 l2 a:Addr}{b:Bool}{o:Obj}{k:Nat}{xs ys:Array Value}{x y:Value}{Q:Value->Shared->Prop}(D:Rc z TI TO i1 i2 l1 l2)
  (hz:DB s.heap z TI TO (rawInt (a:Nat)) b) (ha:s.heap.get? a=some o) (hTI:IsPair s.heap TI (.ref i1) (.ref i2)) (h1:ItAt κ1 s.heap i1 l1 k) (h2:ItAt κ2 s.heap i2 l2 k) (hl1:SqAt κ1 s.heap l1 xs) (hl2:SqAt κ2 s.heap l2 ys) (hx:xs[k]?=some x) (hy:ys[k]?=some y)
  (hQ:∀h',DB h' z TI TO (rawInt (a:Nat)) true->ItAt κ1 h' i1 l1 (k+1)->ItAt κ2 h' i2 l2 (k+1)->IsPair h' s.heap.objs.size x y->(∀c o,c≠z->c≠i1->c≠i2->s.heap.get? c=some o->h'.get? c=some o)->Q (.ref s.heap.objs.size) { s with heap:=h' }) :
  wpAny (model prog w) A (Builtin.«zip.__next__» ⟨[.ref z],[]⟩) (λfin s'=>∃v,fin=.done (.ret v)/\Q v s') E s:=by
 show wpAny (model prog w) A (field (.ref z) 2 >>= _) _ _ _; refine Ch (YS hz rfl (x:=.bool false) rfl ?_)
 show wpAny (model prog w) A (field (.ref z) 3 >>= _) _ _ _; refine Ch (YS hz rfl (x:=.ref TI) rfl ?_); refine Ch (Yu hTI rfl ?_)
 show wpAny (model prog w) A (YK (.ref z) >>= _) _ _ _
 refine Ch (OC hz ha λha hza hsa=>?_)
 simp only [Yd,if_false]
 refine Ch ?_
 simp only [List.forIn_toArray,ZT,av]
 refine Ch (Ch (Yp ?_)); show wpAny (model prog w) _ (YL (.ref i1) >>= _) _ _ _
 refine Ch (DQ (h1.eb hsa.extBut D.i1z) (hl1.eb hsa.extBut D.l1z) hx λhb h1b hsb=>Go ?_)
 refine Go ?_
 refine Ch (Ch (Yp ?_)); show wpAny (model prog w) _ (YL (.ref i2) >>= _) _ _ _
 refine Ch (DQ ((h2.eb hsa.extBut D.i2z).eb hsb.extBut D.i12.symm) ((hl2.eb hsa.extBut D.l2z).eb hsb.extBut D.l2i1) hy λhc h2c hsc=>Go ?_)
 refine Go (Go ?_)
 refine Ch (wpAny_newTuple ?_ (by show 2<=sizeLine; decide))
 have hsz:hc.objs.size=s.heap.objs.size:=by rw [hsc.1,hsb.1,hsa.1]
 have hzc:DB hc z TI TO (rawInt (a:Nat)) true:=hsc.extBut _ _ D.i2z.symm (hsb.extBut _ _ D.i1z.symm hza)
 have hp:IsPair (hc.push { cls:=.type "tuple",data:=.seq #[x,y] }) s.heap.objs.size x y:=by
  show Heap.get? _ _=_
  rw [← hsz]
  exact UF _ rfl
 have fin:=hQ _ (Ev _ hzc) ((h1b.eb hsc.extBut D.i12).mv λo e=>Ev _ e) (h2c.mv λo e=>Ev _ e) hp λc o c1 c3 c4 e=>Ev _ (hsc.extBut _ _ c4 (hsb.extBut _ _ c3 (hsa.extBut _ _ c1 e)))
 refine Go ⟨_,rfl,?_⟩
 show Q (.ref hc.objs.size) _
 rw [hsz]
 exact fin
theorem Uw{κ1 κ2:Bool}{z TI TO i1 i2 l1 l2 a:Addr}{b:Bool}{o:Obj}{k:Nat}{xs ys:Array Value}{Q:Fin->Shared->Prop}(hh:A.handled=none)(D:Rc z TI TO i1 i2 l1 l2)
  (hz:DB s.heap z TI TO (rawInt (a:Nat)) b) (ha:s.heap.get? a=some o) (hTI:IsPair s.heap TI (.ref i1) (.ref i2)) (h1:ItAt κ1 s.heap i1 l1 k) (hl1:SqAt κ1 s.heap l1 xs) (hx:xs[k]?=none)
  (hE:∀h' e,(∀c o,c≠z->c≠i1->s.heap.get? c=some o->h'.get? c=some o)->(∃o,h'.get? e=some o/\o.cls=.type "StopIteration")->E (.ref e) { s with heap:=h' }) :
  wpAny (model prog w) A (Builtin.«zip.__next__» ⟨[.ref z],[]⟩) Q E s:=by
 show wpAny (model prog w) A (field (.ref z) 2 >>= _) _ _ _; refine Ch (YS hz rfl (x:=.bool false) rfl ?_)
 show wpAny (model prog w) A (field (.ref z) 3 >>= _) _ _ _; refine Ch (YS hz rfl (x:=.ref TI) rfl ?_); refine Ch (Yu hTI rfl ?_)
 show wpAny (model prog w) A (YK (.ref z) >>= _) _ _ _
 refine Ch (OC hz ha λha hza hsa=>?_)
 simp only [Yd,if_false]
 refine Ch ?_
 simp only [List.forIn_toArray,ZT,av]
 refine Ch (Ch (Yp ?_)); show wpAny (model prog w) _ (YL (.ref i1) >>= _) _ _ _
 refine Ch (Ir hh (h1.eb hsa.extBut D.i1z) (hl1.eb hsa.extBut D.l1z) hx λhb e hsb he=>?_)
 exact hE hb e (λc o c1 c3 x=>hsb _ _ c3 (hsa.extBut _ _ c1 x)) he
theorem K7{κ1 κ2:Bool}{z TI TO i1 i2 l1 l2 a:Addr}{b:Bool}{o:Obj}{k:Nat}{xs ys:Array Value}{x y:Value}{Q:Option Value->Shared->Prop}(D:Rc z TI TO i1 i2 l1 l2)
  (hz:DB s.heap z TI TO (rawInt (a:Nat)) b) (ha:s.heap.get? a=some o) (hTI:IsPair s.heap TI (.ref i1) (.ref i2)) (h1:ItAt κ1 s.heap i1 l1 k) (h2:ItAt κ2 s.heap i2 l2 k) (hl1:SqAt κ1 s.heap l1 xs) (hl2:SqAt κ2 s.heap l2 ys) (hx:xs[k]?=some x) (hy:ys[k]?=some y)
  (hQ:∀h',DB h' z TI TO (rawInt (a:Nat)) true->ItAt κ1 h' i1 l1 (k+1)->ItAt κ2 h' i2 l2 (k+1)->IsPair h' s.heap.objs.size x y->(∀c o,c≠z->c≠i1->c≠i2->s.heap.get? c=some o->h'.get? c=some o)->Q (some (.ref s.heap.objs.size)) { s with heap:=h' }) :
  wpAny (model prog w) A (pyNext (.ref z)) Q E s:=by
 have hT:s.TypeIs (.ref z) "zip":=⟨_,hz,rfl⟩
 unfold pyNext
 exact Ch (Z4 (YT (name:=Y6 "__next__") hT ZF (Yk ZF hT aN
  (S0 D hz ha hTI h1 h2 hl1 hl2 hx hy λh' a1 a2 a3 a4 a5=>Go (hQ h' a1 a2 a3 a4 a5)) (aJ _))))
theorem MH{κ1:Bool}{z TI TO i1 i2 l1 l2 a:Addr}{b:Bool}{o:Obj}{k:Nat}{xs:Array Value}{Q:Option Value->Shared->Prop}(hh:A.handled=none)(D:Rc z TI TO i1 i2 l1 l2)
  (hz:DB s.heap z TI TO (rawInt (a:Nat)) b) (ha:s.heap.get? a=some o) (hTI:IsPair s.heap TI (.ref i1) (.ref i2)) (h1:ItAt κ1 s.heap i1 l1 k) (hl1:SqAt κ1 s.heap l1 xs) (hx:xs[k]?=none)
  (hQ:∀h',(∀c o,c≠z->c≠i1->s.heap.get? c=some o->h'.get? c=some o)->Q none { s with heap:=h' }):wpAny (model prog w) A (pyNext (.ref z)) Q E s:=by
 have hT:s.TypeIs (.ref z) "zip":=⟨_,hz,rfl⟩
 unfold pyNext
 refine Ch (Z4 (YT (name:=Y6 "__next__") hT ZF (Yk ZF hT aN (Uw (κ2:=true) (ys:=#[]) hh D hz ha hTI h1 hl1 hx λh' e hk he=>?_) (aJ _))))
 obtain⟨o,ho,hc⟩:=he
 exact Ch (bZ (T := "StopIteration") (b:=true) ⟨o,ho,hc⟩ isSubtype_stop (Go (hQ _ hk)))
end
structure Xz (prog:Program) (w:World) (A:Around) (I d:Addr) (n:Nat) (base:Heap) (key:Nat->Addr) (val:Nat->Value) (ch:Addr->Prop) (St:Nat->Heap->Prop):Prop where
 new:∀b,ch b->base.get? b=none
 item:∀(i:Nat) (s:Shared) (Q:Option Value->Shared->Prop) (E:Value->Shared->Prop),i<n->St i s.heap->(∀b o,base.get? b=some o->s.heap.get? b=some o)->(∃o,s.heap.get? d=some o) ->
  (∀h' tk a o c,h'.get? a=some o->o.cls=.type "tuple"->o.data=.seq #[.ref (key i),val i] c->St (i+1) h'->(∀b o,¬ch b->s.heap.get? b=some o->h'.get? b=some o)->Q (some (.ref a)) { s with heap:=h',toks:=tk })->wpAny (model prog w) A (pyNext (.ref I)) Q E s
 done:∀(s:Shared) (Q:Option Value->Shared->Prop) (E:Value->Shared->Prop),St n s.heap->(∀b o,base.get? b=some o->s.heap.get? b=some o)->(∀h' tk,(∀b o,¬ch b->s.heap.get? b=some o->h'.get? b=some o)->Q none { s with heap:=h',toks:=tk })->wpAny (model prog w) A (pyNext (.ref I)) Q E s
 frame:∀i h h',St i h->ZP d h h'->St i h'
 dch:¬ch d
section
variable {prog:Program}{w:World}{A:Around}{R:Result->Shared->Prop}{I d:Addr}{n:Nat}{base:Heap}{key:Nat->Addr}{val:Nat->Value}{ch:Addr->Prop}{St:Nat->Heap->Prop}
noncomputable def ZS(κ1 κ2:Bool)(z TI TO i1 i2 l1 l2 d:Addr)(i:Nat)(h:Heap):Prop:=IsPair h TI (.ref i1) (.ref i2)/\ItAt κ1 h i1 l1 i/\ItAt κ2 h i2 l2 i/\((IsZip h z TI TO .none/\∃a b,IsPair h TO a b)\/∃(a:Nat) (b:Bool) (o:Obj),DB h z TI TO (rawInt (a:Nat)) b/\h.get? a=some o/\a≠z/\a≠TO/\a≠i1/\a≠i2/\a≠d)
end
structure PrV (prog:Program) (w:World) (A:Around) (I d:Addr) (n:Nat) (base:Heap) (key:Nat->Value) (val:Nat->Value) (ch:Addr->Prop) (St:Nat->Heap->Prop):Prop where
 new:∀b,ch b->base.get? b=none
 item:∀(i:Nat) (s:Shared) (Q:Option Value->Shared->Prop) (E:Value->Shared->Prop),i<n->St i s.heap->(∀b o,base.get? b=some o->s.heap.get? b=some o)->(∃o,s.heap.get? d=some o) ->
  (∀h' tk a o c,h'.get? a=some o->o.cls=.type "tuple"->o.data=.seq #[key i,val i] c->St (i+1) h'->(∀b o,¬ch b->s.heap.get? b=some o->h'.get? b=some o)->Q (some (.ref a)) { s with heap:=h',toks:=tk })->wpAny (model prog w) A (pyNext (.ref I)) Q E s
 done:∀(s:Shared) (Q:Option Value->Shared->Prop) (E:Value->Shared->Prop),St n s.heap->(∀b o,base.get? b=some o->s.heap.get? b=some o)->(∀h' tk,(∀b o,¬ch b->s.heap.get? b=some o->h'.get? b=some o)->Q none { s with heap:=h',toks:=tk })->wpAny (model prog w) A (pyNext (.ref I)) Q E s
 frame:∀i h h',St i h->ZP d h h'->St i h'
 dch:¬ch d
section
variable {prog:Program}{w:World}{A:Around}{R:Result->Shared->Prop}{I d:Addr}{n:Nat}{base:Heap}{key:Nat->Value}{val:Nat->Value}{ch:Addr->Prop}{St:Nat->Heap->Prop}{K:Type}[DecidableEq K]{knd:KeyKind prog w K}
theorem Q6(W:PrV prog w A.in1 I d n base key val ch St)(kvs:List (K×Value))(hlen:kvs.length=n)(nd:(kvs.map (·.1)).Nodup)(hsz:n<=sizeLine)(hdb:base.get? d=none)
  (hit:∀(i:Nat) (p:K×Value),kvs[i]?=some p->p.2=val i/\knd.is p.1 (key i)=true) :
  ∀(k i:Nat) (s:Shared),n - i=k->i<=n->St i s.heap->(∀b o,base.get? b=some o->s.heap.get? b=some o)->s.heap.DictOf knd d (kvs.take i) ->
   (∀h' tk,h'.DictOf knd d kvs->(∀b o,base.get? b=some o->h'.get? b=some o)->R (.ok (.ret .none)) { s with heap:=h',toks:=tk }) ->
   codeAny (model prog w) A (.builtin "dict.update.loop" ⟨[.ref d,.ref I,rawInt (i:Int),.none],[]⟩) R s:=by
 have old:∀{h h':Heap},(∀b o,base.get? b=some o->h.get? b=some o)->(∀b o,¬ch b->h.get? b=some o->h'.get? b=some o)->∀b o,base.get? b=some o->h'.get? b=some o:=λh1 h2 b o e=>h2 b o (λz=>by rw [W.new b z] at e; cases e) (h1 b o e)
 intro k
 induction k with
 | zero =>
  intro i s hk hi hst hold hD hR
  have hin:i=n:=by omega
  subst hin
  refine Z8 FH ?_
  rw [ae B0 _]
  show wpAny _ A.in1 (pyNext (.ref I) >>= _) _ _ s
  refine Ch (W.done s _ _ hst hold λh' tk hk'=>?_)
  show wpAny _ A.in1 (Builtin.Dict.addKeywords d [] >>= λ_=>ret YM) _ _ _
  refine Ch (Go (Go (hR h' tk ?_ (old hold hk'))))
  obtain⟨o,es,ep,ho,r⟩:=hD
  rw [Zs (by omega)] at r
  exact⟨o,es,ep,hk' d o W.dch ho,r⟩
 | succ k ih =>
  intro i s hk hi hst hold hD hR
  have hlt:i<n:=by omega
  refine Z8 FH ?_
  rw [ae B0 _]
  show wpAny _ A.in1 (pyNext (.ref I) >>= _) _ _ s
  refine Ch (W.item i s _ _ hlt hst hold (by obtain⟨o,_,_,h,_⟩:=hD; exact⟨o,h⟩) λh' tk a o c ha hc hd hst' hk'=>?_)
  have hp:kvs[i]?=some (kvs[i]'(by omega)):=FM (by omega)
  generalize kvs[i]'(by omega)=p at hp
  obtain⟨k1,his⟩:=hit i p hp
  have ho:=old hold hk'
  have hD':h'.DictOf knd d (kvs.take i):=by
   obtain⟨o,es,ep,ho,r⟩:=hD
   exact⟨o,es,ep,hk' d o W.dch ho,r⟩
  show wpAny _ A.in1 (holding [YO a] _ >>= _) _ _ _
  refine Ch (Yp ?_)
  show wpAny _ A.in1 (tryCatch (b_ (.ref a)) _ >>= _) _ _ _
  refine Ch (wpAny_tryCatch ?_)
  unfold b_
  refine Ch (aB (T := "tuple") ⟨o,ha,hc⟩ ?_)
  show wpAny _ A.in1 (seqItems? (.ref a) >>= _) _ _ _
  refine Ch (Yu ha hd (Go ?_))
  rw [← k1]
  show wpAny _ A.in1 (holding [key i,p.2] (dictSet d (key i) p.2)) _ _ _
  refine Yp (wpAny_dictSet_pairs (hsz:=by rw [ZI]; omega) his hD' λh'' hD'' hs=>?_)
  have hni:p.1∉(kvs.take i).map (·.1):=λz=>by
   have e:kvs.map (·.1)=(kvs.take i).map (·.1)++p.1::(kvs.drop (i+1)).map (·.1):=by
    have:=aT i kvs
    rw [ZB (by omega:i<kvs.length)] at this
    rw [FM (by omega:i<kvs.length)] at hp
    cases hp
    conv=>lhs; rw [← this]
    rw [YU,X6]
   rw [e,ZX] at nd
   exact nd.2.2 p.1 z p.1 Op rfl
  have e2:kvs.take (i+1)=kvs.take i++[p]:=by rw [List.take_add_one,hp]; rfl
  rw [stored_new hni,← e2] at hD''
  refine Go ⟨plainId_quiet B0 _,?_⟩
  have hi1:((i:Int)+1)=((i+1:Nat):Int):=by omega
  rw [hi1]
  refine ih (i+1) _ (by omega) hlt (W.frame _ _ _ hst' hs) (λb o e=>?_) hD'' λh3 tk3 hD3 hold3=>hR h3 tk3 hD3 hold3
  exact(hs.2 b λz=>by rw [z,hdb] at e; cases e).trans (ho b o e)
theorem PrV.zip{κ1 κ2:Bool}{z TI TO i1 i2 l1 l2:Addr}{ks vs:Array Value}(hh:A.handled=none)(D:Rc z TI TO i1 i2 l1 l2)(hTI:TI≠z/\TI≠TO/\TI≠i1/\TI≠i2)(hd:d≠z/\d≠TI/\d≠TO/\d≠i1/\d≠i2)(hn:∀b,b=z\/b=TO\/b=i1\/b=i2->base.get? b=none)
  (hl1:SqAt κ1 base l1 ks) (hl2:SqAt κ2 base l2 vs) (h1:ks.size=n) (hk:∀i,i<n->ks[i]?=some (key i)/\vs[i]?=some (val i)):PrV prog w A z d n base key val (λb=>b=z\/b=TO\/b=i1\/b=i2) (ZS κ1 κ2 z TI TO i1 i2 l1 l2 d) where
 new:=hn
 item:=λi s Q E hi ⟨ti,a1,a2,st⟩ hold ⟨od,hod⟩ h=>by
  have q1:SqAt κ1 s.heap l1 ks:=hl1.mv λo e=>hold _ o e
  have q2:SqAt κ2 s.heap l2 vs:=hl2.mv λo e=>hold _ o e
  obtain⟨e1,e2⟩:=hk i hi
  have lt:∀{b:Addr} {o:Obj},s.heap.get? b=some o->s.heap.objs.size≠b:=λe=>aW (Tk e)
  obtain⟨o1,x1,_⟩:=a1.lies
  obtain⟨o2,x2,_⟩:=a2.lies
  rcases st with ⟨hz,p,q,hTO⟩ | ⟨a,b,o,hz,ha,n1,n2,n3,n4,n5⟩
  ·refine JV D hz ti hTO a1 a2 q1 q2 e1 e2 λh' b1 b2 b3 b4 b5 _ b7=>?_
   exact h h' s.toks _ _ _ b5 rfl rfl ⟨b7 _ _ hTI.1 hTI.2.1 hTI.2.2.1 hTI.2.2.2 ti,b3,b4,.inr ⟨_,false,_,b1,b5,lt hz,lt hTO,lt x1,lt x2,lt hod⟩⟩ λb o nb e=>b7 b o (λz=>nb (.inl z)) (λz=>nb (.inr (.inl z))) (λz=>nb (.inr (.inr (.inl z)))) (λz=>nb (.inr (.inr (.inr z)))) e
  ·refine K7 D hz ha ti a1 a2 q1 q2 e1 e2 λh' b1 b3 b4 b5 b7=>?_
   exact h h' s.toks _ _ _ b5 rfl rfl ⟨b7 _ _ hTI.1 hTI.2.2.1 hTI.2.2.2 ti,b3,b4,.inr ⟨a,true,o,b1,b7 _ _ n1 n3 n4 ha,n1,n2,n3,n4,n5⟩⟩ λb o nb e=>b7 b o (λz=>nb (.inl z)) (λz=>nb (.inr (.inr (.inl z)))) (λz=>nb (.inr (.inr (.inr z)))) e
 done:=λs Q E ⟨ti,a1,a2,st⟩ hold h=>by
  have q1:SqAt κ1 s.heap l1 ks:=hl1.mv λo e=>hold _ o e
  have q2:SqAt κ2 s.heap l2 vs:=hl2.mv λo e=>hold _ o e
  have e1:ks[n]?=none:=by rw [cA (by omega)]
  rcases st with ⟨hz,p,q,hTO⟩ | ⟨a,b,o,hz,ha,n1,n2,n3,n4,n5⟩
  ·exact Ky hh D hz ti hTO a1 a2 q1 q2 (.inl e1) λh' b7=>h h' s.toks λb o nb e=>b7 b o (λz=>nb (.inl z)) (λz=>nb (.inr (.inl z))) (λz=>nb (.inr (.inr (.inl z)))) (λz=>nb (.inr (.inr (.inr z)))) e
  ·exact MH hh D hz ha ti a1 q1 e1 λh' b7=>h h' s.toks λb o nb e=>b7 b o (λz=>nb (.inl z)) (λz=>nb (.inr (.inr (.inl z)))) e
 frame:=λi h h' ⟨ti,a1,a2,st⟩ hs=>by
  have mv:∀b o,b≠d->h.get? b=some o->h'.get? b=some o:=λb o nb e=>(hs.2 b nb).trans e
  refine⟨mv _ _ (Yq hd.2.1) ti,a1.mv λo e=>mv _ o (Yq hd.2.2.2.1) e,a2.mv λo e=>mv _ o (Yq hd.2.2.2.2) e,?_⟩
  rcases st with ⟨hz,p,q,hTO⟩ | ⟨a,b,o,hz,ha,n1,n2,n3,n4,n5⟩
  ·exact .inl ⟨mv _ _ (Yq hd.1) hz,p,q,mv _ _ (Yq hd.2.2.1) hTO⟩
  ·exact .inr ⟨a,b,o,mv _ _ (Yq hd.1) hz,mv _ _ n5 ha,n1,n2,n3,n4,n5⟩
 dch:=λz=>by
  rcases z with z | z | z | z
  ·exact hd.1 z
  ·exact hd.2.2.1 z
  ·exact hd.2.2.2.1 z
  ·exact hd.2.2.2.2 z
end
section
variable {prog:Program}{w:World}{A:Around}{E:Value->Shared->Prop}{s:Shared}{K:Type}[DecidableEq K]{knd:KeyKind prog w K}
theorem Q7{κ1 κ2:Bool}{z TI TO i1 i2 l1 l2:Addr}{ks vs:Array Value}{base:Heap}{n:Nat}{key:Nat->Value}{val:Nat->Value}{Q:Value->Shared->Prop}(hh:A.handled=none)(D:Rc z TI TO i1 i2 l1 l2)(hTI:TI≠z/\TI≠TO/\TI≠i1/\TI≠i2)
  (hz:IsZip s.heap z TI TO .none) (ti:IsPair s.heap TI (.ref i1) (.ref i2)) (to:∃a b,IsPair s.heap TO a b) (it1:ItAt κ1 s.heap i1 l1 0) (it2:ItAt κ2 s.heap i2 l2 0) (hn:∀b,b=z\/b=TO\/b=i1\/b=i2->base.get? b=none) (hold:∀b o,base.get? b=some o->s.heap.get? b=some o)
  (hl1:SqAt κ1 base l1 ks) (hl2:SqAt κ2 base l2 vs) (h1:ks.size=n) (hk:∀i,i<n->ks[i]?=some (key i)/\vs[i]?=some (val i))
  (kvs:List (K×Value)) (hlen:kvs.length=n) (nd:(kvs.map (·.1)).Nodup) (hsz:n<=sizeLine) (hit:∀(i:Nat) (p:K×Value),kvs[i]?=some p->p.2=val i/\knd.is p.1 (key i)=true)
  (h:∀h' tk,h'.DictOf knd s.heap.objs.size kvs->(∀b o,base.get? b=some o->h'.get? b=some o)->Q (.ref s.heap.objs.size) { s with heap:=h',toks:=tk }) :
  wpAny (model prog w) A (call (.type "dict") [.ref z]) Q E s:=by
 refine callType_codes (Q₁:=λobj s₁=>obj=.ref s.heap.objs.size/\s₁={ s with heap:=s.heap.push { cls:=.type "dict",data:=.dict #[] } }) dp_called (S5 _) PySem.F.entry_dict_init (MJ _ ⟨rfl,rfl⟩) ?_
 rintro obj s₁ ⟨rfl,rfl⟩
 have hd0:(s.heap.push { cls:=.type "dict",data:=.dict #[] }).get? s.heap.objs.size=some { cls:=.type "dict",data:=.dict #[] }:=UF _ rfl
 have hz':IsZip (s.heap.push { cls:=.type "dict",data:=.dict #[] }) z TI TO .none:=Ev _ hz
 have nd':∀{b:Addr} {o:Obj},s.heap.get? b=some o->s.heap.objs.size≠b:=λe=>aW (Tk e)
 refine⟨⟨_,hd0,rfl⟩,PySem.F.args_dict_init_2 _ _,?_⟩
 unfold Builtin.«dict.__init__»
 refine Ch ?_
 unfold Builtin.Dict.selfAndRest
 refine Ch (wpAny_notOrdered_dict ⟨_,hd0,rfl⟩ ?_)
 show wpAny _ _ (pure (s.heap.objs.size,[YO z])) _ _ _
 refine Go ?_
 show wpAny _ _ (bh "dict.__init__" s.heap.objs.size (.ref z) [] .none) _ _ _
 unfold bh
 refine Ch (aB (T := "zip") ⟨_,hz',rfl⟩ ?_)
 rw [if_pos (by decide)]
 have hh2:A.in1.in1.handled=none:=by simp [hh]
 have hh1:A.in1.handled=none:=by simp [hh]
 refine Ch (Sy hz' hh2 λh1' tk1 hk1=>?_)
 show wpAny _ _ (rule _ >>= _) _ _ _
 refine Ch (Zz ?_)
 have up:∀b o,s.heap.get? b=some o->h1'.get? b=some o:=λb o e=>hk1 b o (Ev _ e)
 refine Ch (wpAny_pyIter_zip (s:={ s with heap:=h1',toks:=tk1 }) (up _ _ hz) ?_)
 refine Go ⟨plainId_quiet B0 _,?_⟩
 obtain⟨p,q,hTO⟩:=to
 obtain⟨o1,x1,_⟩:=it1.lies
 obtain⟨o2,x2,_⟩:=it2.lies
 have hdb:base.get? s.heap.objs.size=none:=by
  cases e:base.get? s.heap.objs.size with
  | none=>rfl
  | some o=>exact absurd (Tk (hold _ _ e)) (Yy _)
 refine Q6 (knd:=knd) (A:=A.in1) (PrV.zip (A:=A.in1.in1) hh2 D hTI ⟨nd' hz,nd' ti,nd' hTO,nd' x1,nd' x2⟩ hn hl1 hl2 h1 hk) kvs hlen nd hsz hdb hit n 0 _ (aY _) (YB _) ⟨up _ _ ti,it1.mv λo e=>up _ o e,it2.mv λo e=>up _ o e,.inl ⟨up _ _ hz,p,q,up _ _ hTO⟩⟩ (λb o e=>up b o (hold b o e)) (by rw [List.take_zero]; exact⟨_,#[],0,hk1 _ _ hd0,⟨rfl,rfl,rfl⟩,rfl,(λe he=>by simp at he),(.nil),Yz⟩) λh' tk hD hk'=>?_
 exact⟨rfl,h h' tk hD hk'⟩
end
section
variable {X:Cx}
noncomputable def Rx(K:Frag)(ta:TA):TE:=λσ H Q=>ta σ H λvs H1=>∃κ1 κ2 a b,∃(ws:List V) (keys:List Key),vs=[.ref a,.ref b]/\SqK κ1 K H1 a (keys.map kV)/\SqK κ2 K H1 b ws/\ws.length=keys.length/\keys.length<=sizeLine/\keys.Nodup/\∀l,H1 l=none->Q (.ref l) (BB H1 l (.dK (keys.zip ws)))
theorem Ql:∀{keys:List Key} {ws:List V} {us:List Value},Vals ws us->KV (keys.zip ws) (keys.zip us)
 | [],_,_,_=>.nil
 | _::_,_,_,.nil=>.nil
 | k::keys,_,_,.cons r1 r2=>.cons ⟨rfl,r1⟩ (Ql r2)
theorem O0{e1 e2:Expr}{ta:TA}{p1 q1 p2 q2:Pos}(hc:X.calm=true)(ha:PA X [e1,e2] ta)(hg1:Gl X "dict")(hm1:X.mg "dict"=none)(hg2:Gl X "zip")(hm2:X.mg "zip"=none)(h1:autoParam (starEach [cR (.Name "zip" p2) [e1,e2] [] q2] X.env=[(false,eval (cR (.Name "zip" p2) [e1,e2] [] q2) X.env)]) zau3._auto_1)
  (hs:autoParam (starEach [e1,e2] X.env=[(false,eval e1 X.env),(false,eval e2 X.env)]) zau3._auto_1) (hs2:autoParam (starEach [e2] X.env=[(false,eval e2 X.env)]) zau3._auto_1):PE X (.Call (.Name "dict" p1) [.Call (.Name "zip" p2) [e1,e2] [] q2] [] q1) (Rx X.K ta):=by
 intro pins s σ H Q I h
 refine Zm (Fc I hg1 hm1 boot_dict ?_)
 refine Y4 ?_ h1 rfl
 rw [h1]
 refine Calls.spliced_cons ?_
 refine Call_ (Fc I hg2 hm2 boot_zip (Y4 (BX (ha q2 pins s σ H _ I h) λus0 s1 ⟨vs,H1,I1,r1,q1⟩=>?_) (by rw [hs,hs2]) (by rw [hs2]; rfl)))
 obtain⟨κ1,κ2,a,b,ws,keys,e,g1,g2,lw,hz,nd,q⟩:=q1
 subst e
 obtain⟨u,v,rfl,ru,rv⟩:=vals2 r1
 cases ru
 cases rv
 obtain⟨ks,r1',q1'⟩:=g1.at I1
 obtain⟨us,r2',q2'⟩:=g2.at I1
 have l1:=r1'.length
 have l2:=r2'.length
 rw [Db] at l1
 have lta:a<s1.heap.objs.size:=by obtain⟨o,e⟩:=q1'.lies; exact Tk e
 have ltb:b<s1.heap.objs.size:=by obtain⟨o,e⟩:=q2'.lies; exact Tk e
 have none_ge:∀c,s1.heap.objs.size<=c->s1.heap.get? c=none:=λc hb=>by
  cases e:s1.heap.get? c with
  | none=>rfl
  | some o=>exact absurd (YF (Tk e) hb) (Yy _)
 refine LH q1' q2' λh' hz' hTI hTO hi1 hi2 hkp=>Calls.spliced_nil ?_
 have D:=T7 s1.heap.objs.size a b lta ltb
 have hsz:s1.heap.objs.size<=h'.objs.size:=aA (az (Nat.le_add_right _ 4) (Tk hz'))
 refine Q7 (knd:=BK X.prog X.w) (s:={ s1 with heap:=h' }) (base:=s1.heap) (n:=keys.length) (ks:=ks.toArray) (vs:=us.toArray) (key:=λi=>ks.getD i .none) (val:=λi=>us.getD i .none) (I1.ok.hd hc) D (by refine⟨?_,?_,?_,?_⟩ <;> (show (_:Nat)≠(_:Nat); omega)) hz' hTI ⟨_,_,hTO⟩ hi1 hi2 (λc hc=>none_ge c ?_) hkp q1' q2' (by rw [TM]; omega) (λi hi=>?_) (keys.zip us) (by rw [Zr]; omega) (by rw [List.map_fst_zip (by omega)]; exact nd) hz (λi p e=>?_) λh2 tk hD hk2=>?_
 ·rcases hc with rfl | rfl | rfl | rfl <;> (show (_:Nat)<=(_:Nat); omega)
 ·constructor
  ·rw [cF,FM (by omega),X8,FM (by omega)]; rfl
  ·rw [cF,FM (by omega),X8,FM (by omega)]; rfl
 ·obtain⟨p1,p2⟩:=p
  rw [List.getElem?_zip_eq_some] at e
  obtain⟨u,f1,f2⟩:=r1'.get (i:=i) (x:=kV p1) (by rw [On,e.1]; rfl)
  refine⟨?_,?_⟩
  ·show p2=us.getD i .none; rw [X8,e.2]; rfl
  ·show (BK X.prog X.w).is p1 (ks.getD i .none)=true
   rw [X8,f1]
   exact MA f2
 ·exact⟨.ref h'.objs.size,_,I1.laid (t':=tk) (o:=.dK (keys.zip ws)) hk2 hsz (NJ (by rw [Zr]; omega) (beq_eq_false_iff_ne.mpr (Yq (YE (YF I1.big hsz)))) (Ql r2') hD),rfl,q _ (I1.hok.fresh hsz)⟩
end
end L2
namespace Dp
open PySem PySem.Spec PyProof.Rows L2
noncomputable def Gs:List D->Option (List Key)
 | []=>some []
 | d::ds=>match keyOf d,Gs ds with
  | some k,some ks=>some (k::ks)
  | _,_=>none
theorem Ju{K:Frag}{M:Addr->Prop}{H:Hp}:∀{ds:List D} {vs:List V} {ks:List Key},Gs ds=some ks->Ats K M H ds vs->vs=ks.map kV
 | [],vs,ks,e,h=>by cases e; exact h
 | d::ds,vs,ks,e,h=>by
  obtain⟨v,r,rfl,h1,h2⟩:=h
  unfold Gs at e
  split at e
  ·rename_i k ks' c1 c2
   cases e
   rw [Ju c2 h2,Ig (U:=λ_=>False) c1 (h1.tp λ_ z=>z.elim)]
   rfl
  ·cases e
theorem L_(xs:List Str):Gs (xs.map .str)=some (xs.map .inr):=by
 induction xs with
 | nil=>rfl
 | cons x r ih=>rw [X6]; unfold Gs; rw [ih]; rfl
section
variable {X:Cx}{e1 e2:Expr}{ws:EK}{p1 q1 p2 q2:Pos}
noncomputable def NZ(ws:EK):DW:=λn ρ P=>ws n ρ λds n1=>∃d e xs ys ks,ds=[d,e]/\Oh d=some xs/\Oh e=some ys/\Gs xs=some ks/\ks.length=ys.length/\ks.length<=sizeLine/\ks.Nodup/\P (.dic ks ys) n1
theorem PZ(hc:X.calm=true)(ha:TQ X [e1,e2] ws)(hg1:Gl X "dict")(hm1:X.mg "dict"=none)(hg2:Gl X "zip")(hm2:X.mg "zip"=none)(h1:autoParam (starEach [cR (.Name "zip" p2) [e1,e2] [] q2] X.env=[(false,eval (cR (.Name "zip" p2) [e1,e2] [] q2) X.env)]) zau3._auto_1)
  (hs:autoParam (starEach [e1,e2] X.env=[(false,eval e1 X.env),(false,eval e2 X.env)]) zau3._auto_1) (hs2:autoParam (starEach [e2] X.env=[(false,eval e2 X.env)]) zau3._auto_1):DE X (.Call (.Name "dict" p1) [.Call (.Name "zip" p2) [e1,e2] [] q2] [] q1) .fr (NZ ws):=by
 obtain⟨t,a1,a2⟩:=ha
 refine⟨_,O0 hc a1 hg1 hm1 hg2 hm2 h1 hs hs2,λC M H n ρ σ P Q R w q=>?_⟩
 refine a2 C M H n ρ σ _ _ R w λvs H1 ds n1 ee f1 r1 p=>?_
 obtain⟨d,e,xs,ys,ks,rfl,hd,he,hk,hl,hz,nd,p⟩:=p
 cases r1 with
 | cons r rr =>
  cases rr with
  | cons r' rr =>
   cases rr
   have R1:=R.step ee f1
   obtain⟨κ1,a,us,rfl,g1,s1⟩:=Mj (U:=C.U) r hd R.uV R1.vM
   obtain⟨κ2,b,us',rfl,g2,s2⟩:=Mj (U:=C.U) r' he R.uV R1.vM
   cases Ju hk g1
   have l2:=g2.length
   refine⟨κ1,κ2,a,b,us',ks,rfl,s1 M H1 (Pres.refl _ _) (Ext.refl _ _),s2 M H1 (Pres.refl _ _) (Ext.refl _ _),by omega,hz,nd,λl hn=>?_⟩
   have g:Grow H1 (BB H1 l (.dK (ks.zip us'))):=A5 hn
   refine q _ _ (.dic ks ys) n1 (ee.trans g.ext) (f1.grow g) (VR.back ee (κ:=.fr) ⟨l,rfl,hn,us',AY,hl,g2.pres ?_⟩) p
   exact⟨λb o eb nb=>by rw [AT (λz=>by rw [z,hn] at eb; cases eb)]; exact eb,λb z=>z.elim .inl λz=>.inr (by rw [z]; exact hn),λb vs eb=>by rw [AT (λz=>by rw [z,hn] at eb; cases eb)]; exact eb⟩
end
end Dp
set_option maxHeartbeats 400000
namespace Nt
open PySem PySem.Spec PyProof.Rows L2 Dp
noncomputable def QA:Af:=(BZ (P4 (Ao (Ag (HL true) (CS (AK (AD 7) (AK (AD 8) (AK (AD 9) Aj)))) (AD 1))) (Ao (Ag (f2 λi j=>D.bl (decide (j<i))) (DC Q4 (AK (Ag D8 (Ag FG (AD 6) (AD 7)) (Ag FG (AD 6) (AD 8))) Aj)) (AD 9)))) (Ay (wC (D.bl false))) A6)
noncomputable def Kl:Af:=(BZ (Df (Ao (Hu "bool" (AD 5))) (Df (B9 (Ao (Hu "int" (AD 5)))) (Ao (Ag Ss (AD 5) (wC (D.int 0)))))) (Ay (wC (D.bl false))) A6)
noncomputable def DY:Af:=(Ar (BI 4 (Gc 0 (wC (D.str "net"))))
 (Ar (BZ (Df (B9 (Ao (Ai Dd (AC (AL (AD 4)) (AC (AL (AD 2)) Al))))) (Ao (Ag (HL true) (AD 2) (AD 1)))) (Ay (wC (D.bl false))) A6)
 (Ar (BZ (Df (B9 (Ao (Hu "tuple" (AD 3)))) (Ao (Ag (JW true) (DC C8 (AK (AD 3) Aj)) (DC C8 (AK (Ag BO (AD 4) (wC (D.int 0))) Aj))))) (Ay (wC (D.bl false))) A6)
 (Ar (JH (Bg (AD 3)) (A9 5) Kl)
 (Ar (BI 6 (NZ (AK (Ag BO (AD 4) (wC (D.int 0))) (AK (AD 3) Aj))))
 (Ar (JH (Bg (Ag BO (AD 4) (wC (D.int 1)))) (RO 3 (By (A9 7) (By (A9 8) (By (A9 9) MS)))) QA)
 (Ar (BI 10 (DC Q4 (AK (Ag D8 (Ag FG (AD 6) (Ag BO (AD 2) (wC (D.int 0)))) (Ag FG (AD 6) (Ag BO (AD 2) (wC (D.int 1))))) Aj)))
 (Ay (Ag (f2 λi j=>D.bl (decide (j<i))) (Ag DN (AD 10) (Ag BO (Gc 0 (wC (D.str "times"))) (wC (D.int 1)))) (Ag DN (Ag BO (AD 2) (wC (D.int 2))) (Ag BO (Gc 0 (wC (D.str "times"))) (wC (D.int 0)))))))))))))
theorem Uq{N:Net}{gone:List A0}{p:List Int}(hp:II N p):FF (Bw N gone) (.tup (p.map .int))=N.ts.all λx=>(decide (x∈gone)||decide (Bk (C4 N (p.map .int) x.a - C4 N (p.map .int) x.b)<=x.len)):=by
 obtain⟨f1,f2⟩:=HY hp
 show (((((p.map D.int).length:Int)==(N.ps.length:Int))&&(p.map D.int).all Pp)&&(N.ts.filter λt=>decide (¬t∈gone)).all λt=>decide (Bk (C4 N (p.map .int) t.a - C4 N (p.map .int) t.b)<=t.len))=_
 rw [f1,beq_self_eq_true,Y8.mpr f2,Yh,Yh,List.all_filter]
 congr 1
 funext x
 rw [decide_not,Bool.not_not]
theorem NL{i j:Int}(h0:1<=j)(h1:j<=1000000):CMul i j:=.inr (by constructor <;> omega)
theorem Li{N:Net}(okn:okN N){gone:List A0}(hg:EG N gone){p:List Int}(hp:II N p){D2:E2}{n:Nat}{s0 s2 s3 s4 s5 s10:Slot}:∀(rest:List A0) (s7 s8 s9:Slot),(∀x∈rest,x∈N.ts) ->
  ((rest.all λx=>(decide (x∈gone)||decide (Bk (C4 N (p.map .int) x.a - C4 N (p.map .int) x.b)<=x.len)))=false->D2.rt (.bl false) n) ->
  ((rest.all λx=>(decide (x∈gone)||decide (Bk (C4 N (p.map .int) x.a - C4 N (p.map .int) x.b)<=x.len)))=true->∀s7 s8 s9,D2.nx n [s0,.sh (DD gone),s2,s3,s4,s5,.sh (.dic (N.ps.map .inr) (p.map .int)),s7,s8,s9,s10]) ->
  DL (RO 3 (By (A9 7) (By (A9 8) (By (A9 9) MS)))) QA D2 (rest.map Am) n [s0,.sh (DD gone),s2,s3,s4,s5,.sh (.dic (N.ps.map .inr) (p.map .int)),s7,s8,s9,s10]
 | [],s7,s8,s9,_,_,h2=>h2 rfl s7 s8 s9
 | x::rest,s7,s8,s9,hx,h1,h2=>by
  have ok:=okn.1
  have hxm:=hx x Op
  obtain⟨m1,m2,_⟩:=ok.tin x hxm
  obtain⟨f1,f2⟩:=HY hp
  have v1:=P7 f1 f2 m1
  have v2:=P7 f1 f2 m2
  have ih:=Li okn hg hp (D2:=D2) (n:=n) (s0:=s0) (s2:=s2) (s3:=s3) (s4:=s4) (s5:=s5) (s10:=s10) rest (.sh (.str x.a)) (.sh (.str x.b)) (.sh (.int x.len)) λy hy=>hx y (Sc _ hy)
  rw [cK] at h1 h2
  unfold QA
  refine⟨rfl,rfl,z3,Br ok hxm,C7 ok hg,_,rfl,?_⟩
  show if (!((gone.map Am).any λy=>Ei y (Am x)))=true then _ else _
  rw [B3]
  cases e1:decide (x∈gone) with
  | true =>
   rw [e1,Bool.true_or,Yh] at h1 h2
   exact Be (Be (ih h1 h2))
  | false =>
   rw [e1,Bool.false_or] at h1 h2
   refine Dx ⟨_,_,_,_,rfl,rfl,v1,_,_,_,_,rfl,rfl,v2,?_⟩
   show if decide (x.len<Bk (C4 N (p.map .int) x.a - C4 N (p.map .int) x.b))=true then _ else _
   by_cases c:Bk (C4 N (p.map .int) x.a - C4 N (p.map .int) x.b)<=x.len
   ·rw [decide_eq_false (by omega)]
    rw [decide_eq_true c,Yh] at h1 h2
    exact Be (ih h1 h2)
   ·rw [decide_eq_true (by omega)]
    rw [decide_eq_false c,Bool.false_and] at h1
    exact Dx (h1 rfl)
theorem IC{D2:E2}{n:Nat}{s0 s1 s2 s3 s4 s6 s7 s8 s9 s10:Slot}:∀(p:List Int) (s5:Slot),(∀x∈p,0<=x)->(∀s5,D2.nx n [s0,s1,s2,s3,s4,s5,s6,s7,s8,s9,s10])->DL (A9 5) Kl D2 (p.map .int) n [s0,s1,s2,s3,s4,s5,s6,s7,s8,s9,s10]
 | [],s5,_,h=>h s5
 | x::p,s5,hx,h=>by
  have h0:=hx x Op
  unfold Kl
  show if decide (x<0)=true then _ else _
  rw [decide_eq_false (by omega)]
  exact Be (IC p _ (λy hy=>hx y (Sc _ hy)) h)
theorem HH{ss:List Slot}{n:Nat}{Pd:D->Nat->Prop}(h:Hl ss n Pd):DY (EE Pd) n (ss++Re 7 .no):=by
 obtain⟨N,t,b,many,gone,u,p,rfl,okn,⟨b1,b2,t1,t2⟩,hg,hu,hp,q⟩:=h
 have ok:=okn.1
 have szl:=PySem.sizeLine_eq
 have l25:=okn.2.1
 obtain⟨m1,m2,_⟩:=ok.tin u hu
 obtain⟨f1,f2⟩:=HY hp
 have v1:=P7 f1 f2 m1
 have v2:=P7 f1 f2 m2
 unfold DY
 refine⟨_,_,rfl,_,_,rfl,KJ _ _ _,?_⟩
 refine⟨N,u,rfl,ok,hu,?_⟩
 refine⟨Br ok hu,C7 ok hg,_,rfl,?_⟩
 rw [B3]
 show if (!decide (u∈gone))=true then _ else _
 cases e:decide (u∈gone) with
 | false=>rw [e] at q; exact Dx q
 | true =>
 rw [e,Yh] at q
 unfold GB at q
 rw [Uq hp] at q
 refine Be ⟨_,_,rfl,rfl,_,AO (j:=0) rfl,_,_,rfl,rfl,?_⟩
 show if (!((((p.map D.int).length:Nat):Int)==(((N.ps.map D.str).length:Nat):Int)))=true then _ else _
 rw [f1,Db,beq_self_eq_true]
 refine Be (IC p _ (λx hx=>(hp.2 x hx).1) λs5=>?_)
 refine⟨_,AO (j:=0) rfl,_,_,N.ps.map .str,p.map .int,N.ps.map .inr,rfl,rfl,rfl,L_ _,by rw [Db]; exact f1.symm,by rw [Db]; omega,List.pairwise_map.mpr ((Ke ok.rise).imp λh e=>h (Yx e)),?_⟩
 refine⟨_,AO (j:=1) rfl,?_⟩
 refine Li okn hg hp N.ts _ _ _ (λ_ z=>z) (λc=>?_) λc s7 s8 s9=>?_
 ·rw [c] at q; exact q
 ·rw [c,Yh] at q
  refine⟨_,AO (j:=0) rfl,_,_,_,_,rfl,rfl,v1,_,AO (j:=1) rfl,_,_,_,_,rfl,rfl,v2,?_⟩
  refine⟨_,_,rfl,_,_,rfl,Hr _ _ _,_,AO (j:=1) rfl,NL b1 b2,_,AO (j:=2) rfl,_,_,rfl,_,_,rfl,Hr _ _ _,_,AO (j:=0) rfl,NL t1 t2,?_⟩
  exact q
end Nt
set_option maxHeartbeats 4000000
namespace L2
open PySem PySem.Spec PyProof.Rows
noncomputable def DRaw(h:Heap)(a:Addr)(es:Array DictEntry)(ep:Nat):Prop:=∃o,h.get? a=some o/\o.ExactDict/\o.data=.dict es ep
section
variable {P:Program}{w:World}{A:Around}{E:Value->Shared->Prop}{s:Shared}{d t:Addr}{es:Array DictEntry}{ep i:Nat}
theorem DRaw.ty(x:DRaw s.heap d es ep):s.TypeIs (.ref d) "dict":=let ⟨o,h1,h2,_⟩:=x; ⟨o,h1,h2.1⟩
theorem DRaw.lt{h:Heap}(x:DRaw h d es ep):d<h.objs.size:=let ⟨_,h1,_⟩:=x; Tk h1
theorem DRaw.to{h h':Heap}(x:DRaw h d es ep)(k:∀o,h.get? d=some o->h'.get? d=some o):DRaw h' d es ep:=let ⟨o,h1,h2⟩:=x; ⟨o,k o h1,h2⟩
theorem QM{Q:Value->Shared->Prop}(lo:(d==sysModules)=false)(x:DRaw s.heap d es ep)
  (q:Q (.ref s.heap.objs.size) { s with heap:=s.heap.push { cls:=.type "dict_keyiterator",data:=.fields #[.ref d,.int 0 0,.int es.size 0,.int ep 0] } }):wpAny (model P w) A (pyIter (.ref d)) Q E s:=by
 have T:=x.ty
 obtain⟨o,h1,h2,h3⟩:=x
 refine wpAny_pyIter_slot T F.slot_dict_iter (Yk F.slot_dict_iter T F.entry_dict_iter ?_ (F.args_dict_iter_1 _))
 unfold Builtin.«dict.__iter__»; refine Ch ?_
 unfold Builtin.Dict.dictSlotNone; refine Ch (wpAny_notOrdered_dict T ?_)
 show wpAny (model P w) _ (pure (YO d)) _ _ s; refine Go ?_
 show wpAny (model P w) _ (cG d >>= _) _ _ s; unfold cG
 rw [if_neg (by rw [lo]; decide)]; refine Ch (Go (Ch (bQ h1 h3 (Ch (bu h1 h3 ?_)))))
 refine Ch (YZ (Go ⟨_,rfl,"dict_keyiterator",_,⟨_,UF _ rfl,rfl⟩,Y0.lookup,?_⟩)); simpa [rawInt] using q
theorem QN{Q:Option Value->Shared->Prop}(x:s.heap.IsKeyIter t d i es.size ep)(y:DRaw s.heap d es ep)(hi:i<es.size)
  (q:∀h',h'.IsKeyIter t d (i+1) es.size ep->ZP t s.heap h'->Q (some es[i].key) { s with heap:=h' }):wpAny (model P w) A (pyNext (.ref t)) Q E s:=by
 have T:=x.typeIs
 obtain⟨o,g1,g2,g3⟩:=x
 obtain⟨od,h1,h2,h3⟩:=y
 unfold pyNext; refine Ch (Z4 (YT (name:=Y6 "__next__") T Y0 (Yk Y0 T ak ?_ (ah _))))
 refine Ch (Go (Ch (Ch ?_)))
 first | refine Ch (ZH T (Go ?_)) | refine Ch (Zh T (Go ?_))
 refine Ch (wpAny_fieldsOf g1 g3 ?_)
 have ow:ax "dict_keyiterator"=false:=by decide
 simp only [ow,Yd,if_false]
 show wpAny (model P w) _ (if (YO d==YM)=true then _ else _) _ _ s
 rw [if_neg (show ¬(YO d==YM)=true by intro z; cases z)]; refine Ch (Go (Ch (bQ h1 h3 ?_)))
 rw [if_neg (by simp)]; refine Ch (Go (Ch (bu h1 h3 ?_)))
 rw [if_neg (by simp)]; refine Go ?_
 simp only [show ¬(i:Int)<0 by omega,if_false,Yg,Z_ hi]; refine Ch ?_
 first | refine Ch (ZH T (Go ?_)) | refine Ch (Zh T (Go ?_))
 refine Ch (wpAny_isOneOf_keyiter T ?_); show wpAny (model P w) _ (setField (.ref t) 1 (rawInt ((i:Int)+1)) >>= _) _ _ s
 refine Ch (au g1 g3 (by simp) ?_)
 have g':(s.heap.update t (Obj.mapFields (·.setIfInBounds 1 (rawInt ((i:Int)+1))))).IsKeyIter t d (i+1) es.size ep:=⟨_,aR _ g1 (Obj.isFreed_of_fields (aC g3 _)),(Obj.cls_mapFields ..).trans g2,by rw [aC g3]; simp [rawInt]⟩
 refine Ch (Yp (Ch (wpAny_isOneOf_keyiter (s:={ s with heap:=s.heap.update t (Obj.mapFields (·.setIfInBounds 1 (rawInt ((i:Int)+1)))) }) g'.typeIs ?_)))
 show wpAny (model P w) _ (pure es[i].key) _ _ _; exact Go (Go ⟨_,rfl,Go (q _ g' (Z5 ..))⟩)
theorem SA{Q:Option Value->Shared->Prop}(hh:A.handled=none)(x:s.heap.IsKeyIter t d i es.size ep)(y:DRaw s.heap d es ep)(hi:es.size<=i)
  (q:∀h',b8 t s.heap h'->Q none { s with heap:=h' }):wpAny (model P w) A (pyNext (.ref t)) Q E s:=by
 have T:=x.typeIs
 obtain⟨o,g1,g2,g3⟩:=x
 obtain⟨od,h1,h2,h3⟩:=y
 unfold pyNext; refine Ch (Z4 (YT (name:=Y6 "__next__") T Y0 (Yk Y0 T ak ?_ (ah _))))
 refine Ch (Go (Ch (Ch ?_)))
 first | refine Ch (ZH T (Go ?_)) | refine Ch (Zh T (Go ?_))
 refine Ch (wpAny_fieldsOf g1 g3 ?_)
 have ow:ax "dict_keyiterator"=false:=by decide
 simp only [ow,Yd,if_false]
 show wpAny (model P w) _ (if (YO d==YM)=true then _ else _) _ _ s
 rw [if_neg (show ¬(YO d==YM)=true by intro z; cases z)]; refine Ch (Go (Ch (bQ h1 h3 ?_)))
 rw [if_neg (by simp)]; refine Ch (Go (Ch (bu h1 h3 ?_)))
 rw [if_neg (by simp)]; refine Go ?_
 simp only [show ¬(i:Int)<0 by omega,if_false,Yg,cA hi]; refine Ch ?_
 first | refine Ch (ZH T (Go ?_)) | refine Ch (Zh T (Go ?_))
 show wpAny (model P w) _ (setField (.ref t) 0 .none >>= _) _ _ s; refine Ch (au g1 g3 (by simp) ?_)
 show wpAny (model P w) _ (newExc (.type "StopIteration") [] >>= _) _ _ _; refine Ch ?_
 simp only [newExc,newTuple]; refine Ch (YZ ?_ (by size_fits))
 refine Ch (m:=firstArgMember _ _) (wpAny_of_eq (a:=YM) (by first | rfl | (simp only [firstArgMember]; rfl)) (YZ ?_ (by size_fits)))
 simp only [raiseNew]; refine Ch (wpAny_handled ?_)
 rw [show A.in1.handled=none from hh]; refine Ch (Go (wpAny_throw ?_)); refine Ch (bZ (T := "StopIteration") (b:=true) ⟨_,UF _ rfl,rfl⟩ isSubtype_stop ?_)
 exact Go (q _ (((Z5 ..).extBut.push _).push _))
theorem Ot(hh:A.handled=none)(I d:Addr)(hne:d≠I)(es:Array DictEntry)(ep:Nat):Walks P w A I [I,d] [I] es.size (λi v=>∃e,es[i]?=some e/\v=e.key) (λi h=>h.IsKeyIter I d i es.size ep/\DRaw h d es ep) where
 sub:=λb hb=>by rw [X7.mp hb]; exact Op
 frame:=λ_ _ _ st hk=>⟨st.1.at λo e=>hk I (by simp) o e,st.2.to λo e=>hk d (by simp) o e⟩
 item:=λi s Q E hi st hQ=>QN st.1 st.2 hi λh' it' sb=>hQ _ h' s.toks ⟨_,Z_ hi,rfl⟩ ⟨it',st.2.to λo e=>sb.extBut d o hne e⟩ λb o hb e=>sb.extBut b o (λh=>hb (by simp [h])) e
 done:=λs Q E st hQ=>SA hh st.1 st.2 (No _) λh' he=>hQ h' s.toks λb o hb e=>he b o (λh=>hb (by simp [h])) e
 self:=λ_ _ _ _ st hQ=>wpAny_pyIter_keyiter st.1 hQ
theorem R_(lo:(d==sysModules)=false):PySem.W.KdlSrc P w "dict" d d es.size (λi v=>∃e,es[i]?=some e/\v=e.key) (λh=>DRaw h d es ep) where
 type:=λ_ x=>x.ty
 there:=λ_ x=>⟨x.lt,x.lt⟩
 keep:=λ_ _ x k=>x.to λo e=>k d (.inl rfl) o e
 notList:=by decide
 notTuple:=by decide
 hint:=λ_ _ _ _ x q=>PySem.W.kdl_hint_dict x.ty q
 iter:=λ_ _ hh x=>⟨_,_,(λ_ _ q=>QM lo x q),Ot hh _ d (YE x.lt) es ep,⟨⟨_,UF _ rfl,rfl,rfl⟩,x.to λo e=>Ev _ e⟩⟩
end
end L2
namespace L2
open PySem PySem.Spec PyProof.Rows PySem.W
theorem N5(k:Key):kOf k=kV k:=by cases k <;> rfl
theorem Se(ks:List Key):ks.map kOf=ks.map kV:=Yf λk _=>N5 k
section
variable {X:Cx}
theorem S1{P:Program}{w:World}{H:Hp}{h:Heap}{d:Addr}{kvs:List (List Key×V)}(ok:HOk P w H h)(hd:Rd H d (.dT kvs)) :
  ∃(o:Obj) (es:Array DictEntry) (ep:Nat) (as:List Addr),h.get? d=some o/\o.ExactDict/\o.data=.dict es ep/\as.length=kvs.length/\es.size=kvs.length /\
   (∀(i:Nat) (e:DictEntry),es[i]?=some e->∃a,as[i]?=some a/\e.key=.ref a)/\∀(i:Nat) (a:Addr) (p:List Key×V),as[i]?=some a->kvs[i]?=some p->H a=some (.tup (p.1.map kV)):=by
 obtain⟨_,_,xs,r,o,es,ep,h1,h2,h3,h4,h5,h6⟩:=MI ok hd
 have hl:kvs.length=xs.length:=by
  have:∀{l:List (List Key×V)} {m:List (List Key×Addr×Value)},KT H l m->l.length=m.length:=λq=>q.length
  exact this r
 have hes:es.size=xs.length:=by rw [← YY,h4,Db]
 refine⟨o,es,ep,xs.map λx=>x.2.1,h1,h2,h3,by rw [Db,hl],by rw [hes,hl],λi e he=>?_,λi a p ha hp=>?_⟩
 ·rw [← aS,h4,On] at he
  obtain⟨x,hx,rfl⟩:=YD.mp he
  exact⟨x.2.1,by rw [On,hx]; rfl,rfl⟩
 ·rw [On] at ha
  obtain⟨x,hx,rfl⟩:=YD.mp ha
  have:=Lu r hp hx
  exact this.2.1
noncomputable def QO:List V->Hp->VK->Prop:=λxs H Q=>∃(d:Addr) (kvs:List (List Key×V)),xs=[.ref d]/\Rd H d (.dT kvs)/\kvs.length<64/\(∀x∈kvs.map (·.1),∀y∈kvs.map (·.1),Bh x y=true)/\(∀x∈kvs.map (·.1),x≠[]) /\
 ∀(as:List Addr) (ix:List Nat) (l:Addr),as.length=kvs.length->(∀(i:Nat) (a:Addr) (p:List Key×V),as[i]?=some a->kvs[i]?=some p->H a=some (.tup (p.1.map kV)))->KG (kvs.map (·.1)) ix->H l=none ->
  Q (.ref l) (BB H l (.lst (ix.map λi=>(as.map V.ref).getD i .non)))
theorem NN(hc:X.calm=true):CC X (.builtin "sorted") QO:=by
 intro pins s σ H xs us Q I r h
 obtain⟨d,kvs,rfl,hd,h64,hsm,hne,q⟩:=h
 obtain⟨u,rfl,rx⟩:=vals1 r
 cases rx
 obtain⟨o,es,ep,as,g1,g2,g3,g4,g5,g6,g7⟩:=S1 I.hok hd
 have lo:=(MI I.hok hd).2.1
 refine Fp (kw:=[]) (args_sorted1 _) (λx=>args_list_sort _) (PySem.W.kdu_collect (R_ (P:=X.prog) (w:=X.w) (es:=es) (ep:=ep) lo) (show X.A.in1.handled=none from by simp [I.ok.hd hc]) ⟨o,g1,g2,g3⟩ (by rw [Yj]; omega) λh' tk acc hkp hacc=>⟨by rw [YY,hacc.1,Yj]; omega,?_⟩)
 have I1:Inv X pins σ H { s with heap:=h',toks:=tk }:=I.kept (t':=tk) hkp
 have hv:acc.toList=as.map YO:=by
  refine List.ext_getElem? λi=>?_
  cases hx:acc.toList[i]? with
  | some v =>
   obtain⟨e,he,rfl⟩:=hacc.2 i v (by rw [← aS]; exact hx)
   obtain⟨a,ha,hk⟩:=g6 i e he
   rw [On,ha,hk]; rfl
  | none =>
   have:acc.toList.length<=i:=List.getElem?_eq_none_iff.mp hx
   rw [YY,hacc.1] at this
   rw [aU (by rw [Db]; omega)]
 rw [hv]
 refine Jj I1 (Je as) (by rw [Db]; omega) (keys:=kvs.map (·.1)) ⟨by rw [Db,Db]; exact g4,λi ns e=>?_,hsm,hne⟩ λix l ho hl=>q as ix l g4 g7 ho hl
 rw [On] at e
 obtain⟨p,hp,rfl⟩:=YD.mp e
 have hil:i<as.length:=by rw [g4]; exact(X4.mp hp).1
 refine⟨as[i],by rw [On,FM hil]; rfl,?_⟩
 rw [Se]
 exact SqT.of (g7 i _ p (FM hil) hp)
end
end L2
namespace Dp
open PySem PySem.Spec PyProof.Rows L2
noncomputable def tupK(k:List Key):D:=.tup (k.map XH)
theorem L7{K:Frag}{M:Addr->Prop}{H:Hp}:∀{k:List Key},(∀x∈k,F_ x)->Ats K M H (k.map XH) (k.map kV)
 | [],_=>rfl
 | x::k,h=>⟨kV x,k.map kV,rfl,by rw [← N5]; exact U2 (h x Op),L7 λy hy=>h y (Sc _ hy)⟩
theorem LY{K:Frag}{M:Addr->Prop}{H:Hp}:∀{ks:List (List Key)} {as:List Addr},as.length=ks.length->(∀k∈ks,∀x∈k,F_ x)->(∀(i:Nat) (a:Addr) (k:List Key),as[i]?=some a->ks[i]?=some k->H a=some (.tup (k.map kV)))->Ats K M H (ks.map tupK) (as.map V.ref)
 | [],[],_,_,_=>rfl
 | k::ks,a::as,hl,hf,h=>⟨.ref a,as.map V.ref,rfl,⟨a,k.map kV,rfl,h 0 a k rfl rfl,L7 (hf k Op)⟩,LY (by simpa using hl) (λk hk=>hf k (Sc _ hk)) λi a' k' e1 e2=>h (i+1) a' k' (by simpa using e1) (by simpa using e2)⟩
section
variable {X:Cx}
noncomputable def Qz(ds:List D)(P:D->Prop):Prop:=∃(ks:List (List Key)) (es:List D),ds=[.dit ks es]/\ks.length=es.length/\ks.length<64/\(∀x∈ks,∀y∈ks,Bh x y=true)/\(∀x∈ks,x≠[])/\(∀k∈ks,∀x∈k,F_ x) /\
 ∀ks':List (List Key),ks'.Perm ks->ks'.Pairwise (λa b=>B7 b a=false)->P (.lst (ks'.map tupK))
theorem Qe{ks:List (List Key)}{ix:List Nat}(h:KG ks ix):(ix.map λi=>ks.getD i []).Perm ks/\(ix.map λi=>ks.getD i []).Pairwise (λa b=>B7 b a=false):=by
 obtain⟨h1,h2⟩:=h
 have il:ix.length=ks.length:=by rw [h1.length_eq,Yo]
 constructor
 ·have:=h1.map λi=>ks.getD i []
  have e:(YN ks.length).map (λi=>ks.getD i [])=ks:=by
   apply List.ext_getElem
   ·simp
   ·intro i h1 h2
    simp [h2]
  rw [e] at this
  exact this
 ·rw [Z9]
  intro i j hi hj hij
  rw [Db] at hi hj
  have:=h2 i j (aA hij) (by omega)
  rw [bc,bc]
  rw [X8 (l:=ix),FM hj,X8 (l:=ix),FM hi] at this
  exact this
theorem TF:Cu X.K .fr QO Qz:=by
 intro U M H ds vs P Q dom vM hp w q
 obtain⟨ks,es,rfl,hl,h64,hsm,hne,hf,w⟩:=w
 obtain⟨v,rfl,hx⟩:=Eb hp
 obtain⟨a,us,rfl,ha,hs⟩:=RD hx
 have hul:=hs.length
 have ez:(ks.zip us).map (·.1)=ks:=List.map_fst_zip (by omega)
 have ezl:(ks.zip us).length=ks.length:=by rw [Zr]; omega
 refine⟨a,_,rfl,ha,by omega,by rw [ez]; exact hsm,by rw [ez]; exact hne,λas ix l has hat ho hlf=>?_⟩
 rw [ez] at ho
 obtain⟨o1,o2⟩:=Qe ho
 have hA:Ats X.K M H (ks.map tupK) (as.map V.ref):=LY (by omega) hf λi b k e1 e2=>by
  have hi:i<(ks.zip us).length:=by rw [ezl]; exact(X4.mp e2).1
  have:=hat i b _ e1 (FM hi)
  rw [List.getElem_zip] at this
  obtain⟨_,e3⟩:=X4.mp e2
  rw [e3] at this
  exact this
 have e4:(ix.map λi=>(ks.map tupK).getD i .non)=(ix.map λi=>ks.getD i []).map tupK:=by
  rw [Ys]
  refine Yf λi hi=>?_
  have hil:i<ks.length:=Yt.mp (ho.1.mem_iff.mp hi)
  show (ks.map tupK).getD i .non=tupK (ks.getD i [])
  rw [X8,X8,On,FM hil]
  rfl
 have:=w _ o1 o2
 rw [← e4] at this
 exact q _ _ (.lst _) (A5 hlf) (Cb hlf (hA.pick ix)) this
end
section
variable {X:Cx}{κ κe:Kd}{tg e:Expr}{b:BW}{we:DW}{pos p apos cpos:Pos}{x:Str}{i:Nat}
end
section
variable {X:Cx}{κ κe:Kd}{e:Expr}{we:DW}{pos p apos cpos p2 apos2 cpos2:Pos}{x y:Str}{i j:Nat}
end
end Dp
namespace Nt
open PySem PySem.Spec PyProof.Rows L2 Dp
section
variable {ss:List Slot}{n:Nat}{Pd:D->Nat->Prop}
end
section
variable {ss:List Slot}{n:Nat}{Pd:D->Nat->Prop}
end
end Nt
namespace L2
open PySem PySem.Spec PyProof.Rows
section
variable {prog:Program}{w:World}{A:Around}{E:Value->Shared->Prop}{s:Shared}{x y:Str}{t u:Tok}
end
section
variable {X:Cx}
end
end L2
namespace Dp
open PySem PySem.Spec PyProof.Rows L2
section
variable {K:Frag}
end
end Dp
namespace L2
open PySem PySem.Spec PyProof.Rows PySem.W
section
variable {X:Cx}
end
end L2
namespace Dp
open PySem PySem.Spec PyProof.Rows L2
end Dp
namespace L2
open PySem PySem.Spec PyProof.Rows PySem.W
section
variable {X:Cx}
end
end L2
namespace Dp
open PySem PySem.Spec PyProof.Rows L2
section
variable {K:Frag}
end
end Dp
namespace Nt
open PySem PySem.Spec PyProof.Rows L2 Dp
noncomputable def words26:List Str:=["a","aa","ab","abc","b","ba","bb","c","come","d","far","in","lay","m","n","near","out","place","q","r","tie","tree","x","xy","y","zzzzzzzz"]
noncomputable def Hk:W2:=λss n P=>ss=[]/\P (.lst (words26.map .str)) n
noncomputable def GW:W2:=λss n P=>∃m:Nat,ss=[.fd,.sh (.int m)]/\m<=26/\2<=n/\∀xs:List Str,xs.length=m->(∀x∈xs,Sg x)->rising xs->P (.tup (xs.map .str)) (n - 2)
noncomputable def OU:W2:=λss n P=>∃s:Int,ss=[.fd,.sh (.int s)]/\0<=s/\s<=3/\1<=n/\∀r:Int,1<=r->r<=1000000->P (.int r) (n - 1)
noncomputable def LL:W2:=λss n P=>∃(xs:List Str) (most:Nat),ss=[.fd,.sh (.tup (xs.map .str)),.sh (.int most)]/\(∀x∈xs,Sg x)/\rising xs/\xs.length<=26/\most<=60/\200<=n/\∀(ts:List A0) (n':Nat),(⟨xs,ts⟩:Net).Ok->ts.length<=most->n - 200<=n'->P (.tup (ts.map Am)) n'
noncomputable def OT:W2:=λss n P=>∃most ties:Nat,ss=[.fd,.sh (.int most),.sh (.int ties)]/\most<=25/\ties<=60/\210<=n/\∀(N:Net) (n':Nat),N.Ok->N.ps.length<=most->N.ts.length<=ties->n - 210<=n'->P (E5 N) n'
noncomputable def FL:Af:=(Ar (BI 0 (CT (AK (wC (D.str "a")) (AK (wC (D.str "aa")) (AK (wC (D.str "ab")) (AK (wC (D.str "abc")) (AK (wC (D.str "b")) (AK (wC (D.str "ba")) (AK (wC (D.str "bb")) (AK (wC (D.str "c")) (AK (wC (D.str "come")) (AK (wC (D.str "d")) (AK (wC (D.str "far")) (AK (wC (D.str "in")) (AK (wC (D.str "lay")) (AK (wC (D.str "m")) (AK (wC (D.str "n")) (AK (wC (D.str "near")) (AK (wC (D.str "out")) Aj)))))))))))))))))))
 (Ay (Ag A7 (AD 0) (CT (AK (wC (D.str "place")) (AK (wC (D.str "q")) (AK (wC (D.str "r")) (AK (wC (D.str "tie")) (AK (wC (D.str "tree")) (AK (wC (D.str "x")) (AK (wC (D.str "xy")) (AK (wC (D.str "y")) (AK (wC (D.str "zzzzzzzz")) Aj)))))))))))))
noncomputable def En:Af:=(Ar (BI 2 (Ai Hk Al))
 (Ar (BI 3 (Ai Bm (AC (BF 0) (AC (AL (wC (D.int 26))) Al))))
 (Ar (BI 4 (Ag BO (CT (AK (wC (D.int 1)) (AK (wC (D.int 3)) (AK (wC (D.int 5)) (AK (wC (D.int 7)) Aj))))) (Ai Bm (AC (BF 0) (AC (AL (wC (D.int 4))) Al)))))
 (Ay (DC E3 (AK (DC Q1 (AK (CU [some 2,some 3,some 4,none] (Jd (AK (AD 1) Aj)) (A9 3) FR (Ag BO (AD 0) (Ag (Tr (λ_ j=>0<j) λi j=>D.int (i % j)) (Ag A7 (AD 1) (Ag DN (AD 2) (AD 3))) (wC (D.int 26))))) Aj)) Aj))))))
noncomputable def Ep:Af:=(Ar (BZ (Ao (Ag (JW false) (AD 1) (wC (D.int 3)))) (Ay (Ag D8 (Ag (Tr Ro λi j=>D.int (i ^ j.toNat)) (wC (D.int 10)) (wC (D.int 6))) (Ai Bm (AC (BF 0) (AC (AL (wC (D.int 3))) Al))))) A6)
 (Ay (Ag A7 (wC (D.int 1)) (Ai Bm (AC (BF 0) (AC (AL (Ag BO (CT (AK (wC (D.int 3)) (AK (wC (D.int 9)) (AK (wC (D.int 60)) Aj)))) (AD 1))) Al))))))
noncomputable def GJ:Af:=(Ar (Px 3 P0)
 (Ar (BI 4 (Ai Bm (AC (BF 0) (AC (AL (wC (D.int 5))) Al))))
 (Ar (JH (Jd (AK (Ai Bm (AC (BF 0) (AC (AL (Ag A7 (AD 2) (wC (D.int 1)))) Al))) Aj)) (A9 5) (BZ (Ao (Ag (f2 λi j=>D.bl (decide (j<i))) (DC C8 (AK (AD 1) Aj)) (wC (D.int 1)))) (Ar (BI 6 (Ai Bm (AC (BF 0) (AC (AL (DC C8 (AK (AD 1) Aj))) Al))))
 (Ar (BI 7 (Ag (Tr (λ_ j=>0<j) λi j=>D.int (i % j)) (Ag A7 (Ag A7 (AD 6) (wC (D.int 1))) (Ai Bm (AC (BF 0) (AC (AL (Ag D8 (DC C8 (AK (AD 1) Aj)) (wC (D.int 1)))) Al)))) (DC C8 (AK (AD 1) Aj))))
 (TU 3 (CS (AK (Ag BO (AD 1) (DC N_ (AK (AD 6) (AK (AD 7) Aj)))) (AK (Ag BO (AD 1) (DC Q3 (AK (AD 6) (AK (AD 7) Aj)))) Aj))) (Ai OU (AC (BF 0) (AC (AL (Ag BO (CT (AK (AD 4) (AK (Ag (Tr (λ_ j=>0<j) λi j=>D.int (i % j)) (AD 5) (wC (D.int 4))) Aj))) (Ag (Tr Pm λi j=>D.int (i / j)) (AD 4) (wC (D.int 4))))) Al)))))) A6))
 (Ay (DC E3 (AK (CU [some 3,none] (Bg (DC Qz (AK (Jc 3) Aj))) (A9 1) FR (Ag A7 (AD 1) (CS (AK (Ag Qy (Jc 0) (AD 1)) Aj)))) Aj))))))
noncomputable def G8:Af:=(Ar (BI 3 (Ai GW (AC (BF 0) (AC (AL (Ai Bm (AC (BF 0) (AC (AL (Ag A7 (AD 1) (wC (D.int 1)))) Al)))) Al))))
 (Ay (CS (AK (AD 3) (AK (Ai LL (AC (BF 0) (AC (AL (AD 3)) (AC (AL (AD 2)) Al)))) Aj)))))
noncomputable def CQ(i:Nat):Str:=words26.getD i "a"
theorem MX:∀i,i<26->Sg (CQ i):=by
 have h:∀i∈YN 26,1<=(CQ i).length/\(CQ i).length<=8/\∀c∈cs (CQ i),97<=c/\c<=122:=by decide +kernel
 exact λi hi=>h i (Yt.mpr hi)
theorem Oa:∀i j,i<26->j<26->CQ i=CQ j->i=j:=by
 have h:∀i∈YN 26,∀j∈YN 26,cs (CQ i)=cs (CQ j)->i=j:=by decide +kernel
 exact λi j hi hj e=>h i (Yt.mpr hi) j (Yt.mpr hj) (congrArg cs e)
theorem Ps(i:Nat)(h:i<26):(words26.map D.str)[i]?=some (.str (CQ i)):=by
 have hl:i<words26.length:=h
 unfold CQ
 rw [On,X8,FM hl]
 rfl
section
variable {ss:List Slot}{n:Nat}{Pd:D->Nat->Prop}
theorem JN(h:Hk ss n Pd):FL (EE Pd) n (ss++Re 1 .no):=by
 obtain⟨rfl,p⟩:=h
 unfold FL
 exact⟨(by decide:17<=sizeLine),(by decide:9<=sizeLine),(by decide:26<=sizeLine),p⟩
noncomputable def Mz(f s:Nat):D->D
 | .int k=>.str (CQ ((f+s*k.toNat) % 26))
 | _=>.non
theorem Lq(f s k:Nat):Mz f s (.int (0+(k:Int)))=.str (CQ ((f+s*k) % 26)):=by
 show D.str (CQ ((f+s*(0+(k:Int)).toNat) % 26))=_
 rw [show (0+(k:Int)).toNat=k by omega]
theorem ID(h:GW ss n Pd):En (EE Pd) n (ss++Re 3 .no):=by
 obtain⟨m,rfl,hm,hn,p⟩:=h
 unfold En
 refine⟨rfl,26,rfl,by decide,by decide,by omega,λfirst f0 f1=>?_⟩
 obtain⟨f,rfl⟩:∃f:Nat,first=(f:Int):=⟨first.toNat,by omega⟩
 refine⟨(by decide:4<=sizeLine),4,rfl,by decide,by decide,by omega,λw w0 w1=>?_⟩
 obtain⟨s,hs,es⟩:∃s:Nat,(s=1\/s=3\/s=5\/s=7)/\atI [D.int 1,D.int 3,D.int 5,D.int 7] w=some (.int (s:Int)):=by
  rcases (show w=0\/w=1\/w=2\/w=3 by omega) with rfl | rfl | rfl | rfl
  ·exact⟨1,.inl rfl,rfl⟩
  ·exact⟨3,.inr (.inl rfl),rfl⟩
  ·exact⟨5,.inr (.inr (.inl rfl)),rfl⟩
  ·exact⟨7,.inr (.inr (.inr rfl)),rfl⟩
 refine⟨_,es,(m:Int),rfl,⟨by omega,by omega⟩,by rw [DH]; omega,?_⟩
 refine Bc (Mz f s) (λρ=>∃s',ρ=[.sh (.lst (words26.map .str)),.sh (.int f),.sh (.int s),s']) _ _ _ _ ?_ ⟨_,rfl⟩ ?_
 ·rintro d hd ρ n' nx ⟨s',rfl⟩ hnx
  obtain⟨k,hk,rfl⟩:=Lg hd
  have hlt:(f+s*k) % 26<26:=cJ _ (by decide)
  have hsk:(s:Int)*(0+(k:Int))=((s*k:Nat):Int):=by rw [Yw]; exact(Int.natCast_mul s k).symm
  refine⟨XI (by omega) (by omega),by show (0:Int)<26; decide,.str (CQ ((f+s*k) % 26)),?_,?_⟩
  ·rw [hsk,show ((f:Int)+((s*k:Nat):Int)) % 26=(((f+s*k) % 26:Nat):Int) by omega]
   exact AO (Ps _ hlt)
  ·have:=hnx [.sh (.lst (words26.map .str)),.sh (.int f),.sh (.int s),.sh (.int (0+(k:Int)))] ⟨_,rfl⟩
   rw [Lq] at this
   exact this
 ·have e:[]++(DJ 0 ((m:Int)).toNat).map (Mz f s)=((YN m).map λk:Nat=>CQ ((f+s*k) % 26)).map .str:=by
   unfold DJ
   rw [YQ,Ys,Ys,Yg]
   refine Yf λk _=>?_
   exact Lq f s k
  rw [e]
  refine⟨_,_,rfl,RS _,by rw [Db,Yo]; omega,λss' hp hs'=>p ss' ?_ ?_ ?_⟩
  ·rw [hp.length_eq,Db,Yo]
  ·intro y hy
   obtain⟨k,_,rfl⟩:=XV.mp (hp.mem_iff.mp hy)
   exact MX _ (cJ _ (by decide))
  ·refine JJ hs' (hp.nodup_iff.mpr (Jo List.nodup_range λj hj k hk e=>?_))
   have e:=Oa _ _ (cJ _ (by decide)) (cJ _ (by decide)) e
   have hj:=Yt.mp hj
   have hk:=Yt.mp hk
   rcases hs with rfl | rfl | rfl | rfl <;> omega
theorem IE(h:OU ss n Pd):Ep (EE Pd) n (ss++Re 0 .no):=by
 obtain⟨s,rfl,s0,s3,hn,p⟩:=h
 unfold Ep
 show if (s==3)=true then _ else _
 refine EH (λc=>?_) λc=>?_
 ·refine⟨Xo,_,rfl,by decide,by decide,hn,λr r0 r1=>?_⟩
  have e6:(10:Int) ^ (6:Int).toNat=1000000:=by decide
  show Pd (.int (10 ^ (6:Int).toNat - r)) (n - 1)
  rw [e6]
  exact p _ (by omega) (by omega)
 ·have c:s≠3:=by simpa using c
  obtain⟨k,hk,ek⟩:∃k:Int,(1<=k/\k<=60)/\atI [D.int 3,D.int 9,D.int 60] s=some (.int k):=by
   rcases (show s=0\/s=1\/s=2 by omega) with rfl | rfl | rfl
   ·exact⟨3,by decide,rfl⟩
   ·exact⟨9,by decide,rfl⟩
   ·exact⟨60,by decide,rfl⟩
  refine⟨(by decide:3<=sizeLine),_,ek,k,rfl,by omega,by omega,hn,λr r0 r1=>?_⟩
  exact p _ (by omega) (by omega)
theorem Lj(h:OT ss n Pd):G8 (EE Pd) n (ss++Re 1 .no):=by
 obtain⟨most,ties,rfl,hm,ht,hn,p⟩:=h
 unfold G8
 refine⟨_,rfl,by omega,by omega,by omega,λr r0 r1=>?_⟩
 refine⟨r.toNat,by rw [show ((r.toNat:Nat):Int)=r by omega],by omega,by omega,λxs xl hx hr=>?_⟩
 refine⟨xs,ties,rfl,hx,hr,by omega,ht,by omega,λts n' ok hl hn'=>⟨z2,?_⟩⟩
 exact p ⟨xs,ts⟩ n' ok (by show xs.length<=most; omega) hl (by omega)
theorem OK(x y:Str):cs x<cs y\/x=y\/cs y<cs x:=by
 by_cases h1:cs x<cs y
 ·exact .inl h1
 ·by_cases h2:cs y<cs x
  ·exact .inr (.inr h2)
  ·refine .inr (.inl ?_)
   have:=Jp (.inr x) (.inr y) (decide_eq_false h1) (decide_eq_false h2)
   exact Yx this
theorem QW{ks:List (List Key)}{k x:List Key}(h:x∈Bp ks k):x∈ks\/x=k:=by
 unfold Bp at h
 split at h
 ·exact .inl h
 ·exact(YI.mp h).imp id X7.mp
theorem SF{ks:List (List Key)}{k:List Key}(nd:ks.Nodup):(Bp ks k).Nodup:=by
 unfold Bp
 split
 ·exact nd
 ·rename_i h
  rw [ZX]
  refine⟨nd,by simp,λx hx y hy e=>h (hasK_iffU.mpr ?_)⟩
  rw [X7] at hy
  subst hy; subst e; exact hx
theorem SG{ks:List (List Key)}{k:List Key}:(Bp ks k).length<=ks.length+1:=by
 unfold Bp
 split
 ·omega
 ·rw [Rs,X9]; omega
theorem Lo{k:List Key}{d x:D}:∀{ks:List (List Key)} {ds:List D},x∈ag (λk0 d0=>if k0=k then d else d0) ks ds->x=d\/x∈ds
 | [],_,h=>by cases h
 | _::_,[],h=>by cases h
 | k0::ks,d0::ds,h=>by
  rw [List.zipWith_cons_cons] at h
  rcases X_.mp h with h | h
  ·by_cases e:k0=k
   ·rw [if_pos e] at h; exact .inl h
   ·rw [if_neg e] at h; exact .inr (by rw [h]; exact Op)
  ·exact(Lo h).imp id (Sc _)
theorem Ov{ks:List (List Key)}{ds:List D}{k:List Key}{d x:D}(h:x∈Bo ks ds k d):x=d\/x∈ds:=by
 unfold Bo at h
 split at h
 ·exact Lo h
 ·rcases YI.mp h with h | h
  ·exact .inr h
  ·exact .inl (X7.mp h)
theorem LV{k:List Key}{z:D}:∀{ks:List (List Key)} {ds:List D},EN ks ds k=some z->z∈ds
 | [],_,h=>by cases h
 | _::_,[],h=>by cases h
 | k0::ks,d0::ds,h=>by
  unfold EN at h
  split at h
  ·cases h; exact Op
  ·exact Sc _ (LV h)
structure Tds (xs:List Str) (ks:List (List Key)) (ds:List D):Prop where
 len:ks.length=ds.length
 nd:ks.Nodup
 key:∀k∈ks,∃a b:Str,k=[.inr a,.inr b]/\a∈xs/\b∈xs/\cs a<cs b
 val:∀d∈ds,∃l:Int,d=.int l/\1<=l/\l<=1000000
theorem Tds.put{xs:List Str}{ks:List (List Key)}{ds:List D}(T:Tds xs ks ds){a b:Str}{l:Int}(ha:a∈xs)(hb:b∈xs)(lt:cs a<cs b)(l1:1<=l)(l2:l<=1000000):Tds xs (Bp ks [.inr a,.inr b]) (Bo ks ds [.inr a,.inr b] (.int l)):=by
 refine⟨Ln T.len,SF T.nd,λk hk=>?_,λd hd=>?_⟩
 ·rcases QW hk with hk | rfl
  ·exact T.key k hk
  ·exact⟨a,b,rfl,ha,hb,lt⟩
 ·rcases Ov hd with rfl | hd
  ·exact⟨l,rfl,l1,l2⟩
  ·exact T.val d hd
noncomputable def Jb(ks:List (List Key))(ds:List D):D->D
 | .tup [.str a,.str b]=>.tup [.str a,.str b,(EN ks ds [.inr a,.inr b]).getD .non]
 | d=>d
theorem LP(ks:List (List Key))(ds:List D)(a b:Str):Jb ks ds (.tup [.str a,.str b])=.tup [.str a,.str b,(EN ks ds [.inr a,.inr b]).getD .non]:=rfl
theorem Tds.ties{xs:List Str}{ks:List (List Key)}{ds:List D}(T:Tds xs ks ds):∀{ks':List (List Key)},(∀k∈ks',k∈ks)->ks'.Nodup->ks'.Pairwise (λa b=>B7 b a=false) ->
  ∃ts:List A0,(ks'.map tupK).map (Jb ks ds)=ts.map Am/\ts.map (λt=>([.inr t.a,.inr t.b]:List Key))=ks'/\(∀t∈ts,t.a∈xs/\t.b∈xs/\cs t.a<cs t.b/\1<=t.len/\t.len<=1000000)/\ts.Pairwise Ej
 | [],_,_,_=>⟨[],rfl,rfl,(λt h=>by cases h),Zu⟩
 | k::ks',hin,nd,pw=>by
  rw [YX] at nd
  rw [Yi] at pw
  obtain⟨ts,e1,e2,h1,h2⟩:=T.ties (ks':=ks') (λk hk=>hin k (Sc _ hk)) nd.2 pw.2
  obtain⟨a,b,rfl,ha,hb,lt⟩:=T.key k (hin k Op)
  obtain⟨z,hz⟩:=FS T.len (hin _ Op)
  obtain⟨l,rfl,l1,l2⟩:=T.val z (LV hz)
  refine⟨⟨a,b,l⟩::ts,?_,?_,λt ht=>?_,Yi.mpr ⟨λt ht=>?_,h2⟩⟩
  ·rw [X6,X6,X6,e1]
   show Jb ks ds (.tup [.str a,.str b])::_=_
   rw [LP,hz]; rfl
  ·rw [X6,e2]
  ·rcases X_.mp ht with rfl | ht
   ·exact⟨ha,hb,lt,l1,l2⟩
   ·exact h1 t ht
  ·have hm:([.inr t.a,.inr t.b]:List Key)∈ks':=by rw [← e2]; exact XV.mpr ⟨t,ht,rfl⟩
   have h3:=pw.1 _ hm
   have hne:([.inr a,.inr b]:List Key)≠[.inr t.a,.inr t.b]:=λz=>nd.1 (by rw [z]; exact hm)
   have h3:(if (YJ t.a:Key)=.inr a then (if (YJ t.b:Key)=.inr b then false else decide (t.b.cps.toList<b.cps.toList)) else decide (t.a.cps.toList<a.cps.toList))=false:=h3
   show cs a<cs t.a\/(a=t.a/\cs b<cs t.b)
   by_cases q1:t.a=a
   ·rw [if_pos (by rw [q1])] at h3
    by_cases q2:t.b=b
    ·exact absurd (by rw [q1,q2]) hne
    ·rw [if_neg (λz=>q2 (Yx z))] at h3
     refine .inr ⟨q1.symm,?_⟩
     rcases OK b t.b with l | l | l
     ·exact l
     ·exact absurd l.symm q2
     ·exact absurd l (of_decide_eq_false h3)
   ·rw [if_neg (λz=>q1 (Yx z))] at h3
    left
    rcases OK a t.a with l | l | l
    ·exact l
    ·exact absurd l.symm q1
    ·exact absurd l (of_decide_eq_false h3)
theorem Kg(h:LL ss n Pd):GJ (EE Pd) n (ss++Re 5 .no):=by
 obtain⟨xs,most,rfl,hx,hr,h26,hm,hn,p⟩:=h
 have szl:=PySem.sizeLine_eq
 unfold GJ
 refine⟨5,rfl,by decide,by decide,by omega,λsort s0 s1=>?_⟩
 refine⟨_,rfl,by omega,by omega,by omega,λmany m0 m1=>⟨many,rfl,⟨by omega,by omega⟩,?_⟩⟩
 refine CN (all:=DJ 0 many.toNat) (λpre m ρ=>n - 2 - 3*pre.length<=m/\∃(ks:List (List Key)) (ds:List D) (s5 s6 s7:Slot),ρ=[.fd,.sh (.tup (xs.map .str)),.sh (.int most),.ow (.dit ks ds),.sh (.int sort),s5,s6,s7]/\Tds xs ks ds/\ks.length<=pre.length) ?_ ?_ _ [] _ _ rfl ⟨by simp; omega,[],[],_,_,_,rfl,⟨rfl,Yz,(λk h=>by cases h),λd h=>by cases h⟩,No _⟩
 ·rintro m ρ ⟨hm2,ks,ds,s5,s6,s7,rfl,T,hkl⟩
  rw [DH] at hm2 hkl
  refine⟨ks,ds,rfl,T.len,by omega,λx hx' y hy'=>?_,λx hx'=>?_,λk hk' x hx'=>?_,λks' hp pw=>⟨by show (ks'.map tupK).length<=10000000; rw [Db,hp.length_eq]; omega,?_⟩⟩
  ·obtain⟨a,b,rfl,_⟩:=T.key x hx'
   obtain⟨a',b',rfl,_⟩:=T.key y hy'
   rfl
  ·obtain⟨a,b,rfl,_⟩:=T.key x hx'
   simp
  ·obtain⟨a,b,rfl,ha,hb,_⟩:=T.key k hk'
   have fit:∀y∈xs,F_ (.inr y):=λy hy=>by
    have:=(hx y hy).2.1
    show y.length<=sizeLine
    omega
   rcases X_.mp hx' with rfl | hx'
   ·exact fit a ha
   ·rw [X7.mp hx']; exact fit b hb
  ·obtain⟨ts,e1,e2,h1,h2⟩:=T.ties (ks':=ks') (λk hk'=>hp.mem_iff.mp hk') (hp.nodup_iff.mpr T.nd) pw
   have htl:ts.length=ks.length:=by rw [← hp.length_eq,← e2,Db]
   refine Bc (Jb ks ds) (λρ=>∃s,ρ=[.br (.dit ks ds),s]) _ _ _ _ ?_ ⟨_,rfl⟩ ?_
   ·rintro d hd ρ n' nx ⟨s,rfl⟩ hnx
    obtain⟨k,hk',rfl⟩:=XV.mp hd
    have hkk:=hp.mem_iff.mp hk'
    obtain⟨a,b,rfl,_⟩:=T.key k hkk
    obtain⟨z,hz⟩:=FS T.len hkk
    have:=hnx [.br (.dit ks ds),.sh (.tup [.str a,.str b])] ⟨_,rfl⟩
    rw [show Jb ks ds (tupK [.inr a,.inr b])=.tup [.str a,.str b,z] by show Jb ks ds (.tup [.str a,.str b])=_; rw [LP,hz]; rfl] at this
    exact⟨ks,ds,_,z,rfl,rfl,hz,z1,z3,this⟩
   ·rw [YQ,e1]
    exact p ts m ⟨hx,hr,h1,h2⟩ (by omega) (by omega)
 ·rintro pre d post m ρ nx hall ⟨hm2,ks,ds,s5,s6,s7,rfl,T,hkl⟩ hnx
  obtain⟨rfl,hk⟩:=HQ hall
  rw [Rs,X9] at hnx
  generalize pre.length=i at hk hm2 hkl hnx ⊢
  have xl:(xs.map D.str).length=xs.length:=Db ..
  refine⟨_,_,rfl,rfl,?_⟩
  show if decide ((1:Int)<((xs.map D.str).length:Int))=true then _ else _
  refine EH (λc=>?_) λc=>hnx _ _ ⟨by omega,ks,ds,_,_,_,rfl,T,by omega⟩
  have c:=of_decide_eq_true c
  rw [xl] at c
  refine⟨_,_,rfl,rfl,_,rfl,by omega,by omega,by omega,λa a0 a1=>?_⟩
  refine⟨_,_,rfl,rfl,_,rfl,by omega,by omega,by omega,λq q0 q1=>⟨_,_,rfl,rfl,by show (0:Int)<_; omega,?_⟩⟩
  rw [xl] at a1 q1 ⊢
  obtain⟨s,es,se0,se3⟩:∃s:Int,atI [D.int sort,D.int ((0+(i:Int)) % 4)] (sort / 4)=some (.int s)/\0<=s/\s<=3:=by
   rcases (show sort<4\/sort=4 by omega) with z | z
   ·refine⟨sort,?_,s0,by omega⟩
    rw [show sort / 4=0 by omega]; rfl
   ·refine⟨(0+(i:Int)) % 4,?_,by omega,by omega⟩
    rw [show sort / 4=1 by omega]; rfl
  refine⟨ks,ds,rfl,by show (0:Int)<4; decide,z2,⟨by decide,by decide⟩,_,es,s,rfl,se0,se3,by omega,λr r1 r2=>?_⟩
  have hb0:0<=(a+1+q) % (xs.length:Int)/\(a+1+q) % (xs.length:Int)<xs.length:=⟨bo _ (by omega),bA _ (by omega)⟩
  have hab:(a+1+q) % (xs.length:Int)≠a:=by
   intro e
   rcases (show a+1+q<xs.length\/xs.length<=a+1+q by omega) with z | z
   ·rw [Int.emod_eq_of_lt (by omega) z] at e; omega
   ·have:(a+1+q) % (xs.length:Int)=a+1+q - xs.length:=by
     rw [← Int.sub_emod_right,Int.emod_eq_of_lt (by omega) (by omega)]
    omega
  obtain⟨b,eb⟩:∃b,(a+1+q) % (xs.length:Int)=b:=⟨_,rfl⟩
  rw [eb] at hb0 hab
  have key:∀lo hi:Int,0<=lo->lo<hi->hi<xs.length->∃x y:Str,atI (xs.map D.str) lo=some (.str x)/\atI (xs.map D.str) hi=some (.str y)/\x∈xs/\y∈xs/\cs x<cs y:=by
   intro lo hi l0 lh hl
   have h1:lo.toNat<xs.length:=by omega
   have h2:hi.toNat<xs.length:=by omega
   refine⟨xs[lo.toNat],xs[hi.toNat],?_,?_,ZL _,ZL _,?_⟩
   ·have:=AO (xs:=xs.map D.str) (j:=lo.toNat) (v:=.str xs[lo.toNat]) (by rw [On,FM h1]; rfl)
    rwa [show ((lo.toNat:Nat):Int)=lo by omega] at this
   ·have:=AO (xs:=xs.map D.str) (j:=hi.toNat) (v:=.str xs[hi.toNat]) (by rw [On,FM h2]; rfl)
    rwa [show ((hi.toNat:Nat):Int)=hi by omega] at this
   ·exact Z9.mp hr _ _ h1 h2 (by omega)
  obtain⟨x,y,ex,ey,hx1,hy1,lt⟩:=key (if b<a then b else a) (if b > a then b else a) (by split <;> omega) (by split <;> omega) (by split <;> omega)
  have done:=hnx (m - 1 - 1 - 1) [.fd,.sh (.tup (xs.map .str)),.sh (.int most),.ow (.dit (Bp ks [.inr x,.inr y]) (Bo ks ds [.inr x,.inr y] (.int r))),.sh (.int sort),.sh (.int (0+(i:Int))),.sh (.int a),.sh (.int b)] ⟨by omega,_,_,_,_,_,rfl,T.put hx1 hy1 lt r1 r2,YH SG (by omega)⟩
  subst eb
  refine⟨_,ex,_,ey,z2,_,rfl,by omega,done⟩
end
noncomputable abbrev Mx:=Nat->Nat->Option Int
noncomputable def IH(g:Mx)(i j:Nat)(x:Int):Mx:=λa b=>if a=i/\b=j then some x else g a b
theorem BV{g:Mx}{i j:Nat}{x:Int}:IH g i j x i j=some x:=if_pos ⟨rfl,rfl⟩
theorem BR{g:Mx}{i j a b:Nat}{x:Int}(h:¬(a=i/\b=j)):IH g i j x a b=g a b:=if_neg h
inductive WI (E:Nat->Nat->Int->Prop) (m i:Nat):Nat->Int->Prop
 | nil:WI E m i i 0
 | one {j:Nat} {l:Int}:E i j l->WI E m i j l
 | snoc {k j:Nat} {d l:Int}:WI E m i k d->k<m->E k j l->WI E m i j (d+l)
section
variable {E A:Nat->Nat->Int->Prop}{n m i j a b:Nat}{d:Int}{g g0:Mx}
theorem WI.pos(hp:∀i j l,E i j l->0<=l)(h:WI E m i j d):0<=d:=by
 induction h with
 | nil=>exact ZO _
 | one e=>exact hp _ _ _ e
 | snoc _ _ e ih=>have:=hp _ _ _ e; omega
theorem WI.split(hp:∀i j l,E i j l->0<=l)(h:WI E (m+1) i j d):WI E m i j d\/∃d1 d2,WI E m i m d1/\WI E m m j d2/\d1+d2<=d:=by
 induction h with
 | nil=>exact .inl .nil
 | one e=>exact .inl (.one e)
 | @snoc k j d l _ hk e ih =>
  have hl:=hp _ _ _ e
  rcases ih with w | ⟨d1,d2,w1,w2,le⟩
  ·by_cases hm:k<m
   ·exact .inl (.snoc w hm e)
   ·have:k=m:=by omega
    subst this
    exact .inr ⟨d,l,w,.one e,ZO _⟩
  ·by_cases hm:k<m
   ·exact .inr ⟨d1,d2+l,w1,.snoc w2 hm e,by omega⟩
   ·have:k=m:=by omega
    subst this
    have:=w2.pos hp
    exact .inr ⟨d1,l,w1,.one e,by omega⟩
structure Fm (E A:Nat->Nat->Int->Prop) (n m:Nat) (g:Mx):Prop where
 snd:∀i j d,g i j=some d->A i j d
 cmp:∀i j d,i<n->j<n->WI E m i j d->∃d',g i j=some d'/\d'<=d
structure Rm (A:Nat->Nat->Int->Prop) (n m:Nat) (g0:Mx) (a b:Nat) (g:Mx):Prop where
 snd:∀i j d,g i j=some d->A i j d
 dec:∀i j d,g0 i j=some d->∃d',g i j=some d'/\d'<=d
 got:∀i j,j<n->(i<a\/(i=a/\j<b))->∀d1 d2,g0 i m=some d1->g0 m j=some d2->∃d',g i j=some d'/\d'<=d1+d2
theorem Fm.start(h:Fm E A n m g0):Rm A n m g0 0 0 g0:=⟨h.snd,λi j d e=>⟨d,e,ZO _⟩,λi j _ z=>by omega⟩
theorem Rm.next(h:Rm A n m g0 a n g):Rm A n m g0 (a+1) 0 g:=⟨h.snd,h.dec,λi j hj z=>h.got i j hj (by omega)⟩
theorem Rm.done(hp:∀i j l,E i j l->0<=l)(hm:m<n)(h0:Fm E A n m g0)(h:Rm A n m g0 n 0 g):Fm E A n (m+1) g:=by
 refine⟨h.snd,λi j d hi hj w=>?_⟩
 rcases w.split hp with w | ⟨d1,d2,w1,w2,le⟩
 ·obtain⟨d',e,l⟩:=h0.cmp i j d hi hj w
  obtain⟨d2,e2,l2⟩:=h.dec i j d' e
  exact⟨d2,e2,by omega⟩
 ·obtain⟨x,ex,lx⟩:=h0.cmp i m d1 hi hm w1
  obtain⟨y,ey,ly⟩:=h0.cmp m j d2 hm hj w2
  obtain⟨z,ez,lz⟩:=h.got i j hj (.inl hi) x y ex ey
  exact⟨z,ez,by omega⟩
theorem Rm.skip(h:Rm A n m g0 a b g)(hn:∀d1 d2,g a m=some d1->g m b=some d2->∃d',g a b=some d'/\d'<=d1+d2):Rm A n m g0 a (b+1) g:=by
 refine⟨h.snd,h.dec,λi j hj z d1 d2 e1 e2=>?_⟩
 by_cases c:i<a\/(i=a/\j<b)
 ·exact h.got i j hj c d1 d2 e1 e2
 ·have e1':i=a:=by omega
  have e2':j=b:=by omega
  subst e1' e2'
  obtain⟨x,ex,lx⟩:=h.dec _ _ _ e1
  obtain⟨y,ey,ly⟩:=h.dec _ _ _ e2
  obtain⟨z,ez,lz⟩:=hn x y ex ey
  exact⟨z,ez,by omega⟩
theorem Rm.put(ht:∀i k j d1 d2,A i k d1->A k j d2->A i j (d1+d2))(h:Rm A n m g0 a b g){x y:Int}(hx:g a m=some x)(hy:g m b=some y)(hl:∀z,g a b=some z->x+y<=z):Rm A n m g0 a (b+1) (IH g a b (x+y)):=by
 have le:∀i j d,g i j=some d->∃d',IH g a b (x+y) i j=some d'/\d'<=d:=λi j d e=>by
  by_cases c:i=a/\j=b
  ·obtain⟨rfl,rfl⟩:=c
   exact⟨_,BV,hl d e⟩
  ·exact⟨d,by rw [BR c]; exact e,ZO _⟩
 refine⟨λi j d e=>?_,λi j d e=>?_,λi j hj z d1 d2 e1 e2=>?_⟩
 ·by_cases c:i=a/\j=b
  ·obtain⟨rfl,rfl⟩:=c
   rw [BV] at e
   cases e
   exact ht _ _ _ _ _ (h.snd _ _ _ hx) (h.snd _ _ _ hy)
  ·rw [BR c] at e
   exact h.snd i j d e
 ·obtain⟨d1,e1,l1⟩:=h.dec i j d e
  obtain⟨d2,e2,l2⟩:=le i j d1 e1
  exact⟨d2,e2,by omega⟩
 ·by_cases c:i<a\/(i=a/\j<b)
  ·obtain⟨d',e',l'⟩:=h.got i j hj c d1 d2 e1 e2
   obtain⟨d3,e3,l3⟩:=le i j d' e'
   exact⟨d3,e3,by omega⟩
  ·have e1':i=a:=by omega
   have e2':j=b:=by omega
   subst e1' e2'
   obtain⟨x',ex,lx⟩:=h.dec _ _ _ e1
   obtain⟨y',ey,ly⟩:=h.dec _ _ _ e2
   rw [hx] at ex
   rw [hy] at ey
   cases ex
   cases ey
   exact⟨_,BV,by omega⟩
end
noncomputable def EI(N:Net)(i j:Nat)(l:Int):Prop:=∃x y,N.ps[i]?=some x/\N.ps[j]?=some y/\Ed N x y l
noncomputable def AI(N:Net)(i j:Nat)(d:Int):Prop:=∃x y,N.ps[i]?=some x/\N.ps[j]?=some y/\Wk N x y d
theorem Wk.trans{N:Net}{x y z:Str}{d1 d2:Int}(h1:Wk N x y d1)(h2:Wk N y z d2):Wk N x z (d1+d2):=by
 induction h2 with
 | nil=>rw [Int.add_zero]; exact h1
 | snoc _ e ih=>rw [← Int.add_assoc]; exact .snoc ih e
theorem AI.trans{N:Net}:∀i k j d1 d2,AI N i k d1->AI N k j d2->AI N i j (d1+d2):=by
 rintro i k j d1 d2 ⟨x,y,hx,hy,w⟩ ⟨y',z,hy',hz,w'⟩
 rw [hy] at hy'
 cases hy'
 exact⟨x,z,hx,hz,w.trans w'⟩
theorem EI.pos{N:Net}(ok:N.Ok):∀i j l,EI N i j l->0<=l:=by
 rintro i j l ⟨x,y,_,_,e⟩
 have:=e.pos ok
 omega
theorem Ii{N:Net}(ok:N.Ok){i j:Nat}{x:Str}(h1:N.ps[i]?=some x)(h2:N.ps[j]?=some x):i=j:=by
 exact F4 (Fu ok.rise) h1 h2
theorem Ih{N:Net}{x:Str}(h:x∈N.ps):∃i,N.ps[i]?=some x/\i<N.ps.length:=by
 obtain⟨i,l,e⟩:=Z0.mp h
 exact⟨i,by rw [FM l,e],l⟩
theorem Wk.wi{N:Net}(ok:N.Ok){i:Nat}{x:Str}(hx:N.ps[i]?=some x){y:Str}{d:Int}(h:Wk N x y d):∀{j:Nat},N.ps[j]?=some y->WI (EI N) N.ps.length i j d:=by
 induction h with
 | nil =>
  intro j hj
  rw [Ii ok hx hj]
  exact .nil
 | @snoc z y d l w e ih =>
  intro j hj
  obtain⟨k,hk,kl⟩:=Ih (w.ins ok (YW hx))
  exact .snoc (ih hk) kl ⟨z,y,hk,hj,e⟩
structure Tm (N:Net) (ts:List A0) (g:Mx):Prop where
 snd:∀i j d,g i j=some d->AI N i j d
 dia:∀i,i<N.ps.length->∃d,g i i=some d/\d<=0
 tie:∀t∈ts,∀i j,N.ps[i]?=some t.a->N.ps[j]?=some t.b->g i j=some t.len/\g j i=some t.len
theorem Tm.put{N:Net}(ok:N.Ok){ts:List A0}{t:A0}{g:Mx}(h:Tm N ts g)(hm:t∈N.ts)(hp:(ts++[t]).Pairwise Ej)(hs:∀s∈ts,s∈N.ts){i j:Nat}(hi:N.ps[i]?=some t.a)(hj:N.ps[j]?=some t.b):Tm N (ts++[t]) (IH (IH g i j t.len) j i t.len):=by
 obtain⟨_,_,lt,_⟩:=ok.tin t hm
 have ne:i≠j:=λe=>by
  subst e
  rw [hi] at hj
  rw [TW hj] at lt
  exact Zx _ lt
 have ed:=GC hm
 refine⟨λa b d e=>?_,λa ha=>?_,λs hs' a b ha hb=>?_⟩
 ·by_cases c1:a=j/\b=i
  ·obtain⟨rfl,rfl⟩:=c1
   rw [BV] at e
   cases e
   have:=Wk.snoc (.nil (N:=N) (s:=t.b)) ed.2
   rw [Yw] at this
   exact⟨_,_,hj,hi,this⟩
  ·rw [BR c1] at e
   by_cases c2:a=i/\b=j
   ·obtain⟨rfl,rfl⟩:=c2
    rw [BV] at e
    cases e
    have:=Wk.snoc (.nil (N:=N) (s:=t.a)) ed.1
    rw [Yw] at this
    exact⟨_,_,hi,hj,this⟩
   ·rw [BR c2] at e
    exact h.snd a b d e
 ·rw [BR (by omega),BR (by omega)]
  exact h.dia a ha
 ·rcases YI.mp hs' with hs1 | hs1
  ·have h1:=h.tie s hs1 a b ha hb
   have hlt:=(Z1.mp hp).2.2 s hs1 t Op
   obtain⟨_,_,lt2,_⟩:=ok.tin s (hs s hs1)
   have nab:¬(a=i/\b=j):=fun⟨z1,z2⟩=>by
    subst z1 z2
    rw [hi] at ha
    rw [hj] at hb
    have e1:=TW ha
    have e2:=TW hb
    rcases hlt with l | ⟨l1,l2⟩
    ·rw [e1] at l; exact Zx _ l
    ·rw [e2] at l2; exact Zx _ l2
   have nba:¬(a=j/\b=i):=fun⟨z1,z2⟩=>by
    subst z1 z2
    rw [hj] at ha
    rw [hi] at hb
    have e1:=TW ha
    have e2:=TW hb
    rw [← e1,← e2] at lt2
    exact absurd lt2 (List.lt_asymm lt)
   rw [BR (by omega),BR (by omega),BR (by omega),BR (by omega)]
   exact h1
  ·rw [X7.mp hs1] at ha hb ⊢
   have e1:=Ii ok ha hi
   have e2:=Ii ok hb hj
   subst e1 e2
   rw [BR (a:=a) (b:=b) (by omega),BV,BV]
   exact⟨rfl,rfl⟩
theorem Tm.fm{N:Net}(ok:N.Ok){g:Mx}(h:Tm N N.ts g):Fm (EI N) (AI N) N.ps.length 0 g:=by
 refine⟨h.snd,λi j d hi hj w=>?_⟩
 cases w with
 | nil=>exact h.dia i hi
 | one e =>
  obtain⟨x,y,hx,hy,e⟩:=e
  obtain⟨t,ht,rfl,c⟩:=e.tie ok
  rcases c with ⟨rfl,rfl⟩ | ⟨rfl,rfl⟩
  ·exact⟨_,(h.tie t ht i j hx hy).1,ZO _⟩
  ·exact⟨_,(h.tie t ht j i hy hx).2,ZO _⟩
 | snoc _ z _=>omega
noncomputable def Pl(N:Net)(F:Str->Str->Option Int):Prop:=∀x∈N.ps,∀y∈N.ps,(∀d,F x y=some d->OZ N x y d)/\∀d,Wk N x y d->F x y≠none
noncomputable def ofM(ps:List Str)(g:Mx)(x y:Str):Option Int:=g (ps.idxOf x) (ps.idxOf y)
theorem Fm.far{N:Net}(ok:N.Ok){g:Mx}(h:Fm (EI N) (AI N) N.ps.length N.ps.length g):Pl N (ofM N.ps g):=by
 intro x hx y hy
 have lx:=aE.mpr hx
 have ly:=aE.mpr hy
 have ex:N.ps[N.ps.idxOf x]?=some x:=by rw [FM lx,bC lx]
 have ey:N.ps[N.ps.idxOf y]?=some y:=by rw [FM ly,bC ly]
 have cm:∀d,Wk N x y d->∃d',ofM N.ps g x y=some d'/\d'<=d:=λd w=>h.cmp _ _ d lx ly (w.wi ok ex ey)
 refine⟨λd e=>⟨?_,λd' w=>?_⟩,λd w e=>?_⟩
 ·obtain⟨x',y',h1,h2,w⟩:=h.snd _ _ _ e
  rw [ex] at h1
  rw [ey] at h2
  cases h1
  cases h2
  exact w
 ·obtain⟨d2,e2,l2⟩:=cm d' w
  rw [e] at e2
  cases e2
  exact l2
 ·obtain⟨d2,e2,_⟩:=cm d w
  rw [e] at e2
  cases e2
noncomputable def ov:Option Int->V
 | none=>.non
 | some l=>.int l
noncomputable def od:Option Int->D
 | none=>.non
 | some l=>.int l
noncomputable def Ft(n:Nat)(g:Mx)(i:Nat):List V:=(YN n).map λj=>ov (g i j)
noncomputable def K0(ps:List Str)(F:Str->Str->Option Int):D:=.lst (ps.map λx=>.lst (ps.map λy=>od (F x y)))
theorem EY{n:Nat}{g:Mx}{i:Nat}:(Ft n g i).length=n:=by unfold Ft; rw [Db,Yo]
theorem Fs{n:Nat}{g:Mx}{i j:Nat}(h:j<n):(Ft n g i)[j]?=some (ov (g i j)):=by
 unfold Ft
 rw [On,am h]; rfl
theorem R9{n:Nat}{g:Mx}{i j:Nat}(h:j<n):atI (Ft n g i) (j:Int)=some (ov (g i j)):=AO (Fs h)
theorem QK{n:Nat}{g:Mx}{i j:Nat}{x:Int}:(Ft n g i).set j (.int x)=Ft n (IH g i j x) i:=by
 refine List.ext_getElem? λk=>?_
 by_cases hk:k<n
 ·rw [Fs hk,aI]
  by_cases e:j=k
  ·subst e
   rw [if_pos rfl,if_pos (by rw [EY]; exact hk),BV]; rfl
  ·rw [if_neg e,Fs hk,BR (by omega)]
 ·rw [aU (by rw [ZD,EY]; omega),aU (by rw [EY]; omega)]
theorem R8{n:Nat}{g:Mx}{i j k:Nat}{x:Int}(h:k≠i):Ft n (IH g i j x) k=Ft n g k:=by
 unfold Ft
 refine Yf λy _=>?_
 rw [BR (by omega)]
structure Mat (H:Hp) (d:Addr) (as:List Addr) (n:Nat) (g:Mx) (H':Hp):Prop where
 old:∀b o,H b=some o->H' b=some o
 new:H d=none
 top:H' d=some (.lst (as.map .ref))
 inn:∀i a,as[i]?=some a->H a=none/\a≠d/\H' a=some (.lst (Ft n g i))
section
variable {H H':Hp}{d:Addr}{as:List Addr}{n:Nat}{g:Mx}
theorem Mat.ads(s:Mat H d as n g H')(hd:as.Nodup){i j:Nat}{a:Addr}(h1:as[i]?=some a)(h2:as[j]?=some a):i=j:=by
 obtain⟨l1,e1⟩:=X4.mp h1
 obtain⟨l2,e2⟩:=X4.mp h2
 exact bV hd |>.mp (e1.trans e2.symm)
theorem Mat.put(s:Mat H d as n g H')(hd:as.Nodup){i j:Nat}{a:Addr}{x:Int}(ha:as[i]?=some a):Mat H d as n (IH g i j x) (BB H' a (.lst ((Ft n g i).set j (.int x)))):=by
 obtain⟨i1,i2,i3⟩:=s.inn i a ha
 refine⟨λb o e=>?_,s.new,?_,λk b hb=>?_⟩
 ·have:b≠a:=λz=>by rw [z,i1] at e; cases e
  rw [AT this]
  exact s.old b o e
 ·rw [AT (Yq i2)]
  exact s.top
 ·obtain⟨g1,g2,g3⟩:=s.inn k b hb
  refine⟨g1,g2,?_⟩
  by_cases e:b=a
  ·subst e
   have:=s.ads hd hb ha
   subst this
   rw [AY,QK]
  ·have hk:k≠i:=λz=>by
    subst z
    rw [ha] at hb
    exact e (TW hb).symm
   rw [AT e,R8 hk]
   exact g3
theorem Mat.more(s:Mat H d as n g H'){p q:Addr}{o:HO}{xs:List V}(hp:H' p=none)(hq:BB H' p o q=none)(hr:Ft n g as.length=xs):Mat H d (as++[q]) n g (BB (BB (BB H' p o) q (.lst xs)) d (.lst (as.map .ref++[.ref q]))):=by
 have np:∀b u,H' b=some u->b≠p:=λb u e z=>by rw [z,hp] at e; cases e
 have hqp:q≠p:=λz=>by rw [z,AY] at hq; cases hq
 have hq':H' q=none:=by rw [AT hqp] at hq; exact hq
 have nq:∀b u,H' b=some u->b≠q:=λb u e z=>by rw [z,hq'] at e; cases e
 have hHq:H q=none:=by
  cases c:H q with
  | none=>rfl
  | some u=>rw [s.old q u c] at hq'; cases hq'
 refine⟨λb u e=>?_,s.new,?_,λi a ha=>?_⟩
 ·have h':=s.old b u e
  rw [AT (λz=>by rw [z,s.new] at e; cases e),AT (nq b u h'),AT (np b u h')]
  exact h'
 ·rw [AY,YU]; rfl
 ·rw [List.getElem?_append] at ha
  split at ha
  ·obtain⟨g1,g2,g3⟩:=s.inn i a ha
   exact⟨g1,g2,by rw [AT g2,AT (nq a _ g3),AT (np a _ g3)]; exact g3⟩
  ·rename_i hl
   have hi:i=as.length:=by
    have:=(X4.mp ha).1
    rw [X9] at this
    omega
   subst hi
   rw [ac] at ha
   cases (show q=a from TW ha)
   have nd:q≠d:=λz=>by rw [z,s.top] at hq'; cases hq'
   exact⟨hHq,nd,by rw [AT nd,AY,hr]⟩
theorem Mat.fresh(s:Mat H d as n g H'){q:Addr}(hq:H' q=none):q∉as:=λhm=>by
 obtain⟨i,l,e⟩:=Z0.mp hm
 obtain⟨_,_,h⟩:=s.inn i q (by rw [FM l,e])
 rw [h] at hq
 cases hq
end
theorem NT{K:Frag}{M:Addr->Prop}{H:Hp}:∀{ds:List D} {vs:List V},ds.length=vs.length->(∀(i:Nat) d v,ds[i]?=some d->vs[i]?=some v->At K M H d v)->Ats K M H ds vs
 | [],[],_,_=>rfl
 | d::ds,v::vs,hl,h=>⟨v,vs,rfl,h 0 d v rfl rfl,NT (Nat.succ.inj hl) λi d' v' e1 e2=>h (i+1) d' v' e1 e2⟩
 | [],_::_,hl,_=>by cases hl
 | _::_,[],hl,_=>by cases hl
theorem Mat.at_{K:Frag}{M:Addr->Prop}{H H':Hp}{d:Addr}{as:List Addr}{ps:List Str}{g:Mx}(dom:∀a,M a->∃o,H a=some o)(s:Mat H d as ps.length g H')(hl:as.length=ps.length)(nd:ps.Nodup):At K M H' (K0 ps (ofM ps g)) (.ref d):=by
 have nM:∀b,H b=none->¬M b:=λb e m=>by obtain⟨o,h⟩:=dom b m; rw [h] at e; cases e
 have ix:∀{i:Nat} {x:Str},ps[i]?=some x->ps.idxOf x=i:=λ{i x} e=>by
  have hx:=YW e
  have lx:=aE.mpr hx
  exact F4 nd (by rw [FM lx,bC lx]) e
 refine⟨d,as.map .ref,rfl,⟨nM d s.new,s.top⟩,NT (by rw [Db,Db,hl]) λi x v e1 e2=>?_⟩
 rw [On] at e1 e2
 obtain⟨p,hp,rfl⟩:=YD.mp e1
 obtain⟨a,ha,rfl⟩:=YD.mp e2
 obtain⟨g1,g2,g3⟩:=s.inn i a ha
 refine⟨a,_,rfl,⟨nM a g1,g3⟩,NT (by rw [Db,EY]) λj y v f1 f2=>?_⟩
 rw [On] at f1
 obtain⟨q,hq,rfl⟩:=YD.mp f1
 rw [Fs (X4.mp hq).1] at f2
 cases f2
 show At K M H' (od (g (ps.idxOf p) (ps.idxOf q))) _
 rw [ix hp,ix hq]
 cases g i j with
 | none=>rfl
 | some l=>rfl
theorem Uj{n j:Nat}(h:j<n):Po n (j:Int)=some j:=by
 unfold Po
 rw [if_pos (by omega),if_pos (by omega)]
 congr 1
section
variable {K:Frag}{H H':Hp}{d:Addr}{as:List Addr}{n:Nat}{g:Mx}{σ:L2.St}{a b i j:Nat}{zi zj:Int}
theorem Mat.rd2(s:Mat H d as n g H')(hl:as.length=n){Q:VK}(hi:i<n)(hj:j<n)(hd:σ[3]?=some (some (.ref d)))(ha:σ[a]?=some (some (.int zi)))(ei:zi=i)(hb:σ[b]?=some (some (.int zj)))(ej:zj=j){o:Option Int}(eo:g i j=o)(q:Q (ov o) H') :
  Cj (Ou K) (Cj (Ou K) (BG 3) (BG a)) (BG b) σ H' Q:=by
 subst ei ej eo
 obtain⟨r,hr⟩:∃r,as[i]?=some r:=⟨_,FM (by omega)⟩
 obtain⟨_,_,h3⟩:=s.inn i r hr
 exact⟨.ref d,hd,.int i,ha,d,_,_,.ref r,rfl,rfl,SqL.of s.top,AO (by rw [On,hr]; rfl),.int j,hb,r,_,_,_,rfl,rfl,SqL.of h3,R9 hj,q⟩
theorem Mat.wr(s:Mat H d as n g H')(hl:as.length=n)(nd:as.Nodup){x:Int}{to ti:TE}{R:L2.St->Hp->Prop}(hi:i<n)(hj:j<n)(ho:∀Q:VK,(∀r,as[i]?=some r->Q (.ref r) H')->to σ H' Q)(ht:∀Q:VK,Q (.int (j:Int)) H'->ti σ H' Q)(q:∀H'',Mat H d as n (IH g i j x) H''->R σ H'') :
  Uo to ti QR (.int x) σ H' R:=by
 refine ho _ λr hr=>ht _ ?_
 obtain⟨_,_,h3⟩:=s.inn i r hr
 exact⟨r,_,_,j,rfl,rfl,h3,Uj (by rw [EY]; exact hj),q _ (s.put nd hr)⟩
theorem Mat.row(s:Mat H d as n g H')(hl:as.length=n)(hi:i<n){Q:VK}{ti:TE}(hd:σ[3]?=some (some (.ref d)))(ht:∀Q:VK,Q (.int (i:Int)) H'->ti σ H' Q)(q:∀r,as[i]?=some r->Q (.ref r) H'):Cj (Ou K) (BG 3) ti σ H' Q:=by
 obtain⟨r,hr⟩:∃r,as[i]?=some r:=⟨_,FM (by omega)⟩
 exact⟨.ref d,hd,ht _ ⟨d,_,_,.ref r,rfl,rfl,SqL.of s.top,AO (by rw [On,hr]; rfl),q r hr⟩⟩
end
theorem Sl{K:Frag}{a:Addr}{xs:List V}{g:TG}{tb:TS}{D:Ends}{σ:L2.St}{H:Hp}{J:It}(Pv:Nat->L2.St->Hp->Prop)(h0:Pv 0 σ H)(hl:(J=Rl K a/\∀i σ H,Pv i σ H->SqL K H a xs)\/(J=Rk K a/\∀i σ H,Pv i σ H->SqT K H a xs))
  (hs:∀i x σ H,xs[i]?=some x->Pv i σ H->g x σ H λσ2 H2=>tb { D with nx:=Pv (i+1),ct:=Pv (i+1),bk:=D.nx } σ2 H2) (hd:∀σ H,Pv xs.length σ H->D.nx σ H) :
  ∃W:Nat->Nat->L2.St->Hp->Prop,(∃m,W 0 m σ H)/\∀i m σ H,W i m σ H ->
   (J.stop i H/\D.nx σ H)\/(J.go i H/\∃N:L2.St->Hp->Prop,(∀σ' H',N σ' H'->∃m',m'<m/\W (i+1) m' σ' H')/\∀x H',J.yld i H x H'->g x σ H' λσ2 H2=>tb { D with nx:=N,ct:=N,bk:=D.nx } σ2 H2):=by
 rcases hl with ⟨rfl,h⟩ | ⟨rfl,h⟩
 ·exact Qx Pv h0 (λi σ H _ p=>h i σ H p) hs hd
 ·exact Sk Pv h0 (λi σ H _ p=>h i σ H p) hs hd
theorem VA{K:Frag}{H:Hp}{a:Addr}{J:It}{R:It->Hp->Prop}(h:(J=Rl K a/\∃xs,SqL K H a xs)\/(J=Rk K a/\∃xs,SqT K H a xs))(r:R J H):(∃b,V.ref a=.ref b/\(∃xs,SqL K H b xs)/\R (Rl K b) H)\/(∃b,V.ref a=.ref b/\(∃xs,SqT K H b xs)/\R (Rk K b) H)\/∃z,V.ref a=.str z/\R (Wm z) H:=by
 rcases h with ⟨rfl,h⟩ | ⟨rfl,h⟩
 ·exact .inl ⟨a,rfl,h,r⟩
 ·exact .inr (.inl ⟨a,rfl,h,r⟩)
theorem QC{K:Frag}{a:Addr}{xs:List V}{g:TG}{tb:TS}{D:Ends}{σ:L2.St}{H:Hp}{J:It}{i:Nat}(hv:σ[i]?=some (some (.ref a)))(Pv:Nat->L2.St->Hp->Prop)(h0:Pv 0 σ H)(hl:(J=Rl K a/\∀i σ H,Pv i σ H->SqL K H a xs)\/(J=Rk K a/\∀i σ H,Pv i σ H->SqT K H a xs))
  (hs:∀i x σ H,xs[i]?=some x->Pv i σ H->g x σ H λσ2 H2=>tb { D with nx:=Pv (i+1),ct:=Pv (i+1),bk:=D.nx } σ2 H2) (hd:∀σ H,Pv xs.length σ H->D.nx σ H):Ve (V8 K (BG i)) g tb D σ H :=
 ⟨.ref a,hv,VA (R:=λJ H1=>∃W:Nat->Nat->L2.St->Hp->Prop,(∃m,W 0 m σ H1)/\∀i m σ H,W i m σ H ->
   (J.stop i H/\D.nx σ H)\/(J.go i H/\∃N:L2.St->Hp->Prop,(∀σ' H',N σ' H'->∃m',m'<m/\W (i+1) m' σ' H')/\∀x H',J.yld i H x H'->g x σ H' λσ2 H2=>tb { D with nx:=N,ct:=N,bk:=D.nx } σ2 H2)) (hl.imp (λh=>⟨h.1,_,h.2 _ _ _ h0⟩) λh=>⟨h.1,_,h.2 _ _ _ h0⟩) (Sl Pv h0 hl hs hd)⟩
noncomputable def Dg(N:Net)(k:Nat)(g:Mx):Prop:=(∀i j d,g i j=some d->AI N i j d)/\∀i,i<k->∃d,g i i=some d/\d<=0
theorem Dg.zero{N:Net}:Dg N 0 (λ_ _=>none):=⟨λ_ _ _ e=>(by cases e),λ_ h=>(by omega)⟩
theorem Dg.succ{N:Net}{k:Nat}{g:Mx}(hk:k<N.ps.length)(h:Dg N k g):Dg N (k+1) (IH g k k 0):=by
 refine⟨λi j d e=>?_,λi hi=>?_⟩
 ·by_cases c:i=k/\j=k
  ·obtain⟨rfl,rfl⟩:=c
   rw [BV] at e
   cases e
   exact⟨_,_,FM hk,FM hk,.nil⟩
  ·rw [BR c] at e
   exact h.1 i j d e
 ·by_cases c:i=k
  ·subst c
   exact⟨0,BV,ZO _⟩
  ·rw [BR (by omega)]
   exact h.2 i (by omega)
theorem Dg.tm{N:Net}{g:Mx}(h:Dg N N.ps.length g):Tm N [] g:=⟨h.1,h.2,λt ht=>by cases ht⟩
theorem Ng{K:Frag}{M:Addr->Prop}{H:Hp}:∀{ss:List Str} {vs:List V},Ats K M H (ss.map .str) vs->vs=ss.map .str
 | [],vs,h=>h
 | x::ss,vs,h=>by
  obtain⟨v,r,rfl,⟨rfl,_⟩,h2⟩:=h
  rw [Ng h2,X6]
theorem UB{N:Net}(ok:N.Ok){H:Hp}{ap:Addr}(hH:H ap=some (.tup (N.ps.map .str))){i:Nat}{x:Str}(hi:N.ps[i]?=some x){Q:VK}(q:Q (.int (i:Int)) H):SD (.ref ap) [.str x] H Q:=by
 have szl:=PySem.sizeLine_eq
 have hx:Sg x:=ok.names x (YW hi)
 have le:∀y∈N.ps,y.length<=sizeLine:=λy hy=>by have:=(ok.names y hy).2.1; omega
 have as:Ats ([]:Frag) (λ_=>False) H (N.ps.map D.str) (N.ps.map V.str):=Ats.strs le
 obtain⟨n1,l1,_⟩:=Gr ok.names
 obtain⟨n2,l2,d2⟩:=Ib hx
 refine⟨ap,_,.str x,BD (N.ps.map .str),toPy (.str x),i,rfl,rfl,hH,as.rv n1,At.rv (K:=([]:Frag)) (M:=λ_=>False) (show At _ _ H (.str x) (.str x) from⟨rfl,le x (YW hi)⟩) n2,l1,l2,d2,⟨toPy (.str x),by rw [CK,On,On,hi]; rfl,?_⟩,λm p hm e=>?_,q⟩
 ·show Ei (.str x) (.str x)=true
  rw [E4,beq_self_eq_true]
 ·rw [CK,On,On] at e
  obtain⟨z,e1,rfl⟩:=YD.mp e
  obtain⟨y,e2,rfl⟩:=YD.mp e1
  show Ei (.str y) (.str x)=false
  rw [E4,beq_eq_false_iff_ne]
  intro z
  subst z
  have:=Ii ok e2 hi
  omega
theorem Nc{N:Net}(ok:N.Ok){H:Hp}{ap:Addr}(hH:H ap=some (.tup (N.ps.map .str))){i k:Nat}{x:Str}{σ:L2.St}(h0:σ[0]?=some (some (.ref ap)))(hk:σ[k]?=some (some (.str x)))(hi:N.ps[i]?=some x)(Q:VK)(q:Q (.int (i:Int)) H):Va SD (BG 0) (Lb (BG k) Oe) σ H Q :=
 ⟨.ref ap,h0,⟨ap,_,rfl,hH⟩,.str x,hk,UB ok hH hi q⟩
noncomputable def OV:W2:=λss n P=>∃(N:Net) (d:D),ss=[.sh (.tup (N.ps.map .str)),.sh d]/\(d=.lst (N.ts.map Am)\/d=.tup (N.ts.map Am))/\N.Ok/\N.ps.length<=1000/\∀F,Pl N F->P (K0 N.ps F) n
end Nt
set_option maxHeartbeats 400000
namespace Nt
open PySem PySem.Spec PyProof.Rows L2 Dp
theorem Uv{M:Net}(ok:M.Ok){x y:Str}{l:Int}(h:Ed M x y l):Ed M y x l:=by
 obtain⟨t,ht,rfl,hx⟩:=h.tie ok
 obtain⟨d1,d2⟩:=GC ht
 rcases hx with ⟨rfl,rfl⟩ | ⟨rfl,rfl⟩
 ·exact d2
 ·exact d1
theorem T8{M:Net}(ok:M.Ok){x y:Str}{d:Int}(h:Wk M x y d):Wk M y x d:=by
 induction h with
 | nil=>exact .nil
 | snoc _ he ih =>
  have:=Wk.trans (Wk.snoc (Wk.nil (N:=M)) (Uv ok he)) ih
  rw [show ∀a l:Int,0+l+a=a+l from λa l=>by omega] at this
  exact this
theorem Nm{N:Net}(ok:N.Ok)(g:Str->Int){a:Str}(ha:a∈N.ps):C4 N ((N.ps.map g).map .int) a=g a:=by
 obtain⟨j,hj⟩:=Y_.mp ha
 unfold C4
 rw [MZ (Ke ok.rise) hj,On,On,hj]
 rfl
theorem Sq{M:Net}(ok:M.Ok)(g:Str->Int)(h0:∀x∈M.ps,0<=g x)(h:∀t∈M.ts,Bk (g t.a - g t.b)<=t.len):FF M (.tup ((M.ps.map g).map .int))=true:=by
 show (((((((M.ps.map g).map D.int).length:Nat):Int)==(M.ps.length:Int))&&((M.ps.map g).map D.int).all Pp)&&M.ts.all λt=>decide (Bk (C4 M ((M.ps.map g).map .int) t.a - C4 M ((M.ps.map g).map .int) t.b)<=t.len))=true
 rw [Db,Db,beq_self_eq_true,Yh,YA]
 refine⟨Y8.mpr λd hd=>?_,Y8.mpr λt ht=>?_⟩
 ·obtain⟨i,hi,rfl⟩:=XV.mp hd
  obtain⟨x,hx,rfl⟩:=XV.mp hi
  exact decide_eq_true (h0 x hx)
 ·obtain⟨m1,m2,_⟩:=ok.tin t ht
  rw [Nm ok g m1,Nm ok g m2]
  exact decide_eq_true (h t ht)
theorem RI{M:Net}(ok:M.Ok){F:Str->Str->Option Int}(hF:Pl M F){x:Str}(hx:x∈M.ps){m:Int}{t:A0}(ht:t∈M.ts):Bk (Bi m (F x t.a) - Bi m (F x t.b))<=t.len:=by
 obtain⟨m1,m2,_,l1,_⟩:=ok.tin t ht
 obtain⟨d1,d2⟩:=GC ht
 have up:∀{y z:Str} {l:Int},y∈M.ps->z∈M.ps->Ed M y z l->∀d,F x y=some d->∃d',F x z=some d'/\d'<=d+l:=λ{y z l} hy hz he d e=>by
  have hw:=Wk.snoc ((hF x hx y hy).1 d e).1 he
  cases ez:F x z with
  | none=>exact absurd ez ((hF x hx z hz).2 _ hw)
  | some d'=>exact⟨d',rfl,((hF x hx z hz).1 d' ez).2 _ hw⟩
 have u1:=up m1 m2 d1
 have u2:=up m2 m1 d2
 cases ea:F x t.a with
 | none =>
  cases eb:F x t.b with
  | none=>unfold Bk Bi; split <;> omega
  | some b=>obtain⟨d',z,_⟩:=u2 b eb; rw [ea] at z; cases z
 | some a =>
  cases eb:F x t.b with
  | none=>obtain⟨d',z,_⟩:=u1 a ea; rw [eb] at z; cases z
  | some b =>
   obtain⟨b',z1,h1⟩:=u1 a ea
   obtain⟨a',z2,h2⟩:=u2 b eb
   rw [eb] at z1
   rw [ea] at z2
   cases z1
   cases z2
   show Bk ((if a<m then a else m) - (if b<m then b else m))<=t.len
   unfold Bk
   split <;> split <;> split <;> omega
noncomputable def QZ(N:Net)(F:Str->Str->Option Int)(x:Str)(m more:Int):List Int:=N.ps.map λz=>more+Bi m (F x z)
theorem SI{N:Net}(okn:okN N){gone:List A0}{F:Str->Str->Option Int}(hF:Pl (Bw N gone) F){t b:Int}(tm:ED t b){u:A0}(hu:u∈N.ts){x y:Str}(hxy:(x=u.a/\y=u.b)\/(x=u.b/\y=u.a)){m more:Int}(hm0:0<m)(hm1:m<=10 ^ 13)(hm:u.len*t<m*b)(h0:0<=more)(h1:more<=10) :
  II N (QZ N F x m more)/\GB N t b gone u (QZ N F x m more)=decide (u.len*t<Bi m (F x y)*b)/\(¬u.len*t<Bi m (F x y)*b->∃d,Wk (Bw N gone) u.a u.b d/\d*b<=u.len*t):=by
 have ok:=okn.1
 have ok1:=HU ok gone
 obtain⟨ma,mb,hab,_⟩:=ok.tin u hu
 have hx:x∈N.ps:=by rcases hxy with ⟨rfl,_⟩ | ⟨rfl,_⟩ <;> assumption
 have hy:y∈N.ps:=by rcases hxy with ⟨_,rfl⟩ | ⟨_,rfl⟩ <;> assumption
 have pos:∀z∈N.ps,0<=Bi m (F x z)/\Bi m (F x z)<=m:=λz hz=>U3 (by omega) λd e=>((hF x hx z hz).1 d e).1.pos ok1
 have fxx:F x x=some 0:=by
  cases e:F x x with
  | none=>exact absurd e ((hF x hx x hx).2 0 .nil)
  | some d =>
   have l:=(hF x hx x hx).1 d e
   have:=l.2 0 .nil
   have:=l.1.pos ok1
   rw [show d=0 by omega]
 have cxx:Bi m (F x x)=0:=by rw [fxx]; show (if (0:Int)<m then 0 else m)=0; rw [if_pos hm0]
 have hy0:=pos y hy
 refine⟨⟨by unfold QZ; rw [Db],λi hi=>?_⟩,?_,λhn=>?_⟩
 ·obtain⟨z,hz,rfl⟩:=XV.mp hi
  have:=pos z hz
  omega
 ·unfold GB
  have hf:FF (Bw N gone) (.tup ((QZ N F x m more).map .int))=true:=Sq ok1 (λz=>more+Bi m (F x z)) (λz hz=>by have:=pos z hz; omega) λs hs=>by
   have:=RI ok1 hF hx (m:=m) hs
   rw [show more+Bi m (F x s.a) - (more+Bi m (F x s.b))=Bi m (F x s.a) - Bi m (F x s.b) by omega]
   exact this
  rw [hf,Yh]
  have pa:C4 N ((QZ N F x m more).map .int) u.a=more+Bi m (F x u.a):=Nm ok (λz=>more+Bi m (F x z)) ma
  have pb:C4 N ((QZ N F x m more).map .int) u.b=more+Bi m (F x u.b):=Nm ok (λz=>more+Bi m (F x z)) mb
  rw [pa,pb,show more+Bi m (F x u.a) - (more+Bi m (F x u.b))=Bi m (F x u.a) - Bi m (F x u.b) by omega]
  have:Bk (Bi m (F x u.a) - Bi m (F x u.b))=Bi m (F x y):=by
   rcases hxy with ⟨rfl,rfl⟩ | ⟨rfl,rfl⟩
   ·rw [cxx]; unfold Bk; split <;> omega
   ·rw [cxx]; unfold Bk; split <;> omega
  rw [this]
 ·have hb:0<b:=by have:=tm.1; omega
  cases e:F x y with
  | none =>
   rw [e] at hn
   exact absurd hm hn
  | some d =>
   rw [e] at hn
   have hn':¬u.len*t<(if d<m then d else m)*b:=hn
   by_cases c:d<m
   ·rw [if_pos c] at hn'
    have w:=((hF x hx y hy).1 d e).1
    refine⟨d,?_,by omega⟩
    rcases hxy with ⟨rfl,rfl⟩ | ⟨rfl,rfl⟩
    ·exact w
    ·exact T8 ok1 w
   ·rw [if_neg c] at hn'
    exact absurd hm hn'
end Nt
set_option maxHeartbeats 4000000
namespace L2
open PySem PySem.Spec PyProof.Rows PySem.W
section
variable {prog:Program}{w:World}{A:Around}{E:Value->Shared->Prop}{s:Shared}
end
section
variable {X:Cx}
end
end L2
namespace Dp
open PySem PySem.Spec PyProof.Rows L2
section
variable {K:Frag}
end
section
variable {X:Cx}{e1 e2:Expr}{ws:EK}{p1 q1 p2 q2:Pos}
end
end Dp
namespace L2
open PySem PySem.Spec PyProof.Rows
section
variable {X:Cx}
end
end L2
namespace Dp
open PySem PySem.Spec PyProof.Rows L2
section
variable {X:Cx}{κ:Kd}{pos:Pos}
end
end Dp
namespace Nt
open PySem PySem.Spec PyProof.Rows L2 Dp
inductive Cn (K:List A0) (x:Str):Str->Prop
 | refl:Cn K x x
 | step {y z:Str}:Cn K x y->(∃t∈K,(t.a=y/\t.b=z)\/(t.b=y/\t.a=z))->Cn K x z
section
variable {ss:List Slot}{n:Nat}{Pd:D->Nat->Prop}
end
end Nt
namespace Dp
open PySem PySem.Spec PyProof.Rows L2
section
variable {X:Cx}{κe:Kd}{tg elt iter:Expr}{ifs:List Expr}{sc:Scope}{pos:Pos}{src:EK}{b:BW}{tt:Ho}{te:DW}
end
end Dp
namespace Nt
open PySem PySem.Spec PyProof.Rows L2 Dp
section
variable {ss:List Slot}{n:Nat}{Pd:D->Nat->Prop}
structure X0 (N:Net) (ks:List Key) (ds:List D) (F:Str->Option Str):Prop where
 m:XR ks ds D.str F
 i:∀x,F x≠none->x∈N.ps
end
end Nt
namespace L2
open PySem PySem.Spec PyProof.Rows
open AutoSeq1 (wpAny_loadPart')
section
variable {prog:Program}{w:World}{A:Around}{E:Value->Shared->Prop}{s:Shared}
end
structure XQ (κ:Bool) (e it a:Addr) (k:Nat) (h:Heap):Prop where
 e:∃old,IsEnum h e it (k:Int) old
 i:ItAt κ h it a k
section
variable {X:Cx}{e1:Expr}{es:List Expr}{j:Nat}{tpos p pos:Pos}{te:TE}
end
end L2
namespace Dp
open PySem PySem.Spec PyProof.Rows L2
section
variable {K:Frag}
end
section
variable {X:Cx}{e1:Expr}{es:List Expr}{j:Nat}{tpos p pos:Pos}{κ:Kd}{wa:DW}
end
end Dp
namespace L2
open PySem PySem.Spec PyProof.Rows
section
variable {X:Cx}{e1 tg:Expr}{p pos:Pos}{te:TE}
end
end L2
namespace Dp
open PySem PySem.Spec PyProof.Rows L2
section
variable {X:Cx}{e1 tg:Expr}{p pos:Pos}{κ:Kd}{wa:DW}
end
end Dp
namespace Nt
open PySem PySem.Spec PyProof.Rows L2 Dp
section
variable {ss:List Slot}{n:Nat}{Pd:D->Nat->Prop}
end
noncomputable def tj(t:A0)(x y:Str):Prop:=(t.a=x/\t.b=y)\/(t.b=x/\t.a=y)
inductive Us (K:List A0) (x:Str):Str->Nat->Prop
 | nil:Us K x x 0
 | snoc {y z:Str} {n:Nat} {t:A0}:Us K x y n->t∈K->tj t y z->Us K x z (n+1)
noncomputable def firm(N:Net)(t b:Int)(L:List A0):Prop:=∀pre z post,L=pre++z::post->¬V4 (sub N pre) t b z
structure Kept (N:Net) (t b:Int) (L:List A0):Prop where
 ok:okN N
 firm:firm N t b L
 ins:∀u∈L,u∈N.ts
 up:L.Pairwise λu v=>u.len<=v.len
 b1:1<=b
end Nt
namespace L2
open PySem PySem.Spec PyProof.Rows PySem.W
section
variable {prog:Program}{w:World}{A:Around}{E:Value->Shared->Prop}{I:Addr}{fp wr:List Addr}{N:Nat}{P:Nat->Value->Prop}{St:Nat->Heap->Prop}
end
section
variable {X:Cx}{pos:Pos}
end
end L2
namespace Dp
open PySem PySem.Spec PyProof.Rows L2
section
variable {X:Cx}{es:List Expr}{pos:Pos}
end
section
variable {X:Cx}{κ κe:Kd}{tg tg2 iter e:Expr}{sc:Scope}{pos cp p apos cpos:Pos}{x:Str}{src:EK}{b:BW}{we:DW}{i f:Nat}
end
end Dp
namespace Nt
open PySem PySem.Spec PyProof.Rows L2 Dp
section
variable {ss:List Slot}{n:Nat}{Pd:D->Nat->Prop}
end
noncomputable def P_(N:Net):List Str->List A0->Prop
 | x::y::r,us=>∃t us',us=t::us'/\t∈N.ts/\((t.a=x/\t.b=y)\/(t.b=x/\t.a=y))/\P_ N (y::r) us'
 | [_],us=>us=[]
 | [],_=>False
noncomputable abbrev Xd:=List (A0×List Str)
noncomputable def T4(N:Net)(ts os:List A0):Prop:=os.Perm (N.ts.filter λt=>decide (t∉ts))/\U7 os
noncomputable def UT(k:Nat)(N1:Net)(T:Xd):Prop:=∀p∈T,∃r us,p.2=p.1.a::r/\P_ N1 p.2 us/\p.2.length<=k/\∀x∈p.2,x∈N1.ps
noncomputable abbrev Tj:=UT 500
structure X2 (N:Net) (ts1 ts2:List A0) (T1 T2:Xd):Prop where
 ok:N.Ok
 lp:N.ps.length<=24
 lt:N.ts.length<60
 s1:ts1.Sublist N.ts
 s2:ts2.Sublist ts1
 o1:T4 N ts1 (T1.map (·.1))
 o2:T4 ⟨N.ps,ts1⟩ ts2 (T2.map (·.1))
 p1:Tj ⟨N.ps,ts1⟩ T1
 p2:Tj ⟨N.ps,ts2⟩ T2
section
variable {ss:List Slot}{n:Nat}{Pd:D->Nat->Prop}
theorem Ry{N:Net}(ok:N.Ok){ts:List A0}(h:ts.Sublist N.ts):(⟨N.ps,ts⟩:Net).Ok:=⟨ok.names,ok.rise,λt ht=>ok.tin t (h.subset ht),ok.trise.sublist h⟩
theorem U9{α:Type}{f:α->D}{xs:List α}{pre post:List D}{d:D}(h:xs.map f=pre++d::post):∃t,xs[pre.length]?=some t/\d=f t:=by
 have e:(xs.map f)[pre.length]?=some d:=by rw [h,ZU (No _),ac]; rfl
 rw [On] at e
 obtain⟨t,h1,h2⟩:=YD.mp e
 exact⟨t,h1,h2.symm⟩
theorem HW{N:Net}(ok:N.Ok){i:Nat}{x:Str}(hi:N.ps[i]?=some x):B5 (.tup (N.ps.map .str))/\B5 (.str x)/\(∃z,(N.ps.map D.str)[i]?=some z/\Ei z (.str x)=true)/\∀(m:Nat) z,m<i->(N.ps.map D.str)[m]?=some z->Ei z (.str x)=false:=by
 refine⟨Gr ok.names,Ib (ok.names x (YW hi)),⟨.str x,by rw [On,hi]; rfl,by rw [E4,beq_self_eq_true]⟩,λm z hm hz=>?_⟩
 rw [On] at hz
 obtain⟨y,hy,rfl⟩:=YD.mp hz
 rw [E4,beq_eq_false_iff_ne]
 intro e
 subst e
 have:=Ii ok hy hi
 omega
theorem N0{ps:List Str}{F:Str->Str->Option Int}{i:Nat}{x:Str}(hi:ps[i]?=some x):atI (ps.map λx=>D.lst (ps.map λy=>od (F x y))) (i:Int)=some (.lst (ps.map λy=>od (F x y))):=AO (by rw [On,hi]; rfl)
theorem Ua{ps:List Str}{F:Str->Str->Option Int}{j:Nat}{x y:Str}(hj:ps[j]?=some y):atI (ps.map λy=>od (F x y)) (j:Int)=some (od (F x y)):=AO (by rw [On,hj]; rfl)
theorem U4{α:Type}(l:List α){k:Nat}(h:k<l.length):Dp.cutD l (some (k:Int)) none=l.drop k:=by
 unfold Dp.cutD
 rw [HT.sIx_none,HT.sIx_nat,ai (by omega)]
 exact Zs (by rw [ZJ]; exact No _)
end
end Nt
set_option maxHeartbeats 400000
namespace Dp
open PySem PySem.Spec PyProof.Rows L2
noncomputable def VP(i j:Nat)(ws:EK):Af:=λD2 n ρ=>ws n ρ λds n1=>∃d e,ds=[d,e]/\D2.nx n1 ((ρ.set i (.sh d)).set j (.sh e))
theorem Ux{X:Cx}{κ:Kd}{pos:Pos}{i j:Nat}{x y:Str}{a b:Expr}{ws:EK}{px py pt:Pos}{kt k2 pt2}(hc:X.calm=true)(hN:X.N.Nodup)(hi:X.N[i]?=some x)(hj:X.N[j]?=some y)(hij:i≠j)
  (hx:X.env.scope.names.lookup x=some .local) (hy:X.env.scope.names.lookup y=some .local) (ha:VM X [a,b] ws)
  (hw:swappedStores [.Tuple [.Name x px,.Name y py] kt pt] (.Tuple [a,b] k2 pt2) X.env=pure (some [x,y]))
  (hs:autoParam (swapsWithSole [.Tuple [.Name x px,.Name y py] kt pt] (.Tuple [a,b] k2 pt2) pos.line X.env=pure false) zau3._auto_1):DS X κ (.Assign [.Tuple [.Name x px,.Name y py] kt pt] (.Tuple [a,b] k2 pt2) pos) (VP i j ws):=by
 obtain⟨t,a1,a2⟩:=ha
 refine⟨_,UO hc hN hi hj hij hx hy a1 hw hs,λC M H n ρ σ D2 E R L w=>?_⟩
 refine a2 C M H n ρ σ _ _ R w λvs H1 ds n1 e1 f1 r1 p=>?_
 obtain⟨d,e,rfl,p⟩:=p
 obtain⟨u,r,rfl,h1,v,r',rfl,h2,h3⟩:=r1
 cases (show r'=[] from h3)
 exact⟨u,v,rfl,L.nx M H1 n1 _ _ (((R.step e1 f1).set h1).set h2) p⟩
end Dp
namespace Nt
open PySem PySem.Spec PyProof.Rows L2 Dp
noncomputable abbrev TR(N:Net)(t b:Int)(many:Nat):D:=.dic [.inr "net",.inr "times",.inr "many"] [E5 N,Bl t b,.int (many:Int)]
noncomputable def Wz:Option (List Int)->D
 | none=>.non
 | some p=>.tup (p.map .int)
noncomputable def D4:W2:=λss n P=>∃(N:Net) (t b:Int) (many:Nat) (gone:List A0) (F:Str->Str->Option Int) (u:A0),ss=[.fd,.sh (TR N t b many),.sh (K0 N.ps F),.sh (Am u)]/\okN N/\ED t b/\Pl (Bw N gone) F/\u∈N.ts/\3<=n/\∀(o:Option (List Int)) (n':Nat),(match o with | some p=>II N p/\GB N t b gone u p=true | none=>∃d,Wk (Bw N gone) u.a u.b d/\d*b<=u.len*t)->n - 3<=n'->P (Wz o) n'
noncomputable def DV:Af:=(Ar (VP 4 5 (AK (Ag BO (Ag FG (AD 1) (wC (D.str "net"))) (wC (D.int 0))) (AK (Ag FG (AD 1) (wC (D.str "times"))) Aj)))
 (Ar (BI 6 (Ag A7 (Ag A7 (Ag (Tr Pm λi j=>D.int (i / j)) (Ag DN (Ag BO (AD 3) (wC (D.int 2))) (Ag BO (AD 5) (wC (D.int 0)))) (Ag BO (AD 5) (wC (D.int 1)))) (wC (D.int 1))) (Ag DN (Ai Bm (AC (BF 0) (AC (AL (wC (D.int 2))) Al))) (wC (D.int 7)))))
 (Ar (BI 7 (Ai Bm (AC (BF 0) (AC (AL (wC (D.int 2))) Al))))
 (Ar (BI 8 (Ai Bm (AC (BF 0) (AC (AL (wC (D.int 3))) Al))))
 (Ar (BI 9 (Ag BO (AD 2) (MY (AD 4) (AK (Ag BO (AD 3) (AD 7)) Aj))))
 (Ar (BI 10 (CU [some 8,some 6,none] (Bg (AD 9)) (A9 2) FR (Ag A7 (AD 0) (VT (Ao (Ag (NG false) (AD 2) (wC D.non))) (AD 1) (DC N_ (AK (AD 2) (AK (AD 1) Aj)))))))
 (Ar (BI 11 (Ag D8 (Ag BO (AD 10) (MY (AD 4) (AK (Ag BO (AD 3) (Ag D8 (wC (D.int 1)) (AD 7))) Aj))) (AD 8)))
 (Ay (VT (Ao (Ag (f2 λi j=>D.bl (decide (j<i))) (Ag DN (AD 11) (Ag BO (AD 5) (wC (D.int 1)))) (Ag DN (Ag BO (AD 3) (wC (D.int 2))) (Ag BO (AD 5) (wC (D.int 0)))))) (DC E3 (AK (AD 10) Aj)) (wC D.non))))))))))
noncomputable def UI(m more:Int):D->D
 | .int v=>.int (more+if m<v then m else v)
 | _=>.int (more+m)
theorem UH(N:Net)(F:Str->Str->Option Int)(x:Str)(m more:Int):(N.ps.map λy=>od (F x y)).map (UI m more)=(QZ N F x m more).map .int:=by
 unfold QZ
 rw [Ys,Ys]
 refine Yf λy _=>?_
 show UI m more (od (F x y))=.int (more+Bi m (F x y))
 cases F x y with
 | none=>rfl
 | some v =>
  show D.int (more+if m<v then m else v)=.int (more+if v<m then v else m)
  congr 2
  split <;> split <;> omega
theorem HF{ss:List Slot}{n:Nat}{Pd:D->Nat->Prop}(h:D4 ss n Pd):DV (EE Pd) n (ss++Re 8 .no):=by
 obtain⟨N,t,b,many,gone,F,u,rfl,okn,tm,hF,hu,hn,q⟩:=h
 have ok:=okn.1
 have l25:=okn.2.1
 have tm':=tm
 obtain⟨b1,b2,t1,t2⟩:=tm'
 obtain⟨ma,mb,_,u1,u2⟩:=ok.tin u hu
 unfold DV
 refine⟨_,_,_,_,rfl,rfl,KJ _ _ _,_,AO (j:=0) rfl,_,_,_,_,rfl,rfl,Hr _ _ _,_,_,rfl,?_⟩
 refine⟨_,AO (j:=2) rfl,_,AO (j:=0) rfl,NL t1 t2,_,AO (j:=1) rfl,⟨by omega,by omega⟩,2,rfl,by decide,by decide,by omega,λr r0 r1=>⟨.inr (by constructor <;> decide),?_⟩⟩
 refine⟨2,rfl,by decide,by decide,by omega,λside s0 s1=>?_⟩
 refine⟨3,rfl,by decide,by decide,by omega,λmore m0 m1=>?_⟩
 obtain⟨x,y,hxy,hx,hy⟩:∃x y,((x=u.a/\y=u.b)\/(x=u.b/\y=u.a))/\atI [D.str u.a,.str u.b,.int u.len] side=some (.str x)/\atI [D.str u.a,.str u.b,.int u.len] (1 - side)=some (.str y):=by
  rcases (by omega:side=0\/side=1) with rfl | rfl
  ·exact⟨u.a,u.b,.inl ⟨rfl,rfl⟩,rfl,rfl⟩
  ·exact⟨u.b,u.a,.inr ⟨rfl,rfl⟩,rfl,rfl⟩
 have mx:x∈N.ps:=by rcases hxy with ⟨rfl,_⟩ | ⟨rfl,_⟩ <;> assumption
 have my:y∈N.ps:=by rcases hxy with ⟨_,rfl⟩ | ⟨_,rfl⟩ <;> assumption
 obtain⟨ix,ex,_⟩:=Ih mx
 obtain⟨iy,ey,_⟩:=Ih my
 obtain⟨a1,a2,a3,a4⟩:=HW ok ex
 obtain⟨c1,c2,c3,c4⟩:=HW ok ey
 have e0:0<=u.len*t / b:=Int.ediv_nonneg (Int.mul_nonneg (by omega) (by omega)) (by omega)
 have e1:u.len*t / b<=u.len*t:=Int.ediv_le_self _ (Int.mul_nonneg (by omega) (by omega))
 have e2:u.len*t<=1000000*1000000:=Int.mul_le_mul u2 t2 (by omega) (by omega)
 have e3:u.len*t<(u.len*t / b+1)*b:=by
  have:=Int.lt_ediv_add_one_mul_self (u.len*t) (show 0<b by omega)
  exact this
 generalize hm:u.len*t / b+1+r*7=m
 have hmb:u.len*t<m*b:=by
  have:(u.len*t / b+1)*b<=m*b:=Zq (by omega) (by omega)
  omega
 obtain⟨p1,p2,p3⟩:=SI okn hF tm hu hxy (m:=m) (more:=more) (by omega) (by omega) hmb m0 (by omega)
 refine⟨⟨_,rfl⟩,_,hx,_,_,ix,rfl,rfl,a1,a2,a3,a4,_,N0 ex,?_⟩
 refine⟨by show (N.ps.map λy=>od (F x y)).length<=10000000; rw [Db]; omega,?_⟩
 refine Bc (UI m more) (λρ=>∃s,ρ=[.sh (.int more),.sh (.int m),s]) _ _ _ _ ?_ ⟨_,rfl⟩ ?_
 ·rintro d hd ρ n' nx ⟨s,rfl⟩ hnx
  obtain⟨z,hz,rfl⟩:=XV.mp hd
  cases e:F x z with
  | none =>
   have k:=hnx [.sh (.int more),.sh (.int m),.sh .non] ⟨_,rfl⟩
   rw [e] at k
   exact⟨rfl,k⟩
  | some v =>
   have k:=hnx [.sh (.int more),.sh (.int m),.sh (.int v)] ⟨_,rfl⟩
   rw [e] at k
   exact⟨rfl,k⟩
 ·rw [YQ,UH]
  have eat:atI ((QZ N F x m more).map D.int) (iy:Int)=some (.int (more+Bi m (F x y))):=AO (by unfold QZ; rw [On,On,ey]; rfl)
  refine⟨⟨_,rfl⟩,_,hy,_,_,iy,rfl,rfl,c1,c2,c3,c4,_,eat,?_⟩
  refine⟨_,AO (j:=1) rfl,NL b1 b2,_,AO (j:=2) rfl,_,AO (j:=0) rfl,NL t1 t2,?_⟩
  show if decide (u.len*t<(more+Bi m (F x y) - more)*b)=true then _ else _
  rw [show more+Bi m (F x y) - more=Bi m (F x y) by omega]
  by_cases c:u.len*t<Bi m (F x y)*b
  ·rw [decide_eq_true c]
   rw [decide_eq_true c] at p2
   exact Dx (q (some (QZ N F x m more)) (n - 1 - 1 - 1) ⟨p1,p2⟩ (by omega))
  ·rw [decide_eq_false c]
   exact Be (q none (n - 1 - 1 - 1) (p3 c) (by omega))
noncomputable def IX(N:Net)(t b:Int)(gone:List A0)(u:A0):Prop:=∃d,Wk (Bw N gone) u.a u.b d/\d*b<=u.len*t
noncomputable def W0:Option (A0×List Int)->D
 | none=>.non
 | some (u,p)=>(Ca.fa u p).D
noncomputable def Ga:W2:=λss n P=>∃(N:Net) (t b:Int) (many:Nat) (gone:List A0),ss=[.fd,.sh (TR N t b many),.sh (DD gone)]/\okN N/\ED t b/\EG N gone/\gone≠[]/\1+3*gone.length<=n/\∀(o:Option (A0×List Int)) (n':Nat),(match o with | some (u,p)=>u∈gone/\II N p/\GB N t b gone u p=true | none=>∀u∈gone,IX N t b gone u)->n - (1+3*gone.length)<=n'->P (W0 o) n'
noncomputable def P8:Af:=(Ar (BI 7 (Ai D4 (AC (BF 0) (AC (AL (AD 1)) (AC (AL (AD 4)) (AC (AL (AD 6)) Al))))))
 (BZ (Ao (Ag (NG true) (AD 7) (wC D.non))) (Ay (CS (AK (wC (D.str "far")) (AK (AD 6) (AK (AD 7) Aj))))) A6))
noncomputable def Cf:Af:=(Ar (BI 3 (Ag FG (AD 1) (wC (D.str "net"))))
 (Ar (BI 4 (Ai OV (AC (AL (Ag BO (AD 3) (wC (D.int 0)))) (AC (AL (CU [some 2,none] (Bg (Ag BO (AD 3) (wC (D.int 1)))) (A9 1) (Ao (Ag (HL true) (AD 1) (AD 0))) (AD 1))) Al))))
 (Ar (BI 5 (Ai Bm (AC (BF 0) (AC (AL (DC C8 (AK (AD 2) Aj))) Al))))
 (Ar (JH (Bg (Ag A7 (VO PU (AD 2) (LR (AD 5)) Fl) (VO PU (AD 2) Fl (LR (AD 5))))) (A9 6) P8)
 (Ay (wC D.non))))))
theorem Lh{N:Net}(okn:okN N){t b:Int}(tm:ED t b){many:Nat}{gone:List A0}(hg:EG N gone){F:Str->Str->Option Int}(hF:Pl (Bw N gone) F){D2:E2}{k:Nat}{s2 s3 s5:Slot}(hs:∀u p n',u∈gone->II N p->GB N t b gone u p=true->k<=n'->D2.rt (Ca.fa u p).D n')(hn:∀n' s6 s7,(∀u∈gone,IX N t b gone u)->k<=n'->D2.nx n' [.fd,.sh (TR N t b many),s2,s3,.sh (K0 N.ps F),s5,s6,s7]) :
  ∀(rest:List A0) (m:Nat) (s6 s7:Slot),(∀u∈rest,u∈gone)->(∀u∈gone,u∈rest\/IX N t b gone u)->k+3*rest.length<=m->DL (A9 6) P8 D2 (rest.map Am) m [.fd,.sh (TR N t b many),s2,s3,.sh (K0 N.ps F),s5,s6,s7]
 | [],m,s6,s7,_,h2,h3=>hn m s6 s7 (λu hu=>(h2 u hu).elim (λz=>absurd z YG) id) h3
 | u::rest,m,s6,s7,h1,h2,h3=>by
  have hu:=h1 u Op
  rw [X5] at h3
  unfold P8
  refine⟨N,t,b,many,gone,F,u,rfl,okn,tm,hF,hg.1 u hu,by omega,λo n' ho hn'=>?_⟩
  cases o with
  | some p=>exact⟨rfl,z3,hs u p n' hu ho.1 ho.2 (by omega)⟩
  | none =>
   refine⟨rfl,Lh okn tm hg hF hs hn rest n' _ _ (λv hv=>h1 v (Sc _ hv)) (λv hv=>?_) (by omega)⟩
   rcases h2 v hv with z | z
   ·rcases X_.mp z with rfl | z
    ·exact .inr ho
    ·exact .inl z
   ·exact .inr z
theorem JO{ss:List Slot}{n:Nat}{Pd:D->Nat->Prop}(h:Ga ss n Pd):Cf (EE Pd) n (ss++Re 5 .no):=by
 obtain⟨N,t,b,many,gone,rfl,okn,tm,hg,hne,hn,q⟩:=h
 have ok:=okn.1
 have l25:=okn.2.1
 have l60:=okn.2.2
 have szl:=PySem.sizeLine_eq
 unfold Cf
 refine⟨_,_,_,_,rfl,rfl,KJ _ _ _,_,AO (j:=0) rfl,_,AO (j:=1) rfl,by show (N.ts.map Am).length<=10000000; rw [Db]; omega,?_⟩
 refine F5 (λd=>!((gone.map Am).any λy=>Ei y d)) id (λρ=>∃s,ρ=[.sh (DD gone),s]) _ _ _ _ ?_ ⟨_,rfl⟩ ?_
 ·rintro d hd ρ m nx sk ⟨s,rfl⟩ h1 h2
  obtain⟨x,hx,rfl⟩:=XV.mp hd
  refine⟨Br ok hx,C7 ok hg,_,rfl,?_⟩
  exact EH (λc=>h1 _ ⟨_,rfl⟩ c) λc=>h2 _ ⟨_,rfl⟩ (bP.mpr c)
 ·rw [YQ,b9]
  have e:(N.ts.map Am).filter (λd=>!((gone.map Am).any λy=>Ei y d))=(Bw N gone).ts.map Am:=by
   rw [List.filter_map]
   congr 1
   refine List.filter_congr λx _=>?_
   show (!((gone.map Am).any λy=>Ei y (Am x)))=decide (¬x∈gone)
   rw [B3,decide_not]
  rw [e]
  refine⟨Bw N gone,_,rfl,.inl rfl,HU ok gone,by show N.ps.length<=1000; omega,λF hF=>?_⟩
  have l0:0<gone.length:=List.length_pos_iff.mpr hne
  have l1:=hg.2
  refine⟨_,_,rfl,rfl,_,rfl,by rw [Db]; omega,by rw [Db]; omega,by omega,λa a0 a1=>?_⟩
  rw [Db] at a1
  obtain⟨j,rfl⟩:=bi a0
  have hj:j<gone.length:=by omega
  have hd:Dp.cutD gone (some (j:Int)) none=gone.drop j:=U4 gone hj
  have ht:Dp.cutD gone none (some (j:Int))=gone.take j:=by
   unfold Dp.cutD
   rw [HT.sIx_none,HT.sIx_nat,ai (by omega),aq,aY]
  refine⟨by rw [Cq,Cq,Db,Db,hd,ht,ZJ,ZI]; omega,?_⟩
  rw [Cq,Cq,hd,ht,← YU]
  have mem:∀u,u∈gone↔u∈gone.drop j++gone.take j:=λu=>by
   conv=>lhs; rw [← aT j gone]
   rw [YI,YI]
   exact Or.comm
  refine Lh okn tm hg hF (k:=n - (1+3*gone.length)) (λu p n' hu hp hf hk=>q (some (u,p)) n' ⟨hu,hp,hf⟩ hk) (λn' s6 s7 hn' hk=>q none n' hn' hk) _ _ _ _ (λu hu=>(mem u).mpr hu) (λu hu=>.inl ((mem u).mp hu)) (by rw [Rs,ZJ,ZI]; omega)
noncomputable def J4(l:Nat):Nat:=40*2 ^ (l+1) - 40
theorem MR(l:Nat):J4 (l+1)=2*J4 l+40:=by
 unfold J4
 have:=bq (l+1)
 rw [af]
 omega
noncomputable def D3(j:Nat):W2:=λss n P=>∃(N:Net) (t b:Int) (many:Nat) (kept gone left:List A0),ss=[.fd,.sh (TR N t b many),.sh (DD kept),.sh (DD gone),.sh (DD left)]/\okN N/\ED t b/\N.ts.length<=6/\(kept++gone++left).Perm N.ts/\left.length<=j/\J4 left.length<=n/\∀(c:Ca) (n':Nat),Made N t b many kept gone left c->HN N c->n - J4 left.length<=n'->P c.D n'
noncomputable def Hv(Wr:W2):Af:=(Ar (BZ (Ao (Ag Sw (AD 4) (CT Aj))) (Ay (CS (AK (wC (D.str "enough")) Aj))) A6)
 (Ar (BI 6 (Ai Bm (AC (BF 0) (AC (AL (DC C8 (AK (AD 4) Aj))) Al))))
 (Ar (BI 7 (Ag BO (AD 4) (AD 6)))
 (Ar (BI 8 (Ag A7 (VO PU (AD 4) Fl (LR (AD 6))) (VO PU (AD 4) (LR (Ag A7 (AD 6) (wC (D.int 1)))) Fl)))
 (Ar (BI 9 (Ai Wr (AC (BF 0) (AC (AL (AD 1)) (AC (AL (Ag A7 (AD 2) (CT (AK (AD 7) Aj)))) (AC (AL (AD 3)) (AC (AL (AD 8)) Al)))))))
 (Ay (CS (AK (wC (D.str "split")) (AK (AD 7) (AK (AD 9) (AK (Ai Wr (AC (BF 0) (AC (AL (AD 1)) (AC (AL (AD 2)) (AC (AL (Ag A7 (AD 3) (CT (AK (AD 7) Aj)))) (AC (AL (AD 8)) Al)))))) Aj)))))))))))
noncomputable def KP:Af:=(Ar (BZ (Ao (Ag (f2 λi j=>D.bl (decide (j<=i))) (DC C8 (AK (AD 2) Aj)) (Ag FG (AD 1) (wC (D.str "many"))))) (Ay (CS (AK (wC (D.str "enough")) Aj))) A6)
 (Ar (BI 5 (wC D.non))
 (Ar (BZ (Ao (Ag Ur (AD 3) (CT Aj))) (BI 5 (Ai Ga (AC (BF 0) (AC (AL (AD 1)) (AC (AL (AD 3)) Al))))) A6)
 (BZ (Ao (Ag (NG true) (AD 5) (wC D.non))) (Ay (AD 5)) A6))))
noncomputable def Eo(Wr:W2):Af:=(Ar (BZ (Df (Ao (Ag Sw (AD 4) (CT Aj))) (Ao (Ag (f2 λi j=>D.bl (decide (j<i))) (Ai Bm (AC (BF 0) (AC (AL (wC (D.int 8))) Al))) (wC (D.int 0))))) KP A6)
 (Hv Wr))
noncomputable def Er:Af:=(Ay (Ai (D3 7) (AC (BF 0) (AC (AL (P1 1 2 3 "net" "times" "many")) (AC (AL (CT Aj)) (AC (AL (CT Aj)) (AC (AL (DC K4 (AK (Ag BO (AD 1) (wC (D.int 1))) Aj))) Al)))))))
noncomputable def Hm:W2:=λss n P=>∃(N:Net) (t b:Int) (many:Nat),ss=[.fd,.sh (E5 N),.sh (Bl t b),.sh (.int (many:Int))]/\okN N/\ED t b/\N.ts.length<=6/\J4 6<=n/\∀(c:Ca) (n':Nat),Made N t b many [] [] N.ts c->HN N c->n - J4 6<=n'->P c.D n'
theorem Nf{N:Net}{kept gone left:List A0}(hp:(kept++gone++left).Perm N.ts)(h6:N.ts.length<=6):EG N kept/\EG N gone/\EG N left/\kept.length+gone.length+left.length<=6:=by
 have hl:=hp.length_eq
 rw [Rs,Rs] at hl
 exact⟨⟨λu hu=>hp.subset (Yc _ (Yc _ hu)),by omega⟩,⟨λu hu=>hp.subset (Yc _ (YC _ hu)),by omega⟩,⟨λu hu=>hp.subset (YC _ hu),by omega⟩,by omega⟩
theorem Ip(l:List D):Ei (.lst l) (.lst [])=l.isEmpty:=by
 cases l <;> rfl
theorem Gq:B5 (.lst []):=⟨rfl,rfl,by decide⟩
theorem Om{Wr:W2}{j:Nat}(hrec:∀ss n P,j≠0->D3 (j - 1) ss n P->Wr ss n P){Pd:D->Nat->Prop}{N:Net}{t b:Int}{many:Nat}{kept gone left:List A0}(okn:okN N)(tm:ED t b)(h6:N.ts.length<=6)(hp:(kept++gone++left).Perm N.ts)(hj:left.length<=j){m:Nat}(hm:J4 left.length<=m+30)(hl0:left=[]->∀u∈gone,IX N t b gone u)
  (q:∀(c:Ca) (n':Nat),Made N t b many kept gone left c->HN N c->m+30 - J4 left.length<=n'->Pd c.D n') (s5:Slot):Hv Wr (EE Pd) m [.fd,.sh (TR N t b many),.sh (DD kept),.sh (DD gone),.sh (DD left),s5,.no,.no,.no,.no]:=by
 have ok:=okn.1
 have szl:=PySem.sizeLine_eq
 obtain⟨sk,sg,sl,l6⟩:=Nf hp h6
 unfold Hv
 refine⟨z0,C7 ok sl,Gq,?_⟩
 cases left with
 | nil =>
  refine⟨z1,q .en m (.no (hl0 rfl)) trivial ?_⟩
  show m+30 - J4 0<=m
  rw [show J4 0=40 from rfl]
  omega
 | cons v r =>
  obtain⟨left,hleft⟩:∃left,v::r=left:=⟨_,rfl⟩
  have hlen:left.length=r.length+1:=by rw [← hleft]; rfl
  rw [hleft] at hp hj hm q sl l6
  rw [Ip]
  rw [show ((v::r).map Am).isEmpty=false from rfl,hleft]
  have bs:J4 left.length=2*J4 r.length+40:=by rw [hlen]; exact MR _
  rw [bs] at hm q
  refine Be ⟨_,_,rfl,rfl,_,rfl,by rw [Db]; omega,by rw [Db]; omega,by omega,λa a0 a1=>?_⟩
  rw [Db] at a1
  obtain⟨i,rfl⟩:=bi a0
  have hi:i<left.length:=by omega
  have hu:left[i]∈left:=ZL hi
  have e1:(left.map Am)[i]?=some (Am left[i]):=by rw [On,FM hi]; rfl
  generalize hux:left[i]=u at hu e1
  refine⟨_,AO e1,?_⟩
  have ht:Dp.cutD left none (some (i:Int))=left.take i:=by
   unfold Dp.cutD
   rw [HT.sIx_none,HT.sIx_nat,ai (by omega),aq,aY]
  have hd:Dp.cutD left (some ((i:Int)+1)) none=left.drop (i+1):=by
   unfold Dp.cutD
   rw [show (i:Int)+1=((i+1:Nat):Int) by omega,HT.sIx_none,HT.sIx_nat,ai (by omega)]
   exact Zs (by rw [ZJ]; exact No _)
  refine⟨by rw [Cq,Cq,Db,Db,ht,hd,ZI,ZJ]; omega,?_⟩
  rw [Cq,Cq,ht,hd,← YU]
  have hperm:left.Perm (u::(left.take i++left.drop (i+1))):=by
   have:left=left.take i++u::left.drop (i+1):=by
    conv=>lhs; rw [← aT i left,ZB hi,hux]
   conv=>lhs; rw [this]
   exact bd
  generalize left.take i++left.drop (i+1)=rest at hperm
  have hrl:rest.length=r.length:=by have:=hperm.length_eq; rw [X5] at this; omega
  have huN:u∈N.ts:=hp.subset (YC _ hu)
  have p1:(kept++[u]++gone++rest).Perm N.ts:=by
   refine ZG ?_ hp
   refine ZG ?_ (ZA _ hperm.symm)
   simp only [Ym,Zy]
   exact ZA _ (bd.symm)
  have p2:(kept++(gone++[u])++rest).Perm N.ts:=by
   refine ZG ?_ hp
   refine ZG ?_ (ZA _ hperm.symm)
   simp only [Ym,Zy]
   exact aw _
  have ek:kept.map Am++[Am u]=(kept++[u]).map Am:=by rw [YU]; rfl
  have eg:gone.map Am++[Am u]=(gone++[u]).map Am:=by rw [YU]; rfl
  refine⟨z1,by show (kept.map Am).length+1<=_; rw [Db]; omega,?_⟩
  rw [ek]
  refine hrec _ _ _ (by omega) ⟨N,t,b,many,kept++[u],gone,rest,rfl,okn,tm,h6,p1,by omega,by rw [hrl]; omega,λc1 n1 mc1 oc1 hn1=>?_⟩
  refine⟨z1,by show (gone.map Am).length+1<=_; rw [Db]; omega,?_⟩
  rw [eg]
  rw [hrl] at hn1
  refine hrec _ _ _ (by omega) ⟨N,t,b,many,kept,gone++[u],rest,rfl,okn,tm,h6,p2,by omega,by rw [hrl]; omega,λc2 n2 mc2 oc2 hn2=>?_⟩
  rw [hrl] at hn2
  exact⟨(by decide:4<=sizeLine),q (.sp u c1 c2) n2 (.sp hperm mc1 mc2) ⟨huN,oc1,oc2⟩ (by omega)⟩
theorem Jm{Wr:W2}{j:Nat}{ss:List Slot}{n:Nat}{Pd:D->Nat->Prop}(hrec:∀ss n P,j≠0->D3 (j - 1) ss n P->Wr ss n P)(h:D3 j ss n Pd):Eo Wr (EE Pd) n (ss++Re 5 .no):=by
 obtain⟨N,t,b,many,kept,gone,left,rfl,okn,tm,h6,hp,hj,hn,q⟩:=h
 have ok:=okn.1
 obtain⟨sk,sg,sl,l6⟩:=Nf hp h6
 have b40:40<=J4 left.length:=by
  cases left.length with
  | zero=>exact No _
  | succ k=>rw [MR]; omega
 have fin:∀(m:Nat),n - 21<=m->(left=[]->∀u∈gone,IX N t b gone u)->∀s5,Hv Wr (EE Pd) m [.fd,.sh (TR N t b many),.sh (DD kept),.sh (DD gone),.sh (DD left),s5,.no,.no,.no,.no]:=λm h1 h3 s5=>Om hrec okn tm h6 hp hj (by omega) h3 (λc n' mc oc hn'=>q c n' mc oc (by omega)) s5
 have first:∀m,n - 1<=m->KP { EE Pd with nx:=Hv Wr (EE Pd) } m [.fd,.sh (TR N t b many),.sh (DD kept),.sh (DD gone),.sh (DD left),.no,.no,.no,.no,.no]:=λm hm=>by
  unfold KP
  refine⟨_,_,rfl,rfl,_,_,_,_,rfl,rfl,NX _ _ _,?_⟩
  show if decide ((many:Int)<=(((kept.map Am).length:Nat):Int))=true then _ else _
  by_cases c:many<=kept.length
  ·rw [decide_eq_true (by rw [Db]; omega)]
   exact Dx ⟨z1,q .en m (.en c) trivial (by omega)⟩
  ·rw [decide_eq_false (by rw [Db]; omega)]
   refine Be ⟨z0,C7 ok sg,Gq,?_⟩
   rw [Ip]
   by_cases hg:gone=[]
   ·rw [show (gone.map Am).isEmpty=true by rw [hg]; rfl]
    exact⟨rfl,fin m (by omega) (λ_ u hu=>by rw [hg] at hu; cases hu) _⟩
   ·rw [show (gone.map Am).isEmpty=false by
     cases gone with
     | nil=>exact absurd rfl hg
     | cons _ _=>rfl]
    refine⟨N,t,b,many,gone,rfl,okn,tm,sg,hg,by omega,λo n' ho hn'=>?_⟩
    cases o with
    | some w =>
     obtain⟨u,p⟩:=w
     exact⟨rfl,q (.fa u p) n' (.fa ho.1 ho.2.2) ⟨sg.1 u ho.1,ho.2.1⟩ (by omega)⟩
    | none=>exact⟨rfl,fin n' (by omega) (λ_=>ho) _⟩
 unfold Eo
 refine⟨z0,C7 ok sl,Gq,?_⟩
 rw [Ip]
 cases hl:(left.map Am).isEmpty with
 | true=>exact first n (by omega)
 | false =>
  refine Be ⟨8,rfl,by decide,by decide,by omega,λr r0 r1=>?_⟩
  show if decide ((0:Int)<r)=true then _ else _
  refine EH (λc=>first (n - 1) (No _)) λc=>fin (n - 1) (by omega) (λe=>by rw [e] at hl; cases hl) _
theorem Oq{ss:List Slot}{n:Nat}{Pd:D->Nat->Prop}(h:Hm ss n Pd):Er (EE Pd) n (ss++Re 0 .no):=by
 obtain⟨N,t,b,many,rfl,okn,tm,h6,hn,q⟩:=h
 have mono:J4 N.ts.length<=J4 6:=by
  unfold J4
  have:=Z2 (show 0<2 by decide) (show N.ts.length+1<=7 by omega)
  omega
 unfold Er
 refine⟨_,_,_,rfl,rfl,rfl,z0,z0,_,AO (j:=1) rfl,N,t,b,many,[],[],N.ts,rfl,okn,tm,h6,aw _,by omega,by omega,λc n' mc oc hn'=>q c n' mc oc (by omega)⟩
noncomputable def GU:W2:=λss n P=>ss=[.fd]/\1<=n/\∀t b:Int,1<=b->b<=t->t<=1000000->P (Bl t b) (n - 1)
noncomputable def GZ:W2:=λss n P=>∃(N:Net) (t b:Int) (S:List A0),ss=[.sh (E5 N),.sh (Bl t b),.sh (DD S)]/\okN N/\ED t b/\S.Sublist N.ts/\∀r:Bool,(r=true↔Rj N t b S)->P (.bl r) n
noncomputable def D9:Af:=(Ar (BI 1 (CT (AK (CS (AK (wC (D.int 1)) (AK (wC (D.int 1)) Aj))) (AK (CS (AK (wC (D.int 3)) (AK (wC (D.int 2)) Aj))) (AK (CS (AK (wC (D.int 2)) (AK (wC (D.int 1)) Aj))) (AK (CS (AK (wC (D.int 3)) (AK (wC (D.int 1)) Aj))) (AK (CS (AK (wC (D.int 5)) (AK (wC (D.int 2)) Aj))) (AK (CS (AK (wC (D.int 1000)) (AK (wC (D.int 999)) Aj))) (AK (CS (AK (Ag (Tr Ro λi j=>D.int (i ^ j.toNat)) (wC (D.int 10)) (wC (D.int 6))) (AK (wC (D.int 1)) Aj))) (AK (CS (AK (wC (D.int 2)) (AK (wC (D.int 2)) Aj))) Aj))))))))))
 (Ay (Ag BO (AD 1) (Ai Bm (AC (BF 0) (AC (AL (wC (D.int 8))) Al))))))
noncomputable def EB:Af:=(Ar (BI 3 (Ai OV (AC (AL (Ag BO (AD 0) (wC (D.int 0)))) (AC (AL (AD 2)) Al))))
 (Ar (JH (Bg (Ag BO (AD 0) (wC (D.int 1)))) (RO 3 (By (A9 4) (By (A9 5) (By (A9 6) MS)))) (Ar (BI 7 (Ag BO (Ag BO (AD 3) (MY (Ag BO (AD 0) (wC (D.int 0))) (AK (AD 4) Aj))) (MY (Ag BO (AD 0) (wC (D.int 0))) (AK (AD 5) Aj))))
 (BZ (Df (Ao (Ag (NG false) (AD 7) (wC D.non))) (Ao (Ag (f2 λi j=>D.bl (decide (j<i))) (Ag DN (AD 7) (Ag BO (AD 1) (wC (D.int 1)))) (Ag DN (AD 6) (Ag BO (AD 1) (wC (D.int 0))))))) (Ay (wC (D.bl false))) A6)))
 (Ay (wC (D.bl true)))))
theorem Mp{ss:List Slot}{n:Nat}{Pd:D->Nat->Prop}(h:GU ss n Pd):D9 (EE Pd) n (ss++Re 1 .no):=by
 obtain⟨rfl,hn,q⟩:=h
 unfold D9
 refine⟨z2,z2,z2,z2,z2,z2,⟨by decide,by decide,by decide⟩,z2,z2,(by decide:8<=sizeLine),?_⟩
 refine⟨8,rfl,by decide,by decide,hn,λr r0 r1=>?_⟩
 rcases (by omega:r=0\/r=1\/r=2\/r=3\/r=4\/r=5\/r=6\/r=7) with rfl | rfl | rfl | rfl | rfl | rfl | rfl | rfl
 all_goals exact⟨_,rfl,q _ _ (by decide) (by decide) (by decide)⟩
theorem Mt{ss:List Slot}{n:Nat}{Pd:D->Nat->Prop}(h:GZ ss n Pd):EB (EE Pd) n (ss++Re 5 .no):=by
 obtain⟨N,t,b,S,rfl,okn,⟨b1,b2,t1,t2⟩,hs,p⟩:=h
 have ok:=okn.1
 have lp:=okn.2.1
 have ok1:=Ry ok hs
 unfold EB
 refine⟨_,AO (j:=0) rfl,⟨N.ps,S⟩,_,rfl,.inl rfl,ok1,by show N.ps.length<=1000; omega,λF hF=>?_⟩
 refine⟨_,AO (j:=1) rfl,?_⟩
 refine CN (all:=N.ts.map Am) (λpre m ρ=>m=n/\(∀(i:Nat) u,i<pre.length->N.ts[i]?=some u->∃d,Wk ⟨N.ps,S⟩ u.a u.b d/\d*b<=u.len*t)/\∃s4 s5 s6 s7,ρ=[.sh (E5 N),.sh (Bl t b),.sh (DD S),.sh (K0 N.ps F),s4,s5,s6,s7]) ?_ ?_ _ [] _ _ rfl ⟨rfl,λi u hi=>absurd hi (Nat.not_lt_zero _),_,_,_,_,rfl⟩
 ·rintro m ρ ⟨rfl,hall,s4,s5,s6,s7,rfl⟩
  refine p true ⟨λ_ u hu=>?_,λ_=>rfl⟩
  obtain⟨i,hi⟩:=Y_.mp hu
  exact hall i u (by rw [Db]; exact(X4.mp hi).1) hi
 ·rintro pre d post m ρ nx hall ⟨rfl,hpre,s4,s5,s6,s7,rfl⟩ hnx
  obtain⟨u,hu,rfl⟩:=U9 hall
  rw [Rs,X9] at hnx
  have hum:=YW hu
  obtain⟨ha,hb,_⟩:=ok.tin u hum
  obtain⟨ia,ea,la⟩:=Ih ha
  obtain⟨ib,eb,lb⟩:=Ih hb
  obtain⟨a1,a2,a3,a4⟩:=HW ok ea
  obtain⟨b1',b2',b3',b4'⟩:=HW ok eb
  refine⟨rfl,rfl,_,AO (j:=0) rfl,⟨_,rfl⟩,_,_,ia,rfl,rfl,a1,a2,a3,a4,_,N0 ea,_,AO (j:=0) rfl,⟨_,rfl⟩,_,_,ib,rfl,rfl,b1',b2',b3',b4',_,Ua eb,?_⟩
  have fin:=fun(h:∃d,Wk ⟨N.ps,S⟩ u.a u.b d/\d*b<=u.len*t)=>hnx m [.sh (E5 N),.sh (Bl t b),.sh (DD S),.sh (K0 N.ps F),.sh (.str u.a),.sh (.str u.b),.sh (.int u.len),.sh (od (F u.a u.b))] ⟨rfl,λi v hi hv=>by
   rcases (show i<pre.length\/i=pre.length by omega) with z | z
   ·exact hpre i v z hv
   ·rw [z,hu] at hv
    cases hv
    exact h,_,_,_,_,rfl⟩
  cases e:F u.a u.b with
  | none =>
   refine⟨rfl,?_⟩
   refine p false ⟨(λz=>by cases z),λk=>?_⟩
   obtain⟨d,w,_⟩:=k u hum
   exact absurd e ((hF u.a ha u.b hb).2 d w)
  | some d =>
   rw [e] at fin
   have lst:=(hF u.a ha u.b hb).1 d e
   refine⟨rfl,?_⟩
   refine⟨_,AO (j:=1) rfl,NL b1 b2,_,AO (j:=0) rfl,NL t1 t2,?_⟩
   show if decide (u.len*t<d*b)=true then _ else _
   by_cases c:u.len*t<d*b
   ·rw [decide_eq_true c]
    refine Dx (p false ⟨(λz=>by cases z),λk=>?_⟩)
    obtain⟨d',w,hd'⟩:=k u hum
    have:=Zq (lst.2 d' w) (show 0<=b by omega)
    omega
   ·rw [decide_eq_false c]
    exact Be (fin ⟨d,lst.1,by omega⟩)
noncomputable def Fe(r:List Nat):Nat:=match r.getLast? with
 | none=>0
 | some l=>l+1
noncomputable def DP(n:Nat)(r:List Nat):List (List Nat):=(YN (n - Fe r)).map λi=>r++[Fe r+i]
noncomputable def rows(n:Nat):Nat->List (List Nat)
 | 0=>[[]]
 | k+1=>(rows n k).flatMap (DP n)
theorem Ub{r:List Nat}(h:r.Pairwise (·<·)):∀x∈r,x<Fe r:=λx hx=>by
 unfold Fe
 cases e:r.getLast? with
 | none=>rw [bT.mp e] at hx; cases hx
 | some l =>
  obtain⟨ys,rfl⟩:=bU.mp e
  show x<l+1
  rcases YI.mp hx with z | z
  ·have:=(Z1.mp h).2.2 x z l Op
   omega
  ·rw [X7.mp z]; omega
theorem DK{n:Nat}:∀(k:Nat) (r:List Nat),r∈rows n k↔r.length=k/\r.Pairwise (·<·)/\∀i∈r,i<n
 | 0,r=>by
  constructor
  ·intro h
   rw [X7.mp h]
   exact⟨rfl,Zu,λi hi=>by cases hi⟩
  ·rintro ⟨h,_⟩
   rw [aG.mp h]
   exact Op
 | k+1,r=>by
  unfold rows
  rw [Zf]
  constructor
  ·rintro ⟨r',h',hr⟩
   obtain⟨h1,h2,h3⟩:=(DK k r').mp h'
   obtain⟨i,hi,rfl⟩:=XV.mp hr
   have hi:=Yt.mp hi
   refine⟨by rw [Rs,h1]; rfl,Z1.mpr ⟨h2,bg _ _,λx hx y hy=>?_⟩,λx hx=>?_⟩
   ·rw [X7.mp hy]
    have:=Ub h2 x hx
    omega
   ·rcases YI.mp hx with z | z
    ·exact h3 x z
    ·rw [X7.mp z]; omega
  ·rintro ⟨h1,h2,h3⟩
   have hne:r≠[]:=λz=>by rw [z] at h1; cases h1
   obtain⟨r',l,rfl⟩:∃r' l,r=r'++[l]:=⟨r.dropLast,r.getLast hne,(List.dropLast_concat_getLast hne).symm⟩
   rw [Rs,X9] at h1
   obtain⟨p1,_,p3⟩:=Z1.mp h2
   have hl:=h3 l (YC _ Op)
   refine⟨r',(DK k r').mpr ⟨by omega,p1,λi hi=>h3 i (Yc _ hi)⟩,?_⟩
   have hb:Fe r'<=l:=by
    unfold Fe
    cases e:r'.getLast? with
    | none=>exact YB _
    | some x =>
     show x+1<=l
     exact p3 x (List.mem_of_getLast? e) l Op
   refine XV.mpr ⟨l - Fe r',Yt.mpr (by omega),?_⟩
   rw [show Fe r'+(l - Fe r')=l by omega]
theorem IA{n:Nat}(h6:n<=6):∀k,(rows n k).length<=6 ^ k
 | 0=>No _
 | k+1=>by
  have ih:=IA h6 k
  unfold rows
  have:∀l:List (List Nat),(l.flatMap (DP n)).length<=l.length*6:=λl=>by
   induction l with
   | nil=>exact No _
   | cons a l il =>
    rw [List.flatMap_cons,Rs,X5]
    have:(DP n a).length<=6:=by unfold DP; rw [Db,Yo]; omega
    omega
  have:=this (rows n k)
  rw [af]
  omega
noncomputable def dT:A0:=⟨"","",0⟩
noncomputable def pick(ts:List A0)(o:Nat)(r:List Nat):List A0:=r.map λi=>ts.getD (i - o) dT
theorem HR{a:A0}{ts:List A0}{o:Nat}{r:List Nat}(h:∀i∈r,o+1<=i):pick (a::ts) o r=pick ts (o+1) r:=by
 unfold pick
 refine Yf λi hi=>?_
 have:=h i hi
 rw [show i - o=(i - (o+1))+1 by omega]
 rfl
theorem IL:∀(ts:List A0) (o:Nat) (r:List Nat),r.Pairwise (·<·)->(∀i∈r,o<=i/\i<o+ts.length)->(pick ts o r).Sublist ts
 | [],o,r,_,h=>by
  cases r with
  | nil=>exact cS _
  | cons i r=>have:=h i Op; simp only [Yr] at this; omega
 | a::ts,o,r,hp,h=>by
  cases r with
  | nil=>exact List.nil_sublist _
  | cons i r =>
   obtain⟨h1,h2⟩:=Yi.mp hp
   have hi:=h i Op
   rw [X5] at h
   by_cases e:i=o
   ·have hr:∀x∈r,o+1<=x:=λx hx=>by have:=h1 x hx; omega
    have ih:=IL ts (o+1) r h2 λx hx=>⟨hr x hx,by have:=(h x (Sc _ hx)).2; omega⟩
    have e2:pick (a::ts) o (i::r)=a::pick (a::ts) o r:=by
     unfold pick
     rw [X6,e,ac]
     rfl
    rw [e2,HR hr]
    exact ih.cons_cons a
   ·have hr:∀x∈i::r,o+1<=x:=λx hx=>by
     rcases X_.mp hx with rfl | z
     ·omega
     ·have:=h1 x z; omega
    rw [HR hr]
    exact(IL ts (o+1) (i::r) hp λx hx=>⟨hr x hx,by have:=(h x hx).2; omega⟩).cons a
theorem QE:∀{ts S:List A0},S.Sublist ts->∀o:Nat,∃r:List Nat,r.Pairwise (·<·)/\(∀i∈r,o<=i/\i<o+ts.length)/\S=pick ts o r:=by
 intro ts S h
 induction h with
 | slnil=>exact λo=>⟨[],Zu,(λi hi=>by cases hi),rfl⟩
 | cons a _ ih =>
  intro o
  obtain⟨r,h1,h2,h3⟩:=ih (o+1)
  refine⟨r,h1,λi hi=>?_,?_⟩
  ·have:=h2 i hi
   rw [X5]
   omega
  ·rw [HR λi hi=>(h2 i hi).1]
   exact h3
 | cons_cons a _ ih =>
  intro o
  obtain⟨r,h1,h2,h3⟩:=ih (o+1)
  refine⟨o::r,Yi.mpr ⟨λi hi=>by have:=(h2 i hi).1; omega,h1⟩,λi hi=>?_,?_⟩
  ·rw [X5]
   rcases X_.mp hi with rfl | z
   ·omega
   ·have:=h2 i z; omega
  ·rw [h3,← HR (a:=a) λi hi=>(h2 i hi).1]
   unfold pick
   rw [X6,ac]
   rfl
theorem rows_all{ts:List A0}{k:Nat}{S:List A0}:S∈(rows ts.length k).map (pick ts 0)↔S.Sublist ts/\S.length=k:=by
 rw [XV]
 constructor
 ·rintro ⟨r,hr,rfl⟩
  obtain⟨h1,h2,h3⟩:=(DK k r).mp hr
  refine⟨IL ts 0 r h2 λi hi=>⟨YB _,by have:=h3 i hi; omega⟩,?_⟩
  unfold pick
  rw [Db]
  exact h1
 ·rintro ⟨hs,hl⟩
  obtain⟨r,h1,h2,rfl⟩:=QE hs 0
  refine⟨r,(DK k r).mpr ⟨by unfold pick at hl; rw [Db] at hl; exact hl,h1,λi hi=>by have:=(h2 i hi).2; omega⟩,rfl⟩
noncomputable def C3(r:List Nat):D:=.tup (r.map fun(i:Nat)=>.int (i:Int))
noncomputable def D5:W2:=λss n P=>∃(ts:List A0) (k:Nat),ss=[.sh (DD ts),.sh (.int (k:Int))]/\ts.length<=6/\k<=6/\P (.lst ((rows ts.length k).map λr=>DD (pick ts 0 r))) n
noncomputable def HV:Af:=(Ar (BI 6 (VT (Ao (Ag Ur (AD 5) (CS Aj))) (Ag A7 (Ag BO (AD 5) (VS (wC (D.int 1)))) (wC (D.int 1))) (wC (D.int 0))))
 (Wp 4 "list" Ut (AK (CU [some 5,none] (Pz (AK (AD 6) (AK (DC C8 (AK (AD 0) Aj)) Aj))) (A9 1) FR (Ag A7 (AD 0) (CS (AK (AD 1) Aj)))) Aj)))
noncomputable def Nz:Af:=(Ar (Px 4 (CT Aj))
 (Ar (JH (Bg (AD 2)) (A9 5) HV)
 (VU 4 (BI 2 (AD 4)))))
noncomputable def Cs:Af:=(Ar (BI 2 (CT (AK (CS Aj) Aj)))
 (Ar (JH (Jd (AK (AD 1) Aj)) (A9 3) Nz)
 (Ay (CU [some 0,none] (Bg (AD 2)) (A9 1) FR (CU [some 0,none] (Bg (AD 1)) (A9 1) FR (Ag BO (AD 0) (AD 1)))))))
theorem Sd{r:List Nat}(h:∀i∈r,i<6):B5 (C3 r):=by
 have hf:∀d∈r.map (fun(i:Nat)=>D.int (i:Int)),GA 6 d/\MW d=0:=λd hd=>by
  obtain⟨i,hi,rfl⟩:=XV.mp hd
  exact⟨by show Int.natAbs _<=6; have:=h i hi; omega,rfl⟩
 refine Gp (B:=6) (by decide) (DM λd hd=>(hf d hd).1) ?_
 have:JY (r.map fun(i:Nat)=>D.int (i:Int))<=0:=dps_le.mpr λd hd=>bX (hf d hd).2
 show JY _+1<=100
 omega
noncomputable def XB(r:List Nat):D->D
 | .int i=>C3 (r++[i.toNat])
 | _=>.non
theorem Mu{D2:E2}{n:Nat}{ts:List A0}{r:List Nat}{acc:List (List Nat)}{s1 s2 s3 s6:Slot}(h6:ts.length<=6)(hr:∀i∈r,i<ts.length)(hl:r.length<=10)(ha:acc.length<=1000000)(h:∀s6,D2.nx n [.sh (DD ts),s1,s2,s3,.ow (.lst ((acc++DP ts.length r).map C3)),.sh (C3 r),s6]):HV D2 n [.sh (DD ts),s1,s2,s3,.ow (.lst (acc.map C3)),.sh (C3 r),s6]:=by
 have szl:=PySem.sizeLine_eq
 have hb:Fe r<=ts.length:=by
  unfold Fe
  cases e:r.getLast? with
  | none=>exact YB _
  | some l=>have:=hr l (List.mem_of_getLast? e); exact this
 have rest:(Wp 4 "list" Ut (AK (CU [some 5,none] (Pz (AK (AD 6) (AK (DC C8 (AK (AD 0) Aj)) Aj))) (A9 1) FR (Ag A7 (AD 0) (CS (AK (AD 1) Aj)))) Aj)) D2 n [.sh (DD ts),s1,s2,s3,.ow (.lst (acc.map C3)),.sh (C3 r),.sh (.int ((Fe r:Nat):Int))]:=by
  refine⟨_,rfl,rfl,_,_,rfl,rfl,_,_,rfl,⟨by omega,by omega,by omega,by rw [Db]; omega⟩,by rw [DH,Db]; omega,?_⟩
  refine Bc (XB r) (λρ=>∃s,ρ=[.sh (C3 r),s]) _ _ _ _ ?_ ⟨_,rfl⟩ ?_
  ·rintro d hd ρ n' nx ⟨s,rfl⟩ hnx
   obtain⟨k,hk,rfl⟩:=Lg hd
   have e:XB r (.int ((Fe r:Int)+(k:Int)))=.tup (r.map (fun(i:Nat)=>D.int (i:Int))++[.int ((Fe r:Int)+(k:Int))]):=by
    show C3 (r++[((Fe r:Int)+(k:Int)).toNat])=_
    unfold C3
    rw [YU,show ((Fe r:Int)+(k:Int)).toNat=Fe r+k by omega]
    show D.tup (_++[D.int ((Fe r+k:Nat):Int)])=_
    rw [show ((Fe r+k:Nat):Int)=(Fe r:Int)+(k:Int) by omega]
   have z:=hnx [.sh (C3 r),.sh (.int ((Fe r:Int)+(k:Int)))] ⟨_,rfl⟩
   rw [e] at z
   exact⟨z1,by rw [Db]; show _+1<=_; omega,z⟩
  ·have e:(DJ (Fe r:Int) (((ts.map Am).length:Int) - (Fe r:Int)).toNat).map (XB r)=(DP ts.length r).map C3:=by
    unfold DJ DP
    rw [Ys,Ys,Db,show ((ts.length:Int) - (Fe r:Int)).toNat=ts.length - Fe r by omega]
    refine Yf λk _=>?_
    show C3 (r++[((Fe r:Int)+(k:Int)).toNat])=_
    rw [show ((Fe r:Int)+(k:Int)).toNat=Fe r+k by omega]
    rfl
   rw [YQ,e]
   refine⟨_,_,rfl,rfl,?_,?_⟩
   ·have:(DP ts.length r).length<=6:=by unfold DP; rw [Db,Yo]; omega
    rw [Db,Db]; omega
   ·have z:=h (.sh (.int ((Fe r:Nat):Int)))
    rw [YU] at z
    exact z
 unfold HV
 refine⟨z0,Sd λi hi=>by have:=hr i hi; omega,⟨rfl,rfl,by decide⟩,?_⟩
 cases e:r.getLast? with
 | none =>
  have:r=[]:=bT.mp e
  subst this
  exact rest
 | some l =>
  have hbl:Fe r=l+1:=by unfold Fe; rw [e]
  obtain⟨ys,rfl⟩:=bU.mp e
  have en:Ei (C3 (ys++[l])) (.tup [])=false:=by
   cases ys <;> rfl
  rw [en]
  refine⟨1,rfl,.int (l:Int),?_,?_⟩
  ·rw [YU]
   exact RP _ _
  ·rw [hbl] at rest
   exact rest
theorem Nh{D2:E2}{n:Nat}{ts:List A0}{s1 s2 s3:Slot}(h6:ts.length<=6):∀(rest acc:List (List Nat)) (s5 s6:Slot),(∀r∈rest,(∀i∈r,i<ts.length)/\r.length<=10)->acc.length+6*rest.length<=1000000->(∀s5 s6,D2.nx n [.sh (DD ts),s1,s2,s3,.ow (.lst ((acc++rest.flatMap (DP ts.length)).map C3)),s5,s6]) ->
  DL (A9 5) HV D2 (rest.map C3) n [.sh (DD ts),s1,s2,s3,.ow (.lst (acc.map C3)),s5,s6]
 | [],acc,s5,s6,_,_,h=>by
  have z:=h s5 s6
  rw [List.flatMap_nil,Yv] at z
  exact z
 | r::rest,acc,s5,s6,h1,h2,h=>by
  rw [X5] at h2
  have le:(DP ts.length r).length<=6:=by unfold DP; rw [Db,Yo]; omega
  obtain⟨r1,r2⟩:=h1 r Op
  refine Mu h6 r1 r2 (by omega) λs6'=>?_
  refine Nh h6 rest (acc++DP ts.length r) _ _ (λx hx=>h1 x (Sc _ hx)) (by rw [Rs]; omega) λs5 s6=>?_
  have z:=h s5 s6
  rw [List.flatMap_cons,← Ym] at z
  exact z
noncomputable def RQ(ts:List A0):D->D
 | .int i=>Am (ts.getD i.toNat dT)
 | _=>.non
noncomputable def XJ(ts:List A0):D->D
 | .tup xs=>.lst (xs.map (RQ ts))
 | _=>.non
theorem U6(ts:List A0)(r:List Nat):XJ ts (C3 r)=DD (pick ts 0 r):=by
 show D.lst ((r.map fun(i:Nat)=>D.int (i:Int)).map (RQ ts))=.lst ((r.map λi=>ts.getD (i - 0) dT).map Am)
 rw [Ys,Ys]
 rfl
theorem Kj{ss:List Slot}{n:Nat}{Pd:D->Nat->Prop}(h:D5 ss n Pd):Cs (EF Pd) n (ss++Re 5 .no):=by
 obtain⟨ts,k,rfl,h6,hk,q⟩:=h
 have szl:=PySem.sizeLine_eq
 have len:∀j,j<=6->(rows ts.length j).length<=46656:=λj hj=>YH (IA h6 j) (YH (Z2 (by decide) hj) (by decide))
 unfold Cs
 refine⟨z0,z1,_,rfl,⟨by omega,by omega⟩,?_⟩
 rw [Yg]
 refine CN (all:=DJ 0 k) (λpre m ρ=>m=n/\pre.length<=k/\∃s3 s4 s5 s6,ρ=[.sh (DD ts),.sh (.int (k:Int)),.sh (.lst ((rows ts.length pre.length).map C3)),s3,s4,s5,s6]) ?_ ?_ _ [] _ _ rfl ⟨rfl,YB _,_,_,_,_,rfl⟩
 ·rintro m ρ ⟨rfl,_,s3,s4,s5,s6,rfl⟩
  rw [DH]
  refine⟨by rw [Db]; have:=len k hk; omega,?_⟩
  refine Bc (XJ ts) (λρ=>∃s,ρ=[.sh (DD ts),s]) _ _ _ _ ?_ ⟨_,rfl⟩ ?_
  ·rintro d hd ρ n' nx ⟨s,rfl⟩ hnx
   obtain⟨r,hr,rfl⟩:=XV.mp hd
   obtain⟨g1,g2,g3⟩:=(DK k r).mp hr
   refine⟨by show (r.map fun(i:Nat)=>D.int (i:Int)).length<=10000000; rw [Db]; omega,?_⟩
   refine Bc (RQ ts) (λρ=>∃s,ρ=[.sh (DD ts),s]) _ _ _ _ ?_ ⟨_,rfl⟩ ?_
   ·rintro d hd ρ n'' nx' ⟨s,rfl⟩ hnx'
    obtain⟨i,hi,rfl⟩:=XV.mp hd
    have hlt:=g3 i hi
    have z:=hnx' [.sh (DD ts),.sh (.int (i:Int))] ⟨_,rfl⟩
    refine⟨Am (ts.getD i dT),AO ?_,z⟩
    rw [On,X8,FM hlt]
    rfl
   ·rw [YQ]
    exact hnx _ ⟨_,rfl⟩
  ·rw [YQ,Ys]
   have e:(rows ts.length k).map (XJ ts∘C3)=(rows ts.length k).map λr=>DD (pick ts 0 r):=Yf λr _=>U6 ts r
   rw [e]
   exact q
 ·rintro pre d post m ρ nx hall ⟨rfl,hp,s3,s4,s5,s6,rfl⟩ hnx
  obtain⟨_,hlt⟩:=HQ hall
  have lj:=len pre.length (by omega)
  unfold Nz
  refine⟨z0,?_⟩
  refine Nh h6 (rows ts.length pre.length) [] _ _ (λr hr=>?_) (by show 0+_<=_; omega) λs5 s6=>?_
  ·obtain⟨g1,_,g3⟩:=(DK pre.length r).mp hr
   exact⟨g3,by omega⟩
  ·rw [YQ]
   refine⟨_,rfl,?_⟩
   exact hnx _ _ ⟨rfl,by rw [Rs,X9]; omega,_,_,_,_,by rw [Rs,X9]; rfl⟩
noncomputable def Xh(N:Net)(t b:Int)(L:Nat):Prop:=(∃S:List A0,S.Sublist N.ts/\Rj N t b S/\S.length=L)/\∀S:List A0,S.Sublist N.ts->Rj N t b S->L<=S.length
noncomputable def GY:W2:=λss n P=>∃(N:Net) (t b:Int),ss=[.sh (E5 N),.sh (Bl t b)]/\okN N/\ED t b/\b<=t/\N.ts.length<=6/\∀L:Nat,Xh N t b L->L<=6->P (.int (L:Int)) n
noncomputable def EA:Af:=(Ar (BI 2 (wC (D.int 0)))
 (Ar (Pu (Ao (Ag (HL true) (wC (D.bl true)) (CU [some 0,some 1,none] (Bg (Ai D5 (AC (AL (DC K4 (AK (Ag BO (AD 0) (wC (D.int 1))) Aj))) (AC (AL (AD 2)) Al)))) (A9 2) FR (Ai GZ (AC (AL (AD 0)) (AC (AL (AD 1)) (AC (AL (AD 2)) Al))))))) (BI 2 (Ag A7 (AD 2) (wC (D.int 1)))))
 (Ay (AD 2))))
theorem Jq{α:Type}{f:α->D}{v:α->Bool}{b:BW}{te:DW}{P:List D->Nat->Prop}(I:List Slot->Prop):∀(l:List α) (acc:List D) (n:Nat) (ρ:List Slot),
  (∀a∈l,∀(ρ:List Slot) (n:Nat) (nx:D->Nat->List Slot->Prop),I ρ->(∀ρ',I ρ'->nx (.bl (v a)) n ρ')->b (f a) ρ λρ1=>te n ρ1 λy n2=>nx y n2 ρ1)->I ρ->P (acc++l.map λa=>.bl (v a)) n->D7 b FR te P (l.map f) acc n ρ
 | [],acc,n,ρ,_,_,h=>by rw [Zv,Yv] at h; exact h
 | a::l,acc,n,ρ,ht,hρ,h=>ht a Op ρ n (λy n2 ρ1=>D7 b FR te P (l.map f) (acc++[y]) n2 ρ1) hρ λρ' hρ' =>
  Jq I l (acc++[.bl (v a)]) n ρ' (λx hx=>ht x (Sc _ hx)) hρ' (by rw [Ym]; exact h)
theorem U_{α:Type}(p:α->Bool)(l:List α):((l.map λa=>D.bl (p a)).any λy=>Ei y (.bl true))=l.any p:=by
 induction l with
 | nil=>rfl
 | cons a r ih =>
  rw [X6,Zl,Zl,ih]
  congr 1
  cases p a <;> rfl
theorem Qn{N:Net}(ok:N.Ok){t b:Int}(hbt:b<=t):Rj N t b N.ts:=λu hu=>by
 refine⟨u.len,?_,aj hbt (by have:=(ok.tin u hu).2.2.2.1; omega)⟩
 have:=Wk.snoc (Wk.nil (N:=N) (s:=u.a)) (GC hu).1
 rw [Yw] at this
 exact this
noncomputable def kB(N:Net)(t b:Int)(S:List A0):Bool:=@decide (Rj N t b S) (Zk _)
theorem kB_iff{N:Net}{t b:Int}{S:List A0}:kB N t b S=true↔Rj N t b S:=by
 unfold kB
 exact @decide_eq_true_iff _ (Zk _)
theorem Mr{ss:List Slot}{n:Nat}{Pd:D->Nat->Prop}(h:GY ss n Pd):EA (EE Pd) n (ss++Re 1 .no):=by
 obtain⟨N,t,b,rfl,okn,tm,hbt,h6,q⟩:=h
 have ok:=okn.1
 unfold EA
 refine⟨λm n' ρ=>n'=n/\∃k:Nat,ρ=[.sh (E5 N),.sh (Bl t b),.sh (.int (k:Int))]/\k<=N.ts.length/\m=N.ts.length - k/\∀S:List A0,S.Sublist N.ts->Rj N t b S->k<=S.length,⟨_,rfl,0,rfl,YB _,rfl,λ_ _ _=>YB _⟩,?_⟩
 rintro m n' ρ ⟨rfl,k,rfl,hk,rfl,hS⟩
 have len:(rows N.ts.length k).length<=46656:=YH (IA h6 k) (YH (Z2 (by decide) (show k<=6 by omega)) (by decide))
 refine⟨_,AO (j:=1) rfl,N.ts,k,rfl,h6,by omega,by rw [Db]; omega,?_⟩
 refine Jq (v:=λr=>kB N t b (pick N.ts 0 r)) (λρ=>∃s,ρ=[.sh (E5 N),.sh (Bl t b),s]) (rows N.ts.length k) [] _ _ ?_ ⟨_,rfl⟩ ?_
 ·rintro r hr ρ n' nx ⟨s,rfl⟩ hnx
  have hsub:=(rows_all (ts:=N.ts) (k:=k) (S:=pick N.ts 0 r)).mp (XV.mpr ⟨r,hr,rfl⟩)
  refine⟨N,t,b,pick N.ts 0 r,rfl,okn,tm,hsub.1,λx hx=>?_⟩
  have z:=hnx [.sh (E5 N),.sh (Bl t b),.sh (DD (pick N.ts 0 r))] ⟨_,rfl⟩
  rw [show kB N t b (pick N.ts 0 r)=x by rw [ZC,kB_iff,hx]] at z
  exact z
 ·rw [YQ]
  obtain⟨y1,y2,y3⟩:=PF (λr=>kB N t b (pick N.ts 0 r)) (rows N.ts.length k)
  refine⟨⟨rfl,rfl,YB _⟩,⟨y1,y2,by show Ye _+1<=100; rw [y3]; decide⟩,_,rfl,?_⟩
  rw [U_]
  show if (!((rows N.ts.length k).any λr=>kB N t b (pick N.ts 0 r)))=true then _ else _
  cases e:(rows N.ts.length k).any λr=>kB N t b (pick N.ts 0 r) with
  | true =>
   obtain⟨r,hr,hkb⟩:=Zg.mp e
   have hsub:=(rows_all (ts:=N.ts) (k:=k) (S:=pick N.ts 0 r)).mp (XV.mpr ⟨r,hr,rfl⟩)
   exact Be (q k ⟨⟨_,hsub.1,kB_iff.mp hkb,hsub.2⟩,hS⟩ (by omega))
  | false =>
   have no:∀S:List A0,S.Sublist N.ts->Rj N t b S->k+1<=S.length:=λS s1 s2=>by
    have h1:=hS S s1 s2
    by_cases hl:S.length=k
    ·obtain⟨r,hr,er⟩:=XV.mp (rows_all.mpr ⟨s1,hl⟩)
     have:=List.any_eq_false.mp e r hr
     rw [er] at this
     exact absurd (kB_iff.mpr s2) this
    ·omega
   have hfull:=no N.ts (cS _) (Qn ok hbt)
   refine Dx ⟨λn2 ρ'=>n2=n'/\ρ'=[.sh (E5 N),.sh (Bl t b),.sh (.int ((k+1:Nat):Int))],?_,rfl,rfl⟩
   rintro n2 ρ' ⟨rfl,rfl⟩
   exact⟨N.ts.length - (k+1),by omega,rfl,k+1,rfl,hfull,rfl,no⟩
noncomputable def Mc:Af:=(Ar (BI 8 (Ai Hm (AC (BF 1) (AC (AL (AD 3)) (AC (AL (AD 4)) (AC (AL (AD 7)) Al))))))
 (Ar (BI 9 (DC Q2 (AK (AD 8) Aj)))
 (Ar (BI 10 (Ai GV (AC (AL (AD 3)) (AC (AL (AD 4)) (AC (AL (AD 7)) (AC (AL (AD 8)) Al))))))
 (Ar (BZ (Df (B9 (Ao (Hu "bool" (AD 10)))) (Ao (Ag (JW true) (AD 10) (Ai GX (AC (AL (AD 3)) (AC (AL (AD 4)) (AC (AL (AD 7)) (AC (AL (AD 8)) Al)))))))) (Ay (wC (D.bl false))) A6)
 (BZ (Df (Ao (Ag (JW true) (AD 10) (Ag PV (AD 7) (AD 5)))) (Ao (Ag (JW true) (DC Q2 (AK (AD 8) Aj)) (AD 9)))) (Ay (wC (D.bl false))) A6)))))
noncomputable def Qh:Af:=(Ar (BI 7 (Ag BO (CT (AK (AD 5) (AK (Ai Bm (AC (BF 1) (AC (AL (Ag A7 (AD 5) (wC (D.int 1)))) Al))) (AK (Ag A7 (Ag A7 (AD 5) (wC (D.int 1))) (Ai Bm (AC (BF 1) (AC (AL (wC (D.int 2))) Al)))) Aj)))) (AD 6)))
 Mc)
noncomputable def J9:Af:=(Ar (JH (Jd (AK (wC (D.int 3)) Aj)) (A9 2) (Ar (BI 3 (Ai OT (AC (BF 1) (AC (AL (wC (D.int 5))) (AC (AL (wC (D.int 6))) Al)))))
 (Ar (BI 4 (Ai GU (AC (BF 1) Al)))
 (Ar (BI 5 (Ai GY (AC (AL (AD 3)) (AC (AL (AD 4)) Al))))
 (JH (Jd (AK (wC (D.int 3)) Aj)) (A9 6) Qh)))))
 (Ay (wC (D.bl true))))
theorem NQ{N:Net}(ok:N.Ok)(h5:N.ps.length<=5):∀c:Ca,HN N c->Of c.D+10<=1500*c.cnt
 | .en,_=>by show ("enough" : Str).length+1+0+10<=1500*1; rw [show ("enough" : Str).length=6 by decide +kernel]; decide
 | .fa u p,⟨hu,hp⟩=>by
  have it:=(CZ ok _ (XV.mpr ⟨u,hu,rfl⟩)).2.1
  have hl:=hp.1
  have hs:∀q:List Int,Pn (q.map D.int)=201*q.length:=λq=>by
   induction q with
   | nil=>rfl
   | cons x q ih=>rw [X6]; show 200+1+Pn (q.map D.int)=_; rw [ih,X5]; omega
  have:=hs p
  show ("far" : Str).length+1+(Of (Am u)+1+(Pn (p.map D.int)+1+0))+10<=1500*1
  rw [show ("far" : Str).length=3 by decide +kernel]
  omega
 | .sp u c d,⟨hu,hc,hd⟩=>by
  have it:=(CZ ok _ (XV.mpr ⟨u,hu,rfl⟩)).2.1
  have h1:=NQ ok h5 c hc
  have h2:=NQ ok h5 d hd
  show ("split" : Str).length+1+(Of (Am u)+1+(Of c.D+1+(Of d.D+1+0)))+10<=1500*(1+c.cnt+d.cnt)
  rw [show ("split" : Str).length=5 by decide +kernel]
  omega
theorem Ol{D2:E2}{n:Nat}{N:Net}{t b:Int}{L many:Nat}{s2 s6 s8 s9 s10:Slot}(okn:okN N)(h5:N.ps.length<=5)(h6:N.ts.length<=6)(tm:ED t b)(hbt:b<=t)(few:Xh N t b L)(hn:J4 6<=n)
  (h:∀n' s8 s9 s10,n - J4 6<=n'->D2.nx n' [.no,.fd,s2,.sh (E5 N),.sh (Bl t b),.sh (.int (L:Int)),s6,.sh (.int (many:Int)),s8,s9,s10]):Mc D2 n [.no,.fd,s2,.sh (E5 N),.sh (Bl t b),.sh (.int (L:Int)),s6,.sh (.int (many:Int)),s8,s9,s10]:=by
 have ok:=okn.1
 unfold Mc
 refine⟨N,t,b,many,rfl,okn,tm,h6,hn,λc n' mc oc hn'=>?_⟩
 obtain⟨dp,ct⟩:=mc.dep
 have p2:=Z2 (show 0<2 by decide) (show N.ts.length+1<=7 by omega)
 have sz:=NQ ok h5 c oc
 have ly:=GG ok c oc
 have sh:QG c.D:=R6 (B:=10 ^ 14) (by decide) ly.1 (by omega) (by omega)
 have val:Gb N t b many [] [] c=decide (many<=L):=by
  obtain⟨⟨S,s1,s2,s3⟩,hall⟩:=few
  by_cases hm:many<=L
  ·rw [decide_eq_true hm]
   exact mc.shows ok (by have:=tm.1; omega) hbt (λS' x1 x2=>YH hm (hall S' x1 x2)) (aw _)
  ·rw [decide_eq_false hm]
   cases e:Gb N t b many [] [] c with
   | false=>rfl
   | true =>
    have:=IW ok (by have:=tm.1; omega) (λu hu=>s1.subset hu) ((Iq ok.trise).sublist s1) s2 c [] [] (λ_ z=>absurd z YG) Yz (λ_ z=>absurd z YG) e
    omega
 refine⟨_,rfl,sh,N,t,b,many,c,rfl,okn,tm,oc,by omega,by omega,?_⟩
 refine⟨N,t,b,many,c,rfl,okn,tm,oc,by omega,by omega,?_⟩
 rw [val]
 generalize hr:decide (many<=L)=r
 show if (!(r==r))=true then _ else _
 rw [beq_self_eq_true]
 refine Be ?_
 show if (!(r==decide ((many:Int)<=(L:Int))))=true then _ else _
 rw [show decide ((many:Int)<=(L:Int))=r by rw [← hr]; exact decide_eq_decide.mpr (by omega),beq_self_eq_true]
 refine Be ⟨_,rfl,sh,?_⟩
 generalize hA:Mi c.D=A
 show if (!(A==A))=true then _ else _
 rw [beq_self_eq_true]
 exact Be (h n' _ _ _ hn')
theorem Ms:J9 { nx:=λ_ _=>False,rt:=λd _=>d=.bl true } 60000 (.no::.fd::Re 9 .no):=by
 have b6:J4 6=5080:=by decide
 unfold J9
 refine⟨3,rfl,by decide,?_⟩
 refine CN (all:=DJ 0 3) (λpre m ρ=>60000 - 15600*pre.length<=m/\∃s2 s3 s4 s5 s6 s7 s8 s9 s10,ρ=[.no,.fd,s2,s3,s4,s5,s6,s7,s8,s9,s10]) ?_ ?_ _ [] _ _ rfl ⟨No _,_,_,_,_,_,_,_,_,_,rfl⟩
 ·rintro m ρ ⟨_,s2,s3,s4,s5,s6,s7,s8,s9,s10,rfl⟩
  rfl
 ·rintro pre d post m ρ nx hall ⟨hm,s2,s3,s4,s5,s6,s7,s8,s9,s10,rfl⟩ hnx
  obtain⟨_,hp3⟩:=HQ hall
  rw [Rs,X9] at hnx
  refine⟨5,6,rfl,by decide,by decide,by omega,λN n1 ok hp ht hn1=>?_⟩
  have okn:okN N:=⟨ok,by omega,by omega⟩
  refine⟨rfl,by omega,λt b b1 bt t1=>?_⟩
  have tm:ED t b:=⟨b1,by omega,by omega,t1⟩
  refine⟨N,t,b,rfl,okn,tm,bt,ht,λL few hL=>?_⟩
  refine⟨3,rfl,by decide,?_⟩
  refine CN (all:=DJ 0 3) (λpre m ρ=>n1 - 1 - 5100*pre.length<=m/\∃s2 s6 s7 s8 s9 s10,ρ=[.no,.fd,s2,.sh (E5 N),.sh (Bl t b),.sh (.int (L:Int)),s6,s7,s8,s9,s10]) ?_ ?_ _ [] _ _ rfl ⟨No _,_,_,_,_,_,_,rfl⟩
  ·rintro m' ρ ⟨hm',s2,s6,s7,s8,s9,s10,rfl⟩
   rw [DH] at hm'
   exact hnx _ _ ⟨by omega,_,_,_,_,_,_,_,_,_,rfl⟩
  ·rintro pre' d' post' m' ρ nx' hall' ⟨hm',s2,s6,s7,s8,s9,s10,rfl⟩ hnx'
   obtain⟨rfl,hp'⟩:=HQ hall'
   rw [Rs,X9] at hnx'
   unfold Qh
   refine⟨_,rfl,by omega,by omega,by omega,λr1 r10 r11=>?_⟩
   refine⟨2,rfl,by decide,by decide,by omega,λr2 r20 r21=>⟨z3,?_⟩⟩
   obtain⟨many,hmany⟩:∃many:Nat,atI [D.int (L:Int),.int r1,.int ((L:Int)+1+r2)] (0+(pre'.length:Int))=some (.int (many:Int)):=by
    rcases (by omega:pre'.length=0\/pre'.length=1\/pre'.length=2) with e | e | e
    ·rw [e]; exact⟨L,rfl⟩
    ·rw [e]; exact⟨r1.toNat,by rw [show ((r1.toNat:Nat):Int)=r1 by omega]; rfl⟩
    ·rw [e]; exact⟨(L:Int).toNat+1+r2.toNat,by rw [show (((L:Int).toNat+1+r2.toNat:Nat):Int)=(L:Int)+1+r2 by omega]; rfl⟩
   refine⟨_,hmany,?_⟩
   exact Ol okn hp ht tm bt few (by omega) λn' s8 s9 s10 hn'=>hnx' _ _ ⟨by omega,_,_,_,_,_,_,rfl⟩
end Nt
set_option maxHeartbeats 4000000
namespace K61
open PySem PySem.Spec PyProof.Rows L2 Dp Nt
section
variable (P:Program)(w:World)(K:Frag)(mg:Str->Option Value)(base:Heap)
noncomputable abbrev Fg:Prop:=Got P w K mg base "is_whole" 1 ["thing"] .sh JF
noncomputable abbrev B4:Prop:=Got P w K mg base "is_tuple_of" 1 ["count","thing"] .sh Ci
noncomputable abbrev Rf:Prop:=Got P w K mg base "only" 1 ["net","ties"] .sh LM
noncomputable abbrev Ew:Prop:=Got P w K mg base "is_tie_of" 2 ["net","thing"] .sh Rg
noncomputable abbrev KC:Prop:=Got P w K mg base "without" 2 ["net","ties"] .sh He
noncomputable abbrev GN:Prop:=Got P w K mg base "are_prices" 2 ["net","thing"] .sh Hj
noncomputable abbrev Eu:Prop:=Got P w K mg base "price_gap" 1 ["net","prices","a","b"] .sh Rh
noncomputable abbrev KD:Prop:=Got P w K mg base "is_fair" 3 ["net","thing"] .sh OW
noncomputable abbrev G_:Prop:=Got P w K mg base "is_within" 1 ["length","times","number"] .sh Hf
noncomputable abbrev Et:Prop:=Got P w K mg base "prices_fault" 4 ["net","times","tie","thing"] .sh E9
noncomputable abbrev G9:Prop:=Got P w K mg base "shows_far" 5 ["net","times","out","thing"] .sh Hg
noncomputable abbrev JC:Prop:=Got P w K mg base "shows_by" 13 ["net","times","many","kept","out","deep","thing"] .sh (Gw 7)
noncomputable abbrev JD:Prop:=Got P w K mg base "count_of" 10 ["case"] .sh (De 7)
noncomputable abbrev OS:Prop:=Got P w K mg base "shows" 14 ["net","times","many","thing"] .sh GV
noncomputable abbrev BE:Prop:=Got P w K mg base "_law_next" 1 ["_law_feed_here","_law_many"] .sh Bm
noncomputable abbrev GQ:Prop:=Got P w K mg base "_law_names" 1 [] .sh Hk
noncomputable abbrev FO:Prop:=Got P w K mg base "_law_places" 2 ["_law_feed_here","_law_many"] .sh GW
noncomputable abbrev FP:Prop:=Got P w K mg base "_law_length" 2 ["_law_feed_here","_law_sort"] .sh OU
noncomputable abbrev HA:Prop:=Got P w K mg base "_law_ties" 3 ["_law_feed_here","_law_places_here","_law_most"] .sh LL
noncomputable abbrev JE:Prop:=Got P w K mg base "_law_net" 4 ["_law_feed_here","_law_most","_law_ties_here"] .sh OT
noncomputable abbrev GO:Prop:=Got P w K mg base "_law_times" 2 ["_law_feed_here"] .sh GU
noncomputable abbrev Fh:Prop:=Got P w K mg base "_law_far" 1 ["_law_places_here","_law_ties_here"] .sh OV
noncomputable abbrev GS:Prop:=Got P w K mg base "_law_keeps" 2 ["_law_net_here","_law_times_here","_law_some"] .sh GZ
noncomputable abbrev Ex:Prop:=Got P w K mg base "_law_choices" 1 ["_law_ties_here","_law_many"] .fr D5
noncomputable abbrev GR:Prop:=Got P w K mg base "_law_least" 3 ["_law_net_here","_law_times_here"] .sh GY
noncomputable abbrev DA:Prop:=Got P w K mg base "_law_is_tie" 1 ["_law_net_here","_law_thing"] .sh Dd
noncomputable abbrev FQ:Prop:=Got P w K mg base "_law_is_far" 2 ["_law_world","_law_gone","_law_tie","_law_prices_here"] .sh Hl
noncomputable abbrev GP:Prop:=Got P w K mg base "_law_shows" 10 ["_law_world","_law_kept","_law_gone","_law_thing","_law_deep"] .sh (CP 7)
noncomputable abbrev DZ:Prop:=Got P w K mg base "_law_read_case" 11 ["_law_net_here","_law_times_here","_law_many","_law_thing"] .sh GX
noncomputable abbrev FN:Prop:=Got P w K mg base "_law_prices" 2 ["_law_feed_here","_law_world","_law_spans","_law_tie"] .sh D4
noncomputable abbrev EC:Prop:=Got P w K mg base "_law_far_case" 3 ["_law_feed_here","_law_world","_law_gone"] .sh Ga
noncomputable abbrev HB:Prop:=Got P w K mg base "_law_made" 11 ["_law_feed_here","_law_world","_law_kept","_law_gone","_law_left"] .sh (D3 7)
noncomputable abbrev HC:Prop:=Got P w K mg base "_law_case" 12 ["_law_feed_here","_law_net_here","_law_times_here","_law_many"] .sh Hm
end
section
variable {P:Program}{w:World}{K:Frag}{mg:Str->Option Value}{base:Heap}
theorem Lf:Ak ["thing"] ["thing"] (AS FU):=by constructor <;> first | rfl | decide +kernel
theorem Lw{f:Addr}{fd:FuncData}(T:Txt K mg)(F:Fun K "is_whole" "is_whole" FU f fd):BA P w K mg base B8 1 f fd ["thing"] (DF K .sh JF 1):=by
 exact Eh F Lf (by decide) (λcdv A outer s H E hr=>(AJ (AR (C_ (Cd N4 (dv 0) rfl T.n_isinstance rfl T.n_int (by decide +kernel)) (C9 (U0 (Cd F8 (dv 0) rfl T.n_isinstance rfl T.n_bool (by decide +kernel)))))))) (λss n Pd hl hw=>Lk hw)
theorem Hx:Ak ["count","thing"] ["count","thing"] (AS Cw):=by constructor <;> first | rfl | decide +kernel
theorem IQ{f:Addr}{fd:FuncData}(T:Txt K mg)(F:Fun K "is_tuple_of" "is_tuple_of" Cw f fd):BA P w K mg base B8 1 f fd ["count","thing"] (DF K .sh Ci 2):=by
 exact Eh F Hx (by decide) (λcdv A outer s H E hr=>(AJ (AR (C_ (Cd kit_tuple (dv 1) rfl T.n_isinstance rfl T.n_tuple (by decide +kernel)) (C9 (BY B_ E_ (Ab Ap BN rfl T.n_len PySem.boot_len (AN (dv 1) AU)) (dv 0) (AX _))))))) (λss n Pd hl hw=>IF hw)
theorem R7:Ak ["net","ties"] ["net","ties"] (AS Mn):=by constructor <;> first | rfl | decide +kernel
theorem SX{f:Addr}{fd:FuncData}(T:Txt K mg)(F:Fun K "only" "only" Mn f fd):BA P w K mg base B8 1 f fd ["net","ties"] (DF K .sh LM 2):=by
 exact Eh F R7 (by decide) (λcdv A outer s H E hr=>(AJ (AR (A_ (AF (AW AQ An (dv 0) AB) (AF (CO B2 GK rfl T.n_tuple boot_tuple (AN (Ab NO TJ rfl T.n_sorted boot_sorted (AN (XE 1) AU)) AU)) AV)))))) (λss n Pd hl hw=>Oo hw)
theorem KZ:Ak ["net","thing"] ["net","thing"] (AS ET):=by constructor <;> first | rfl | decide +kernel
theorem Kt{f:Addr}{fd:FuncData}(T:Txt K mg)(G_is_whole:Fg P w K mg base)(F:Fun K "is_tie_of" "is_tie_of" ET f fd):BA P w K mg base B8 2 f fd ["net","thing"] (DF K .sh Rg 2):=by
 exact Eh F KZ (by decide) (λcdv A outer s H E hr=>(AJ (AR (C_ (BY (Ee hr) Ct (dv 1) (AW AQ An (dv 0) AB) (by with_unfolding_all rfl)) (C9 (AH G_is_whole (hr.mono (by decide)) rfl (AA (AG (AW AQ An (dv 1) AB)) AM))))))) (λss n Pd hl hw=>Ki hw)
theorem Ml:Ak ["net","ties"] ["net","ties"] (AS Ge):=by constructor <;> first | rfl | decide +kernel
theorem M_{f:Addr}{fd:FuncData}(T:Txt K mg)(G_only:Rf P w K mg base)(F:Fun K "without" "without" Ge f fd):BA P w K mg base B8 2 f fd ["net","ties"] (DF K .sh He 2):=by
 exact Eh F Ml (by decide) (λcdv A outer s H E hr=>(AJ (AR (AH G_only (hr.mono (by decide)) rfl (AA (AG (dv 0)) (AA (WG (B1 rfl [("ties" : Str),("tie" : Str)] [some 1,none] (CH (AW AQ An (dv 0) AB)) (λ_ _ _ _ _=>(Ax (i:=1) (show Y1 [("ties" : Str),("tie" : Str)] by decide +kernel) rfl (T0 rfl))) (λ_ _ _ _ _=>(OF (Aa (CM hr) Ct (dv 1) (dv 0) (by with_unfolding_all rfl)))) (λ_ _ _ _ _=>(dv 1)) (by kernel_rfl))) AM)))))) (λss n Pd hl hw=>Kf hw)
theorem JL:Ak ["net","thing"] ["net","thing"] (AS Dh):=by constructor <;> first | rfl | decide +kernel
theorem JQ{f:Addr}{fd:FuncData}(T:Txt K mg)(G_is_tuple_of:B4 P w K mg base)(G_is_whole:Fg P w K mg base)(F:Fun K "are_prices" "are_prices" Dh f fd):BA P w K mg base B8 2 f fd ["net","thing"] (DF K .sh Hj 2):=by
 exact Eh F JL (by decide) (λcdv A outer s H E hr=>(AJ (AR (C_ (AH G_is_tuple_of (hr.mono (by decide)) rfl (AA (AG (Ab Ap BN rfl T.n_len PySem.boot_len (AN (AW AQ An (dv 0) AB) AU))) (AA (AG (dv 1)) AM))) (C9 (Ab (MP rfl) Tz rfl T.n_all cH (AN (B1 rfl [("price" : Str)] [none] (CH (dv 1)) (λ_ _ _ _ _=>(Ax (i:=0) (show Y1 [("price" : Str)] by decide +kernel) rfl (T0 rfl))) (λ_ _ _ _ _=>CG) (λ_ _ _ _ _=>(C_ (AH G_is_whole (hr.mono (by decide)) rfl (AA (AG (dv 0)) AM)) (C9 (BY Fb JB (dv 0) AB (AX _))))) (by kernel_rfl)) AU))))))) (λss n Pd hl hw=>IG hw)
theorem KW:Ak ["net","prices","a","b"] ["net","prices","a","b"] (AS ER):=by constructor <;> first | rfl | decide +kernel
theorem Kr{f:Addr}{fd:FuncData}(T:Txt K mg)(F:Fun K "price_gap" "price_gap" ER f fd):BA P w K mg base B8 1 f fd ["net","prices","a","b"] (DF K .sh Rh 4):=by
 exact Eh F KW (by decide) (λcdv A outer s H E hr=>(AJ (AR (Ab Iz Rb rfl T.n_abs boot_abs (AN (Ad Bb Bz (AW AQ An (dv 1) (Gv hr (AW AQ An (dv 0) AB) (AN (dv 2) AU))) (AW AQ An (dv 1) (Gv hr (AW AQ An (dv 0) AB) (AN (dv 3) AU)))) AU))))) (λss n Pd hl hw=>JM hw)
theorem Mm:Ak ["net","thing"] ["net","thing"] (AS Gg):=by constructor <;> first | rfl | decide +kernel
theorem NA{f:Addr}{fd:FuncData}(T:Txt K mg)(G_are_prices:GN P w K mg base)(G_price_gap:Eu P w K mg base)(F:Fun K "is_fair" "is_fair" Gg f fd):BA P w K mg base B8 3 f fd ["net","thing"] (DF K .sh OW 2):=by
 exact Eh F Mm (by decide) (λcdv A outer s H E hr=>(AE (As (BJ (A4 (AH G_are_prices (hr.mono (by decide)) rfl (AA (AG (dv 0)) (AA (AG (dv 1)) AM))))) (AJ (AR BH)) AZ)
 (AJ (AR (Ab (MP rfl) Tz rfl T.n_all cH (AN (B1 rfl [("net" : Str),("thing" : Str),("a" : Str),("b" : Str),("length" : Str)] [some 0,some 1,none,none,none] (CH (AW AQ An (dv 0) AB)) (λ_ _ _ _ _=>(NK rfl (Bs (Ax (i:=2) (show Y1 [("net" : Str),("thing" : Str),("a" : Str),("b" : Str),("length" : Str)] by decide +kernel) rfl (T0 rfl)) (Bs (Ax (i:=3) (show Y1 [("net" : Str),("thing" : Str),("a" : Str),("b" : Str),("length" : Str)] by decide +kernel) rfl (T0 rfl)) (Bs (Ax (i:=4) (show Y1 [("net" : Str),("thing" : Str),("a" : Str),("b" : Str),("length" : Str)] by decide +kernel) rfl (T0 rfl)) K_))))) (λ_ _ _ _ _=>CG) (λ_ _ _ _ _=>(BY Ko OQ (AH G_price_gap (hr.mono (by decide)) rfl (AA (AG (dv 0)) (AA (AG (dv 1)) (AA (AG (dv 2)) (AA (AG (dv 3)) AM))))) (dv 4) (AX _))) (by kernel_rfl)) AU)))))) (λss n Pd hl hw=>Ll hw)
theorem KY:Ak ["length","times","number"] ["length","times","number"] (AS ES):=by constructor <;> first | rfl | decide +kernel
theorem Ks{f:Addr}{fd:FuncData}(T:Txt K mg)(F:Fun K "is_within" "is_within" ES f fd):BA P w K mg base B8 1 f fd ["length","times","number"] (DF K .sh Hf 3):=by
 exact Eh F KY (by decide) (λcdv A outer s H E hr=>(AJ (AR (BY Ko OQ (Ad Bq Cg (dv 0) (AW AQ An (dv 1) AB)) (Ad Bq Cg (dv 2) (AW AQ An (dv 1) AB)) (AX _))))) (λss n Pd hl hw=>Kh hw)
theorem HE:Ak ["net","times","tie","thing"] ["net","times","tie","thing"] (AS CV):=by constructor <;> first | rfl | decide +kernel
theorem HI{f:Addr}{fd:FuncData}(T:Txt K mg)(G_is_fair:KD P w K mg base)(G_is_within:G_ P w K mg base)(G_price_gap:Eu P w K mg base)(F:Fun K "prices_fault" "prices_fault" CV f fd):BA P w K mg base B8 4 f fd ["net","times","tie","thing"] (DF K .sh E9 4):=by
 exact Eh F HE (by decide) (λcdv A outer s H E hr=>(AE (As (BJ (A4 (AH G_is_fair (hr.mono (by decide)) rfl (AA (AG (dv 0)) (AA (AG (dv 3)) AM))))) (AJ (AR Ac)) AZ)
 (AJ (AR (OH (A4 (AH G_is_within (hr.mono (by decide)) rfl (AA (AG (AH G_price_gap (hr.mono (by decide)) rfl (AA (AG (dv 0)) (AA (AG (dv 3)) (AA (AG (AW AQ An (dv 2) AB)) (AA (AG (AW AQ An (dv 2) AB)) AM)))))) (AA (AG (dv 1)) (AA (AG (AW AQ An (dv 2) AB)) AM))))) Ac Ce))))) (λss n Pd hl hw=>Fv hw)
theorem KU:Ak ["net","times","out","thing"] ["net","times","out","thing"] (AS EQ):=by constructor <;> first | rfl | decide +kernel
theorem Kq{f:Addr}{fd:FuncData}(T:Txt K mg)(G_is_tie_of:Ew P w K mg base)(G_prices_fault:Et P w K mg base)(G_without:KC P w K mg base)(F:Fun K "shows_far" "shows_far" EQ f fd):BA P w K mg base B8 5 f fd ["net","times","out","thing"] (DF K .sh Hg 4):=by
 exact Eh F KU (by decide) (λcdv A outer s H E hr=>(AE (As (DTW.dt (BQ (BJ (A4 (AH G_is_tie_of (hr.mono (by decide)) rfl (AA (AG (dv 0)) (AA (AG (AW AQ An (dv 3) AB)) AM))))) (BM (Aa (CM hr) Ct (AW AQ An (dv 3) AB) (dv 2) (by with_unfolding_all rfl))))) (AJ (AR BH)) AZ)
 (AJ (AR (BY Kp RZ (AH G_prices_fault (hr.mono (by decide)) rfl (AA (AG (AH G_without (hr.mono (by decide)) rfl (AA (AG (dv 0)) (AA (AG (dv 2)) AM)))) (AA (AG (dv 1)) (AA (AG (AW AQ An (dv 3) AB)) (AA (AG (AW AQ An (dv 3) AB)) AM))))) Ce (AX _)))))) (λss n Pd hl hw=>IB hw)
theorem sc_shows_by:Ak ["net","times","many","kept","out","deep","thing","tie"] ["net","times","many","kept","out","deep","thing"] (AS FT):=by constructor <;> first | rfl | decide +kernel
theorem G0{f:Addr}{fd:FuncData}(T:Txt K mg)(G_is_tie_of:Ew P w K mg base)(G_is_tuple_of:B4 P w K mg base)(G_shows_far:G9 P w K mg base)(F:Fun K "shows_by" "shows_by" FT f fd)(m:mg "shows_by"=some (.ref f))(b:Binds K fd ["net","times","many","kept","out","deep","thing"] []):∀j,BA P w K mg base B8 (6+j) f fd ["net","times","many","kept","out","deep","thing"] (DF K .sh (Gw j) 7)
 | 0=>by
  have G_shows_by:Got P w K mg base "shows_by" 5 ["net","times","many","kept","out","deep","thing"] .sh (λ_ _ _=>False):=Dy F m b (λ_ _ _ h=>h.elim) (F.ok (k:=4) sc_shows_by (λvs H Q E h=>h.1) (λcdv A outer s H vs Q E hr h=>by obtain⟨_,_,_,_,_,_,_,_,_,hw,_⟩:=h; exact hw.elim))
  exact Eh (k:=5) F sc_shows_by (by decide) (λcdv A outer s H E hr=>(AE (As (Aa B_ E_ (dv 5) AB (AX _)) (AJ (AR BH)) AZ)
 (AE (As (Aa (Gk hr) KA (dv 6) (A_ (AF Ac AV)) (AX _)) (AJ (AR (BY Fb JB (Ab Ap BN rfl T.n_len PySem.boot_len (AN (dv 3) AU)) (dv 2) (AX _)))) AZ)
 (AE (As (DTW.dt (NH (A4 (AH G_is_tuple_of (hr.mono (by omega)) rfl (AA (AG AB) (AA (AG (dv 6)) AM)))) (K8 (Aa B_ E_ (AW AQ An (dv 6) AB) Ac (AX _))))) (AJ (AR (AH G_shows_far (hr.mono (by omega)) rfl (AA (AG (dv 0)) (AA (AG (dv 1)) (AA (AG (dv 4)) (AA (AG (dv 6)) AM))))))) AZ)
 (AE (As (DTW.dt (BQ (BJ (A4 (AH G_is_tuple_of (hr.mono (by omega)) rfl (AA (AG AB) (AA (AG (dv 6)) AM))))) (BM (Aa Ec JA (AW AQ An (dv 6) AB) Ac (AX _))))) (AJ (AR BH)) AZ)
 (AE (Ah (i:=7) sc_shows_by.nd rfl (T0 rfl) (AW AQ An (dv 6) AB))
 (AE (As (DTW.dt (BQ (BJ (A4 (AH G_is_tie_of (hr.mono (by omega)) rfl (AA (AG (dv 0)) (AA (AG (dv 7)) AM))))) (BQ (Aa (Ee hr) Ct (dv 7) (dv 3) (by with_unfolding_all rfl)) (BM (Aa (Ee hr) Ct (dv 7) (dv 4) (by with_unfolding_all rfl)))))) (AJ (AR BH)) AZ)
 (AE (As (BJ (A4 (AH G_shows_by (hr.mono (No _)) rfl (AA (AG (dv 0)) (AA (AG (dv 1)) (AA (AG (dv 2)) (AA (AG (Ad Ae Aq (dv 3) (Az (AF (dv 7) AV)))) (AA (AG (dv 4)) (AA (AG (Ad Bb Bz (dv 5) AB)) (AA (AG (AW AQ An (dv 6) AB)) AM)))))))))) (AJ (AR BH)) AZ)
 (AJ (AR (AH G_shows_by (hr.mono (No _)) rfl (AA (AG (dv 0)) (AA (AG (dv 1)) (AA (AG (dv 2)) (AA (AG (dv 3)) (AA (AG (Ad Ae Aq (dv 4) (Az (AF (dv 7) AV)))) (AA (AG (Ad Bb Bz (dv 5) AB)) (AA (AG (AW AQ An (dv 6) AB)) AM)))))))))))))))))) (λss n Pd hl hw=>FA (λ_ _ _ h _=>absurd rfl h) hw)
 | j+1=>by
  have G_shows_by:Got P w K mg base "shows_by" (6+j) ["net","times","many","kept","out","deep","thing"] .sh (Gw j):=Dy F m b (λ_ _ _ h=>by obtain⟨_,_,_,_,_,_,_,_,e,_⟩:=h; rw [e]; rfl) (G0 T G_is_tie_of G_is_tuple_of G_shows_far F m b j)
  exact Eh (k:=6+j) F sc_shows_by (by decide) (λcdv A outer s H E hr=>(AE (As (Aa B_ E_ (dv 5) AB (AX _)) (AJ (AR BH)) AZ)
 (AE (As (Aa (Gk hr) KA (dv 6) (A_ (AF Ac AV)) (AX _)) (AJ (AR (BY Fb JB (Ab Ap BN rfl T.n_len PySem.boot_len (AN (dv 3) AU)) (dv 2) (AX _)))) AZ)
 (AE (As (DTW.dt (NH (A4 (AH G_is_tuple_of (hr.mono (by omega)) rfl (AA (AG AB) (AA (AG (dv 6)) AM)))) (K8 (Aa B_ E_ (AW AQ An (dv 6) AB) Ac (AX _))))) (AJ (AR (AH G_shows_far (hr.mono (by omega)) rfl (AA (AG (dv 0)) (AA (AG (dv 1)) (AA (AG (dv 4)) (AA (AG (dv 6)) AM))))))) AZ)
 (AE (As (DTW.dt (BQ (BJ (A4 (AH G_is_tuple_of (hr.mono (by omega)) rfl (AA (AG AB) (AA (AG (dv 6)) AM))))) (BM (Aa Ec JA (AW AQ An (dv 6) AB) Ac (AX _))))) (AJ (AR BH)) AZ)
 (AE (Ah (i:=7) sc_shows_by.nd rfl (T0 rfl) (AW AQ An (dv 6) AB))
 (AE (As (DTW.dt (BQ (BJ (A4 (AH G_is_tie_of (hr.mono (by omega)) rfl (AA (AG (dv 0)) (AA (AG (dv 7)) AM))))) (BQ (Aa (Ee hr) Ct (dv 7) (dv 3) (by with_unfolding_all rfl)) (BM (Aa (Ee hr) Ct (dv 7) (dv 4) (by with_unfolding_all rfl)))))) (AJ (AR BH)) AZ)
 (AE (As (BJ (A4 (AH G_shows_by (hr.mono (No _)) rfl (AA (AG (dv 0)) (AA (AG (dv 1)) (AA (AG (dv 2)) (AA (AG (Ad Ae Aq (dv 3) (Az (AF (dv 7) AV)))) (AA (AG (dv 4)) (AA (AG (Ad Bb Bz (dv 5) AB)) (AA (AG (AW AQ An (dv 6) AB)) AM)))))))))) (AJ (AR BH)) AZ)
 (AJ (AR (AH G_shows_by (hr.mono (No _)) rfl (AA (AG (dv 0)) (AA (AG (dv 1)) (AA (AG (dv 2)) (AA (AG (dv 3)) (AA (AG (Ad Ae Aq (dv 4) (Az (AF (dv 7) AV)))) (AA (AG (Ad Bb Bz (dv 5) AB)) (AA (AG (AW AQ An (dv 6) AB)) AM)))))))))))))))))) (λss n Pd hl hw=>FA (j:=j+1) (λ_ _ _ _ h=>h) hw)
theorem EO:Ak ["case"] ["case"] (AS FV):=by constructor <;> first | rfl | decide +kernel
theorem G1{f:Addr}{fd:FuncData}(T:Txt K mg)(G_is_tuple_of:B4 P w K mg base)(F:Fun K "count_of" "count_of" FV f fd)(m:mg "count_of"=some (.ref f))(b:Binds K fd ["case"] []):∀j,BA P w K mg base B8 (3+j) f fd ["case"] (DF K .sh (De j) 1)
 | 0=>by
  have G_count_of:Got P w K mg base "count_of" 2 ["case"] .sh (λ_ _ _=>False):=Dy F m b (λ_ _ _ h=>h.elim) (F.ok (k:=1) EO (λvs H Q E h=>h.1) (λcdv A outer s H vs Q E hr h=>by obtain⟨_,_,_,_,_,_,_,_,_,hw,_⟩:=h; exact hw.elim))
  exact Eh (k:=2) F EO (by decide) (λcdv A outer s H E hr=>(AE (As (BJ (A4 (AH G_is_tuple_of (hr.mono (by omega)) rfl (AA (AG AB) (AA (AG (dv 0)) AM))))) (AJ (AR AB)) AZ)
 (AJ (AR (Ad Ae Aq (Ad Ae Aq AB (AH G_count_of (hr.mono (No _)) rfl (AA (AG (AW AQ An (dv 0) AB)) AM))) (AH G_count_of (hr.mono (No _)) rfl (AA (AG (AW AQ An (dv 0) AB)) AM))))))) (λss n Pd hl hw=>FC (λ_ _ _ h _=>absurd rfl h) hw)
 | j+1=>by
  have G_count_of:Got P w K mg base "count_of" (3+j) ["case"] .sh (De j):=Dy F m b (λ_ _ _ h=>by obtain⟨_,e,_⟩:=h; rw [e]; rfl) (G1 T G_is_tuple_of F m b j)
  exact Eh (k:=3+j) F EO (by decide) (λcdv A outer s H E hr=>(AE (As (BJ (A4 (AH G_is_tuple_of (hr.mono (by omega)) rfl (AA (AG AB) (AA (AG (dv 0)) AM))))) (AJ (AR AB)) AZ)
 (AJ (AR (Ad Ae Aq (Ad Ae Aq AB (AH G_count_of (hr.mono (No _)) rfl (AA (AG (AW AQ An (dv 0) AB)) AM))) (AH G_count_of (hr.mono (No _)) rfl (AA (AG (AW AQ An (dv 0) AB)) AM))))))) (λss n Pd hl hw=>FC (j:=j+1) (λ_ _ _ _ h=>h) hw)
theorem QI:Ak ["net","times","many","thing"] ["net","times","many","thing"] (AS Kc):=by constructor <;> first | rfl | decide +kernel
theorem Qg{f:Addr}{fd:FuncData}(T:Txt K mg)(G_count_of:JD P w K mg base)(G_shows_by:JC P w K mg base)(F:Fun K "shows" "shows" Kc f fd):BA P w K mg base B8 14 f fd ["net","times","many","thing"] (DF K .sh GV 4):=by
 obtain⟨_,g_MOST_CASES⟩:=T.g_MOST_CASES
 obtain⟨_,g_MOST_DEEP⟩:=T.g_MOST_DEEP
 exact Eh F QI (by decide) (λcdv A outer s H E hr=>(AJ (AR (C_ (AH G_shows_by (hr.mono (by decide)) rfl (AA (AG (dv 0)) (AA (AG (dv 1)) (AA (AG (dv 2)) (AA (AG (Az AV)) (AA (AG (Az AV)) (AA (AG (OI rfl g_MOST_DEEP)) (AA (AG (dv 3)) AM)))))))) (C9 (BY Ko OQ (AH G_count_of (hr.mono (by decide)) rfl (AA (AG (dv 3)) AM)) (OI rfl g_MOST_CASES) (AX _))))))) (λss n Pd hl hw=>Mq hw)
theorem sc__law_names:Ak ["_law_names_here"] [] (AS Dl):=by constructor <;> first | rfl | decide +kernel
theorem JS{f:Addr}{fd:FuncData}(T:Txt K mg)(F:Fun K "_law_names" "_law_names" Dl f fd):BA P w K mg base B8 1 f fd [] (DF K .sh Hk 0):=by
 exact Eh F sc__law_names (by decide) (λcdv A outer s H E hr=>(AE (Ah (i:=0) sc__law_names.nd rfl (T0 rfl) (Az (AF Ac (AF Ac (AF Ac (AF Ac (AF Ac (AF Ac (AF Ac (AF Ac (AF Ac (AF Ac (AF Ac (AF Ac (AF Ac (AF Ac (AF Ac (AF Ac (AF Ac AV)))))))))))))))))))
 (AJ (AR (Ad Ae Aq (dv 0) (Az (AF Ac (AF Ac (AF Ac (AF Ac (AF Ac (AF Ac (AF Ac (AF Ac (AF Ac AV))))))))))))))) (λss n Pd hl hw=>JN hw)
theorem sc__law_places:Ak ["_law_feed_here","_law_many","_law_names_here","_law_at","_law_step"] ["_law_feed_here","_law_many"] (AS Cz):=by constructor <;> first | rfl | decide +kernel
theorem IS{f:Addr}{fd:FuncData}(T:Txt K mg)(G__law_names:GQ P w K mg base)(G__law_next:BE P w K mg base)(F:Fun K "_law_places" "_law_places" Cz f fd):BA P w K mg base B8 2 f fd ["_law_feed_here","_law_many"] (DF K .sh GW 2):=by
 exact Eh F sc__law_places (by decide) (λcdv A outer s H E hr=>(AE (Ah (i:=2) sc__law_places.nd rfl (Y2 rfl) (Pa G__law_names (hr.mono (by decide)) rfl))
 (AE (Ah (i:=3) sc__law_places.nd rfl (Y2 rfl) (AH G__law_next (hr.mono (by decide)) rfl (AA (A8 0) (AA (AG AB) AM))))
 (AE (Ah (i:=4) sc__law_places.nd rfl (Y2 rfl) (AW AQ An (Az (AF AB (AF AB (AF AB (AF AB AV))))) (AH G__law_next (hr.mono (by decide)) rfl (AA (A8 0) (AA (AG AB) AM)))))
 (AJ (AR (CO B2 GK rfl T.n_tuple boot_tuple (AN (Ab NP TK rfl T.n_sorted boot_sorted (AN (B1 rfl [("_law_names_here" : Str),("_law_at" : Str),("_law_step" : Str),("_law_k" : Str)] [some 2,some 3,some 4,none] (DI.c (DR rfl T.n_range (AN (dv 1) AU))) (λ_ _ _ _ _=>(Ax (i:=3) (show Y1 [("_law_names_here" : Str),("_law_at" : Str),("_law_step" : Str),("_law_k" : Str)] by decide +kernel) rfl (T0 rfl))) (λ_ _ _ _ _=>CG) (λ_ _ _ _ _=>(AW AQ An (dv 0) (Ad C6 Es (Ad Ae Aq (dv 1) (Ad Bq Cg (dv 2) (dv 3))) AB))) (by kernel_rfl)) AU)) AU)))))))) (λss n Pd hl hw=>ID hw)
theorem Hy:Ak ["_law_feed_here","_law_sort"] ["_law_feed_here","_law_sort"] (AS C0):=by constructor <;> first | rfl | decide +kernel
theorem IT{f:Addr}{fd:FuncData}(T:Txt K mg)(G__law_next:BE P w K mg base)(F:Fun K "_law_length" "_law_length" C0 f fd):BA P w K mg base B8 2 f fd ["_law_feed_here","_law_sort"] (DF K .sh OU 2):=by
 exact Eh F Hy (by decide) (λcdv A outer s H E hr=>(AE (As (Aa B_ E_ (dv 1) AB (AX _)) (AJ (AR (Ad Bb Bz (Ad M6 Es AB AB) (AH G__law_next (hr.mono (by decide)) rfl (AA (A8 0) (AA (AG AB) AM)))))) AZ)
 (AJ (AR (Ad Ae Aq AB (AH G__law_next (hr.mono (by decide)) rfl (AA (A8 0) (AA (AG (AW AQ An (Az (AF AB (AF AB (AF AB AV)))) (dv 1))) AM)))))))) (λss n Pd hl hw=>IE hw)
theorem sc__law_ties:Ak ["_law_feed_here","_law_places_here","_law_most","_law_found","_law_sort","_law_k","_law_a","_law_b"] ["_law_feed_here","_law_places_here","_law_most"] (AS EU):=by constructor <;> first | rfl | decide +kernel
theorem Ku{f:Addr}{fd:FuncData}(T:Txt K mg)(G__law_length:FP P w K mg base)(G__law_next:BE P w K mg base)(F:Fun K "_law_ties" "_law_ties" EU f fd):BA P w K mg base B8 3 f fd ["_law_feed_here","_law_places_here","_law_most"] (DF K .sh LL 3):=by
 exact Eh F sc__law_ties (by decide) (λcdv A outer s H E hr=>(AE (OD (i:=3) sc__law_ties.nd rfl (Y2 rfl) RF)
 (AE (Ah (i:=4) sc__law_ties.nd rfl (T0 rfl) (AH G__law_next (hr.mono (by decide)) rfl (AA (A8 0) (AA (AG AB) AM))))
 (AE (Dz YV rfl (DR rfl T.n_range (AN (AH G__law_next (hr.mono (by decide)) rfl (AA (A8 0) (AA (AG (Ad Ae Aq (dv 2) AB)) AM))) AU)) (Ax (i:=5) sc__law_ties.nd rfl (T0 rfl)) (AJ (As (Aa Dr GL (Ab Ap BN rfl T.n_len PySem.boot_len (AN (dv 1) AU)) AB (AX _)) (AE (Ah (i:=6) sc__law_ties.nd rfl (T0 rfl) (AH G__law_next (hr.mono (by decide)) rfl (AA (A8 0) (AA (AG (Ab Ap BN rfl T.n_len PySem.boot_len (AN (dv 1) AU))) AM))))
 (AE (Ah (i:=7) sc__law_ties.nd rfl (T0 rfl) (Ad C6 Es (Ad Ae Aq (Ad Ae Aq (dv 6) AB) (AH G__law_next (hr.mono (by decide)) rfl (AA (A8 0) (AA (AG (Ad Bb Bz (Ab Ap BN rfl T.n_len PySem.boot_len (AN (dv 1) AU)) AB)) AM)))) (Ab Ap BN rfl T.n_len PySem.boot_len (AN (dv 1) AU))))
 (AJ (S3 (i:=3) hr (pv 3) (A_ (AF (AW AQ An (dv 1) (Ab (J3 rfl) RX rfl T.n_min boot_min (AN (dv 6) (AN (dv 7) AU)))) (AF (AW AQ An (dv 1) (Ab (Pe rfl) VD rfl T.n_max boot_max (AN (dv 6) (AN (dv 7) AU)))) AV))) (AH G__law_length (hr.mono (by decide)) rfl (AA (A8 0) (AA (AG (AW AQ An (Az (AF (dv 4) (AF (Ad C6 Es (dv 5) AB) AV))) (Ad Fz Es (dv 4) AB))) AM))))))) AZ)))
 (AJ (AR (CO B2 GK rfl T.n_tuple boot_tuple (AN (B1 rfl [("_law_found" : Str),("_law_pair" : Str)] [some 3,none] (CH (Ab (NN rfl) TF rfl T.n_sorted boot_sorted (AN (XE 3) AU))) (λ_ _ _ _ _=>(Ax (i:=1) (show Y1 [("_law_found" : Str),("_law_pair" : Str)] by decide +kernel) rfl (T0 rfl))) (λ_ _ _ _ _=>CG) (λ_ _ _ _ _=>(Ad Ae Aq (dv 1) (A_ (AF (S9 hr (XE 0) (dv 1)) AV)))) (by kernel_rfl)) AU)))))))) (λss n Pd hl hw=>Kg hw)
theorem sc__law_net:Ak ["_law_feed_here","_law_most","_law_ties_here","_law_places_here"] ["_law_feed_here","_law_most","_law_ties_here"] (AS FW):=by constructor <;> first | rfl | decide +kernel
theorem Lx{f:Addr}{fd:FuncData}(T:Txt K mg)(G__law_next:BE P w K mg base)(G__law_places:FO P w K mg base)(G__law_ties:HA P w K mg base)(F:Fun K "_law_net" "_law_net" FW f fd):BA P w K mg base B8 4 f fd ["_law_feed_here","_law_most","_law_ties_here"] (DF K .sh OT 3):=by
 exact Eh F sc__law_net (by decide) (λcdv A outer s H E hr=>(AE (Ah (i:=3) sc__law_net.nd rfl (T0 rfl) (AH G__law_places (hr.mono (by decide)) rfl (AA (A8 0) (AA (AG (AH G__law_next (hr.mono (by decide)) rfl (AA (A8 0) (AA (AG (Ad Ae Aq (dv 1) AB)) AM)))) AM))))
 (AJ (AR (A_ (AF (dv 3) (AF (AH G__law_ties (hr.mono (by decide)) rfl (AA (A8 0) (AA (AG (dv 3)) (AA (AG (dv 2)) AM)))) AV))))))) (λss n Pd hl hw=>Lj hw)
theorem sc__law_times:Ak ["_law_feed_here","_law_some"] ["_law_feed_here"] (AS Di):=by constructor <;> first | rfl | decide +kernel
theorem JR{f:Addr}{fd:FuncData}(T:Txt K mg)(G__law_next:BE P w K mg base)(F:Fun K "_law_times" "_law_times" Di f fd):BA P w K mg base B8 2 f fd ["_law_feed_here"] (DF K .sh GU 1):=by
 exact Eh F sc__law_times (by decide) (λcdv A outer s H E hr=>(AE (Ah (i:=1) sc__law_times.nd rfl (T0 rfl) (Az (AF (A_ (AF AB (AF AB AV))) (AF (A_ (AF AB (AF AB AV))) (AF (A_ (AF AB (AF AB AV))) (AF (A_ (AF AB (AF AB AV))) (AF (A_ (AF AB (AF AB AV))) (AF (A_ (AF AB (AF AB AV))) (AF (A_ (AF (Ad M6 Es AB AB) (AF AB AV))) (AF (A_ (AF AB (AF AB AV))) AV))))))))))
 (AJ (AR (AW AQ An (dv 1) (AH G__law_next (hr.mono (by decide)) rfl (AA (A8 0) (AA (AG AB) AM)))))))) (λss n Pd hl hw=>Mp hw)
theorem Xs(n:Nat):-2 ^ 62<=(n:Int):=by omega
theorem Xr{n:Nat}(h:n<=1000):(n:Int)<2 ^ 62:=by omega
theorem sc__law_far:Ak ["_law_places_here","_law_ties_here","_law_many","_law_spans","_law_k","_law_a","_law_b","_law_length_here","_law_mid","_law_by"] ["_law_places_here","_law_ties_here"] (AS FX):=by constructor <;> first | rfl | decide +kernel
theorem Ly{f:Addr}{fd:FuncData}(T:Txt K mg)(F:Fun K "_law_far" "_law_far" FX f fd):BA P w K mg base B8 1 f fd ["_law_places_here","_law_ties_here"] (DF K .sh OV 2):=by
 refine F.ok (k:=0) sc__law_far (λvs H Q E h=>h.1) (λcdv A outer s H vs Q E hr h=>?_)
 obtain⟨hl,F0,U,V',M,n,ss,Pd,ra,⟨N,dt,rfl,hdt,ok,lp,p⟩,q⟩:=h
 obtain⟨dom,fU,uV,vM,fd0,pa⟩:=ra
 cases pa with
 | cons r1 pa =>
 cases pa with
 | cons r2 pa =>
 cases pa
 obtain⟨v,e1,h1⟩:=r1.1
 cases e1
 obtain⟨v2,e2,h2⟩:=r2.1
 cases e2
 rename_i v2
 obtain⟨ap,us,rfl,hpn,hps⟩:=h1
 have nd:=sc__law_far.nd
 have szl:=PySem.sizeLine_eq
 refine⟨_,A3 (Dq (i:=2) nd rfl (Y2 rfl) (Ea Ap rfl T.n_len boot_len (Au (pv 0) BC)))
  (A3 (Nk (i:=3) rfl [("_law_many" : Str),("_law_k" : Str)] [some 2,none] (CL rfl T.n_range (Au (pv 2) BC)) (by kernel_rfl) nd rfl (T0 rfl) rfl)
  (A3 (Gi YV rfl (CL rfl T.n_range (Au (pv 2) BC)) (CF (i:=4) nd rfl (T0 rfl)) (Ba (FZ Av (Fa (BP ix_list (pv 3) (pv 4) (λ_ _=>rfl)) (pv 4) set_list))))
  (A3 (Gi YV rfl (M5 (pv 1)) (Qb rfl (Fx (CF (i:=5) nd rfl (T0 rfl)) (Fx (CF (i:=6) nd rfl (T0 rfl)) (Fx (CF (i:=7) nd rfl (T0 rfl)) Nv))))
   (A3 (FZ (pv 7) (Fa (BP ix_list (pv 3) (IN PySem.F.slot_tuple_index PySem.F.type_tuple_index (IY hr) (pv 0) (Au (pv 5) BC)) (λ_ _=>rfl)) (IN PySem.F.slot_tuple_index PySem.F.type_tuple_index (IY hr) (pv 0) (Au (pv 6) BC)) set_list))
   (Ba (FZ (pv 7) (Fa (BP ix_list (pv 3) (IN PySem.F.slot_tuple_index PySem.F.type_tuple_index (IY hr) (pv 0) (Au (pv 6) BC)) (λ_ _=>rfl)) (IN PySem.F.slot_tuple_index PySem.F.type_tuple_index (IY hr) (pv 0) (Au (pv 5) BC)) set_list)))))
  (A3 (Gi YV rfl (CL rfl T.n_range (Au (pv 2) BC)) (CF (i:=8) nd rfl (T0 rfl)) (Ba
   (Gi YV rfl (CL rfl T.n_range (Au (pv 2) BC)) (CF (i:=5) nd rfl (T0 rfl)) (Ba
   (Gi YV rfl (CL rfl T.n_range (Au (pv 2) BC)) (CF (i:=6) nd rfl (T0 rfl)) (Ba
    (Lp (Mv (CD Fy (BP ix_list (BP ix_list (pv 3) (pv 5) (λ_ _=>rfl)) (pv 8) (λ_ _=>rfl)) IP rfl) (Kk (CD Fy (BP ix_list (BP ix_list (pv 3) (pv 8) (λ_ _=>rfl)) (pv 6) (λ_ _=>rfl)) IP rfl))).pt
     (A3 (Dq (i:=9) nd rfl (T0 rfl) (BS op_add (BP ix_list (BP ix_list (pv 3) (pv 5) (λ_ _=>rfl)) (pv 8) (λ_ _=>rfl)) (BP ix_list (BP ix_list (pv 3) (pv 8) (λ_ _=>rfl)) (pv 6) (λ_ _=>rfl))))
     (Ba (Lp (Th (CD Kp (BP ix_list (BP ix_list (pv 3) (pv 5) (λ_ _=>rfl)) (pv 6) (λ_ _=>rfl)) IP rfl) (QV (CD op_lt (pv 9) (BP ix_list (BP ix_list (pv 3) (pv 5) (λ_ _=>rfl)) (pv 6) (λ_ _=>rfl)) rfl))).pt
      (Ba (FZ (pv 9) (Fa (BP ix_list (pv 3) (pv 5) (λ_ _=>rfl)) (pv 6) set_list))) Fw))) Fw)))))))
  (Ba (Gh (pv 3))))))),?_⟩
 cases (Ng hps)
 have hpn:H ap=some (.tup (N.ps.map .str)):=hpn
 have hln:N.ps.length=(N.ps.map V.str).length:=(Db ..).symm
 refine⟨_,rfl,_,N.ps.length,rfl,.inr ⟨_,SqT.of hpn,hln⟩,?_⟩
 have b1:-2 ^ 62<=(N.ps.length:Int):=Xs _
 have b2:(N.ps.length:Int)<2 ^ 62:=Xr lp
 refine⟨_,rfl,_,rfl,b1,b2,λl hl' hk cl C s' H0 fp=>⟨_,_,_,λi m σ' H'=>i<=N.ps.length/\m=N.ps.length - i/\∃(as:List Addr) (x:Option V),as.length=i/\as.Nodup/\σ'=[some (.int N.ps.length),x]/\Mat H l as N.ps.length (λ_ _=>none) H',
  CF (i:=1) (show Y1 [("_law_many" : Str),("_law_k" : Str)] by decide +kernel) rfl (T0 rfl),Nu,BS UV (Gj (Au IP BC)) (pv 0),⟨N.ps.length,?_⟩,?_⟩⟩
 ·exact⟨YB _,rfl,[],_,rfl,Yz,rfl,λb o e=>by rw [AT (A1 e hl')]; exact e,hl',AY,λi a h=>by cases h⟩
 rintro i m σ' H' ⟨hi,rfl,as,x,hal,hnd,rfl,st⟩
 rw [Yg]
 by_cases hlt:i<N.ps.length
 ·refine .inr ⟨hlt,λy H2 ⟨e1,e2⟩=>?_⟩
  subst e1 e2
  have nl:∀b,H2 b=none->l≠b:=λb e z=>by rw [← z,st.top] at e; cases e
  refine⟨by show 1<=sizeLine; omega,λp' hp=>⟨_,rfl,p',N.ps.length,[.non],rfl,rfl,AY,by omega,by omega,by show 1*_<=_; rw [Yg]; omega,λr hr'=>⟨as.map .ref,?_,?_,N.ps.length - (i+1),by omega,by omega,rfl,as++[r],_,?_,?_,rfl,st.more hp hr' ?_⟩⟩⟩
  ·have nr:l≠r:=λz=>by rw [← z,AT (nl p' hp),st.top] at hr'; cases hr'
   rw [AT nr,AT (nl p' hp)]
   exact st.top
  ·rw [Db]; omega
  ·rw [Rs,X9,hal]
  ·have hn:H2 r=none:=by
    have:r≠p':=λz=>by rw [z,AY] at hr'; cases hr'
    rwa [AT this] at hr'
   rw [ZX]
   refine⟨hnd,YX.mpr ⟨YG,Yz⟩,λa ha b hb e=>?_⟩
   rw [X7.mp hb] at e
   rw [e] at ha
   exact st.fresh hn ha
  ·rw [Yg,List.flatten_replicate_singleton]
   unfold Ft
   show (YN N.ps.length).map (λ_=>V.non)=_
   rw [List.map_const',Yo]
 ·have e:i=N.ps.length:=by omega
  refine .inl ⟨show N.ps.length<=i by omega,?_⟩
  rw [e] at hal
  clear hlt e hi
  obtain⟨at_,ws,rfl,hts,hJ⟩:∃(at_:Addr) (ws:List V),v2=.ref at_/\Ats K M H (N.ts.map Am) ws/\(H at_=some (.lst ws)\/H at_=some (.tup ws)):=by
   rcases hdt with rfl | rfl
   ·obtain⟨a,us,rfl,⟨_,h⟩,hs⟩:=h2
    exact⟨a,us,rfl,hs,.inl h⟩
   ·obtain⟨a,us,rfl,h,hs⟩:=h2
    exact⟨a,us,rfl,hs,.inr h⟩
  have lws:ws.length=N.ts.length:=by rw [hts.length,Db]
  refine⟨_,rfl,_,rfl,b1,b2,?_⟩
  refine E1 (lo:=0) (n:=N.ps.length) (λk σ H'=>∃(x4 x5 x6 x7 x8 x9:Option V) (g:Mx),σ=[some (.ref ap),some (.ref at_),some (.int N.ps.length),some (.ref l),x4,x5,x6,x7,x8,x9]/\Mat H l as N.ps.length g H'/\Dg N k g) ⟨_,_,_,_,_,_,_,rfl,st,Dg.zero⟩ ?_ ?_
  ·rintro k σ H' hk ⟨x4,x5,x6,x7,x8,x9,g,rfl,st,dg⟩
   refine st.wr hal hnd hk hk (λQ q=>st.row hal hk rfl (λQ q=>⟨_,rfl,?_⟩) q) (λQ q=>⟨_,rfl,?_⟩) λH3 st3=>⟨_,_,_,_,_,_,_,rfl,st3,dg.succ hk⟩
   ·rw [Yw]; exact q
   ·rw [Yw]; exact q
  rintro σ H' ⟨x4,x5,x6,x7,x8,x9,g,rfl,st,dg⟩
  obtain⟨J,hJ⟩:∃J:It,(J=Rl K at_/\∀H':Hp,(∀b o,H b=some o->H' b=some o)->SqL K H' at_ ws)\/(J=Rk K at_/\∀H':Hp,(∀b o,H b=some o->H' b=some o)->SqT K H' at_ ws):=by
   rcases hJ with h | h
   ·exact⟨_,.inl ⟨rfl,λH' o=>SqL.of (o _ _ h)⟩⟩
   ·exact⟨_,.inr ⟨rfl,λH' o=>SqT.of (o _ _ h)⟩⟩
  unfold Me
  dsimp only
  refine QC (i:=1) (J:=J) (xs:=ws) rfl (λi σ H'=>∃(x4 x5 x6 x7 x8 x9:Option V) (g:Mx),σ=[some (.ref ap),some (.ref at_),some (.int N.ps.length),some (.ref l),x4,x5,x6,x7,x8,x9]/\Mat H l as N.ps.length g H'/\Tm N (N.ts.take i) g) ⟨_,_,_,_,_,_,_,rfl,st,dg.tm⟩
   (hJ.imp (λh=>⟨h.1,λi σ H' z=>h.2 _ (by obtain⟨_,_,_,_,_,_,_,_,st,_⟩:=z; exact st.old)⟩) λh=>⟨h.1,λi σ H' z=>h.2 _ (by obtain⟨_,_,_,_,_,_,_,_,st,_⟩:=z; exact st.old)⟩) ?_ ?_
  ·rintro i x σ H' hx ⟨x4,x5,x6,x7,x8,x9,g,rfl,st,tm⟩
   have hi:i<N.ts.length:=by rw [← lws]; exact(X4.mp hx).1
   obtain⟨x',hx',hAt⟩:=hts.get (i:=i) (d:=Am N.ts[i]) (by rw [On,FM hi]; rfl)
   rw [hx] at hx'
   cases hx'
   have hmem:N.ts[i]∈N.ts:=ZL hi
   have hsnoc:N.ts.take (i+1)=N.ts.take i++[N.ts[i]]:=by rw [List.take_succ,FM hi]; rfl
   have hpre:(N.ts.take (i+1)).Pairwise Ej:=ok.trise.sublist (List.take_sublist _ _)
   rw [hsnoc] at hpre
   have hin:∀s∈N.ts.take i,s∈N.ts:=λs hs=>List.mem_of_mem_take hs
   generalize N.ts[i]=t at hAt hmem hsnoc hpre
   obtain⟨m1,m2,m3,_⟩:=ok.tin t hmem
   obtain⟨ia,ha,la⟩:=Ih m1
   obtain⟨ib,hb,lb⟩:=Ih m2
   obtain⟨tt,us3,rfl,htt,hit⟩:=hAt
   obtain⟨va,r3,rfl,⟨rfl,_⟩,vb,r4,rfl,⟨rfl,_⟩,vl,r5,rfl,rfl,e5⟩:=hit
   cases (show r5=[] from e5)
   refine⟨tt,_,rfl,SqT.of (st.old _ _ htt),rfl,_,_,rfl,_,_,rfl,_,_,rfl,rfl,?_⟩
   refine⟨_,rfl,st.wr hal hnd la lb (λQ q=>st.row hal la rfl (Nc ok (st.old _ _ hpn) rfl rfl ha) q) (Nc ok (st.old _ _ hpn) rfl rfl hb) λH3 st3=>?_⟩
   refine⟨_,rfl,st3.wr hal hnd lb la (λQ q=>st3.row hal lb rfl (Nc ok (st3.old _ _ hpn) rfl rfl hb) q) (Nc ok (st3.old _ _ hpn) rfl rfl ha) λH4 st4=>?_⟩
   refine⟨_,_,_,_,_,_,_,rfl,st4,?_⟩
   rw [hsnoc]
   exact tm.put ok hmem hpre hin ha hb
  rintro σ H' ⟨x4,x5,x6,x7,x8,x9,g,rfl,st,tm⟩
  rw [lws,List.take_length] at tm
  refine⟨_,rfl,_,rfl,b1,b2,?_⟩
  refine E1 (lo:=0) (n:=N.ps.length) (λm σ H'=>∃(x4 x5 x6 x7 x8 x9:Option V) (g:Mx),σ=[some (.ref ap),some (.ref at_),some (.int N.ps.length),some (.ref l),x4,x5,x6,x7,x8,x9]/\Mat H l as N.ps.length g H'/\Fm (EI N) (AI N) N.ps.length m g) ⟨_,_,_,_,_,_,_,rfl,st,tm.fm ok⟩ ?_ ?_
  ·rintro m σ H' hm ⟨x4,x5,x6,x7,x8,x9,g0,rfl,st,fm⟩
   refine⟨_,rfl,_,rfl,b1,b2,?_⟩
   refine E1 (lo:=0) (n:=N.ps.length) (λa σ H'=>∃(x5 x6 x9:Option V) (g:Mx),σ=[some (.ref ap),some (.ref at_),some (.int N.ps.length),some (.ref l),x4,x5,x6,x7,some (.int (0+(m:Int))),x9]/\Mat H l as N.ps.length g H'/\Rm (AI N) N.ps.length m g0 a 0 g) ⟨_,_,_,_,rfl,st,fm.start⟩ ?_ ?_
   ·rintro a σ H' ha ⟨x5,x6,x9,g,rfl,st,rm⟩
    refine⟨_,rfl,_,rfl,b1,b2,?_⟩
    refine E1 (lo:=0) (n:=N.ps.length) (λb σ H'=>∃(x6 x9:Option V) (g:Mx),σ=[some (.ref ap),some (.ref at_),some (.int N.ps.length),some (.ref l),x4,some (.int (0+(a:Int))),x6,x7,some (.int (0+(m:Int))),x9]/\Mat H l as N.ps.length g H'/\Rm (AI N) N.ps.length m g0 a b g) ⟨_,_,_,rfl,st,rm⟩ ?_ ?_
    ·rintro b σ H' hb ⟨x6,x9,g,rfl,st,rm⟩
     have z:=λk:Nat=>Yw (k:Int)
     rcases c1:g a m with _ | x
     ·refine st.rd2 hal ha hm rfl rfl (z _) rfl (z _) c1 ⟨rfl,_,rfl,EH (λc=>absurd c (by simp [ov])) λ_=>EH (λc=>absurd c (by decide)) λ_=>⟨_,_,_,rfl,st,rm.skip λd1 d2 e1 e2=>?_⟩⟩
      rw [c1] at e1; cases e1
     refine st.rd2 hal ha hm rfl rfl (z _) rfl (z _) c1 ⟨rfl,_,rfl,EH (λ_=>?_) λc=>absurd (show (!decide (ov (some x)=V.non))=true by simp [ov]) c⟩
     rcases c2:g m b with _ | y
     ·refine st.rd2 hal hm hb rfl rfl (z _) rfl (z _) c2 ⟨rfl,_,rfl,EH (λc=>absurd c (by simp [ov])) λ_=>⟨_,_,_,rfl,st,rm.skip λd1 d2 e1 e2=>?_⟩⟩
      rw [c2] at e2; cases e2
     refine st.rd2 hal hm hb rfl rfl (z _) rfl (z _) c2 ⟨rfl,_,rfl,EH (λ_=>?_) λc=>absurd (show (!decide (ov (some y)=V.non))=true by simp [ov]) c⟩
     refine st.rd2 hal ha hm rfl rfl (z _) rfl (z _) c1 (st.rd2 hal hm hb rfl rfl (z _) rfl (z _) c2 ⟨x,y,rfl,rfl,?_⟩)
     rcases c3:g a b with _ | u
     ·refine st.rd2 hal ha hb rfl rfl (z _) rfl (z _) c3 ⟨rfl,_,rfl,EH (λ_=>EH (λ_=>?_) λc=>absurd rfl c) λc=>absurd (show decide (ov none=V.non)=true by simp [ov]) c⟩
      refine⟨_,rfl,st.wr hal hnd ha hb (λQ q=>st.row hal ha rfl (λQ q=>⟨_,rfl,by rw [Yw]; exact q⟩) q) (λQ q=>⟨_,rfl,by rw [Yw]; exact q⟩) λH3 st3=>⟨_,_,_,rfl,st3,rm.put AI.trans c1 c2 λv e=>?_⟩⟩
      rw [c3] at e; cases e
     refine st.rd2 hal ha hb rfl rfl (z _) rfl (z _) c3 ⟨rfl,_,rfl,EH (λc=>absurd c (by simp [ov])) λ_=>?_⟩
     refine⟨_,rfl,st.rd2 hal ha hb rfl rfl (z _) rfl (z _) c3 ⟨x+y,u,rfl,rfl,_,rfl,EH (λc=>?_) λc=>?_⟩⟩
     ·have c:=of_decide_eq_true c
      refine⟨_,rfl,st.wr hal hnd ha hb (λQ q=>st.row hal ha rfl (λQ q=>⟨_,rfl,by rw [Yw]; exact q⟩) q) (λQ q=>⟨_,rfl,by rw [Yw]; exact q⟩) λH3 st3=>⟨_,_,_,rfl,st3,rm.put AI.trans c1 c2 λv e=>?_⟩⟩
      rw [c3] at e; cases e; omega
     ·have c:¬x+y<u:=λz=>c (decide_eq_true z)
      refine⟨_,_,_,rfl,st,rm.skip λd1 d2 e1 e2=>⟨u,c3,?_⟩⟩
      rw [c1] at e1; rw [c2] at e2; cases e1; cases e2; omega
    ·rintro σ H' ⟨x6,x9,g,rfl,st,rm⟩
     exact⟨_,_,_,_,rfl,st,rm.next⟩
   ·rintro σ H' ⟨x5,x6,x9,g,rfl,st,rm⟩
    exact⟨_,_,_,_,_,_,_,rfl,st,rm.done (EI.pos ok) hm fm⟩
  rintro σ H' ⟨x4,x5,x6,x7,x8,x9,g,rfl,st,fm⟩
  refine⟨_,rfl,q (.ref l) H' (K0 N.ps (ofM N.ps g)) n (λb o e=>⟨o,st.old b o e,λ_=>rfl,λ_ _=>rfl⟩) (λg' hg=>?_) (show At K M H' (K0 N.ps (ofM N.ps g)) (.ref l) from st.at_ dom hal (Fu ok.rise)) (p _ (fm.far ok))⟩
  rcases fd0 g' hg with ⟨tg,a,r,cells,hf,hcf,hc,rest⟩ | ⟨ks',ds',vs',tg,r,hf,h2,h3,h4⟩
  ·exact .inl ⟨tg,a,r,cells,st.old _ _ hf,hcf,⟨hc.1,st.old _ _ hc.2⟩,rest⟩
  ·exact .inr ⟨ks',ds',vs',tg,r,st.old _ _ hf,h2,h3.pres ⟨λb o e _=>st.old b o e,λ_ z=>.inl z,λb vs e=>st.old b _ e⟩,h4⟩
theorem sc__law_keeps:Ak ["_law_net_here","_law_times_here","_law_some","_law_spans","_law_a","_law_b","_law_length_here","_law_by"] ["_law_net_here","_law_times_here","_law_some"] (AS Do):=by constructor <;> first | rfl | decide +kernel
theorem JU{f:Addr}{fd:FuncData}(T:Txt K mg)(G__law_far:Fh P w K mg base)(F:Fun K "_law_keeps" "_law_keeps" Do f fd):BA P w K mg base B8 2 f fd ["_law_net_here","_law_times_here","_law_some"] (DF K .sh GZ 3):=by
 exact Eh F sc__law_keeps (by decide) (λcdv A outer s H E hr=>(AE (Ah (i:=3) sc__law_keeps.nd rfl (T0 rfl) (AH G__law_far (hr.mono (by decide)) rfl (AA (AG (AW AQ An (dv 0) AB)) (AA (AG (dv 2)) AM))))
 (AE (Dz YV rfl (Iu (AW AQ An (dv 0) AB)) (NK rfl (Bs (Ax (i:=4) sc__law_keeps.nd rfl (T0 rfl)) (Bs (Ax (i:=5) sc__law_keeps.nd rfl (T0 rfl)) (Bs (Ax (i:=6) sc__law_keeps.nd rfl (T0 rfl)) K_)))) (AE (Ah (i:=7) sc__law_keeps.nd rfl (T0 rfl) (AW AQ An (AW AQ An (dv 3) (Gv hr (AW AQ An (dv 0) AB) (AN (dv 4) AU))) (Gv hr (AW AQ An (dv 0) AB) (AN (dv 5) AU))))
 (AJ (As (DTW.dt (BQ (Aa Kp RZ (dv 7) Ce (AX _)) (BM (Aa Dr GL (Ad Bq Cg (dv 7) (AW AQ An (dv 1) AB)) (Ad Bq Cg (dv 6) (AW AQ An (dv 1) AB)) (AX _))))) (AJ (AR BH)) AZ))))
 (AJ (AR BH))))) (λss n Pd hl hw=>Mt hw)
theorem sc__law_choices:Ak ["_law_ties_here","_law_many","_law_found","_law_k","_law_longer","_law_row","_law_begin"] ["_law_ties_here","_law_many"] (AS CW):=by constructor <;> first | rfl | decide +kernel
theorem HJ{f:Addr}{fd:FuncData}(T:Txt K mg)(F:Fun K "_law_choices" "_law_choices" CW f fd):BA P w K mg base B8 1 f fd ["_law_ties_here","_law_many"] (DF K .fr D5 2):=by
 exact Eh F sc__law_choices (by decide) (λcdv A outer s H E hr=>(AE (Ah (i:=2) sc__law_choices.nd rfl (T0 rfl) (Az (AF (A_ AV) AV)))
 (AE (Dz YV rfl (DR rfl T.n_range (AN (dv 1) AU)) (Ax (i:=3) sc__law_choices.nd rfl (T0 rfl)) (AE (OD (i:=4) sc__law_choices.nd rfl (T0 rfl) (Az AV))
 (AE (Dz YV rfl (Iu (dv 2)) (Ax (i:=5) sc__law_choices.nd rfl (Y2 rfl)) (AE (Ah (i:=6) sc__law_choices.nd rfl (T0 rfl) (OH (Aa (M7 hr) RW (dv 5) (A_ AV) (AX _)) (Ad Ae Aq (AW AQ An (dv 5) (U1 AB)) AB) AB))
 (AJ (WF 4 PySem.F.plainAttrs_list PySem.F.slot_list_extend PySem.F.type_list_extend O6 WM (pv 4) (AF (B1 rfl [("_law_row" : Str),("_law_at" : Str)] [some 5,none] (DI.c (PY rfl T.n_range (AN (dv 6) (AN (Ab Ap BN rfl T.n_len PySem.boot_len (AN (dv 0) AU)) AU)))) (λ_ _ _ _ _=>(Ax (i:=1) (show Y1 [("_law_row" : Str),("_law_at" : Str)] by decide +kernel) rfl (T0 rfl))) (λ_ _ _ _ _=>CG) (λ_ _ _ _ _=>(Ad Ae Aq (dv 0) (A_ (AF (dv 1) AV)))) (by kernel_rfl)) AV)))))
 (S2 4 (AJ (Ah (i:=2) sc__law_choices.nd rfl (T0 rfl) (dv 4)))))))
 (AJ (AR (B1 rfl [("_law_ties_here" : Str),("_law_row" : Str)] [some 0,none] (CH (dv 2)) (λ_ _ _ _ _=>(Ax (i:=1) (show Y1 [("_law_ties_here" : Str),("_law_row" : Str)] by decide +kernel) rfl (T0 rfl))) (λ_ _ _ _ _=>CG) (λ_ _ _ _ _=>(B1 rfl [("_law_ties_here" : Str),("_law_at" : Str)] [some 0,none] (CH (dv 1)) (λ_ _ _ _ _=>(Ax (i:=1) (show Y1 [("_law_ties_here" : Str),("_law_at" : Str)] by decide +kernel) rfl (T0 rfl))) (λ_ _ _ _ _=>CG) (λ_ _ _ _ _=>(AW AQ An (dv 0) (dv 1))) (by kernel_rfl))) (by kernel_rfl))))))) (λss n Pd hl hw=>Kj hw)
theorem sc__law_least:Ak ["_law_net_here","_law_times_here","_law_many"] ["_law_net_here","_law_times_here"] (AS Dn):=by constructor <;> first | rfl | decide +kernel
theorem JT{f:Addr}{fd:FuncData}(T:Txt K mg)(G__law_choices:Ex P w K mg base)(G__law_keeps:GS P w K mg base)(F:Fun K "_law_least" "_law_least" Dn f fd):BA P w K mg base B8 3 f fd ["_law_net_here","_law_times_here"] (DF K .sh GY 2):=by
 exact Eh F sc__law_least (by decide) (λcdv A outer s H E hr=>(AE (Ah (i:=2) sc__law_least.nd rfl (T0 rfl) AB)
 (AE (RA YV (Aa (CM hr) Ct BH (B1 rfl [("_law_net_here" : Str),("_law_times_here" : Str),("_law_some" : Str)] [some 0,some 1,none] (CH (AH G__law_choices (hr.mono (by decide)) rfl (AA (AG (CO D0 OP rfl T.n_list boot_list (AN (AW AQ An (dv 0) AB) AU))) (AA (AG (dv 2)) AM)))) (λ_ _ _ _ _=>(Ax (i:=2) (show Y1 [("_law_net_here" : Str),("_law_times_here" : Str),("_law_some" : Str)] by decide +kernel) rfl (T0 rfl))) (λ_ _ _ _ _=>CG) (λ_ _ _ _ _=>(AH G__law_keeps (hr.mono (by decide)) rfl (AA (AG (dv 0)) (AA (AG (dv 1)) (AA (AG (dv 2)) AM))))) (by kernel_rfl)) (by with_unfolding_all rfl)) (AJ (Ah (i:=2) sc__law_least.nd rfl (T0 rfl) (Ad Ae Aq (dv 2) AB))))
 (AJ (AR (dv 2)))))) (λss n Pd hl hw=>Mr hw)
theorem Hz:Ak ["_law_net_here","_law_thing"] ["_law_net_here","_law_thing"] (AS C1):=by constructor <;> first | rfl | decide +kernel
theorem IU{f:Addr}{fd:FuncData}(T:Txt K mg)(F:Fun K "_law_is_tie" "_law_is_tie" C1 f fd):BA P w K mg base B8 1 f fd ["_law_net_here","_law_thing"] (DF K .sh Dd 2):=by
 exact Eh F Hz (by decide) (λcdv A outer s H E hr=>(AE (As (DTW.dt (BQ (BJ (A4 (Cd kit_tuple (dv 1) rfl T.n_isinstance rfl T.n_tuple (by decide +kernel)))) (BQ (Aa Ec JA (Ab Ap BN rfl T.n_len PySem.boot_len (AN (dv 1) AU)) AB (AX _)) (BM (A4 (Cd F8 (AW AQ An (dv 1) AB) rfl T.n_isinstance rfl T.n_bool (by decide +kernel))))))) (AJ (AR BH)) AZ)
 (AJ (AR (BY (Ee hr) Ct (dv 1) (AW AQ An (dv 0) AB) (by with_unfolding_all rfl)))))) (λss n Pd hl hw=>HG hw)
theorem sc__law_is_far:Ak ["_law_world","_law_gone","_law_tie","_law_prices_here","_law_net_here","_law_price","_law_by","_law_a","_law_b","_law_length_here","_law_apart"] ["_law_world","_law_gone","_law_tie","_law_prices_here"] (AS C2):=by constructor <;> first | rfl | decide +kernel
theorem IV{f:Addr}{fd:FuncData}(T:Txt K mg)(G__law_is_tie:DA P w K mg base)(F:Fun K "_law_is_far" "_law_is_far" C2 f fd):BA P w K mg base B8 2 f fd ["_law_world","_law_gone","_law_tie","_law_prices_here"] (DF K .sh Hl 4):=by
 exact Eh F sc__law_is_far (by decide) (λcdv A outer s H E hr=>(AE (Ah (i:=4) sc__law_is_far.nd rfl (T0 rfl) (Cc hr (pv 0) Ac))
 (AE (As (DTW.dt (BQ (BJ (A4 (AH G__law_is_tie (hr.mono (by decide)) rfl (AA (AG (dv 4)) (AA (AG (dv 2)) AM))))) (BM (Aa (CM hr) Ct (dv 2) (dv 1) (by with_unfolding_all rfl))))) (AJ (AR BH)) AZ)
 (AE (As (DTW.dt (BQ (BJ (A4 (Cd kit_tuple (dv 3) rfl T.n_isinstance rfl T.n_tuple (by decide +kernel)))) (BM (Aa Ec JA (Ab Ap BN rfl T.n_len PySem.boot_len (AN (dv 3) AU)) (Ab Ap BN rfl T.n_len PySem.boot_len (AN (AW AQ An (dv 4) AB) AU)) (AX _))))) (AJ (AR BH)) AZ)
 (AE (Dz YV rfl (Iu (dv 3)) (Ax (i:=5) sc__law_is_far.nd rfl (T0 rfl)) (AJ (As (DTW.dt (BQ (A4 (Cd F8 (dv 5) rfl T.n_isinstance rfl T.n_bool (by decide +kernel))) (BQ (BJ (A4 (Cd N4 (dv 5) rfl T.n_isinstance rfl T.n_int (by decide +kernel)))) (BM (Aa (M8 hr) RY (dv 5) AB (AX _)))))) (AJ (AR BH)) AZ)))
 (AE (Ah (i:=6) sc__law_is_far.nd rfl (T0 rfl) (PZ rfl (AN (AW AQ An (dv 4) AB) (AN (dv 3) AU)) rfl T.n_dict rfl T.n_zip))
 (AE (Dz YV rfl (Iu (AW AQ An (dv 4) AB)) (NK rfl (Bs (Ax (i:=7) sc__law_is_far.nd rfl (T0 rfl)) (Bs (Ax (i:=8) sc__law_is_far.nd rfl (T0 rfl)) (Bs (Ax (i:=9) sc__law_is_far.nd rfl (T0 rfl)) K_)))) (AJ (As (DTW.dt (NH (Aa (CM hr) Ct (A_ (AF (dv 7) (AF (dv 8) (AF (dv 9) AV)))) (dv 1) (by with_unfolding_all rfl)) (K8 (Aa Dr GL (Ab Iz Rb rfl T.n_abs boot_abs (AN (Ad Bb Bz (CI hr (dv 6) (dv 7)) (CI hr (dv 6) (dv 8))) AU)) (dv 9) (AX _))))) (AJ (AR BH)) AZ)))
 (AE (Ah (i:=10) sc__law_is_far.nd rfl (T0 rfl) (Ab Iz Rb rfl T.n_abs boot_abs (AN (Ad Bb Bz (CI hr (dv 6) (AW AQ An (dv 2) AB)) (CI hr (dv 6) (AW AQ An (dv 2) AB))) AU)))
 (AJ (AR (BY Dr GL (Ad Bq Cg (dv 10) (AW AQ An (Cc hr (pv 0) Ac) AB)) (Ad Bq Cg (AW AQ An (dv 2) AB) (AW AQ An (Cc hr (pv 0) Ac) AB)) (AX _)))))))))))) (λss n Pd hl hw=>HH hw)
theorem sc__law_shows:Ak ["_law_world","_law_kept","_law_gone","_law_thing","_law_deep","_law_tie"] ["_law_world","_law_kept","_law_gone","_law_thing","_law_deep"] (AS Dk):=by constructor <;> first | rfl | decide +kernel
theorem FD{f:Addr}{fd:FuncData}(T:Txt K mg)(G__law_is_far:FQ P w K mg base)(G__law_is_tie:DA P w K mg base)(F:Fun K "_law_shows" "_law_shows" Dk f fd)(m:mg "_law_shows"=some (.ref f))(b:Binds K fd ["_law_world","_law_kept","_law_gone","_law_thing","_law_deep"] []):∀j,BA P w K mg base B8 (3+j) f fd ["_law_world","_law_kept","_law_gone","_law_thing","_law_deep"] (DF K .sh (CP j) 5)
 | 0=>by
  have G__law_shows:Got P w K mg base "_law_shows" 2 ["_law_world","_law_kept","_law_gone","_law_thing","_law_deep"] .sh (λ_ _ _=>False):=Dy F m b (λ_ _ _ h=>h.elim) (F.ok (k:=1) sc__law_shows (λvs H Q E h=>h.1) (λcdv A outer s H vs Q E hr h=>by obtain⟨_,_,_,_,_,_,_,_,_,hw,_⟩:=h; exact hw.elim))
  exact Eh (k:=2) F sc__law_shows (by decide) (λcdv A outer s H E hr=>(AE (OE hr (pv 0) (Ad Bb Bz (Hd hr (pv 0)) AB))
 (AE (As (DTW.dt (BQ (Aa (M8 hr) RY (Hd hr (pv 0)) AB (AX _)) (BM (Aa Dr GL (dv 4) AB (AX _))))) (AJ (AR BH)) AZ)
 (AE (As (DTW.dt (BQ (BJ (A4 (Cd kit_tuple (dv 3) rfl T.n_isinstance rfl T.n_tuple (by decide +kernel)))) (BM (Aa B_ E_ (Ab Ap BN rfl T.n_len PySem.boot_len (AN (dv 3) AU)) AB (AX _))))) (AJ (AR BH)) AZ)
 (AE (As (Aa B_ E_ (AW AQ An (dv 3) AB) Ac (AX _)) (AJ (AR (C_ (BY B_ E_ (Ab Ap BN rfl T.n_len PySem.boot_len (AN (dv 3) AU)) AB (AX _)) (C9 (BY Fb JB (Ab Ap BN rfl T.n_len PySem.boot_len (AN (dv 1) AU)) (Cc hr (pv 0) Ac) (AX _)))))) AZ)
 (AE (As (Aa B_ E_ (AW AQ An (dv 3) AB) Ac (AX _)) (AJ (AR (C_ (BY B_ E_ (Ab Ap BN rfl T.n_len PySem.boot_len (AN (dv 3) AU)) AB (AX _)) (C9 (AH G__law_is_far (hr.mono (by omega)) rfl (AA (DU 0) (AA (AG (dv 2)) (AA (AG (AW AQ An (dv 3) AB)) (AA (AG (AW AQ An (dv 3) AB)) AM))))))))) AZ)
 (AE (As (DTW.dt (BQ (Aa Ec JA (AW AQ An (dv 3) AB) Ac (AX _)) (BQ (Aa Ec JA (Ab Ap BN rfl T.n_len PySem.boot_len (AN (dv 3) AU)) AB (AX _)) (BM (BJ (A4 (AH G__law_is_tie (hr.mono (by omega)) rfl (AA (AG (Cc hr (pv 0) Ac)) (AA (AG (AW AQ An (dv 3) AB)) AM))))))))) (AJ (AR BH)) AZ)
 (AE (Ah (i:=5) sc__law_shows.nd rfl (T0 rfl) (AW AQ An (dv 3) AB))
 (AE (As (Aa (Ee hr) Ct (dv 5) (Ad Ae Aq (dv 1) (dv 2)) (by with_unfolding_all rfl)) (AJ (AR BH)) AZ)
 (AE (As (BJ (A4 (AH G__law_shows (hr.mono (No _)) rfl (AA (DU 0) (AA (AG (Ad Ae Aq (dv 1) (Az (AF (dv 5) AV)))) (AA (AG (dv 2)) (AA (AG (AW AQ An (dv 3) AB)) (AA (AG (Ad Ae Aq (dv 4) AB)) AM)))))))) (AJ (AR BH)) AZ)
 (AJ (AR (AH G__law_shows (hr.mono (No _)) rfl (AA (DU 0) (AA (AG (dv 1)) (AA (AG (Ad Ae Aq (dv 2) (Az (AF (dv 5) AV)))) (AA (AG (AW AQ An (dv 3) AB)) (AA (AG (Ad Ae Aq (dv 4) AB)) AM)))))))))))))))))) (λss n Pd hl hw=>EZ (λ_ _ _ h _=>absurd rfl h) hw)
 | j+1=>by
  have G__law_shows:Got P w K mg base "_law_shows" (3+j) ["_law_world","_law_kept","_law_gone","_law_thing","_law_deep"] .sh (CP j):=Dy F m b (λ_ _ _ h=>by obtain⟨_,_,_,_,_,_,_,_,e,_⟩:=h; rw [e]; rfl) (FD T G__law_is_far G__law_is_tie F m b j)
  exact Eh (k:=3+j) F sc__law_shows (by decide) (λcdv A outer s H E hr=>(AE (OE hr (pv 0) (Ad Bb Bz (Hd hr (pv 0)) AB))
 (AE (As (DTW.dt (BQ (Aa (M8 hr) RY (Hd hr (pv 0)) AB (AX _)) (BM (Aa Dr GL (dv 4) AB (AX _))))) (AJ (AR BH)) AZ)
 (AE (As (DTW.dt (BQ (BJ (A4 (Cd kit_tuple (dv 3) rfl T.n_isinstance rfl T.n_tuple (by decide +kernel)))) (BM (Aa B_ E_ (Ab Ap BN rfl T.n_len PySem.boot_len (AN (dv 3) AU)) AB (AX _))))) (AJ (AR BH)) AZ)
 (AE (As (Aa B_ E_ (AW AQ An (dv 3) AB) Ac (AX _)) (AJ (AR (C_ (BY B_ E_ (Ab Ap BN rfl T.n_len PySem.boot_len (AN (dv 3) AU)) AB (AX _)) (C9 (BY Fb JB (Ab Ap BN rfl T.n_len PySem.boot_len (AN (dv 1) AU)) (Cc hr (pv 0) Ac) (AX _)))))) AZ)
 (AE (As (Aa B_ E_ (AW AQ An (dv 3) AB) Ac (AX _)) (AJ (AR (C_ (BY B_ E_ (Ab Ap BN rfl T.n_len PySem.boot_len (AN (dv 3) AU)) AB (AX _)) (C9 (AH G__law_is_far (hr.mono (by omega)) rfl (AA (DU 0) (AA (AG (dv 2)) (AA (AG (AW AQ An (dv 3) AB)) (AA (AG (AW AQ An (dv 3) AB)) AM))))))))) AZ)
 (AE (As (DTW.dt (BQ (Aa Ec JA (AW AQ An (dv 3) AB) Ac (AX _)) (BQ (Aa Ec JA (Ab Ap BN rfl T.n_len PySem.boot_len (AN (dv 3) AU)) AB (AX _)) (BM (BJ (A4 (AH G__law_is_tie (hr.mono (by omega)) rfl (AA (AG (Cc hr (pv 0) Ac)) (AA (AG (AW AQ An (dv 3) AB)) AM))))))))) (AJ (AR BH)) AZ)
 (AE (Ah (i:=5) sc__law_shows.nd rfl (T0 rfl) (AW AQ An (dv 3) AB))
 (AE (As (Aa (Ee hr) Ct (dv 5) (Ad Ae Aq (dv 1) (dv 2)) (by with_unfolding_all rfl)) (AJ (AR BH)) AZ)
 (AE (As (BJ (A4 (AH G__law_shows (hr.mono (No _)) rfl (AA (DU 0) (AA (AG (Ad Ae Aq (dv 1) (Az (AF (dv 5) AV)))) (AA (AG (dv 2)) (AA (AG (AW AQ An (dv 3) AB)) (AA (AG (Ad Ae Aq (dv 4) AB)) AM)))))))) (AJ (AR BH)) AZ)
 (AJ (AR (AH G__law_shows (hr.mono (No _)) rfl (AA (DU 0) (AA (AG (dv 1)) (AA (AG (Ad Ae Aq (dv 2) (Az (AF (dv 5) AV)))) (AA (AG (AW AQ An (dv 3) AB)) (AA (AG (Ad Ae Aq (dv 4) AB)) AM)))))))))))))))))) (λss n Pd hl hw=>EZ (j:=j+1) (λ_ _ _ _ h=>h) hw)
theorem Fq:Ak ["_law_net_here","_law_times_here","_law_many","_law_thing"] ["_law_net_here","_law_times_here","_law_many","_law_thing"] (AS Bv):=by constructor <;> first | rfl | decide +kernel
theorem F2{f:Addr}{fd:FuncData}(T:Txt K mg)(G__law_shows:GP P w K mg base)(F:Fun K "_law_read_case" "_law_read_case" Bv f fd):BA P w K mg base B8 11 f fd ["_law_net_here","_law_times_here","_law_many","_law_thing"] (DF K .sh GX 4):=by
 exact Eh F Fq (by decide) (λcdv A outer s H E hr=>(AJ (AR (RH G__law_shows (hr.mono (by decide)) rfl (pv 0) (pv 1) (pv 2) (pv 3) UY (by decide))))) (λss n Pd hl hw=>FY hw)
theorem sc__law_prices:Ak ["_law_feed_here","_law_world","_law_spans","_law_tie","_law_places_here","_law_times_here","_law_least_here","_law_side","_law_more","_law_row","_law_prices_here","_law_apart"] ["_law_feed_here","_law_world","_law_spans","_law_tie"] (AS Cy):=by constructor <;> first | rfl | decide +kernel
theorem IR{f:Addr}{fd:FuncData}(T:Txt K mg)(G__law_next:BE P w K mg base)(F:Fun K "_law_prices" "_law_prices" Cy f fd):BA P w K mg base B8 2 f fd ["_law_feed_here","_law_world","_law_spans","_law_tie"] (DF K .sh D4 4):=by
 exact Eh F sc__law_prices (by decide) (λcdv A outer s H E hr=>(AE (Ux (i:=4) (j:=5) rfl sc__law_prices.nd rfl rfl (by decide) rfl rfl (AF (AW AQ An (CI hr (dv 1) Ac) AB) (AF (CI hr (dv 1) Ac) AV)) rfl)
 (AE (Ah (i:=6) sc__law_prices.nd rfl (Y2 rfl) (Ad Ae Aq (Ad Ae Aq (Ad Fz Es (Ad Bq Cg (AW AQ An (dv 3) AB) (AW AQ An (dv 5) AB)) (AW AQ An (dv 5) AB)) AB) (Ad Bq Cg (AH G__law_next (hr.mono (by decide)) rfl (AA (A8 0) (AA (AG AB) AM))) AB)))
 (AE (Ah (i:=7) sc__law_prices.nd rfl (T0 rfl) (AH G__law_next (hr.mono (by decide)) rfl (AA (A8 0) (AA (AG AB) AM))))
 (AE (Ah (i:=8) sc__law_prices.nd rfl (Y2 rfl) (AH G__law_next (hr.mono (by decide)) rfl (AA (A8 0) (AA (AG AB) AM))))
 (AE (Ah (i:=9) sc__law_prices.nd rfl (T0 rfl) (AW AQ An (dv 2) (Gv hr (dv 4) (AN (AW AQ An (dv 3) (dv 7)) AU))))
 (AE (S4 (i:=10) sc__law_prices.nd rfl (T0 rfl) rfl [("_law_more" : Str),("_law_least_here" : Str),("_law_one" : Str)] [some 8,some 6,none] (CH (dv 9)) (λ_ _ _ _ _=>(Ax (i:=2) (show Y1 [("_law_more" : Str),("_law_least_here" : Str),("_law_one" : Str)] by decide +kernel) rfl (T0 rfl))) (λ_ _ _ _ _=>CG) (λ_ _ _ _ _=>(Ad Ae Aq (dv 0) (OH (Aa Kp RZ (dv 2) Ce (AX _)) (dv 1) (Ab (J3 rfl) RX rfl T.n_min boot_min (AN (dv 2) (AN (dv 1) AU)))))) (by kernel_rfl))
 (AE (Ah (i:=11) sc__law_prices.nd rfl (T0 rfl) (Ad Bb Bz (AW AQ An (dv 10) (Gv hr (dv 4) (AN (AW AQ An (dv 3) (Ad Bb Bz AB (dv 7))) AU))) (dv 8)))
 (AJ (AR (OH (Aa Dr GL (Ad Bq Cg (dv 11) (AW AQ An (dv 5) AB)) (Ad Bq Cg (AW AQ An (dv 3) AB) (AW AQ An (dv 5) AB)) (AX _)) (CO B2 GK rfl T.n_tuple boot_tuple (AN (dv 10) AU)) Ce))))))))))) (λss n Pd hl hw=>HF hw)
theorem sc__law_far_case:Ak ["_law_feed_here","_law_world","_law_gone","_law_net_here","_law_spans","_law_at","_law_tie","_law_prices_here"] ["_law_feed_here","_law_world","_law_gone"] (AS B6):=by constructor <;> first | rfl | decide +kernel
theorem Gm{f:Addr}{fd:FuncData}(T:Txt K mg)(G__law_far:Fh P w K mg base)(G__law_next:BE P w K mg base)(G__law_prices:FN P w K mg base)(F:Fun K "_law_far_case" "_law_far_case" B6 f fd):BA P w K mg base B8 3 f fd ["_law_feed_here","_law_world","_law_gone"] (DF K .sh Ga 3):=by
 exact Eh F sc__law_far_case (by decide) (λcdv A outer s H E hr=>(AE (Ah (i:=3) sc__law_far_case.nd rfl (T0 rfl) (CI hr (dv 1) Ac))
 (AE (Ah (i:=4) sc__law_far_case.nd rfl (T0 rfl) (AH G__law_far (hr.mono (by decide)) rfl (AA (AG (AW AQ An (dv 3) AB)) (AA (AG (B1 rfl [("_law_gone" : Str),("_law_one" : Str)] [some 2,none] (CH (AW AQ An (dv 3) AB)) (λ_ _ _ _ _=>(Ax (i:=1) (show Y1 [("_law_gone" : Str),("_law_one" : Str)] by decide +kernel) rfl (T0 rfl))) (λ_ _ _ _ _=>(OF (Aa (CM hr) Ct (dv 1) (dv 0) (by with_unfolding_all rfl)))) (λ_ _ _ _ _=>(dv 1)) (by kernel_rfl))) AM))))
 (AE (Ah (i:=5) sc__law_far_case.nd rfl (T0 rfl) (AH G__law_next (hr.mono (by decide)) rfl (AA (A8 0) (AA (AG (Ab Ap BN rfl T.n_len PySem.boot_len (AN (dv 2) AU))) AM))))
 (AE (Dz YV rfl (Iu (Ad Ae Aq (J0 Og J_ (dv 2) (E6 (dv 5)) E7) (J0 Og J_ (dv 2) E7 (E6 (dv 5))))) (Ax (i:=6) sc__law_far_case.nd rfl (T0 rfl)) (AE (Ah (i:=7) sc__law_far_case.nd rfl (T0 rfl) (AH G__law_prices (hr.mono (by decide)) rfl (AA (A8 0) (AA (AG (dv 1)) (AA (AG (dv 4)) (AA (AG (dv 6)) AM))))))
 (AJ (As (Aa Fy NW (dv 7) Ce (AX _)) (AJ (AR (A_ (AF Ac (AF (dv 6) (AF (dv 7) AV)))))) AZ))))
 (AJ (AR Ce))))))) (λss n Pd hl hw=>JO hw)
theorem sc__law_made:Ak ["_law_feed_here","_law_world","_law_kept","_law_gone","_law_left","_law_found","_law_at","_law_tie","_law_rest","_law_first"] ["_law_feed_here","_law_world","_law_kept","_law_gone","_law_left"] (AS EV):=by constructor <;> first | rfl | decide +kernel
theorem F3{f:Addr}{fd:FuncData}(T:Txt K mg)(G__law_far_case:EC P w K mg base)(G__law_next:BE P w K mg base)(F:Fun K "_law_made" "_law_made" EV f fd)(m:mg "_law_made"=some (.ref f))(b:Binds K fd ["_law_feed_here","_law_world","_law_kept","_law_gone","_law_left"] []):∀j,BA P w K mg base B8 (4+j) f fd ["_law_feed_here","_law_world","_law_kept","_law_gone","_law_left"] (DF K .sh (D3 j) 5)
 | 0=>by
  have G__law_made:Got P w K mg base "_law_made" 3 ["_law_feed_here","_law_world","_law_kept","_law_gone","_law_left"] .sh (λ_ _ _=>False):=Dy F m b (λ_ _ _ h=>h.elim) (F.ok (k:=2) sc__law_made (λvs H Q E h=>h.1) (λcdv A outer s H vs Q E hr h=>by obtain⟨_,_,_,_,_,_,_,_,_,hw,_⟩:=h; exact hw.elim))
  exact Eh (k:=3) F sc__law_made (by decide) (λcdv A outer s H E hr=>(AE (As (DTW.dt (BQ (Aa (Gk hr) KA (dv 4) (Az AV) (AX _)) (BM (Aa Dr GL (AH G__law_next (hr.mono (by omega)) rfl (AA (A8 0) (AA (AG AB) AM))) AB (AX _))))) (AE (As (Aa Fb JB (Ab Ap BN rfl T.n_len PySem.boot_len (AN (dv 2) AU)) (CI hr (dv 1) Ac) (AX _)) (AJ (AR (A_ (AF Ac AV)))) AZ)
 (AE (Ah (i:=5) sc__law_made.nd rfl (T0 rfl) Ce)
 (AE (As (Aa (M7 hr) RW (dv 3) (Az AV) (AX _)) (AJ (Ah (i:=5) sc__law_made.nd rfl (T0 rfl) (AH G__law_far_case (hr.mono (by omega)) rfl (AA (A8 0) (AA (AG (dv 1)) (AA (AG (dv 3)) AM)))))) AZ)
 (AJ (As (Aa Fy NW (dv 5) Ce (AX _)) (AJ (AR (dv 5))) AZ))))) AZ)
 (AE (As (Aa (Gk hr) KA (dv 4) (Az AV) (AX _)) (AJ (AR (A_ (AF Ac AV)))) AZ)
 (AE (Ah (i:=6) sc__law_made.nd rfl (T0 rfl) (AH G__law_next (hr.mono (by omega)) rfl (AA (A8 0) (AA (AG (Ab Ap BN rfl T.n_len PySem.boot_len (AN (dv 4) AU))) AM))))
 (AE (Ah (i:=7) sc__law_made.nd rfl (T0 rfl) (AW AQ An (dv 4) (dv 6)))
 (AE (Ah (i:=8) sc__law_made.nd rfl (T0 rfl) (Ad Ae Aq (J0 Og J_ (dv 4) E7 (E6 (dv 6))) (J0 Og J_ (dv 4) (E6 (Ad Ae Aq (dv 6) AB)) E7)))
 (AE (Ah (i:=9) sc__law_made.nd rfl (T0 rfl) (AH G__law_made (hr.mono (No _)) rfl (AA (A8 0) (AA (AG (dv 1)) (AA (AG (Ad Ae Aq (dv 2) (Az (AF (dv 7) AV)))) (AA (AG (dv 3)) (AA (AG (dv 8)) AM)))))))
 (AJ (AR (A_ (AF Ac (AF (dv 7) (AF (dv 9) (AF (AH G__law_made (hr.mono (No _)) rfl (AA (A8 0) (AA (AG (dv 1)) (AA (AG (dv 2)) (AA (AG (Ad Ae Aq (dv 3) (Az (AF (dv 7) AV)))) (AA (AG (dv 8)) AM)))))) AV)))))))))))))) (λss n Pd hl hw=>Jm (λ_ _ _ h _=>absurd rfl h) hw)
 | j+1=>by
  have G__law_made:Got P w K mg base "_law_made" (4+j) ["_law_feed_here","_law_world","_law_kept","_law_gone","_law_left"] .sh (D3 j):=Dy F m b (λ_ _ _ h=>by obtain⟨_,_,_,_,_,_,_,e,_⟩:=h; rw [e]; rfl) (F3 T G__law_far_case G__law_next F m b j)
  exact Eh (k:=4+j) F sc__law_made (by decide) (λcdv A outer s H E hr=>(AE (As (DTW.dt (BQ (Aa (Gk hr) KA (dv 4) (Az AV) (AX _)) (BM (Aa Dr GL (AH G__law_next (hr.mono (by omega)) rfl (AA (A8 0) (AA (AG AB) AM))) AB (AX _))))) (AE (As (Aa Fb JB (Ab Ap BN rfl T.n_len PySem.boot_len (AN (dv 2) AU)) (CI hr (dv 1) Ac) (AX _)) (AJ (AR (A_ (AF Ac AV)))) AZ)
 (AE (Ah (i:=5) sc__law_made.nd rfl (T0 rfl) Ce)
 (AE (As (Aa (M7 hr) RW (dv 3) (Az AV) (AX _)) (AJ (Ah (i:=5) sc__law_made.nd rfl (T0 rfl) (AH G__law_far_case (hr.mono (by omega)) rfl (AA (A8 0) (AA (AG (dv 1)) (AA (AG (dv 3)) AM)))))) AZ)
 (AJ (As (Aa Fy NW (dv 5) Ce (AX _)) (AJ (AR (dv 5))) AZ))))) AZ)
 (AE (As (Aa (Gk hr) KA (dv 4) (Az AV) (AX _)) (AJ (AR (A_ (AF Ac AV)))) AZ)
 (AE (Ah (i:=6) sc__law_made.nd rfl (T0 rfl) (AH G__law_next (hr.mono (by omega)) rfl (AA (A8 0) (AA (AG (Ab Ap BN rfl T.n_len PySem.boot_len (AN (dv 4) AU))) AM))))
 (AE (Ah (i:=7) sc__law_made.nd rfl (T0 rfl) (AW AQ An (dv 4) (dv 6)))
 (AE (Ah (i:=8) sc__law_made.nd rfl (T0 rfl) (Ad Ae Aq (J0 Og J_ (dv 4) E7 (E6 (dv 6))) (J0 Og J_ (dv 4) (E6 (Ad Ae Aq (dv 6) AB)) E7)))
 (AE (Ah (i:=9) sc__law_made.nd rfl (T0 rfl) (AH G__law_made (hr.mono (No _)) rfl (AA (A8 0) (AA (AG (dv 1)) (AA (AG (Ad Ae Aq (dv 2) (Az (AF (dv 7) AV)))) (AA (AG (dv 3)) (AA (AG (dv 8)) AM)))))))
 (AJ (AR (A_ (AF Ac (AF (dv 7) (AF (dv 9) (AF (AH G__law_made (hr.mono (No _)) rfl (AA (A8 0) (AA (AG (dv 1)) (AA (AG (dv 2)) (AA (AG (Ad Ae Aq (dv 3) (Az (AF (dv 7) AV)))) (AA (AG (dv 8)) AM)))))) AV)))))))))))))) (λss n Pd hl hw=>Jm (j:=j+1) (λ_ _ _ _ h=>h) hw)
theorem Kb:Ak ["_law_feed_here","_law_net_here","_law_times_here","_law_many"] ["_law_feed_here","_law_net_here","_law_times_here","_law_many"] (AS EX):=by constructor <;> first | rfl | decide +kernel
theorem Kw{f:Addr}{fd:FuncData}(T:Txt K mg)(G__law_made:HB P w K mg base)(F:Fun K "_law_case" "_law_case" EX f fd):BA P w K mg base B8 12 f fd ["_law_feed_here","_law_net_here","_law_times_here","_law_many"] (DF K .sh Hm 4):=by
 exact Eh F Kb (by decide) (λcdv A outer s H E hr=>(AJ (AR (AH G__law_made (hr.mono (by decide)) rfl (AA (A8 0) (AA (AG (RG (pv 1) (pv 2) (pv 3) UZ)) (AA (AG (Az AV)) (AA (AG (Az AV)) (AA (AG (CO D0 OP rfl T.n_list boot_list (AN (AW AQ An (dv 1) AB) AU))) AM))))))))) (λss n Pd hl hw=>Oq hw)
end
section
variable {P:Program}{w:World}{K:Frag}{mg:Str->Option Value}{base:Heap}
theorem Ka:Ak ["_law_script"] ["_law_script"] (AS EW):=by constructor <;> first | rfl | decide +kernel
theorem Kv{f:Addr}{fd:FuncData}(T:Txt K mg)(F:Fun K "_law_feed" "_law_feed" EW f fd):BA P w K mg base B8 1 f fd ["_law_script"] (KQ K):=by
 refine F.ok Ka (λvs H Q E h=>?_) (λcdv A outer s H vs Q E hr h=>?_)
 ·obtain⟨a,ns,rfl,_⟩:=h
  rfl
 ·obtain⟨a,ns,rfl,⟨hl,hS⟩,q⟩:=h
  refine⟨_,Ba (Gh (Gj (Au (Jn D0 rfl T.n_list boot_list (Au (Lr sl_list (pv 0) Nq (Np Av)) BC)) (Au Av (Au Av BC))))),?_⟩
  refine⟨_,rfl,63,rfl,a,_,rfl,hS,λp hp=>⟨p,_,rfl,.inl (SqL.of AY),λc hc=>⟨by show 3<=sizeLine; decide,λg hg=>?_⟩⟩⟩
  rw [WH hl] at hg ⊢
  have ncg:c≠g:=λz=>by rw [← z,AY] at hg; cases hg
  exact q c g _ ncg (by rw [AT ncg,AY]) AY
theorem sc_law:Ak ["_law_script","_law_feed_here","_law_turn","_law_net_here","_law_times_here","_law_least_here","_law_k","_law_many","_law_case_here","_law_kept","_law_found"] ["_law_script"] (AS H_):=by constructor <;> first | rfl | decide +kernel
theorem UX{f ff:Addr}{fd fdf:FuncData}(T:Txt K mg)(Gf:BA P w K mg base B8 1 ff fdf ["_law_script"] (KQ K))(mf:mg "_law_feed"=some (.ref ff))(kf:keepIn K (.ref ff)=true)(bf:Binds K fdf ["_law_script"] [])
  (G__law_case:HC P w K mg base) (G__law_least:GR P w K mg base) (G__law_net:JE P w K mg base) (G__law_next:BE P w K mg base) (G__law_read_case:DZ P w K mg base) (G__law_times:GO P w K mg base) (G_shows:OS P w K mg base) (F:Fun K "law" "law" H_ f fd):BA P w K mg base B8 15 f fd ["_law_script"] (Le K):=by
 exact WA (n0:=60000) F sc_law rfl (by decide) (λcdv A outer s H E hr=>Dq (i:=1) sc_law.nd rfl (T0 rfl) (Km Gf (hr.mono (by decide)) rfl mf kf bf .nil Ny (Au (pv 0) BC)))
  (λcdv A outer s H E hr=>(AE (Dz YV rfl (DR rfl T.n_range (AN AB AU)) (Ax (i:=2) sc_law.nd rfl (T0 rfl)) (AE (Ah (i:=3) sc_law.nd rfl (T0 rfl) (AH G__law_net (hr.mono (by decide)) rfl (AA (A8 1) (AA (AG AB) (AA (AG AB) AM)))))
 (AE (Ah (i:=4) sc_law.nd rfl (T0 rfl) (AH G__law_times (hr.mono (by decide)) rfl (AA (A8 1) AM)))
 (AE (Ah (i:=5) sc_law.nd rfl (T0 rfl) (AH G__law_least (hr.mono (by decide)) rfl (AA (AG (dv 3)) (AA (AG (dv 4)) AM))))
 (AJ (Dz YV rfl (DR rfl T.n_range (AN AB AU)) (Ax (i:=6) sc_law.nd rfl (T0 rfl)) (AE (Ah (i:=7) sc_law.nd rfl (T0 rfl) (AW AQ An (Az (AF (dv 5) (AF (AH G__law_next (hr.mono (by decide)) rfl (AA (A8 1) (AA (AG (Ad Ae Aq (dv 5) AB)) AM))) (AF (Ad Ae Aq (Ad Ae Aq (dv 5) AB) (AH G__law_next (hr.mono (by decide)) rfl (AA (A8 1) (AA (AG AB) AM)))) AV)))) (dv 6)))
 (AE (Ah (i:=8) sc_law.nd rfl (T0 rfl) (AH G__law_case (hr.mono (by decide)) rfl (AA (A8 1) (AA (AG (dv 3)) (AA (AG (dv 4)) (AA (AG (dv 7)) AM))))))
 (AE (Ah (i:=9) sc_law.nd rfl (T0 rfl) (Ab (J2 hr) RU rfl T.n_repr boot_repr (AN (dv 8) AU)))
 (AE (Ah (i:=10) sc_law.nd rfl (T0 rfl) (AH G_shows (hr.mono (by decide)) rfl (AA (AG (dv 3)) (AA (AG (dv 4)) (AA (AG (dv 7)) (AA (AG (dv 8)) AM))))))
 (AE (As (DTW.dt (BQ (BJ (A4 (Cd F8 (dv 10) rfl T.n_isinstance rfl T.n_bool (by decide +kernel)))) (BM (Aa Ec JA (dv 10) (AH G__law_read_case (hr.mono (by decide)) rfl (AA (AG (dv 3)) (AA (AG (dv 4)) (AA (AG (dv 7)) (AA (AG (dv 8)) AM))))) (AX _))))) (AJ (AR BH)) AZ)
 (AJ (As (DTW.dt (BQ (Aa Ec JA (dv 10) (BY Ko OQ (dv 7) (dv 5) (AX _)) (AX _)) (BM (Aa Ec JA (Ab (J2 hr) RU rfl T.n_repr boot_repr (AN (dv 8) AU)) (dv 9) (AX _))))) (AJ (AR BH)) AZ)))))))))))))
 (AJ (AR BH)))) Ms
end
theorem Ck{β:Type}{n:Nat}(g k:List Value->β)(us:List Value)(h:us.length=n+1)(c:∀(a:Value) (r:List Value),r.length=n->g (a::r)=k (a::r)):g us=k us:=by
 cases us with
 | nil=>cases h
 | cons a r=>exact c a r (Nat.succ.inj h)
theorem len0{β:Type}(g k:List Value->β)(us:List Value)(h:us.length=0)(c:g []=k []):g us=k us:=by
 cases us with
 | nil=>exact c
 | cons a r=>cases h
theorem Xq{d:FuncData}{ps:List Str}(c:bindArgs d ⟨[],[]⟩=pure (ps.zip []))(us:List Value)(h:us.length=0):bindArgs d ⟨us,[]⟩=pure (ps.zip us):=len0 (λr=>bindArgs d ⟨r,[]⟩) (λr=>pure (ps.zip (r))) us h c
theorem Wi{d:FuncData}{ps:List Str}(c:∀a0:Value,bindArgs d ⟨[a0],[]⟩=pure (ps.zip [a0]))(us:List Value)(h:us.length=1):bindArgs d ⟨us,[]⟩=pure (ps.zip us):=Ck (λr=>bindArgs d ⟨r,[]⟩) (λr=>pure (ps.zip (r))) us h λa0 r h=>len0 (λr=>bindArgs d ⟨a0::r,[]⟩) (λr=>pure (ps.zip (a0::r))) r h (c a0)
theorem Pf{d:FuncData}{ps:List Str}(c:∀a0 a1:Value,bindArgs d ⟨[a0,a1],[]⟩=pure (ps.zip [a0,a1]))(us:List Value)(h:us.length=2):bindArgs d ⟨us,[]⟩=pure (ps.zip us):=Ck (λr=>bindArgs d ⟨r,[]⟩) (λr=>pure (ps.zip (r))) us h λa0 r h=>Ck (λr=>bindArgs d ⟨a0::r,[]⟩) (λr=>pure (ps.zip (a0::r))) r h λa1 r h=>len0 (λr=>bindArgs d ⟨a0::a1::r,[]⟩) (λr=>pure (ps.zip (a0::a1::r))) r h (c a0 a1)
theorem WK{d:FuncData}{ps:List Str}(c:∀a0 a1 a2:Value,bindArgs d ⟨[a0,a1,a2],[]⟩=pure (ps.zip [a0,a1,a2]))(us:List Value)(h:us.length=3):bindArgs d ⟨us,[]⟩=pure (ps.zip us):=Ck (λr=>bindArgs d ⟨r,[]⟩) (λr=>pure (ps.zip (r))) us h λa0 r h=>Ck (λr=>bindArgs d ⟨a0::r,[]⟩) (λr=>pure (ps.zip (a0::r))) r h λa1 r h=>Ck (λr=>bindArgs d ⟨a0::a1::r,[]⟩) (λr=>pure (ps.zip (a0::a1::r))) r h λa2 r h=>len0 (λr=>bindArgs d ⟨a0::a1::a2::r,[]⟩) (λr=>pure (ps.zip (a0::a1::a2::r))) r h (c a0 a1 a2)
theorem Tw{d:FuncData}{ps:List Str}(c:∀a0 a1 a2 a3:Value,bindArgs d ⟨[a0,a1,a2,a3],[]⟩=pure (ps.zip [a0,a1,a2,a3]))(us:List Value)(h:us.length=4):bindArgs d ⟨us,[]⟩=pure (ps.zip us):=Ck (λr=>bindArgs d ⟨r,[]⟩) (λr=>pure (ps.zip (r))) us h λa0 r h=>Ck (λr=>bindArgs d ⟨a0::r,[]⟩) (λr=>pure (ps.zip (a0::r))) r h λa1 r h=>Ck (λr=>bindArgs d ⟨a0::a1::r,[]⟩) (λr=>pure (ps.zip (a0::a1::r))) r h λa2 r h=>Ck (λr=>bindArgs d ⟨a0::a1::a2::r,[]⟩) (λr=>pure (ps.zip (a0::a1::a2::r))) r h λa3 r h=>len0 (λr=>bindArgs d ⟨a0::a1::a2::a3::r,[]⟩) (λr=>pure (ps.zip (a0::a1::a2::a3::r))) r h (c a0 a1 a2 a3)
theorem Xa{d:FuncData}{ps:List Str}(c:∀a0 a1 a2 a3 a4:Value,bindArgs d ⟨[a0,a1,a2,a3,a4],[]⟩=pure (ps.zip [a0,a1,a2,a3,a4]))(us:List Value)(h:us.length=5):bindArgs d ⟨us,[]⟩=pure (ps.zip us):=Ck (λr=>bindArgs d ⟨r,[]⟩) (λr=>pure (ps.zip (r))) us h λa0 r h=>Ck (λr=>bindArgs d ⟨a0::r,[]⟩) (λr=>pure (ps.zip (a0::r))) r h λa1 r h=>Ck (λr=>bindArgs d ⟨a0::a1::r,[]⟩) (λr=>pure (ps.zip (a0::a1::r))) r h λa2 r h=>Ck (λr=>bindArgs d ⟨a0::a1::a2::r,[]⟩) (λr=>pure (ps.zip (a0::a1::a2::r))) r h λa3 r h=>Ck (λr=>bindArgs d ⟨a0::a1::a2::a3::r,[]⟩) (λr=>pure (ps.zip (a0::a1::a2::a3::r))) r h λa4 r h=>len0 (λr=>bindArgs d ⟨a0::a1::a2::a3::a4::r,[]⟩) (λr=>pure (ps.zip (a0::a1::a2::a3::a4::r))) r h (c a0 a1 a2 a3 a4)
theorem Xp{d:FuncData}{ps:List Str}(c:∀a0 a1 a2 a3 a4 a5 a6:Value,bindArgs d ⟨[a0,a1,a2,a3,a4,a5,a6],[]⟩=pure (ps.zip [a0,a1,a2,a3,a4,a5,a6]))(us:List Value)(h:us.length=7):bindArgs d ⟨us,[]⟩=pure (ps.zip us):=Ck (λr=>bindArgs d ⟨r,[]⟩) (λr=>pure (ps.zip (r))) us h λa0 r h=>Ck (λr=>bindArgs d ⟨a0::r,[]⟩) (λr=>pure (ps.zip (a0::r))) r h λa1 r h=>Ck (λr=>bindArgs d ⟨a0::a1::r,[]⟩) (λr=>pure (ps.zip (a0::a1::r))) r h λa2 r h=>Ck (λr=>bindArgs d ⟨a0::a1::a2::r,[]⟩) (λr=>pure (ps.zip (a0::a1::a2::r))) r h λa3 r h=>Ck (λr=>bindArgs d ⟨a0::a1::a2::a3::r,[]⟩) (λr=>pure (ps.zip (a0::a1::a2::a3::r))) r h λa4 r h=>Ck (λr=>bindArgs d ⟨a0::a1::a2::a3::a4::r,[]⟩) (λr=>pure (ps.zip (a0::a1::a2::a3::a4::r))) r h λa5 r h=>Ck (λr=>bindArgs d ⟨a0::a1::a2::a3::a4::a5::r,[]⟩) (λr=>pure (ps.zip (a0::a1::a2::a3::a4::a5::r))) r h λa6 r h=>len0 (λr=>bindArgs d ⟨a0::a1::a2::a3::a4::a5::a6::r,[]⟩) (λr=>pure (ps.zip (a0::a1::a2::a3::a4::a5::a6::r))) r h (c a0 a1 a2 a3 a4 a5 a6)
noncomputable def Ht(K:Frag)(x:Str)(st:Stmt):Prop:=∃(f:Addr) (oc:Value) (od an:Option Addr) (sl:Array (Option Value)) (kV dc pm cd ct:Value),nsIn K mainGlobals x=some (some (.ref f))/\K.lookup f=some ⟨oc,od,.func (fnOf x x (Cp st) (Bt st) (AS st) .none kV dc pm an cd ct),sl⟩/\codeIn K cd x=true/\keepIn K (.ref f)=true
noncomputable def Hn(K:Frag)(x:Str):Prop:=nsIn K mainGlobals x=some none
noncomputable def Hi(K:Frag)(x:Str)(i:Int):Prop:=∃t,nsIn K mainGlobals x=some (some (.int i t))
theorem Ht.mk{K:Frag}{x:Str}{st:Stmt}{f:Addr}{oc:Value}{od an:Option Addr}{sl:Array (Option Value)}{kV dc pm cd ct:Value}(a:nsIn K mainGlobals x=some (some (.ref f)))(l:K.lookup f=some ⟨oc,od,.func (fnOf x x (Cp st) (Bt st) (AS st) .none kV dc pm an cd ct),sl⟩)(c:codeIn K cd x=true)(k:keepIn K (.ref f)=true):Ht K x st:=⟨f,oc,od,an,sl,kV,dc,pm,cd,ct,a,l,c,k⟩
theorem Hi.mk{K:Frag}{x:Str}{i:Int}{t:Tok}(a:nsIn K mainGlobals x=some (some (.int i t))):Hi K x i:=⟨t,a⟩
theorem Hn.mk{K:Frag}{x:Str}(a:nsIn K mainGlobals x=some none):Hn K x:=a
section
variable {P:Program}{w:World}{K:Frag}{mg:Str->Option Value}{h base:Heap}{x:Str}{st:Stmt}
theorem Ht.fn(X:K.In h)(G:h.Ns mainGlobals mg)(H:Ht K x st):∃f fd,mg x=some (.ref f)/\Fun K x x st f fd:=by
 obtain⟨f,oc,od,an,sl,kV,dc,pm,cd,ct,a,l,c,k⟩:=H
 exact⟨f,_,mg_of X G a,Qw (st:=st) l c k⟩
theorem Ht.got{k:Nat}{ps:List Str}{κ:Kd}{W:W2}(X:K.In h)(G:h.Ns mainGlobals mg)(H:Ht K x st)(hW:∀ss n P,W ss n P->ss.length=ps.length)
  (hb:∀(kV doc pm:Value) (an:Option Addr) (cdv ct:Value) (us:List Value),us.length=ps.length->bindArgs (fnOf x x (Cp st) (Bt st) (AS st) .none kV doc pm an cdv ct) ⟨us,[]⟩=pure (ps.zip us))
  (ok:∀{f:Addr} {fd:FuncData},Fun K x x st f fd->mg x=some (.ref f)->Binds K fd ps []->BA P w K mg base B8 k f fd ps (DF K κ W ps.length)):Got P w K mg base x k ps κ W:=by
 obtain⟨f,fd,m,F⟩:=H.fn X G
 have b:=F.binds hb
 exact Dy F m b hW (ok F m b)
end
theorem all_mk{l:PySem.W.OpenLaw}{w:World}{K:Frag}{h:Heap}{mg:Str->Option Value}{fa:Addr}(X:K.In h)(G:h.Ns mainGlobals mg)(hfa:mg "law"=some (.ref fa))
  (h0:Ht K "is_whole" FU) (h1:Ht K "is_tuple_of" Cw) (h2:Ht K "only" Mn) (h3:Ht K "is_tie_of" ET) (h4:Ht K "without" Ge) (h5:Ht K "are_prices" Dh) (h6:Ht K "price_gap" ER) (h7:Ht K "is_fair" Gg) (h8:Ht K "is_within" ES) (h9:Ht K "prices_fault" CV) (h10:Ht K "shows_far" EQ) (h11:Ht K "shows_by" FT) (h12:Ht K "count_of" FV) (h13:Ht K "shows" Kc) (h14:Ht K "_law_feed" EW) (h15:Ht K "_law_next" Cm) (h16:Ht K "_law_names" Dl) (h17:Ht K "_law_places" Cz) (h18:Ht K "_law_length" C0) (h19:Ht K "_law_ties" EU) (h20:Ht K "_law_net" FW) (h21:Ht K "_law_times" Di) (h22:Ht K "_law_far" FX) (h23:Ht K "_law_keeps" Do) (h24:Ht K "_law_choices" CW) (h25:Ht K "_law_least" Dn) (h26:Ht K "_law_is_tie" C1) (h27:Ht K "_law_is_far" C2) (h28:Ht K "_law_shows" Dk) (h29:Ht K "_law_read_case" Bv) (h30:Ht K "_law_prices" Cy) (h31:Ht K "_law_far_case" B6) (h32:Ht K "_law_made" EV) (h33:Ht K "_law_case" EX) (h34:Ht K "law" H_)
  (z0:Hn K "abs") (z1:Hn K "all") (z2:Hn K "bool") (z3:Hn K "dict") (z4:Hn K "int") (z5:Hn K "isinstance") (z6:Hn K "len") (z7:Hn K "list") (z8:Hn K "max") (z9:Hn K "min") (z10:Hn K "range") (z11:Hn K "repr") (z12:Hn K "sorted") (z13:Hn K "tuple") (z14:Hn K "zip") (v0:Hi K "MOST_DEEP" 15) (v1:Hi K "MOST_CASES" 4000)
  : ∃fd:FuncData,(∀(s:Shared) (v:Value),BindsTo s fd ⟨[v],[]⟩ [("_law_script",v)])/\∀base:Heap,K.In base->base.Ns mainGlobals mg->BA l.prog w K mg base B8 15 fa fd ["_law_script"] (Le K):=by
 have T:Txt K mg:=⟨mg_none_of X G z0,mg_none_of X G z1,mg_none_of X G z2,mg_none_of X G z3,mg_none_of X G z4,mg_none_of X G z5,mg_none_of X G z6,mg_none_of X G z7,mg_none_of X G z8,mg_none_of X G z9,mg_none_of X G z10,mg_none_of X G z11,mg_none_of X G z12,mg_none_of X G z13,mg_none_of X G z14,(let ⟨t,e⟩:=v0; ⟨t,mg_of X G e⟩),(let ⟨t,e⟩:=v1; ⟨t,mg_of X G e⟩)⟩
 obtain⟨ff,ffd,mf,Ff⟩:=h14.fn X G
 have bf:=Ff.binds (ps:=["_law_script"]) λ_ _ _ _ _ _=>Wi λ_=>rfl
 obtain⟨f,oc,od,an,sl,kV,dc,pm,cd,ct,a,l',c,k⟩:=h34
 have e:=hfa.symm.trans (mg_of X G a)
 cases e
 refine⟨fnOf "law" "law" (Cp H_) (Bt H_) (AS H_) .none kV dc pm an cd ct,λs v=>.of_eq rfl,λbase _ _=>?_⟩
 have G_is_whole:Fg l.prog w K mg base:=h0.got X G (λ_ _ _ h=>Ox h) (λ_ _ _ _ _ _=>Wi λ_=>rfl) λF m b=>Lw T  F
 have G_is_tuple_of:B4 l.prog w K mg base:=h1.got X G (λ_ _ _ h=>by obtain⟨_,_,e,_⟩:=h; rw [e]; rfl) (λ_ _ _ _ _ _=>Pf λ_ _=>rfl) λF m b=>IQ T  F
 have G_only:Rf l.prog w K mg base:=h2.got X G (λ_ _ _ h=>by obtain⟨_,_,_,e,_⟩:=h; rw [e]; rfl) (λ_ _ _ _ _ _=>Pf λ_ _=>rfl) λF m b=>SX T  F
 have G_is_tie_of:Ew l.prog w K mg base:=h3.got X G (λ_ _ _ h=>by obtain⟨_,_,e,_⟩:=h; rw [e]; rfl) (λ_ _ _ _ _ _=>Pf λ_ _=>rfl) λF m b=>Kt T G_is_whole F
 have G_without:KC l.prog w K mg base:=h4.got X G (λ_ _ _ h=>by obtain⟨_,_,e,_⟩:=h; rw [e]; rfl) (λ_ _ _ _ _ _=>Pf λ_ _=>rfl) λF m b=>M_ T G_only F
 have G_are_prices:GN l.prog w K mg base:=h5.got X G (λ_ _ _ h=>by obtain⟨_,_,e,_⟩:=h; rw [e]; rfl) (λ_ _ _ _ _ _=>Pf λ_ _=>rfl) λF m b=>JQ T G_is_tuple_of G_is_whole F
 have G_price_gap:Eu l.prog w K mg base:=h6.got X G (λ_ _ _ h=>by obtain⟨_,_,_,_,e,_⟩:=h; rw [e]; rfl) (λ_ _ _ _ _ _=>Tw λ_ _ _ _=>rfl) λF m b=>Kr T  F
 have G_is_fair:KD l.prog w K mg base:=h7.got X G (λ_ _ _ h=>by obtain⟨_,_,e,_⟩:=h; rw [e]; rfl) (λ_ _ _ _ _ _=>Pf λ_ _=>rfl) λF m b=>NA T G_are_prices G_price_gap F
 have G_is_within:G_ l.prog w K mg base:=h8.got X G (λ_ _ _ h=>by obtain⟨_,_,_,_,e,_⟩:=h; rw [e]; rfl) (λ_ _ _ _ _ _=>WK λ_ _ _=>rfl) λF m b=>Ks T  F
 have G_prices_fault:Et l.prog w K mg base:=h9.got X G (λ_ _ _ h=>by obtain⟨_,_,_,_,_,e,_⟩:=h; rw [e]; rfl) (λ_ _ _ _ _ _=>Tw λ_ _ _ _=>rfl) λF m b=>HI T G_is_fair G_is_within G_price_gap F
 have G_shows_far:G9 l.prog w K mg base:=h10.got X G (λ_ _ _ h=>by obtain⟨_,_,_,_,_,_,e,_⟩:=h; rw [e]; rfl) (λ_ _ _ _ _ _=>Tw λ_ _ _ _=>rfl) λF m b=>Kq T G_is_tie_of G_prices_fault G_without F
 have G_shows_by:JC l.prog w K mg base:=h11.got X G (λ_ _ _ h=>by obtain⟨_,_,_,_,_,_,_,_,e,_⟩:=h; rw [e]; rfl) (λ_ _ _ _ _ _=>Xp λ_ _ _ _ _ _ _=>rfl) λF m b=>G0 T G_is_tie_of G_is_tuple_of G_shows_far F m b 7
 have G_count_of:JD l.prog w K mg base:=h12.got X G (λ_ _ _ h=>by obtain⟨_,e,_⟩:=h; rw [e]; rfl) (λ_ _ _ _ _ _=>Wi λ_=>rfl) λF m b=>G1 T G_is_tuple_of F m b 7
 have G_shows:OS l.prog w K mg base:=h13.got X G (λ_ _ _ h=>by obtain⟨_,_,_,_,_,e,_⟩:=h; rw [e]; rfl) (λ_ _ _ _ _ _=>Tw λ_ _ _ _=>rfl) λF m b=>Qg T G_count_of G_shows_by F
 have Gf:=Kv (P:=l.prog) (w:=w) (base:=base) T Ff
 have G__law_next:BE l.prog w K mg base:=h15.got X G (λ_ _ _ h=>by obtain⟨_,e,_⟩:=h; rw [e]; rfl) (λ_ _ _ _ _ _=>Pf λ_ _=>rfl) λF m b=>SY F T.n_len
 have G__law_names:GQ l.prog w K mg base:=h16.got X G (λ_ _ _ h=>by obtain⟨e,_⟩:=h; rw [e]; rfl) (λ_ _ _ _ _ _=>Xq rfl) λF m b=>JS T  F
 have G__law_places:FO l.prog w K mg base:=h17.got X G (λ_ _ _ h=>by obtain⟨_,e,_⟩:=h; rw [e]; rfl) (λ_ _ _ _ _ _=>Pf λ_ _=>rfl) λF m b=>IS T G__law_names G__law_next F
 have G__law_length:FP l.prog w K mg base:=h18.got X G (λ_ _ _ h=>by obtain⟨_,e,_⟩:=h; rw [e]; rfl) (λ_ _ _ _ _ _=>Pf λ_ _=>rfl) λF m b=>IT T G__law_next F
 have G__law_ties:HA l.prog w K mg base:=h19.got X G (λ_ _ _ h=>by obtain⟨_,_,e,_⟩:=h; rw [e]; rfl) (λ_ _ _ _ _ _=>WK λ_ _ _=>rfl) λF m b=>Ku T G__law_length G__law_next F
 have G__law_net:JE l.prog w K mg base:=h20.got X G (λ_ _ _ h=>by obtain⟨_,_,e,_⟩:=h; rw [e]; rfl) (λ_ _ _ _ _ _=>WK λ_ _ _=>rfl) λF m b=>Lx T G__law_next G__law_places G__law_ties F
 have G__law_times:GO l.prog w K mg base:=h21.got X G (λ_ _ _ h=>by obtain⟨e,_⟩:=h; rw [e]; rfl) (λ_ _ _ _ _ _=>Wi λ_=>rfl) λF m b=>JR T G__law_next F
 have G__law_far:Fh l.prog w K mg base:=h22.got X G (λ_ _ _ h=>by obtain⟨_,_,e,_⟩:=h; rw [e]; rfl) (λ_ _ _ _ _ _=>Pf λ_ _=>rfl) λF m b=>Ly T F
 have G__law_keeps:GS l.prog w K mg base:=h23.got X G (λ_ _ _ h=>by obtain⟨_,_,_,_,e,_⟩:=h; rw [e]; rfl) (λ_ _ _ _ _ _=>WK λ_ _ _=>rfl) λF m b=>JU T G__law_far F
 have G__law_choices:Ex l.prog w K mg base:=h24.got X G (λ_ _ _ h=>by obtain⟨_,_,e,_⟩:=h; rw [e]; rfl) (λ_ _ _ _ _ _=>Pf λ_ _=>rfl) λF m b=>HJ T  F
 have G__law_least:GR l.prog w K mg base:=h25.got X G (λ_ _ _ h=>by obtain⟨_,_,_,e,_⟩:=h; rw [e]; rfl) (λ_ _ _ _ _ _=>Pf λ_ _=>rfl) λF m b=>JT T G__law_choices G__law_keeps F
 have G__law_is_tie:DA l.prog w K mg base:=h26.got X G (λ_ _ _ h=>by obtain⟨_,_,e,_⟩:=h; rw [e]; rfl) (λ_ _ _ _ _ _=>Pf λ_ _=>rfl) λF m b=>IU T  F
 have G__law_is_far:FQ l.prog w K mg base:=h27.got X G (λ_ _ _ h=>by obtain⟨_,_,_,_,_,_,_,e,_⟩:=h; rw [e]; rfl) (λ_ _ _ _ _ _=>Tw λ_ _ _ _=>rfl) λF m b=>IV T G__law_is_tie F
 have G__law_shows:GP l.prog w K mg base:=h28.got X G (λ_ _ _ h=>by obtain⟨_,_,_,_,_,_,_,_,e,_⟩:=h; rw [e]; rfl) (λ_ _ _ _ _ _=>Xa λ_ _ _ _ _=>rfl) λF m b=>FD T G__law_is_far G__law_is_tie F m b 7
 have G__law_read_case:DZ l.prog w K mg base:=h29.got X G (λ_ _ _ h=>by obtain⟨_,_,_,_,_,e,_⟩:=h; rw [e]; rfl) (λ_ _ _ _ _ _=>Tw λ_ _ _ _=>rfl) λF m b=>F2 T G__law_shows F
 have G__law_prices:FN l.prog w K mg base:=h30.got X G (λ_ _ _ h=>by obtain⟨_,_,_,_,_,_,_,e,_⟩:=h; rw [e]; rfl) (λ_ _ _ _ _ _=>Tw λ_ _ _ _=>rfl) λF m b=>IR T G__law_next F
 have G__law_far_case:EC l.prog w K mg base:=h31.got X G (λ_ _ _ h=>by obtain⟨_,_,_,_,_,e,_⟩:=h; rw [e]; rfl) (λ_ _ _ _ _ _=>WK λ_ _ _=>rfl) λF m b=>Gm T G__law_far G__law_next G__law_prices F
 have G__law_made:HB l.prog w K mg base:=h32.got X G (λ_ _ _ h=>by obtain⟨_,_,_,_,_,_,_,e,_⟩:=h; rw [e]; rfl) (λ_ _ _ _ _ _=>Xa λ_ _ _ _ _=>rfl) λF m b=>F3 T G__law_far_case G__law_next F m b 7
 have G__law_case:HC l.prog w K mg base:=h33.got X G (λ_ _ _ h=>by obtain⟨_,_,_,_,e,_⟩:=h; rw [e]; rfl) (λ_ _ _ _ _ _=>Tw λ_ _ _ _=>rfl) λF m b=>Kw T G__law_made F
 exact UX T Gf mf Ff.kp bf G__law_case G__law_least G__law_net G__law_next G__law_read_case G__law_times G_shows (Qw (st:=H_) l' c k)
theorem walk{l:PySem.W.OpenLaw}{q:Program}{loose:List Str}{XP:(Str->Option Value)->Heap->Prop}{YP:World->Heap->Prop}{d:DefRec}{K:Params->Frag}(hn:l.most=some 63)(hdf:d.params.defaults=[])
  (hY:∀(w:World) (h:Heap),YP w h->(K w.params).In h)
  (F:∀(w:World) (mg:Str->Option Value) (fa:Addr) (h:Heap),(K w.params).In h->h.Ns mainGlobals mg->mg d.name=some (.ref fa) ->
   ∃fd:FuncData,(∀(s:Shared) (u:Value),BindsTo s fd ⟨[u],[]⟩ [("_law_script",u)])/\∀base:Heap,(K w.params).In base->base.Ns mainGlobals mg->BA l.prog w (K w.params) mg base B8 15 fa fd ["_law_script"] (Le (K w.params))) :
  PySem.W.WalkO q loose XP YP l.row.toRowW d [] (λf vs=>PySem.call f vs) :=
 L2.NY (n:=63) (k:=15) (x := "_law_script") (CX:=λ_=>B8) (sp:=λw=>Le (K w.params)) hn (by decide) hdf ⟨rfl,by decide,by decide,rfl⟩ hY F (λ_ _ a ns hl _ hS=>⟨a,ns,rfl,⟨hl,hS⟩,λ_=>rfl⟩) λ_ _ _ _ _ z=>z
end K61
end _p
namespace PySem.W.Fast
theorem tw7244181168536133089:True:=⟨⟩
theorem tw17175670222860254922:True:=⟨⟩
theorem tw4501545378696588518:True:=⟨⟩
theorem tw4171643035224824774:True:=⟨⟩
theorem tw18072191153442711617:True:=⟨⟩
theorem tw17452708565023112480:True:=⟨⟩
theorem tw4163925261874976619:True:=⟨⟩
theorem tw5768367704300386867:True:=⟨⟩
theorem tw7439440586209020425:True:=⟨⟩
theorem tw13981733331731161218:True:=⟨⟩
theorem tw15121005309846735769:True:=⟨⟩
theorem tw12188788296113336311:True:=⟨⟩
end PySem.W.Fast
open _p
open PySem PySem.W PyProof.Rows
set_option maxRecDepth 100000 in
set_option maxHeartbeats 0 in
theorem PySem.Challenge.cw_thinnet_k61_cases_shown_holds : PySem.Challenge.rw_thinnet_k61_cases_shown.Holds := by
 w_on; o_law; k_head; (case hw=>w_witness2)
 k_fill
 refine K61.walk (l:=PySem.Challenge.rw_thinnet_k61_cases_shown) rfl rfl (λw h Y=>PySem.W.kIn_of Y) ?F
 case F =>
  intro w mg fa h KX G hmg
  refine' K61.all_mk KX G hmg ?_ ?_ ?_ ?_ ?_ ?_ ?_ ?_ ?_ ?_ ?_ ?_ ?_ ?_ ?_ ?_ ?_ ?_ ?_ ?_ ?_ ?_ ?_ ?_ ?_ ?_ ?_ ?_ ?_ ?_ ?_ ?_ ?_ ?_ ?_ ?_ ?_ ?_ ?_ ?_ ?_ ?_ ?_ ?_ ?_ ?_ ?_ ?_ ?_ ?_ ?_ ?_
  all_goals first
   | (refine' K61.Ht.mk ?a ?l ?c ?k; (case a=>k_is); (case l=>k_is); (case c=>k_is); (case k=>k_is))
   | (refine' K61.Hi.mk ?a; (case a=>k_is))
   | (refine' K61.Hn.mk ?a; (case a=>k_is))
#print axioms PySem.Challenge.cw_thinnet_k61_cases_shown_holds

import PyProof.Rows.All
import Wide.All
import OpenK.AllK
import Wide.FinOn
import Lean
import PyProof.EqAt
import PyProof.EqKinds
import PyProof.TupleCall
import PyProof.StationsW
import PyProof.PassesOwn
import PyProof.RulesAs
import PyProof.ExcClass3
import PyProof.Rows.CatchOwn
import OpenK.KMake
import OpenK.KWalk
import PyProof.InstStoreFacts
import PyProof.ExcBaseAll.ValueError
import PyProof.RangeIter
import OpenK.KRaise
import PyProof.NsDelKeeps
import KE.KIsAll
import PyProof.P3In
import PyProof.NeData
import PyProof.ReprLen
import PyProof.CompUse
import KE.KSortTup
import PyProof.SumAny
import PyProof.Rows.SeqCalls
import KE.KRevIter
import PyProof.TupleOfGen
import PyProof.CollectIter
import PyProof.ListNew
import PyProof.AttrMissHeap
import PyProof.FactsAll.dict
import KE.KEqDict
import PyProof.FactsAll.zip
import KE.KDictSum
import PyProof.ConsumeS
import PyProof.WalkInts
import PyProof.Draws
import PyProof.EnumMake
import PySem.Challenge.RW_thinnet_k62_cases_bent
open PySem.W (Frag nsIn keepIn fnOf codeIn mg_of mg_none_of)
set_option compiler.extract_closed false
set_option Elab.async false
set_option linter.all false
set_option maxRecDepth 100000
open Array renaming length_toList->bW,getElem?_eq_getElem->eB,getElem?_toList->e8,getElem?_eq_none->gh
open Array.Perm renaming refl->iA
open Bool renaming false_ne_true->ar,and_eq_true->az,true_and->bA,false_eq_true->bi,eq_false_iff->b8,eq_iff_iff->cF,and_true->dN,false_and->eJ,and_false->fP,or_false->fj
open Classical renaming propDecidable->dL
open False renaming elim->dB
open ForInStep renaming yield->cg
open Int renaming toNat_natCast->bv,zero_add->cW,le_refl->cy,mul_le_mul_of_nonneg_right->fL,emod_lt_of_pos->fc,eq_ofNat_of_zero_le->gP,emod_nonneg->gS
open List renaming length_map->Db,getElem?_eq_getElem->FM,mem_cons_self->On,getElem?_map->Op,replicate->Re,length_append->Sc,mem_cons_of_mem->TM,length_cons->Tk,size_toArray->T0,mem_map->UF,mem_cons->aq,getElem?_eq_some_iff->au,map_cons->av,length_singleton->aw,getD_eq_getElem?_getD->ax,mem_singleton->ay,not_mem_nil->a9,range->bB,mem_append_right->bC,mem_append->bD,nil_append->bE,map_map->bS,mem_range->bU,map_congr_left->bX,mem_of_getElem?->bY,nodup_cons->bZ,toArray->bc,Nodup->bh,pairwise_cons->bj,append_assoc->bw,length_range->bz,map_append->cA,getElem_mem->cB,drop_eq_getElem_cons->cC,length_nil->cG,mem_append_left->cH,append_nil->cL,length_set->cM,length_take->cN,all_eq_true->cO,length_drop->cY,take_append_drop->cb,mem_iff_getElem?->ce,filterMap_cons->cn,nodup_nil->cq,lookup_cons->cr,any_eq_true->cu,take_of_length_le->cx,forIn_cons->c5,getElem?_append_right->c6,nodup_append->c_,pairwise_iff_getElem->dC,replicate_succ->dI,any_cons->dM,of_mem_zip->dP,find?_cons->dR,length_zip->dU,range_succ_eq_map->dW,reverse_cons->dY,map_nil->de,lt_irrefl->di,cons_append->dn,mem_iff_getElem->dr,pairwise_append->du,getElem?_range->d8,getElem?_append_left->d_,idxOf_lt_length_iff->eI,drop_zero->eK,getElem?_replicate->eM,length_eq_zero_iff->eN,flatten_cons->eO,getElem?_set->eP,length->eS,drop_length->eV,mem_flatMap->eZ,getElem?_eq_none->e9,mem_filter->fA,mem_of_mem_take->fH,zipWith->fJ,forIn_nil->fS,map_id->fV,filterMap_map->fX,zip_cons_cons->fZ,getElem_idxOf->fg,all_cons->fk,pairwise_map->f7,filter_congr->f8,getLast?_eq_none_iff->gC,getLast?_eq_some_iff->gD,getElem_inj->gE,take_length->gH,getElem_map->gI,getElem?_cons_succ->gK,pairwise_singleton->gL,filter_cons_of_pos->gM,filter_cons_of_neg->gN,foldl_cons->gQ,filter_map->gU,getElem?_set_self->gY,sublist_cons_self->gi,length_replicate->gj,getElem?_toArray->gn,singleton_append->gq,map_take->gw
open List.Pairwise renaming nil->dZ
open List.Perm renaming append_left->e_,trans->fM
open List.Sublist renaming append_left->gJ,refl->h_
open Nat renaming le_refl->No,zero_le->TW,le_trans->bF,ne_of_lt->bG,lt_of_lt_of_le->bH,pow_succ->be,lt_irrefl->cP,pow_le_pow_right->cR,two_pow_pos->cV,min_eq_left->cj,le_succ->dD,lt_of_le_of_lt->dQ,le_of_lt->eC,le_of_eq->eD,sub_zero->eE,min_le_right->eU,succ_le_succ->eX,ne_of_gt->fC,lt_trans->fD,sub_self->fG,lt_succ_of_lt->fz,le_of_succ_le_succ->gf,mod_lt->gv
open Ne renaming symm->cE
open Option renaming map_eq_some_iff->a_
open Option.some renaming inj->Uf
open Or renaming inl->Rs,inr->cI
open PyProof.Rows renaming slot_tuple_getitem->bL,callWith_type1->cT,boot_tuple->eL,entry_tuple_getitem->fO,assignInOrder_cons->fW,args_tuple_getitem->fY,listUpdate_at->ft,get?_update_seq->gT,boot_list->gX,lt_int->gZ,boot_all->gs
open PyProof.Rows.KeyOrd renaming kle_refl->cU,kle_of_klt->eR,kle_trans->eY,kle_antisymm->gx
open PySem renaming wpAny_bind->Ch,wpAny_pure->Go,wpAny_newObj_type->bO,wpAny_field->bP,wpAny_callSpecial?_slot->bR,wpAny_call_entry->bp,sizeLine_eq->bu,wpAny_holding->b9,wpAny_mono->cD,wpAny_seqItems->cK,wpAny_setField_rec->cZ,wpAny_typeNameOfWhole_keyiter->ck,wpAny_passesOwn->c0,wpAny_pyIter_list->c9,wpAny_typeNameOf_keyiter->dH,wpAny_getItem_str_slice->dJ,wpAny_Call_Name_kw->dO,wpAny_pyIter_tuple->dS,wpAny_truthy_bool->dX,wpAny_typeOf->da,wpAny_rule->dk,wpAny_attempt->d7,codeAny_builtin->eA,wpAny_execs_nil->fB,post_val_or_str->fE,wpAny_updateSeq_pair->fF,wpAny_setField->fR,wpAny_standAt->fi,wpAny_onRaise->fo,wpAny_sequenceKey->fv,slot_list_getitem->fw,wpAny_dictEntries->f9,call_meets->gB,noFill_tuple_add->gF,wpAny_isInstance->gG,wpAny_loadPart'->gR,wpAny_dictEpoch->gW
open PySem.Around renaming under_plainId->fI
open PySem.Builtin.Dict renaming updateFrom->gO,pairItems->gg,showsAll->gp
open PySem.Builtin.Dict_items renaming ownsTuple->fT
open PySem.Builtin.List renaming listTooLong->dG,listExtendWith->fe
open PySem.Builtin.Slice renaming slicePlaces->bg,sliceAdjust->cf,sliceApplied->c7,sliceFields->gA
open PySem.Builtin.SmallTypes renaming ownedTupleIsFree->bM,nextOf->bN,ownedTupleHandOut->eG
open PySem.Builtin.Tuple renaming tupleExact->bq,tupleItemsOf->dw,tupleIsExact->fq
open PySem.Calls renaming Name_function_global->fh,callWith_builtin->gc,evalArgs_plain->gu
open PySem.Expr renaming Call->hZ
open PySem.F renaming slot_dict_keyiterator_next->cQ,slot_zip_next->ci,slot_tuple_iterator_next->c8,args_zip_next_1->eQ,entry_zip_next->eW,args_dict_keyiterator_next_1->fK,entry_dict_keyiterator_next->fN,args_tuple_iterator_next_1->fQ,entry_tuple_iterator_next->fb
open PySem.Heap renaming get?_push_of_some->Ev,get?_push_size->XV,lt_size->ZB,get?_update_other->cw,SameBut->cz,size_push->dE,get?_update_self->e7,ExtBut->ge,IsTuple->hV
open PySem.Heap.IsSliceOf renaming new->hU
open PySem.Heap.SameBut renaming update->d9
open PySem.NameKind renaming free->bV,cell->d6
open PySem.Obj renaming mapSeq->cX,data_mapFields->eF
open PySem.PassesOwn renaming never->bK
open PySem.PyData renaming depthAll->bn,eqv->b_,canLayAll0->cS,hasDict->dh,eqvAll->fu,hasDictAll->f6,leavesShortAll->gk
open PySem.SeqAt.EqAt renaming int_str->g_,str_int->hG
open PySem.Shared renaming heap->eT
open PySem.Str renaming ofString->bo
open PySem.Value renaming none->bQ,ref->bT,bool->dA,type->f_,int->g8,str->g9
open Std.Legacy.Range renaming size->gm
open Sum renaming inr->bJ,inl->eh
open Sum.inr renaming inj->cJ
open True renaming intro->cv
namespace _p
theorem zau0 (h : True := by first | exact .inl rfl | exact .inr rfl | assumption) : True := h
theorem zau1 (h : True := by decide) : True := h
theorem zau2 (h : True := by intro _; rfl) : True := h
theorem zau3 (h : True := by rfl) : True := h
theorem zau4 (h : True := by first | exact Rs rfl | exact cI (Rs rfl) | exact cI (cI rfl)) : True := h
theorem zau5 (h : True := by intro _ _; rfl) : True := h
theorem zau6 (h : True := by intro z; cases z) : True := h
theorem zau7 (h : True := by intro _ z; cases z) : True := h
theorem zau8 (h : True := by size_fits) : True := h
namespace L2
open PySem PySem.Spec PyProof.Rows
noncomputable abbrev Key:=Sum Int Str
noncomputable def Lb:Key->Value->Bool
 | .inl k,v=>Value.isInt k v
 | .inr x,v=>Value.isStrOf x v
noncomputable def Zw(w:World):Key->Int
 | .inl k=>hashInt k
 | .inr x=>hashStr w x
theorem Bg:∀{k:Key} {v:Value},Lb k v=true->(∃i t,k=eh i/\v=g8 i t)\/(∃x t,k=bJ x/\v=g9 x t)
 | .inl i,v,h=>by
  obtain⟨t,e⟩:=Value.isInt_shape (k:=i) (v:=v) h
  exact .inl ⟨i,t,rfl,e⟩
 | .inr x,v,h=>by
  obtain⟨t,e⟩:=Value.isStrOf_shape (x:=x) (v:=v) h
  exact .inr ⟨x,t,rfl,e⟩
theorem RX(i:Int)(t:Tok):Lb (.inl i) (.int i t)=true:=by simp [Lb,Value.isInt]
theorem RW(x:Str)(t:Tok):Lb (.inr x) (.str x t)=true:=by simp [Lb,Value.isStrOf]
theorem Xb(a b:Int):decide ((eh a:Key)=eh b)=(a==b):=by
 by_cases e:a=b
 ·subst e; simp
 ·have h:¬(eh a:Key)=eh b:=λq=>e (Sum.inl.inj q)
  rw [decide_eq_false h]
  exact(beq_eq_false_iff_ne.mpr e).symm
theorem XY(a b:Str):decide ((bJ a:Key)=bJ b)=decide (a=b):=by
 by_cases e:a=b
 ·subst e; simp
 ·have h:¬(bJ a:Key)=bJ b:=λq=>e (cJ q)
  rw [decide_eq_false h,decide_eq_false e]
theorem Xa(a:Int)(b:Str):decide ((eh a:Key)=bJ b)=false:=decide_eq_false (λq=>nomatch q)
theorem XZ(a:Str)(b:Int):decide ((bJ a:Key)=eh b)=false:=decide_eq_false (λq=>nomatch q)
noncomputable def Be(prog:Program)(w:World):PySem.KeyKind prog w Key where
 is:=Lb
 hash:=Zw w
 inj:=λv a b ha hb=>by
  rcases Bg ha with ⟨i,t,rfl,rfl⟩ | ⟨x,t,rfl,rfl⟩
  ·rcases Bg hb with ⟨j,u,rfl,e⟩ | ⟨y,u,rfl,e⟩
   ·injection e with e1 _; rw [e1]
   ·exact nomatch e
  ·rcases Bg hb with ⟨j,u,rfl,e⟩ | ⟨y,u,rfl,e⟩
   ·exact nomatch e
   ·injection e with e1 _; rw [e1]
 byValue:=λk v h=>by
  rcases Bg h with ⟨i,t,rfl,rfl⟩ | ⟨x,t,rfl,rfl⟩ <;> rfl
 pyHash:=λhv h=>by
  rcases Bg hv with ⟨i,t,rfl,rfl⟩ | ⟨x,t,rfl,rfl⟩
  ·exact wpAny_pyHash_int h
  ·exact wpAny_pyHash_str h
 eqBool:=λhu hv h=>by
  rcases Bg hu with ⟨i,t,rfl,rfl⟩ | ⟨x,t,rfl,rfl⟩
  ·rcases Bg hv with ⟨j,u,rfl,rfl⟩ | ⟨y,u,rfl,rfl⟩
   ·rw [Xb] at h; exact wpAny_eqBool_int h
   ·rw [Xa] at h; exact g_ i t y u _ _ _ _ h
  ·rcases Bg hv with ⟨j,u,rfl,rfl⟩ | ⟨y,u,rfl,rfl⟩
   ·rw [XZ] at h; exact hG x t j u _ _ _ _ h
   ·rw [XY] at h; exact wpAny_eqBool_str h
 «strs»:=λk x t v h=>by
  rcases Bg h with ⟨i,u,rfl,e⟩ | ⟨y,u,rfl,e⟩
  ·exact nomatch e
  ·injection e with e1 _
   subst e1
   cases v <;> rfl
theorem Nu(prog:Program)(w:World)(i:Int)(t:Tok):(Be prog w).is (.inl i) (.int i t)=true:=RX i t
theorem Nq(prog:Program)(w:World)(x:Str)(t:Tok):(Be prog w).is (.inr x) (.str x t)=true:=RW x t
inductive V where
 | non | bl (b:Bool) | int (i:Int) | str (x:Str) | byt (b:Array UInt8) | flt (b:UInt64) | ref (a:Addr) | ty (n:String)
 deriving DecidableEq
noncomputable def RelV:V->Value->Prop
 | .non,u=>u=bQ
 | .bl b,u=>u=dA b
 | .int i,u=>∃t,u=g8 i t
 | .str x,u=>∃t,u=g9 x t
 | .byt b,u=>∃t,u=Value.bytes b t
 | .flt b,u=>∃t,u=Value.float b t
 | .ref a,u=>u=bT a
 | .ty n,u=>u=f_ n
noncomputable abbrev Vals:List V->List Value->Prop:=Paired RelV
theorem Vals.length{xs:List V}{us:List Value}(r:Vals xs us):xs.length=us.length:=Paired.length r
theorem Vals.get:∀{xs:List V} {us:List Value} {i:Nat} {x:V},Vals xs us->xs[i]?=some x->∃u,us[i]?=some u/\RelV x u
 | _,_,_,_,.nil,e=>by simp at e
 | _,_,0,_,.cons r _,e=>by simp at e; subst e; exact⟨_,rfl,r⟩
 | _,_,i+1,x,.cons _ t,e=>by
  obtain⟨u,h1,h2⟩:=Vals.get (i:=i) (x:=x) t (by simpa using e)
  exact⟨u,by simpa using h1,h2⟩
theorem Vals.set{x:V}{u:Value}(r:RelV x u):∀{xs:List V} {us:List Value} (i:Nat),Vals xs us->Vals (xs.set i x) (us.set i u)
 | _,_,_,.nil=>.nil
 | _,_,0,.cons _ t=>.cons r t
 | _,_,i+1,.cons q t=>.cons q (Vals.set r i t)
theorem Vals.append:∀{xs ys:List V} {us ws:List Value},Vals xs us->Vals ys ws->Vals (xs++ys) (us++ws)
 | _,_,_,_,.nil,s=>s
 | _,_,_,_,.cons r t,s=>.cons r (Vals.append t s)
theorem Vals.take:∀{xs:List V} {us:List Value} (n:Nat),Vals xs us->Vals (xs.take n) (us.take n)
 | _,_,0,_=>.nil
 | _,_,_+1,.nil=>.nil
 | _,_,n+1,.cons r t=>.cons r (Vals.take n t)
theorem Vals.drop:∀{xs:List V} {us:List Value} (n:Nat),Vals xs us->Vals (xs.drop n) (us.drop n)
 | _,_,0,r=>r
 | _,_,_+1,.nil=>.nil
 | _,_,n+1,.cons _ t=>Vals.drop n t
noncomputable def RelO:Option V->Option Value->Prop
 | some v,some u=>RelV v u
 | none,none=>True
 | _,_=>False
noncomputable def KV{κ:Type}:List (κ×V)->List (κ×Value)->Prop:=Paired fun(p:κ×V) (q:κ×Value)=>p.1=q.1/\RelV p.2 q.2
noncomputable def kV:Key->V
 | .inl i=>.int i
 | .inr x=>.str x
inductive HO where
 | lst (xs:List V)
 | tup (xs:List V)
 | dK (kvs:List (Key×V)) | dT (kvs:List (List Key×V))
 | set (S:Int->Bool) (n:Nat)
 | ins (C dx:Addr) (fs:List (Str×V))
 | own (x:Addr)
 | xd (fs:List (Str×V))
 | met (f x:Addr)
 | rng (lo hi:Int)
 | frz (o:Obj) (u:HO)
 | tbl (ps:Array Value)
 | ext (φ:Heap->Prop)
noncomputable abbrev Hp:=Addr->Option HO
noncomputable def BN(H:Hp)(a:Addr)(o:HO):Hp:=λb=>if b=a then some o else H b
theorem Ak{H:Hp}{a:Addr}{o:HO}:BN H a o a=some o:=by unfold BN; rw [if_pos rfl]
theorem Ac{H:Hp}{a b:Addr}{o:HO}(h:b≠a):BN H a o b=H b:=by unfold BN; rw [if_neg h]
theorem Yv{H:Hp}{a b:Addr}{o u:HO}(h:H a=some o)(h':H b=some u)(d:o≠u):a≠b:=by
 intro e; subst e; rw [h] at h'; exact d (Uf h')
theorem BE{H:Hp}{a b:Addr}{o:HO}(h:H a=some o)(h':H b=none):a≠b:=by
 intro e; subst e; rw [h] at h'; cases h'
noncomputable def IsTupN(h:Heap)(a:Addr)(items:Array Value):Prop:=∃o,h.get? a=some o/\o.cls=.type "tuple"/\∃n,o.data=.seq items n/\o.dict=none/\o.slots=#[]
theorem IsTupN.tup{h:Heap}{a:Addr}{items:Array Value}(x:IsTupN h a items):IsTup h a items:=let ⟨o,h1,h2,n,h3,_⟩:=x; ⟨o,h1,h2,n,h3⟩
theorem IsTupN.new(h:Heap)(items:Array Value):IsTupN (h.push { cls:=.type "tuple",data:=.seq items }) h.objs.size items:=⟨_,XV _ rfl,rfl,_,rfl,rfl,rfl⟩
section
variable (P:Program)(w:World)
noncomputable def ObjOk(H:Hp)(h:Heap)(a:Addr):HO->Prop
 | .lst xs=>xs.length<=sizeLine/\∃(its:List Value) (n:Nat),Vals xs its/\h.get? a=some { cls:=.type "list",data:=.seq its.toArray n }
 | .tup xs=>xs.length<=sizeLine/\∃its:List Value,Vals xs its/\IsTupN h a its.toArray
 | .dK kvs=>kvs.length<=sizeLine/\(a==sysModules)=false/\∃vs,KV kvs vs/\h.DictOf (Be P w) a vs
 | .dT kvs=>kvs.length<=sizeLine/\(a==sysModules)=false/\∃xs:List (List Key×Addr×Value),
   Paired (fun(p:List Key×V) (q:List Key×Addr×Value)=>p.1=q.1/\H q.2.1=some (.tup (p.1.map kV))/\RelV p.2 q.2.2) kvs xs /\
   ∃o es ep,h.get? a=some o/\o.ExactDict/\o.data=.dict es ep/\es.toList=xs.map (entryOfKey (tupleKind (Be P w)))/\(xs.map (·.1)).Nodup
 | .set S n=>h.SetOf (intKind P w) a S n
 | .ins C dx fs=>H dx=some (.own a)/\fs.length<=1000/\dx≠a/\h.get? a=some (PySem.W.instObj C dx) /\
   ∃mA,h.Ns1 dx mA/\(∀f,RelO (fs.lookup f) (mA f))/\PySem.Within mA (fs.map (·.1))
 | .own _=>∃o,h.get? a=some o
 | .xd fs=>∃mA,h.Ns1 a mA/\∀f,RelO (fs.lookup f) (mA f)
 | .rng lo hi=>∃t u v,h.get? a=some { cls:=.type "range",data:=.fields #[.int lo t,.int hi u,.int 1 v] }
 | .frz o u=>h.get? a=some o/\ObjOk H h a u
 | .tbl ps=>h.get? a=some { cls:=.none,data:=.fields ps }
 | .met f x=>h.get? a=some (PySem.W.methodObj (.ref f) (.ref x))
 | .ext φ=>φ h/\(∃o,h.get? a=some o)/\∀h1 h2:Heap,φ h1->(∀o,h1.get? a=some o->h2.get? a=some o)->φ h2
noncomputable def HOk(H:Hp)(h:Heap):Prop:=∀a o,H a=some o->ObjOk P w H h a o
end
section
variable {P:Program}{w:World}{H H':Hp}{h h':Heap}{a:Addr}{o:HO}
theorem ObjOk.lt(x:ObjOk P w H h a o):a<h.objs.size:=by
 cases o with
 | lst xs=>obtain⟨_,_,_,_,e⟩:=x; exact ZB e
 | tup xs=>obtain⟨_,_,_,p⟩:=x; exact p.tup.lt
 | dK kvs=>obtain⟨_,_,_,_,o,_,_,e,_⟩:=x; exact ZB e
 | dT kvs=>obtain⟨_,_,_,_,o,_,_,e,_⟩:=x; exact ZB e
 | set S n=>obtain⟨o,_,_,_,e,_⟩:=x; exact ZB e
 | ins C dx fs=>obtain⟨_,_,_,e,_⟩:=x; exact ZB e
 | own y=>obtain⟨_,e⟩:=x; exact ZB e
 | xd fs=>obtain⟨_,⟨_,_,_,e,_⟩,_⟩:=x; exact ZB e
 | rng lo hi=>obtain⟨_,_,_,e⟩:=x; exact ZB e
 | frz ob u=>obtain⟨e,_⟩:=x; exact ZB e
 | tbl ps=>exact ZB (show h.get? a=some _ from x)
 | met f y=>exact ZB (show h.get? a=some _ from x)
 | ext φ=>obtain⟨_,⟨_,e⟩,_⟩:=x; exact ZB e
theorem Paired.mapP{α β:Type}{F G:α->β->Prop}:∀{l₁:List α} {l₂:List β},Paired F l₁ l₂->(∀a b,F a b->G a b)->Paired G l₁ l₂
 | _,_,.nil,_=>.nil
 | _,_,.cons r t,f=>.cons (f _ _ r) (Paired.mapP t f)
theorem ObjOk.stay(x:ObjOk P w H h a o)(k:∀b u,(b=a\/H b=some (.own a))->h.get? b=some u->h'.get? b=some u)
  (ho:∀b,H b=some (.own a)->H' b=some (.own a)) (ht:∀b xs,H b=some (.tup xs)->H' b=some (.tup xs)):ObjOk P w H' h' a o:=by
 induction o with
 | lst xs=>obtain⟨z,its,n,r,e⟩:=x; exact⟨z,its,n,r,k _ _ (.inl rfl) e⟩
 | tup xs=>obtain⟨z,its,r,ob,e,c⟩:=x; exact⟨z,its,r,ob,k _ _ (.inl rfl) e,c⟩
 | dK kvs=>obtain⟨z,y,vs,r,ob,es,ep,e,c⟩:=x; exact⟨z,y,vs,r,ob,es,ep,k _ _ (.inl rfl) e,c⟩
 | dT kvs =>
  obtain⟨z,y,xs,r,ob,es,ep,e,c⟩:=x
  exact⟨z,y,xs,Paired.mapP r λp q z=>⟨z.1,ht _ _ z.2.1,z.2.2⟩,ob,es,ep,k _ _ (.inl rfl) e,c⟩
 | set S n=>obtain⟨ob,es,ep,t,e,c⟩:=x; exact⟨ob,es,ep,t,k _ _ (.inl rfl) e,c⟩
 | ins C dx fs =>
  obtain⟨d,z,ne,e,mA,⟨od,es,ep,e2,c⟩,r⟩:=x
  exact⟨ho _ d,z,ne,k _ _ (.inl rfl) e,mA,⟨od,es,ep,k _ _ (.inr d) e2,c⟩,r⟩
 | own y=>obtain⟨ob,e⟩:=x; exact⟨ob,k _ _ (.inl rfl) e⟩
 | xd fs=>obtain⟨mA,⟨od,es,ep,e,c⟩,r⟩:=x; exact⟨mA,⟨od,es,ep,k _ _ (.inl rfl) e,c⟩,r⟩
 | rng lo hi=>obtain⟨t,u,v,e⟩:=x; exact⟨t,u,v,k _ _ (.inl rfl) e⟩
 | frz ob u ih=>obtain⟨e,q⟩:=x; exact⟨k _ _ (.inl rfl) e,ih q⟩
 | tbl ps =>
  have e:h.get? a=some { cls:=.none,data:=.fields ps }:=x
  show h'.get? a=some { cls:=.none,data:=.fields ps }
  exact k a _ (.inl rfl) e
 | met f y =>
  have e:h.get? a=some (PySem.W.methodObj (.ref f) (.ref y)):=x
  show h'.get? a=some (PySem.W.methodObj (.ref f) (.ref y))
  exact k a _ (.inl rfl) e
 | ext φ=>obtain⟨p,⟨o,e⟩,st⟩:=x; exact⟨st _ _ p λo q=>k _ _ (.inl rfl) q,⟨o,k _ _ (.inl rfl) e⟩,st⟩
theorem HOk.lt(x:HOk P w H h)(e:H a=some o):a<h.objs.size:=(x a o e).lt
theorem HOk.fresh(x:HOk P w H h)(e:h.objs.size<=a):H a=none:=by
 cases q:H a with
 | none=>rfl
 | some u=>exact absurd (bH (x.lt q) e) (cP _)
theorem HOk.kept(x:HOk P w H h)(k:∀b u,h.get? b=some u->h'.get? b=some u):HOk P w H h':=λa o e =>
 (x a o e).stay (λb u _ q=>k b u q) (λ_ q=>q) λ_ _ q=>q
theorem HOk.laid(x:HOk P w H h)(k:∀b u,h.get? b=some u->h'.get? b=some u)(hp:h.objs.size<=a)(new:ObjOk P w (BN H a o) h' a o):HOk P w (BN H a o) h':=λb u e=>by
 have hn:=x.fresh hp
 by_cases hb:b=a
 ·subst hb; rw [Ak] at e; cases e; exact new
 ·rw [Ac hb] at e
  exact(x b u e).stay (λc v _ q=>k c v q) (λc q=>by rw [Ac (BE q hn)]; exact q) λc xs q=>by rw [Ac (BE q hn)]; exact q
end
noncomputable def Rd(H:Hp)(a:Addr)(u:HO):Prop:=H a=some u\/∃o,H a=some (.frz o u)
theorem Rd.ok{P:Program}{w:World}{H:Hp}{h:Heap}{a:Addr}{u:HO}(r:Rd H a u)(x:HOk P w H h):ObjOk P w H h a u:=by
 rcases r with r | ⟨o,r⟩
 ·exact x a u r
 ·obtain⟨_,q⟩:=x a _ r
  exact q
noncomputable def ZN:Option HO->Prop
 | some (.lst _)=>True
 | some (.dK _)=>True
 | some (.dT _)=>True
 | some (.set _ _)=>True
 | some (.ins _ _ _)=>True
 | some (.ext _)=>True
 | _=>False
section
variable {P:Program}{w:World}{H:Hp}{h h':Heap}{x e:Addr}{o':HO}
theorem HOk.write(ok:HOk P w H h)(mu:ZN (H x))(he:e=x\/H e=some (.own x))(k:∀b u,b≠e->h.get? b=some u->h'.get? b=some u)(heo:∃u,h'.get? e=some u)
  (new:ObjOk P w (BN H x o') h' x o'):HOk P w (BN H x o') h':=λb u q=>by
 have nown:∀c y,H c=some (.own y)->c≠x:=λc y r z=>by subst z; rw [r] at mu; exact mu
 have ntup:∀c xs,H c=some (.tup xs)->c≠x:=λc xs r z=>by subst z; rw [r] at mu; exact mu
 by_cases hb:b=x
 ·subst hb; rw [Ak] at q; cases q; exact new
 ·rw [Ac hb] at q
  by_cases hbe:b=e
  ·have q':H b=some (.own x):=by
    rcases he with z | z
    ·exact absurd (hbe.trans z) hb
    ·rw [hbe]; exact z
   rw [q] at q'; cases q'
   obtain⟨v,hv⟩:=heo
   exact⟨v,by rw [hbe]; exact hv⟩
  ·refine(ok b u q).stay (λc v hc r=>k c v ?_ r) (λc r=>by rw [Ac (nown c b r)]; exact r) λc xs r=>by rw [Ac (ntup c xs r)]; exact r
   rcases hc with rfl | hc
   ·exact hbe
   ·rintro rfl
    rcases he with z | z
    ·exact nown c b hc z
    ·rw [hc] at z; cases z; exact hb rfl
end
structure Un (fs ex:List Addr) (H H':Hp) (h h':Heap):Prop where
 keep:∀b o,h.get? b=some o->H b=none->b∉fs->b∉ex->h'.get? b=some o
 slot:∀b o,h.get? b=some o->H b=none->b∈fs->b∉ex->∃sl,h'.get? b=some { o with slots:=sl }
 free:∀b o,h.get? b=some o->H b=none->b∉ex->H' b=none
 there:∀b o,h.get? b=some o->b∉ex->∃o',h'.get? b=some o'
 tups:∀b xs,H b=some (.tup xs)->H' b=some (.tup xs)
 frzs:∀b o u,H b=some (.frz o u)->H' b=some (.frz o u)
 tbls:∀b ps,H b=some (.tbl ps)->∃more,H' b=some (.tbl (ps++more))
section
variable {fs fs' ex ex':List Addr}{H H1 H2:Hp}{h h1 h2 h':Heap}{a x e:Addr}{o:HO}
theorem Un.any(u:Un fs ex H H1 h h1){b:Addr}{ob:Obj}(q:h.get? b=some ob)(n:H b=none)(hx:b∉ex):∃sl,h1.get? b=some { ob with slots:=sl }:=by
 by_cases hb:b∈fs
 ·exact u.slot b ob q n hb hx
 ·exact⟨ob.slots,u.keep b ob q n hb hx⟩
theorem Un.kept(k:∀b u,h.get? b=some u->h'.get? b=some u):Un fs ex H H h h' :=
 ⟨λb ob q _ _ _=>k b ob q,λb ob q _ _ _=>⟨ob.slots,k b ob q⟩,λ_ _ _ n _=>n,λb ob q _=>⟨ob,k b ob q⟩,λ_ _ q=>q,λ_ _ _ q=>q,λ_ ps q=>⟨#[],by rw [q]; simp⟩⟩
theorem Un.refl:Un fs ex H H h h:=Un.kept λ_ _ q=>q
theorem Un.laid(k:∀b u,h.get? b=some u->h'.get? b=some u)(hp:h.objs.size<=a)(hn:H a=none):Un fs ex H (BN H a o) h h' where
 keep:=λb u q _ _ _=>k b u q
 slot:=λb u q _ _ _=>⟨u.slots,k b u q⟩
 free:=λb u q n _=>by rw [Ac (bG (bH (ZB q) hp))]; exact n
 there:=λb u q _=>⟨u,k b u q⟩
 tups:=λb xs q=>by rw [Ac (BE q hn)]; exact q
 frzs:=λb u xs q=>by rw [Ac (BE q hn)]; exact q
 tbls:=λb ps q=>⟨#[],by rw [Ac (BE q hn),q]; simp⟩
theorem Un.write(mu:ZN (H x))(he:e=x\/H e=some (.own x))(k:∀b u,b≠e->h.get? b=some u->h'.get? b=some u)(heo:∃u,h'.get? e=some u):Un fs ex H (BN H x o) h h':=by
 have hx:∀b,H b=none->b≠x:=λb n z=>by subst z; rw [n] at mu; exact mu
 have hb:∀b,H b=none->b≠e:=λb n z=>by
  subst z
  rcases he with r | r
  ·exact hx b n r
  ·rw [n] at r; cases r
 have hm:∀b u,H b=some u->¬ZN (some u)->b≠x:=λb u q nm z=>by subst z; rw [q] at mu; exact nm mu
 refine⟨λb u q n _ _=>k b u (hb b n) q,λb u q n _ _=>⟨u.slots,k b u (hb b n) q⟩,λb u q n _=>by rw [Ac (hx b n)]; exact n,λb u q _=>?_,
  λb xs q=>by rw [Ac (hm b _ q λz=>z)]; exact q,λb u xs q=>by rw [Ac (hm b _ q λz=>z)]; exact q,λb ps q=>⟨#[],by rw [Ac (hm b _ q λz=>z),q]; simp⟩⟩
 by_cases hbe:b=e
 ·subst hbe; exact heo
 ·exact⟨u,k b u hbe q⟩
end
noncomputable def ZV(h:Heap)(H:Hp):List Addr:=(bB h.objs.size).filter λa=>(H a).isSome
noncomputable def Mg(h:Heap)(H:Hp):Heap:=PySem.W.hideAll h (ZV h H)
theorem Rc(h:Heap)(H:Hp):(Mg h H).objs.size=h.objs.size:=PySem.W.hideAll_size _ _
theorem Tl{h:Heap}{H:Hp}{b:Addr}{o:Obj}(e:h.get? b=some o)(n:H b=none):(Mg h H).get? b=some o :=
 PySem.W.hideAll_get _ e λhm=>by
  have q:(H b).isSome=true:=(fA.mp hm).2
  rw [n] at q; simp at q
theorem VT{h:Heap}{H:Hp}{b:Addr}{o:Obj}(e:(Mg h H).get? b=some o):h.get? b=some o/\H b=none:=by
 have e':h.get? b=some o:=PySem.W.of_hideAll (ZV h H) e
 refine⟨e',?_⟩
 cases q:H b with
 | none=>rfl
 | some x =>
  have hm:b∈ZV h H:=fA.mpr ⟨bU.mpr (ZB e'),by simp [q]⟩
  have z:(Mg h H).get? b=none:=PySem.W.hideAll_none (ZV h H) hm
  rw [z] at e; cases e
structure Mod (K:Frag) (mg:Str->Option Value) (base:Heap):Prop where
 kin:K.In base
 glob:base.Ns mainGlobals mg
 blt:∃mb,base.Ns builtinsNs mb/\∀x:Str,x ≠ "__name__"->mb x=bootBuiltins x
 nolimit:base.NoLimit
/-- the context: a def's body (or a comprehension's block) running. base: fixed through the whole law; s₀, H₀: the entry; outer: the frames whose slots others may change (a def's callers); stack: all frames that run;
   ex: iterators that were made ahead of the entry and are walked here (a comprehension's); fn: the names whose cells were made at the entry (a def: all; a comprehension's block: its own); calm: not within an except suite; pn: pins that every state bears; xe: what is wanted of an exception that leaves the code -/
structure Cx where
 prog:Program
 w:World
 K:Frag
 mg:Str->Option Value
 base:Heap
 A:Around
 N:List Str
 s₀:Shared
 H₀:Hp
 env:Env
 outer:List Env
 stack:List Env
 ex:List Addr
 fn:Str->Bool
 calm:Bool
 pn:List (Addr×Obj)
 xe:Value->Shared->Prop
noncomputable def Rg(l:List Env):List Addr:=l.filterMap (·.frame)
noncomputable abbrev Cx.fs(X:Cx):List Addr:=Rg X.outer
noncomputable def X7(sc:Scope)(x:Str):Prop:=sc.names.lookup x=some .local\/sc.names.lookup x=some .cell\/sc.names.lookup x=some .free
noncomputable def Loc(sc:Scope)(x:Str):Prop:=sc.names.lookup x=some .local\/sc.names.lookup x=some .cell
noncomputable def Look(env:Env)(h:Heap)(m:Str->Option Value)(x:Str)(u:Value):Prop :=
 (env.kindOf x=some .local/\m x=some u)\/((env.kindOf x=some .cell\/env.kindOf x=some .free)/\∃c,env.cells.lookup x=some c/\h.IsCell c (some u))
structure Cx.Ok (X:Cx):Prop where
 mod:Mod X.K X.mg X.base
 kind:X.env.scope.kind=.function
 glob:X.env.globals=mainGlobals
 blt:X.env.builtins=builtinsNs
 above:X.s₀.heap.objs.size<=X.env.locals
 inj:∀x y c,X.env.cells.lookup x=some c->X.env.cells.lookup y=some c->x=y
 has:∀x,(X.env.kindOf x=some .cell\/X.env.kindOf x=some .free)->∃c,X.env.cells.lookup x=some c
 cab:∀x c,X.fn x=true->X.env.cells.lookup x=some c->X.s₀.heap.objs.size<=c
 hd:X.calm=true->X.A.handled=none
 frames:X.A.frames=some X.stack
 stk:X.stack=X.outer\/(X.stack=X.env::X.outer/\X.env.frame=some X.env.locals)
 exf:∀b∈X.ex,b≠X.env.locals/\∀x c,X.env.cells.lookup x=some c->c≠b
 bs:∀b o,X.base.get? b=some o->X.s₀.heap.get? b=some o/\X.H₀ b=none
 bsz:X.base.objs.size<=X.s₀.heap.objs.size
 noex:∀b o,X.base.get? b=some o->b∉X.ex
 exfs:∀b∈X.ex,b∉X.fs
 funs:X.s₀.heap.FunFrames X.base X.outer
 frf:∀b∈X.fs,X.H₀ b=none
structure Inv (X:Cx) (pins:List (Addr×Obj)) (σ:List (Option V)) (H:Hp) (s:Shared):Prop where
 ok:X.Ok
 os:s.os=X.s₀.os
 bare:AllBare s.gens
 base:Un X.fs X.ex X.H₀ H X.s₀.heap s.heap
 loc:∃m,s.heap.Ns X.env.locals m/\∀(i:Nat) (x:Str) (v:V),X.N[i]?=some x->σ[i]?=some (some v)->X7 X.env.scope x->∃u,RelV v u/\Look X.env s.heap m x u
 cell:∀x c,X.env.cells.lookup x=some c->∃v,s.heap.IsCell c v
 free:H X.env.locals=none
 freeC:∀x c,X.env.cells.lookup x=some c->H c=none
 pin:∀p∈X.pn++pins,s.heap.get? p.1=some p.2/\H p.1=none/\p.1≠X.env.locals/\p.1∉X.fs/\∀v,p.2.data≠.cell v
 hok:HOk X.prog X.w H s.heap
 len:σ.length=X.N.length
section
variable {X:Cx}{pins:List (Addr×Obj)}{σ:List (Option V)}{H H':Hp}{s:Shared}{h':Heap}
theorem Cx.Ok.nofr(ok:X.Ok){b:Addr}{o:Obj}(e:X.base.get? b=some o):b∉X.fs:=λhb=>by
 have:=(ok.funs.mem hb).1
 rw [e] at this; cases this
theorem Inv.bs(I:Inv X pins σ H s):∀b o,X.base.get? b=some o->s.heap.get? b=some o/\H b=none:=λb o e =>
 ⟨I.base.keep b o (I.ok.bs b o e).1 (I.ok.bs b o e).2 (I.ok.nofr e) (I.ok.noex b o e),I.base.free b o (I.ok.bs b o e).1 (I.ok.bs b o e).2 (I.ok.noex b o e)⟩
theorem Inv.bk(I:Inv X pins σ H s):∀b o,X.base.get? b=some o->s.heap.get? b=some o:=λb o e=>(I.bs b o e).1
theorem Inv.mod(I:Inv X pins σ H s):Mod X.K X.mg X.base:=I.ok.mod
theorem Inv.kIn(I:Inv X pins σ H s):X.K.In s.heap:=I.ok.mod.kin.keeps I.bk
theorem Inv.lt(I:Inv X pins σ H s):X.env.locals<s.heap.objs.size:=let ⟨_,hn,_⟩:=I.loc; hn.lt
theorem Inv.sz(I:Inv X pins σ H s):X.s₀.heap.objs.size<=s.heap.objs.size:=bF I.ok.above (eC I.lt)
theorem Inv.nofs(I:Inv X pins σ H s){a:Addr}(h:s.heap.objs.size<=a):a∉X.fs:=λhb=>by
 obtain⟨_,o,ho,_⟩:=I.ok.funs.mem hb
 exact absurd (bH (ZB ho) (bF I.sz h)) (cP _)
theorem Inv.cne(I:Inv X pins σ H s):∀x c,X.env.cells.lookup x=some c->c≠X.env.locals:=λx c e z=>by
 obtain⟨v,o,ho,hd⟩:=I.cell x c e
 obtain⟨m,⟨o',es,ep,ho',hd',_⟩,_⟩:=I.loc
 rw [z,ho'] at ho; cases ho; rw [hd'] at hd; cases hd
theorem Inv.funs(I:Inv X pins σ H s):s.heap.FunFrames X.base X.outer:=by
 have all:∀(l:List Env),(∀b∈Rg l,b∈X.fs)->X.s₀.heap.FunFrames X.base l->s.heap.FunFrames X.base l:=by
  intro l
  induction l with
  | nil=>intro _ _; trivial
  | cons env r ih =>
   intro hs hl
   obtain⟨hk,⟨L,o,hf,hn,ho,hd⟩,hr⟩:=hl
   have hL:L∈X.fs:=hs L (by unfold Rg; rw [cn,hf]; exact On)
   obtain⟨sl,e⟩:=I.base.slot L o ho (I.ok.frf L hL) hL λz=>I.ok.exfs L z hL
   exact⟨hk,⟨L,_,hf,hn,e,hd⟩,ih (λb hb=>hs b (by unfold Rg; rw [cn,hf]; exact TM _ hb)) hr⟩
 exact all X.outer (λ_ hb=>hb) I.ok.funs
theorem Inv.stack(I:Inv X pins σ H s):s.heap.FunFrames X.base X.stack:=by
 rcases I.ok.stk with e | ⟨e,hf⟩
 ·rw [e]; exact I.funs
 ·rw [e]
  obtain⟨m,hn,_⟩:=I.loc
  refine .cons (by rw [I.ok.kind]; decide) hf hn ?_ I.funs
  exact Heap.get?_none_of_le (bF I.ok.bsz I.ok.above)
theorem Inv.stkSub(I:Inv X pins σ H s):∀b∈Rg X.stack,b∈X.env.locals::X.fs:=λb hb=>by
 rcases I.ok.stk with e | ⟨e,hf⟩
 ·rw [e] at hb; exact TM _ hb
 ·rw [e] at hb
  unfold Rg at hb
  rw [cn,hf] at hb
  exact hb
theorem Inv.stkFree(I:Inv X pins σ H s):∀b∈Rg X.stack,H b=none:=λb hb=>by
 rcases aq.mp (I.stkSub b hb) with e | hb
 ·rw [e]; exact I.free
 ·obtain⟨_,o,ho,_⟩:=I.ok.funs.mem hb
  exact I.base.free b o ho (I.ok.frf b hb) λz=>I.ok.exfs b z hb
theorem Inv.step{g':Array GenState}{t':Nat}{d':Drawn}{ch:List Addr}(I:Inv X pins σ H s)
  (hch:∀b∈ch,(b∈X.ex\/X.s₀.heap.objs.size<=b)/\b≠X.env.locals/\(∀x c,X.env.cells.lookup x=some c->c≠b)/\∀p∈X.pn++pins,p.1≠b)
  (keep:∀b o,b≠X.env.locals->b∉X.fs->b∉ch->s.heap.get? b=some o->H b=none->h'.get? b=some o)
  (slot:∀b o,b≠X.env.locals->b∈X.fs->b∉ch->s.heap.get? b=some o->H b=none->∃sl,h'.get? b=some { o with slots:=sl }) (free:∀b o,b∉ch->s.heap.get? b=some o->H b=none->H' b=none)
  (there:∀b o,b∉ch->s.heap.get? b=some o->∃o',h'.get? b=some o')
  (tups:∀b xs,H b=some (.tup xs)->H' b=some (.tup xs)) (frzs:∀b o u,H b=some (.frz o u)->H' b=some (.frz o u)) (tbls:∀b ps,H b=some (.tbl ps)->∃more,H' b=some (.tbl (ps++more)))
  (ns:∀m,s.heap.Ns X.env.locals m->h'.Ns X.env.locals m) (hok:HOk X.prog X.w H' h') (hg:AllBare g') :
  Inv X pins σ H' { s with heap:=h',gens:=g',drawn:=d',toks:=t' }:=by
 have neL:∀b o,X.s₀.heap.get? b=some o->b≠X.env.locals:=λb o e=>bG (bH (ZB e) I.ok.above)
 have neC:∀b o,X.s₀.heap.get? b=some o->b∉X.ex->b∉ch:=λb o e hx hb=>by
  rcases (hch b hb).1 with z | z
  ·exact hx z
  ·exact absurd (bH (ZB e) z) (cP _)
 have cellK:∀x c,X.env.cells.lookup x=some c->∀v,s.heap.IsCell c v->h'.IsCell c v:=λx c e v ⟨o,ho,hd⟩=>by
  have nch:c∉ch:=λz=>(hch c z).2.2.1 x c e rfl
  by_cases hc:c∈X.fs
  ·obtain⟨sl,q⟩:=slot c o (I.cne x c e) hc nch ho (I.freeC x c e)
   exact⟨_,q,hd⟩
  ·exact⟨o,keep c o (I.cne x c e) hc nch ho (I.freeC x c e),hd⟩
 refine⟨I.ok,I.os,hg,⟨λb o e n hb hx=>?_,λb o e n hb hx=>?_,λb o e n hx=>?_,λb o e hx=>?_,λb xs e=>tups b xs (I.base.tups b xs e),λb o xs e=>frzs b o xs (I.base.frzs b o xs e),λb ps e=>?_⟩,?_,λx c e=>?_,?_,λx c e=>?_,λp hp=>?_,hok,I.len⟩
 ·exact keep b o (neL b o e) hb (neC b o e hx) (I.base.keep b o e n hb hx) (I.base.free b o e n hx)
 ·obtain⟨sl,e1⟩:=I.base.slot b o e n hb hx
  obtain⟨sl',e2⟩:=slot b _ (neL b o e) hb (neC b o e hx) e1 (I.base.free b o e n hx)
  exact⟨sl',e2⟩
 ·obtain⟨o',e1⟩:=I.base.there b o e hx
  exact free b o' (neC b o e hx) e1 (I.base.free b o e n hx)
 ·obtain⟨o',e1⟩:=I.base.there b o e hx
  exact there b o' (neC b o e hx) e1
 ·obtain⟨m1,e1⟩:=I.base.tbls b ps e
  obtain⟨m2,e2⟩:=tbls b _ e1
  exact⟨m1++m2,by rw [e2,Array.append_assoc]⟩
 ·obtain⟨m,hn,hl⟩:=I.loc
  refine⟨m,ns m hn,λi x v e1 e2 e3=>?_⟩
  obtain⟨u,r,l⟩:=hl i x v e1 e2 e3
  refine⟨u,r,?_⟩
  rcases l with l | ⟨k,c,e,z⟩
  ·exact .inl l
  ·exact .inr ⟨k,c,e,cellK x c e _ z⟩
 ·obtain⟨v,z⟩:=I.cell x c e
  exact⟨v,cellK x c e v z⟩
 ·obtain⟨m,⟨o,_,_,ho,_⟩,_⟩:=I.loc
  exact free _ o (λz=>(hch _ z).2.1 rfl) ho I.free
 ·obtain⟨v,o,ho,hd⟩:=I.cell x c e
  exact free c o (λz=>(hch c z).2.2.1 x c e rfl) ho (I.freeC x c e)
 ·obtain⟨e,n,ne,nf,d⟩:=I.pin p hp
  have nch:p.1∉ch:=λz=>(hch p.1 z).2.2.2 p hp rfl
  exact⟨keep p.1 p.2 ne nf nch e n,free p.1 p.2 nch e n,ne,nf,d⟩
theorem Inv.un{t':Nat}(I:Inv X pins σ H s)(u:Un X.fs [] H H' s.heap h')(hok:HOk X.prog X.w H' h'):Inv X pins σ H' { s with heap:=h',toks:=t' }:=by
 obtain⟨m,⟨o,es,ep,ho,r⟩,_⟩:=id I.loc
 obtain⟨sl,hL⟩:=u.any ho I.free (by simp)
 exact I.step (g':=s.gens) (d':=s.drawn) (ch:=[]) (λ_ z=>nomatch z) (λb o _ hb _ e n=>u.keep b o e n hb (by simp)) (λb o _ hb _ e n=>u.slot b o e n hb (by simp)) (λb o _ e n=>u.free b o e n (by simp)) (λb o _ e=>u.there b o e (by simp)) u.tups u.frzs u.tbls (λm' hm=>by
  obtain⟨o',es',ep',ho',r'⟩:=hm
  rw [ho] at ho'; cases ho'
  exact⟨_,es',ep',hL,r'⟩) hok I.bare
theorem Inv.call{g':Array GenState}{t':Nat}{d':Drawn}{ch:List Addr}(I:Inv X pins σ H s)(u:Un (Rg X.stack) ch H H' s.heap h')(hok:HOk X.prog X.w H' h')(hg:AllBare g')
  (hch:∀b∈ch,(b∈X.ex\/X.s₀.heap.objs.size<=b)/\b≠X.env.locals/\(∀x c,X.env.cells.lookup x=some c->c≠b)/\∀p∈X.pn++pins,p.1≠b) :
  Inv X pins σ H' { s with heap:=h',gens:=g',drawn:=d',toks:=t' }:=by
 obtain⟨m,⟨o,es,ep,ho,r⟩,_⟩:=id I.loc
 obtain⟨sl,hL⟩:=u.any ho I.free λz=>(hch _ z).2.1 rfl
 exact I.step (ch:=ch) hch (λb o hL hb hc e n=>u.keep b o e n (λz=>(aq.mp (I.stkSub b z)).elim hL hb) hc) (λb o _ _ hc e n=>u.any e n hc) (λb o hc e n=>u.free b o e n hc) (λb o hc e=>u.there b o e hc) u.tups u.frzs u.tbls (λm' hm=>by
  obtain⟨o',es',ep',ho',r'⟩:=hm
  rw [ho] at ho'; cases ho'
  exact⟨_,es',ep',hL,r'⟩) hok hg
theorem Inv.turned{t':Nat}{it:Addr}(I:Inv X pins σ H s)(k:∀b o,b≠it->s.heap.get? b=some o->h'.get? b=some o)(hn:H it=none)(hL:it≠X.env.locals)
  (h1:it∈X.ex\/X.s₀.heap.objs.size<=it) (h2:∀x c,X.env.cells.lookup x=some c->c≠it) (h3:∀p∈X.pn++pins,p.1≠it):Inv X pins σ H { s with heap:=h',toks:=t' }:=by
 have nit:∀b u,H b=some u->b≠it:=λb u e z=>by rw [z,hn] at e; cases e
 refine I.step (g':=s.gens) (d':=s.drawn) (ch:=[it]) (λb hb=>?_) (λb o _ _ hc e _=>k b o (λz=>hc (by simp [z])) e) (λb o _ _ hc e _=>⟨o.slots,k b o (λz=>hc (by simp [z])) e⟩) (λ_ _ _ _ n=>n)
  (λb o hc e=>⟨o,k b o (λz=>hc (by simp [z])) e⟩) (λ_ _ e=>e) (λ_ _ _ e=>e) (λb ps e=>⟨#[],by rw [e]; simp⟩) (λm hm=>?_) (λb u e=>?_) I.bare
 ·have e:b=it:=by simpa using hb
  subst e
  exact⟨h1,hL,h2,h3⟩
 ·obtain⟨o,es,ep,ho,r⟩:=hm
  exact⟨o,es,ep,k _ o (cE hL) ho,r⟩
 ·refine(I.hok b u e).stay (λc v hc q=>k c v ?_ q) (λ_ q=>q) λ_ _ q=>q
  rcases hc with z | z
  ·rw [z]; exact nit b u e
  ·exact nit c _ z
theorem Inv.tok(I:Inv X pins σ H s)(t:Nat):Inv X pins σ H { s with toks:=t }:=I.un (h':=s.heap) (t':=t) Un.refl I.hok
theorem Inv.kept{t':Nat}(I:Inv X pins σ H s)(k:∀b u,s.heap.get? b=some u->h'.get? b=some u):Inv X pins σ H { s with heap:=h',toks:=t' }:=I.un (Un.kept k) (I.hok.kept k)
theorem Inv.laid{a:Addr}{o:HO}{t':Nat}(I:Inv X pins σ H s)(k:∀b u,s.heap.get? b=some u->h'.get? b=some u)(hp:s.heap.objs.size<=a)(new:ObjOk X.prog X.w (BN H a o) h' a o) :
  Inv X pins σ (BN H a o) { s with heap:=h',toks:=t' }:=I.un (Un.laid k hp (I.hok.fresh hp)) (I.hok.laid k hp new)
theorem Inv.write{x e:Addr}{o:HO}{t':Nat}(I:Inv X pins σ H s)(mu:ZN (H x))(he:e=x\/H e=some (.own x))(k:∀b u,b≠e->s.heap.get? b=some u->h'.get? b=some u)(heo:∃u,h'.get? e=some u)
  (new:ObjOk X.prog X.w (BN H x o) h' x o):Inv X pins σ (BN H x o) { s with heap:=h',toks:=t' }:=I.un (Un.write mu he k heo) (I.hok.write mu he k heo new)
theorem Inv.pins_of{pins':List (Addr×Obj)}(I:Inv X pins σ H s)(h:∀p∈pins',s.heap.get? p.1=some p.2/\H p.1=none/\p.1≠X.env.locals/\p.1∉X.fs/\∀v,p.2.data≠.cell v):Inv X pins' σ H s :=
 ⟨I.ok,I.os,I.bare,I.base,I.loc,I.cell,I.free,I.freeC,λp hp=>(bD.mp hp).elim (λz=>I.pin p (cH _ z)) (h p),I.hok,I.len⟩
theorem HZ{N:List Str}(hN:N.Nodup){i j:Nat}{x:Str}(a:N[i]?=some x)(b:N[j]?=some x):i=j:=by
 obtain⟨h1,e1⟩:=au.mp a
 obtain⟨h2,e2⟩:=au.mp b
 exact(gE hN).mp (e1.trans e2.symm)
theorem LL{M:Model}{A:Around}{E:Value->Shared->Prop}{i:Nat}{x:Str}{v:V}{u:Value}{Q:Unit->Shared->Prop}(I:Inv X pins σ H s)(hN:X.N.Nodup)(hi:X.N[i]?=some x)(hx:Loc X.env.scope x)(r:RelV v u)
  (h:∀s',Inv X pins (σ.set i (some v)) H s'->(∃a,cz a s.heap s'.heap/\(a=X.env.locals\/X.env.cells.lookup x=some a))->Q () s') (hf:autoParam (X.fn x=true\/X.env.scope.names.lookup x=some .local) zau0._auto_1):wpAny M A (storeName X.env x u) Q E s:=by
 obtain⟨m,hn,hl⟩:=id I.loc
 have hcls:(X.env.scope.kind==.class||(X.env.scope.kind==.module&&X.env.locals != X.env.globals))=false:=by rw [I.ok.kind]; rfl
 have hiσ:i<σ.length:=by rw [I.len]; exact(au.mp hi).1
 have cne:=I.cne
 have tracked:∀{a:Addr} {h':Heap},(∃o,s.heap.get? a=some o/\H a=none)->cz a s.heap h'->HOk X.prog X.w H h':=λ{a h'} ha hs b ob e=>by
  obtain⟨_,_,hfree⟩:=ha
  refine(I.hok b ob e).stay (λc w' hc q=>(hs.2 c ?_).trans q) (λ_ q=>q) λ_ _ q=>q
  rintro rfl
  rcases hc with rfl | hc
  ·rw [hfree] at e; cases e
  ·rw [hfree] at hc; cases hc
 rcases hx with hk | hk
 ·refine wpAny_storeName_local hk hn (λh' hn' hs=>?_) hcls
  obtain⟨oL,_,_,hoL,_⟩:=id hn
  refine h _ ⟨I.ok,I.os,I.bare,⟨λb o e n hb hx=>?_,λb o e n hb hx=>?_,I.base.free,λb o e hx=>?_,I.base.tups,I.base.frzs,I.base.tbls⟩,⟨_,hn',λj y v' e1 e2 e3=>?_⟩,λy c e=>?_,I.free,I.freeC,λp hp=>?_,tracked ⟨oL,hoL,I.free⟩ hs,by simpa using I.len⟩ ⟨_,hs,.inl rfl⟩
  ·exact(hs.2 b (bG (bH (ZB e) I.ok.above))).trans (I.base.keep b o e n hb hx)
  ·obtain⟨sl,e1⟩:=I.base.slot b o e n hb hx
   exact⟨sl,(hs.2 b (bG (bH (ZB e) I.ok.above))).trans e1⟩
  ·obtain⟨o',e1⟩:=I.base.there b o e hx
   exact⟨o',(hs.2 b (bG (bH (ZB e) I.ok.above))).trans e1⟩
  ·by_cases hj:j=i
   ·subst hj
    rw [hi] at e1; cases e1
    rw [gY hiσ] at e2
    cases e2
    exact⟨u,r,.inl ⟨hk,by simp⟩⟩
   ·rw [List.getElem?_set_ne (cE hj)] at e2
    obtain⟨u',r',q⟩:=hl j y v' e1 e2 e3
    refine⟨u',r',?_⟩
    rcases q with ⟨k,e⟩ | ⟨k,c,e,z⟩
    ·refine .inl ⟨k,?_⟩
     have:y≠x:=λe=>hj (HZ hN e1 (e▸hi))
     simp [this,e]
    ·exact .inr ⟨k,c,e,z.sameBut hs (cne y c e)⟩
  ·obtain⟨w',z⟩:=I.cell y c e
   exact⟨w',z.sameBut hs (cne y c e)⟩
  ·obtain⟨e,n,ne,nf,d⟩:=I.pin p hp
   exact⟨(hs.2 p.1 ne).trans e,n,ne,nf,d⟩
 ·have hfn:X.fn x=true:=by
   rcases hf with z | z
   ·exact z
   ·rw [z] at hk; cases hk
  obtain⟨c,hc⟩:=I.ok.has x (.inl hk)
  obtain⟨w',z⟩:=I.cell x c hc
  refine wpAny_storeName_cell I.ok.kind hk hc z (λh' hc' hs=>?_)
  obtain⟨oc,hoc,hocd⟩:=id z
  refine h { s with heap:=h' } ⟨I.ok,I.os,I.bare,⟨λb o e n hb hx=>?_,λb o e n hb hx=>?_,I.base.free,λb o e hx=>?_,I.base.tups,I.base.frzs,I.base.tbls⟩,⟨m,hn.sameBut hs (cE (cne x c hc)),λj y v' e1 e2 e3=>?_⟩,λy c' e=>?_,I.free,I.freeC,λp hp=>?_,tracked ⟨oc,hoc,I.freeC x c hc⟩ hs,by simpa using I.len⟩ ⟨c,hs,.inr hc⟩
  ·exact(hs.2 b (bG (bH (ZB e) (I.ok.cab x c hfn hc)))).trans (I.base.keep b o e n hb hx)
  ·obtain⟨sl,e1⟩:=I.base.slot b o e n hb hx
   exact⟨sl,(hs.2 b (bG (bH (ZB e) (I.ok.cab x c hfn hc)))).trans e1⟩
  ·obtain⟨o',e1⟩:=I.base.there b o e hx
   exact⟨o',(hs.2 b (bG (bH (ZB e) (I.ok.cab x c hfn hc)))).trans e1⟩
  ·by_cases hj:j=i
   ·subst hj
    rw [hi] at e1; cases e1
    rw [gY hiσ] at e2
    cases e2
    exact⟨u,r,.inr ⟨.inl hk,c,hc,hc'⟩⟩
   ·rw [List.getElem?_set_ne (cE hj)] at e2
    obtain⟨u',r',q⟩:=hl j y v' e1 e2 e3
    refine⟨u',r',?_⟩
    rcases q with q | ⟨k,c',e,z'⟩
    ·exact .inl q
    ·refine .inr ⟨k,c',e,z'.sameBut hs ?_⟩
     rintro rfl
     exact hj (HZ hN e1 (I.ok.inj _ _ _ e hc▸hi))
  ·by_cases hcc:c'=c
   ·subst hcc; exact⟨_,hc'⟩
   ·obtain⟨w2,z2⟩:=I.cell y c' e
    exact⟨w2,z2.sameBut hs hcc⟩
  ·obtain⟨e,n,ne,nf,d⟩:=I.pin p hp
   refine⟨(hs.2 p.1 ?_).trans e,n,ne,nf,d⟩
   intro q
   rw [q,hoc] at e
   have q':oc=p.2:=Uf e
   exact d w' (by rw [← q']; exact hocd)
theorem HF{M:Model}{A:Around}{E:Value->Shared->Prop}{i:Nat}{x:Str}{v:V}{u:Value}{Q:Unit->Shared->Prop}(I:Inv X pins σ H s)(hN:X.N.Nodup)(hi:X.N[i]?=some x)(hx:Loc X.env.scope x)(r:RelV v u)
  (h:∀s',Inv X pins (σ.set i (some v)) H s'->Q () s') (hf:autoParam (X.fn x=true\/X.env.scope.names.lookup x=some .local) zau0._auto_1):wpAny M A (storeName X.env x u) Q E s :=
 LL I hN hi hx r (λs' I' _=>h s' I') hf
theorem Inv.call'{s':Shared}{ch:List Addr}(I:Inv X pins σ H s)(ho:s'.os=s.os)(u:Un (Rg X.stack) ch H H' s.heap s'.heap)(hok:HOk X.prog X.w H' s'.heap)(hg:AllBare s'.gens)
  (hch:∀b∈ch,(b∈X.ex\/X.s₀.heap.objs.size<=b)/\b≠X.env.locals/\(∀x c,X.env.cells.lookup x=some c->c≠b)/\∀p∈X.pn++pins,p.1≠b):Inv X pins σ H' s':=by
 obtain⟨h',g',d',t',o'⟩:=s'
 have e:o'=s.os:=ho
 subst e
 exact I.call (g':=g') (t':=t') (d':=d') u hok hg hch
end
noncomputable abbrev XK:=Value->Option Addr->Hp->Prop
noncomputable abbrev St:=List (Option V)
noncomputable abbrev VK:=V->Hp->Prop
noncomputable abbrev TE:=St->Hp->VK->Prop
noncomputable abbrev TT:=St->Hp->(Bool->Hp->Prop)->Prop
noncomputable abbrev TA:=St->Hp->(List V->Hp->Prop)->Prop
structure Ends where
 nx:St->Hp->Prop
 rt:VK
 bk:St->Hp->Prop:=λ_ _=>False
 ct:St->Hp->Prop:=λ_ _=>False
noncomputable abbrev TS:=Ends->St->Hp->Prop
noncomputable def EP(X:Cx)(pins:List (Addr×Obj))(σ:St)(Q:VK)(u:Value)(s':Shared):Prop:=∃v H',Inv X pins σ H' s'/\RelV v u/\Q v H'
noncomputable def TP(X:Cx)(pins:List (Addr×Obj))(σ:St)(Q:Bool->Hp->Prop)(b:Bool)(s':Shared):Prop:=∃H',Inv X pins σ H' s'/\Q b H'
noncomputable def AP(X:Cx)(pins:List (Addr×Obj))(σ:St)(Q:List V->Hp->Prop)(us:List Value)(s':Shared):Prop:=∃vs H',Inv X pins σ H' s'/\Vals vs us/\Q vs H'
noncomputable def SP(X:Cx)(pins:List (Addr×Obj))(D:Ends)(f:Flow)(s':Shared):Prop :=
 match f with
 | .next=>∃σ' H',Inv X pins σ' H' s'/\D.nx σ' H'
 | .brk=>∃σ' H',Inv X pins σ' H' s'/\D.bk σ' H'
 | .cont=>∃σ' H',Inv X pins σ' H' s'/\D.ct σ' H'
 | .ret u=>∃v σ' H',Inv X pins σ' H' s'/\RelV v u/\D.rt v H'
noncomputable def PE(X:Cx)(e:Expr)(t:TE):Prop :=
 ∀(pins:List (Addr×Obj)) (s:Shared) (σ:St) (H:Hp) (Q:VK),Inv X pins σ H s->t σ H Q->wpAny (model X.prog X.w) X.A (eval e X.env) (EP X pins σ Q) X.xe s
noncomputable def PT(X:Cx)(e:Expr)(t:TT):Prop :=
 ∀(pins:List (Addr×Obj)) (s:Shared) (σ:St) (H:Hp) (Q:Bool->Hp->Prop),Inv X pins σ H s->t σ H Q->wpAny (model X.prog X.w) X.A (isTrue e X.env (eval e X.env)) (TP X pins σ Q) X.xe s
noncomputable def PW(X:Cx)(e:Expr)(t:TT):Prop :=
 ∀(whole:Sem Value) (pins:List (Addr×Obj)) (s:Shared) (σ:St) (H:Hp) (Q:Bool->Hp->Prop),Inv X pins σ H s->t σ H Q->wpAny (model X.prog X.w) X.A (isTrue e X.env whole) (TP X pins σ Q) X.xe s
theorem PW.pt{X:Cx}{e:Expr}{t:TT}(h:PW X e t):PT X e t:=h _
noncomputable def PA(X:Cx)(es:List Expr)(t:TA):Prop :=
 ∀(pos:Pos) (pins:List (Addr×Obj)) (s:Shared) (σ:St) (H:Hp) (Q:List V->Hp->Prop),Inv X pins σ H s->t σ H Q->wpAny (model X.prog X.w) X.A (spliced (backTo pos (starEach es X.env))) (AP X pins σ Q) X.xe s
noncomputable def PS(X:Cx)(st:Stmt)(t:TS):Prop :=
 ∀(pins:List (Addr×Obj)) (s:Shared) (σ:St) (H:Hp) (D:Ends),Inv X pins σ H s->t D σ H->wpAny (model X.prog X.w) X.A (exec st X.env) (SP X pins D) X.xe s
noncomputable def PSs(X:Cx)(st:List Stmt)(t:TS):Prop :=
 ∀(pins:List (Addr×Obj)) (s:Shared) (σ:St) (H:Hp) (D:Ends),Inv X pins σ H s->t D σ H->wpAny (model X.prog X.w) X.A (execs st X.env) (SP X pins D) X.xe s
theorem Bs{α:Type}{t:Sem α}{Q Q':α->Shared->Prop}{M:Model}{A:Around}{E:Value->Shared->Prop}{s:Shared}(h:wpAny M A t Q E s)(hQ:∀a s,Q a s->Q' a s):wpAny M A t Q' E s:=cD h hQ λ_ _ x=>x
section
variable {X:Cx}
noncomputable def BU(i:Nat):TE:=λσ H Q=>∃v,σ[i]?=some (some v)/\Q v H
noncomputable def tC(v:V):TE:=λ_ H Q=>Q v H
theorem J6{i:Nat}{x:Str}{pos:Pos}(hN:X.N[i]?=some x)(hv:X7 X.env.scope x)(hd:autoParam ((x==("__debug__" : Str))=false) zau1._auto_1)(hcd:autoParam ((x==("__classdict__" : Str))=false) zau1._auto_1):PE X (.Name x pos) (BU i):=by
 intro pins s σ H Q I h
 obtain⟨v,e,h⟩:=h
 obtain⟨m,hn,hl⟩:=I.loc
 obtain⟨u,r,l⟩:=hl i x v hN e hv
 have fin:EP X pins σ Q u s:=⟨v,H,I,r,h⟩
 rcases l with ⟨hk,hm⟩ | ⟨hk,c,hc,hcell⟩
 ·exact wpAny_Name (wpAny_loadName_local I.ok.kind hk hn hm fin) hd
 ·rcases hk with hk | hk
  ·exact wpAny_Name (wpAny_loadName_cell I.ok.kind hk hc hcell fin) hd
  ·exact wpAny_Name (wpAny_loadName_free I.ok.kind hk hc hcell fin hcd) hd
theorem A6{i j pos}:PE X (.Constant (.int i) j pos) (tC (.int i)):=λ_ _ _ H _ I h=>wpAny_Constant_int ⟨.int i,H,I.tok _,⟨_,rfl⟩,h⟩
theorem Yr{b j pos}:PE X (.Constant (.bool b) j pos) (tC (.bl b)):=λ_ _ _ H _ I h=>Constant_bool ⟨.bl b,H,I,rfl,h⟩
theorem J8{j pos}:PE X (.Constant .none j pos) (tC .non):=λ_ _ _ H _ I h=>Constant_none ⟨.non,H,I,rfl,h⟩
theorem ED{x j pos}:PE X (.Constant (.str x) j pos) (tC (.str x)):=λ_ _ _ H _ I h=>Calls.Constant_str ⟨.str x,H,I.tok _,⟨_,rfl⟩,h⟩
noncomputable def Gl(X:Cx)(x:Str):Prop:=X.env.kindOf x=some .globalImplicit
theorem Mf{E:Value->Shared->Prop}{pins:List (Addr×Obj)}{s:Shared}{σ:St}{H:Hp}{x:Str}{u:Value}{pos:Pos}{Q:Value->Shared->Prop}(I:Inv X pins σ H s)(hg:Gl X x)(hm:X.mg x=some u)(h:Q u s)
  (hd:autoParam ((x==("__debug__" : Str))=false) zau1._auto_1):wpAny (model X.prog X.w) X.A (eval (.Name x pos) X.env) Q E s :=
 fh I.ok.kind hg (Calls.loadGlobal_global (by rw [I.ok.glob]; exact I.mod.glob.keeps I.bk) hm h) hd
theorem G7{E:Value->Shared->Prop}{pins:List (Addr×Obj)}{s:Shared}{σ:St}{H:Hp}{x:Str}{u:Value}{pos:Pos}{Q:Value->Shared->Prop}(I:Inv X pins σ H s)(hg:Gl X x)(hm:X.mg x=none)(hv:bootBuiltins x=some u)(h:Q u s)
  (hn:autoParam (x ≠ "__name__") zau1._auto_1) (hd:autoParam ((x==("__debug__" : Str))=false) zau1._auto_1):wpAny (model X.prog X.w) X.A (eval (.Name x pos) X.env) Q E s:=by
 obtain⟨mb,h1,h2⟩:=I.mod.blt
 exact fh I.ok.kind hg (Calls.loadGlobal_builtin (by rw [I.ok.glob]; exact I.mod.glob.keeps I.bk) hm (by rw [I.ok.blt]; exact h1.keeps I.bk) ((h2 x hn).trans hv) h) hd
theorem VG{x:Str}{v:V}{u:Value}{pos:Pos}(hg:Gl X x)(hm:X.mg x=some u)(r:RelV v u)(hd:autoParam ((x==("__debug__" : Str))=false) zau1._auto_1):PE X (.Name x pos) (tC v) :=
 λ_ _ _ H _ I h=>Mf I hg hm ⟨v,H,I,r,h⟩ hd
theorem VJ{x:Str}{v:V}{u:Value}{pos:Pos}(hg:Gl X x)(hm:X.mg x=none)(hv:bootBuiltins x=some u)(r:RelV v u)(hn:autoParam (x ≠ "__name__") zau1._auto_1)(hd:autoParam ((x==("__debug__" : Str))=false) zau1._auto_1):PE X (.Name x pos) (tC v) :=
 λ_ _ _ H _ I h=>G7 I hg hm hv ⟨v,H,I,r,h⟩ hn hd
variable {a b:Expr}{ta tb:TE}{pos:Pos}
noncomputable def tB(t:TE):TT:=λσ H Q=>t σ H λx H1=>∃c,x=.bl c/\Q c H1
theorem W7{e:Expr}{t:TE}(h:PE X e t)(he:autoParam (∀whole,isTrue e X.env whole=(do let v ← whole; standAt e.pos; holding [v] (truthy v))) zau2._auto_1):PT X e (tB t):=by
 intro pins s σ H Q I hw
 refine isTrue_plain (Bs (h pins s σ H _ I hw) λv s1 ⟨x,H1,I1,r1,q1⟩=>?_) (he _)
 obtain⟨d,rfl,q⟩:=q1
 cases r1
 exact dX ⟨H1,I1,q⟩
variable {tA tB':TT}{rest:List Expr}
noncomputable def YY(t u:TT):TT:=λσ H Q=>t σ H λc H1=>if c=true then u σ H1 Q else Q false H1
noncomputable def aR(t u:TT):TT:=λσ H Q=>t σ H λc H1=>if c=true then Q true H1 else u σ H1 Q
noncomputable def Zm(t:TT):TT:=λσ H Q=>t σ H λc H1=>Q (!c) H1
theorem MK(ha:PT X a tA):PW X (.BoolOp .And [a] pos) tA:=by
 intro wh pins s σ H Q I h
 refine isTrue_and (Bs (ha pins s σ H Q I h) λc s1 e=>?_)
 cases c with
 | true=>exact isTrue_and_nil e
 | false=>exact e
theorem S3(ha:PT X a tA):PW X (.BoolOp .Or [a] pos) tA:=by
 intro wh pins s σ H Q I h
 refine isTrue_or (Bs (ha pins s σ H Q I h) λc s1 e=>?_)
 cases c with
 | false=>exact isTrue_or_nil e
 | true=>exact e
theorem O5(ha:PT X a tA)(hb:PW X (.BoolOp .And (b::rest) pos) tB'):PW X (.BoolOp .And (a::b::rest) pos) (YY tA tB'):=by
 intro wh pins s σ H Q I h
 refine isTrue_and (Bs (ha pins s σ H _ I h) λc s1 ⟨H1,I1,q1⟩=>?_)
 cases c with
 | true=>exact hb wh pins s1 σ H1 Q I1 q1
 | false=>exact⟨H1,I1,q1⟩
theorem WO(ha:PT X a tA)(hb:PW X (.BoolOp .Or (b::rest) pos) tB'):PW X (.BoolOp .Or (a::b::rest) pos) (aR tA tB'):=by
 intro wh pins s σ H Q I h
 refine isTrue_or (Bs (ha pins s σ H _ I h) λc s1 ⟨H1,I1,q1⟩=>?_)
 cases c with
 | true=>exact⟨H1,I1,q1⟩
 | false=>exact hb wh pins s1 σ H1 Q I1 q1
theorem W8(ha:PT X a tA):PT X (.UnaryOp .Not a pos) (Zm tA):=by
 intro pins s σ H Q I h
 exact isTrue_not (ha pins s σ H (λc H1=>Q (!c) H1) I h)
noncomputable def YX(ta tb:TE):TE:=λσ H Q=>ta σ H λx H1=>∃c,x=.bl c/\if c=true then tb σ H1 Q else Q (.bl false) H1
noncomputable def YR(ta:TE):TE:=λσ H Q=>ta σ H λx H1=>∃c,x=.bl c/\Q (.bl (!c)) H1
theorem XD{op}{t:TE}(h:PE X a t):PE X (.BoolOp op [a] pos) t:=λpins s σ H Q I hw=>BoolOp_one (h pins s σ H Q I hw)
theorem XG(ha:PE X a ta)(hb:PE X (.BoolOp .And (b::rest) pos) tb):PE X (.BoolOp .And (a::b::rest) pos) (YX ta tb):=by
 intro pins s σ H Q I h
 refine BoolOp_and (Bs (ha pins s σ H _ I h) λv s1 ⟨x,H1,I1,r1,q1⟩=>?_)
 obtain⟨c,rfl,q1⟩:=q1
 cases r1
 refine dX ?_
 cases c with
 | true=>exact hb pins s1 σ H1 Q I1 q1
 | false=>exact⟨.bl false,H1,I1,rfl,q1⟩
theorem XE(ha:PE X a ta):PE X (.UnaryOp .Not a pos) (YR ta):=by
 intro pins s σ H Q I h
 refine UnaryOp_ (Bs (ha pins s σ H _ I h) λv s1 ⟨x,H1,I1,r1,q1⟩=>?_)
 obtain⟨c,rfl,q1⟩:=q1
 cases r1
 exact not_of (dX ⟨.bl (!c),H1,I1,rfl,q1⟩)
noncomputable def aS(t:TT)(ta tb:TE):TE:=λσ H Q=>t σ H λc H1=>if c=true then ta σ H1 Q else tb σ H1 Q
theorem Nh{c:Expr}(hc:PT X c tA)(ha:PE X a ta)(hb:PE X b tb):PE X (.IfExp c a b pos) (aS tA ta tb):=by
 intro pins s σ H Q I h
 refine wpAny_IfExp (Bs (hc pins s σ H _ I h) λd s1 ⟨H1,I1,q1⟩=>?_)
 cases d with
 | true=>exact ha pins s1 σ H1 Q I1 q1
 | false=>exact hb pins s1 σ H1 Q I1 q1
end
noncomputable def SqL(K:Frag)(H:Hp)(a:Addr)(xs:List V):Prop :=
 Rd H a (.lst xs) \/
  ∃(o:Obj) (its:Array Value) (n:Nat),K.lookup a=some o/\o.cls=.type "list"/\o.dict=none/\o.data=.seq its n/\its.size<=sizeLine/\Vals xs its.toList
noncomputable def SqT(K:Frag)(H:Hp)(a:Addr)(xs:List V):Prop :=
 Rd H a (.tup xs) \/
  ∃(o:Obj) (its:Array Value) (n:Nat),K.lookup a=some o/\o.cls=.type "tuple"/\o.data=.seq its n/\its.size<=sizeLine/\Vals xs its.toList
noncomputable def Z7:Value->Option V
 | .none=>some .non
 | .bool b=>some (.bl b)
 | .int i _=>some (.int i)
 | .str x _=>some (.str x)
 | .bytes b _=>some (.byt b)
 | .float b _=>some (.flt b)
 | .ref a=>some (.ref a)
 | .type n=>some (.ty n)
 | _=>none
theorem RelV.abs{x:V}{u:Value}(r:RelV x u):Z7 u=some x:=by
 cases x with
 | non=>cases r; rfl
 | bl _=>cases r; rfl
 | int _=>obtain⟨t,rfl⟩:=r; rfl
 | str _=>obtain⟨t,rfl⟩:=r; rfl
 | byt _=>obtain⟨t,rfl⟩:=r; rfl
 | flt _=>obtain⟨t,rfl⟩:=r; rfl
 | ref _=>cases r; rfl
 | ty _=>cases r; rfl
theorem RelV.inj{x y:V}{u:Value}(r:RelV x u)(q:RelV y u):x=y:=Uf (r.abs.symm.trans q.abs)
theorem Vals.inj:∀{xs ys:List V} {us:List Value},Vals xs us->Vals ys us->xs=ys
 | _,_,_,.nil,.nil=>rfl
 | _,_,_,.cons r t,.cons r' t'=>by rw [r.inj r',Vals.inj t t']
section
variable {X:Cx}{pins:List (Addr×Obj)}{σ:St}{H:Hp}{s:Shared}{a:Addr}{xs ys:List V}
theorem SqL.of{K:Frag}(h:H a=some (.lst xs)):SqL K H a xs:=.inl (.inl h)
theorem SqT.of{K:Frag}(h:H a=some (.tup xs)):SqT K H a xs:=.inl (.inl h)
theorem Inv.list(I:Inv X pins σ H s)(h:SqL X.K H a xs):∃its:List Value,Vals xs its/\PlainL s.heap a its.toArray/\xs.length<=sizeLine:=by
 rcases h with h | ⟨o,its,n,hk,hc,hd,hs,hz,r⟩
 ·obtain⟨z,its,n,r,e⟩:=h.ok I.hok
  exact⟨its,r,⟨_,n,e,rfl,rfl,rfl⟩,z⟩
 ·refine⟨its.toList,r,⟨o,n,I.kIn a o hk,hc,hd,by simpa using hs⟩,?_⟩
  have e:=r.length
  simp only [bW] at e
  omega
theorem Inv.tuple(I:Inv X pins σ H s)(h:SqT X.K H a xs):∃its:List Value,Vals xs its/\IsTup s.heap a its.toArray/\xs.length<=sizeLine:=by
 rcases h with h | ⟨o,its,n,hk,hc,hs,hz,r⟩
 ·obtain⟨z,its,r,p⟩:=h.ok I.hok
  exact⟨its,r,p.tup,z⟩
 ·refine⟨its.toList,r,⟨o,I.kIn a o hk,hc,n,by simpa using hs⟩,?_⟩
  have e:=r.length
  simp only [bW] at e
  omega
theorem Inv.list_inj(I:Inv X pins σ H s)(h:SqL X.K H a xs)(h':SqL X.K H a ys):xs=ys:=by
 obtain⟨its,r,⟨o,n,e,_,_,d⟩,_⟩:=I.list h
 obtain⟨its',r',⟨o',n',e',_,_,d'⟩,_⟩:=I.list h'
 rw [e] at e'; cases e'
 rw [d] at d'
 injection d' with d1 _
 have:its=its':=by simpa using congrArg Array.toList d1
 subst this
 exact r.inj r'
theorem Inv.tuple_inj(I:Inv X pins σ H s)(h:SqT X.K H a xs)(h':SqT X.K H a ys):xs=ys:=by
 obtain⟨its,r,⟨o,e,_,n,d⟩,_⟩:=I.tuple h
 obtain⟨its',r',⟨o',e',_,n',d'⟩,_⟩:=I.tuple h'
 rw [e] at e'; cases e'
 rw [d] at d'
 injection d' with d1 _
 have:its=its':=by simpa using congrArg Array.toList d1
 subst this
 exact r.inj r'
end
noncomputable abbrev Cx.wish(X:Cx)(E:Value->Shared->Prop):Cx:={ X with xe:=E }
noncomputable abbrev Cx.nox(X:Cx):Cx:=X.wish λ_ _=>False
theorem Cx.Ok.wish{X:Cx}(ok:X.Ok)(E:Value->Shared->Prop):(X.wish E).Ok :=
 ⟨ok.mod,ok.kind,ok.glob,ok.blt,ok.above,ok.inj,ok.has,ok.cab,ok.hd,ok.frames,ok.stk,ok.exf,ok.bs,ok.bsz,ok.noex,ok.exfs,ok.funs,ok.frf⟩
theorem Cx.Ok.unwish{X:Cx}{E:Value->Shared->Prop}(ok:(X.wish E).Ok):X.Ok :=
 ⟨ok.mod,ok.kind,ok.glob,ok.blt,ok.above,ok.inj,ok.has,ok.cab,ok.hd,ok.frames,ok.stk,ok.exf,ok.bs,ok.bsz,ok.noex,ok.exfs,ok.funs,ok.frf⟩
section
variable {X:Cx}{pins:List (Addr×Obj)}{σ:St}{H:Hp}{s:Shared}{E:Value->Shared->Prop}
theorem Inv.wish(I:Inv X pins σ H s)(E:Value->Shared->Prop):Inv (X.wish E) pins σ H s:=⟨I.ok.wish E,I.os,I.bare,I.base,I.loc,I.cell,I.free,I.freeC,I.pin,I.hok,I.len⟩
theorem Inv.unwish(I:Inv (X.wish E) pins σ H s):Inv X pins σ H s:=⟨I.ok.unwish,I.os,I.bare,I.base,I.loc,I.cell,I.free,I.freeC,I.pin,I.hok,I.len⟩
theorem SP.unwish{D:Ends}{f:Flow}{s':Shared}(h:SP (X.wish E) pins D f s'):SP X pins D f s':=by
 cases f with
 | next=>obtain⟨σ',H',I,q⟩:=h; exact⟨σ',H',I.unwish,q⟩
 | brk=>obtain⟨σ',H',I,q⟩:=h; exact⟨σ',H',I.unwish,q⟩
 | cont=>obtain⟨σ',H',I,q⟩:=h; exact⟨σ',H',I.unwish,q⟩
 | ret u=>obtain⟨v,σ',H',I,r,q⟩:=h; exact⟨v,σ',H',I.unwish,r,q⟩
theorem PSs.nox{st:List Stmt}{t:TS}(h:PSs X.nox st t):PSs X st t:=λpins s σ H D I hw =>
 cD (h pins s σ H D (I.wish _) hw) (λ_ _ q=>q.unwish) λ_ _ z=>dB z
end
section
variable {X:Cx}{st:Stmt}{rest:List Stmt}{t u:TS}{e:Expr}{te:TE}{pos:Pos}
noncomputable def WA:TS:=λD σ H=>D.nx σ H
noncomputable def Oi(t u:TS):TS:=λD σ H=>t { D with nx:=u D } σ H
theorem HR:PSs X [] WA:=λ_ _ σ H _ I h=>fB ⟨σ,H,I,h⟩
theorem BI(h1:PS X st t)(h2:PSs X rest u):PSs X (st::rest) (Oi t u):=by
 intro pins s σ H D I h
 refine wpAny_execs_cons (Bs (h1 pins s σ H { D with nx:=u D } I h) λf s1 q=>?_)
 cases f with
 | next =>
  obtain⟨σ',H',I',q⟩:=q
  exact h2 pins s1 σ' H' D I' q
 | ret v=>exact q
 | brk=>exact q
 | cont=>exact q
theorem Bz(h1:PS X st t):PSs X [st] t:=by
 intro pins s σ H D I h
 refine wpAny_execs_cons (Bs (h1 pins s σ H D I h) λf s1 q=>?_)
 cases f with
 | next=>exact fB q
 | ret v=>exact q
 | brk=>exact q
 | cont=>exact q
theorem Inv.quiet{pins:List (Addr×Obj)}{σ:St}{H:Hp}{s:Shared}(I:Inv X pins σ H s):interactive X.env=false:=by simp [interactive,I.ok.kind]
noncomputable def YU(te:TE):TS:=λD σ H=>te σ H λ_ H1=>D.nx σ H1
theorem VD(he:PE X e te)(hs:autoParam (swapsWith e none pos.line X.env=pure false) zau3._auto_1):PS X (.Expr e pos) (YU te):=by
 intro pins s σ H D I h
 exact wpAny_Expr_any (Bs (he pins s σ H _ I h) λv s1 ⟨x,H1,I1,r1,q1⟩=>⟨σ,H1,I1,q1⟩) I.quiet hs
noncomputable def Uy(te:TE):TS:=λD σ H=>te σ H D.rt
theorem G0(he:PE X e te):PS X (.Return (some e) pos) (Uy te):=by
 intro pins s σ H D I h
 exact wpAny_Return_some (Bs (he pins s σ H _ I h) λv s1 ⟨x,H1,I1,r1,q1⟩=>⟨x,σ,H1,I1,r1,q1⟩)
noncomputable def YS(c:TT)(t u:TS):TS:=λD σ H=>c σ H λb H1=>if b=true then t D σ H1 else u D σ H1
theorem Nd{c:Expr}{a b:List Stmt}{tc:TT}(hc:PT X c tc)(ha:PSs X a t)(hb:PSs X b u):PS X (.If c a b pos) (YS tc t u):=by
 intro pins s σ H D I h
 refine wpAny_If (Bs (hc pins s σ H _ I h) λd s1 ⟨H1,I1,q1⟩=>?_)
 cases d with
 | true=>exact ha pins s1 σ H1 D I1 q1
 | false=>exact hb pins s1 σ H1 D I1 q1
end
noncomputable abbrev TG:=V->St->Hp->(St->Hp->Prop)->Prop
noncomputable abbrev X9:=List V->St->Hp->(St->Hp->Prop)->Prop
noncomputable def PG(X:Cx)(target:Expr)(t:TG):Prop :=
 ∀(pins:List (Addr×Obj)) (s:Shared) (σ:St) (H:Hp) (v:V) (u:Value) (Q:St->Hp->Prop),Inv X pins σ H s->RelV v u->t v σ H Q ->
  wpAny (model X.prog X.w) X.A (assign target X.env u) (λ_ s'=>∃σ' H',Inv X pins σ' H' s'/\Q σ' H') X.xe s
noncomputable def ZL(X:Cx)(ts:List Expr)(t:X9):Prop :=
 ∀(pins:List (Addr×Obj)) (s:Shared) (σ:St) (H:Hp) (vs:List V) (us:List Value) (Q:St->Hp->Prop),Inv X pins σ H s->Vals vs us->t vs σ H Q ->
  wpAny (model X.prog X.w) X.A (assignInOrder ((assignEach ts X.env).map (·.2)) us) (λ_ s'=>∃σ' H',Inv X pins σ' H' s'/\Q σ' H') X.xe s
noncomputable abbrev X8:=V->V->V->Hp->(Hp->Prop)->Prop
noncomputable def ZJ(X:Cx)(t:X8):Prop :=
 ∀(pins:List (Addr×Obj)) (s:Shared) (σ:St) (H:Hp) (o i v:V) (ov iv u:Value) (Q:Hp->Prop),Inv X pins σ H s->RelV o ov->RelV i iv->RelV v u->t o i v H Q ->
  wpAny (model X.prog X.w) X.A (setItem ov iv u) (λ_ s'=>∃H',Inv X pins σ H' s'/\Q H') X.xe s
section
variable {X:Cx}{pos:Pos}
noncomputable def Ij(i:Nat):TG:=λv σ H Q=>Q (σ.set i (some v)) H
theorem C9{i:Nat}{x:Str}(hN:X.N.Nodup)(hi:X.N[i]?=some x)(hx:Loc X.env.scope x)(hf:autoParam (X.fn x=true\/X.env.scope.names.lookup x=some .local) zau0._auto_1):PG X (.Name x pos) (Ij i):=by
 intro pins s σ H v u Q I r h
 exact wpAny_assign_Name (HF I hN hi hx r (λs' I'=>⟨_,H,I',h⟩) hf)
noncomputable def Zz:X9:=λvs σ H Q=>vs=[]/\Q σ H
noncomputable def Yz(t:TG)(u:X9):X9:=λvs σ H Q=>∃v r,vs=v::r/\t v σ H λσ' H'=>u r σ' H' Q
theorem QA:ZL X [] Zz:=by
 intro pins s σ H vs us Q I r h
 obtain⟨e,h⟩:=h
 subst e
 cases r
 exact assignInOrder_nil ⟨σ,H,I,h⟩
theorem HS{e:Expr}{es:List Expr}{t:TG}{u:X9}(h1:PG X e t)(h2:ZL X es u)
  (hs:autoParam ((assignEach (e::es) X.env).map (·.2)=assign e X.env::(assignEach es X.env).map (·.2)) zau3._auto_1):ZL X (e::es) (Yz t u):=by
 intro pins s σ H vs us Q I r h
 obtain⟨v,vr,e1,h⟩:=h
 subst e1
 cases r with
 | cons r rr =>
  rw [hs]
  refine fW (Bs (h1 pins s σ H _ _ _ I r h) λ_ s1 ⟨σ1,H1,I1,q1⟩=>?_)
  exact h2 pins s1 σ1 H1 _ _ Q I1 rr q1
noncomputable def Zy(K:Frag)(n:Nat)(t:X9):TG:=λv σ H Q=>∃a xs,v=.ref a/\SqT K H a xs/\xs.length=n/\t xs σ H Q
theorem S_{es:List Expr}{k:Nat}{t:X9}{n:Nat}(hc:X.calm=true)(h:ZL X es t)
  (hn:autoParam ((assignEach es X.env).length=n) zau3._auto_1) (hst:autoParam ((assignEach es X.env).findIdx? (·.1)=none) zau3._auto_1):PG X (.Tuple es k pos) (Zy X.K n t):=by
 intro pins s σ H v u Q I r hw
 obtain⟨a,xs,e1,hq,hl,hw⟩:=hw
 subst e1
 cases r
 obtain⟨its,rv,ht,hz⟩:=I.tuple hq
 refine assign_Tuple_tuple (I.ok.hd hc) ht (by simp [hn,← hl,rv.length]) hst λh' hx=>?_
 have I1:Inv X pins σ H { s with heap:=h' }:=I.kept (t':=s.toks) λb o e=>hx b o (bG (ZB e)) e
 exact h pins _ σ H xs _ Q I1 (by simpa using rv) hw
noncomputable def Xh(to ti:TE)(t:X8):TG:=λv σ H Q=>to σ H λo H1=>ti σ H1 λi H2=>t o i v H2 λH3=>Q σ H3
theorem G2{o i:Expr}{to ti:TE}{t:X8}(ho:PE X o to)(hi:PE X i ti)(hs:ZJ X t)
  (ha:autoParam (∀v,assign (.Subscript o i pos) X.env v=(do
   let ov ← holding [v] (eval o X.env)
   let iv ← holding [v,ov] (eval i X.env)
   standAt pos
   holding [v,ov,iv] (setItem ov iv v)
   release [v,ov,iv] [])) zau2._auto_1):PG X (.Subscript o i pos) (Xh to ti t):=by
 intro pins s σ H v u Q I r h
 rw [ha]
 refine Ch (b9 (Bs (ho pins s σ H _ I h) λov s1 ⟨x,H1,I1,r1,q1⟩=>?_))
 refine Ch (b9 (Bs (hi pins s1 σ H1 _ I1 q1) λiv s2 ⟨y,H2,I2,r2,q2⟩=>?_))
 refine Ch (fi (Ch (b9 (Bs (hs pins s2 σ H2 x y v ov iv u _ I2 r1 r2 r q2) λ_ s3 ⟨H3,I3,q3⟩=>?_))))
 exact wpAny_release ⟨σ,H3,I3,q3⟩
noncomputable def NQ(te:TE)(g:TG):TS:=λD σ H=>te σ H λx H1=>g x σ H1 D.nx
theorem Fl{tg e:Expr}{te:TE}{g:TG}(he:PE X e te)(hg:PG X tg g)(hs:autoParam (swapsWithSole [tg] e pos.line X.env=pure false) zau3._auto_1)(hw:autoParam (swappedStores [tg] e X.env=pure none) zau3._auto_1)
  (h1:autoParam ((assignEach [tg] X.env).map (·.2)=[assign tg X.env]) zau3._auto_1):PS X (.Assign [tg] e pos) (NQ te g):=by
 intro pins s σ H D I h
 refine wpAny_Assign_stores (Bs (he pins s σ H _ I h) λv s1 ⟨x,H1,I1,r1,q1⟩=>?_) hs hw
 rw [h1]
 exact Bs (hg pins s1 σ H1 x v _ I1 r1 q1) λ_ s2 q=>q
theorem Er{i:Nat}{x:Str}{e:Expr}{te:TE}{pos':Pos}(hN:X.N.Nodup)(hi:X.N[i]?=some x)(hx:Loc X.env.scope x)(he:PE X e te)(hs:autoParam (swapsWith e (some (.Name x pos')) pos.line X.env=pure false) zau3._auto_1)(hf:autoParam (X.fn x=true\/X.env.scope.names.lookup x=some .local) zau0._auto_1) :
  PS X (.Assign [.Name x pos'] e pos) (NQ te (Ij i)):=by
 intro pins s σ H D I h
 refine wpAny_Assign_Name (Bs (he pins s σ H _ I h) λv s1 ⟨y,H1,I1,r1,q1⟩=>?_) hs
 exact HF I1 hN hi hx r1 (λs2 I2=>⟨_,H1,I2,q1⟩) hf
noncomputable def Zl(i j:Nat)(ta:TA):TS:=λD σ H=>ta σ H λvs H1=>∃v w,vs=[v,w]/\D.nx ((σ.set i (some v)).set j (some w)) H1
theorem W9{i j:Nat}{x y:Str}{a b:Expr}{ta:TA}{px py pt:Pos}{kt k2 pt2}(hc:X.calm=true)(hN:X.N.Nodup)(hi:X.N[i]?=some x)(hj:X.N[j]?=some y)(hij:i≠j)
  (hx:X.env.scope.names.lookup x=some .local) (hy:X.env.scope.names.lookup y=some .local) (ha:PA X [a,b] ta)
  (hw:swappedStores [.Tuple [.Name x px,.Name y py] kt pt] (.Tuple [a,b] k2 pt2) X.env=pure (some [x,y]))
  (hs:autoParam (swapsWithSole [.Tuple [.Name x px,.Name y py] kt pt] (.Tuple [a,b] k2 pt2) pos.line X.env=pure false) zau3._auto_1) :
  PS X (.Assign [.Tuple [.Name x px,.Name y py] kt pt] (.Tuple [a,b] k2 pt2) pos) (Zl i j ta):=by
 intro pins s σ H D I h
 rw [exec_Assign_arm]
 refine Ch (fi ?_)
 rw [hs]
 refine Ch (Go ?_)
 rw [if_neg (by decide)]
 refine Ch (Tuple_ (Bs (ha _ pins s σ H _ I h) λus s1 ⟨vs,H1,I1,r1,q1⟩=>?_))
 obtain⟨v,w,e1,q1⟩:=q1
 subst e1
 obtain⟨u1,u2,rfl,rv,rw'⟩:∃u1 u2,us=[u1,u2]/\RelV v u1/\RelV w u2:=by
  cases r1 with
  | cons p q =>
   cases q with
   | cons p' q' =>
    cases q'
    exact⟨_,_,rfl,p,p'⟩
 refine bO ?_ (by show 2<=sizeLine; decide)
 have I2:Inv X pins σ H1 { s1 with heap:=s1.heap.push { cls:=.type "tuple",data:=.seq [u1,u2].toArray } }:=I1.kept (t':=s1.toks) λb o e=>Ev _ e
 rw [hw]
 refine Ch (Go ?_)
 show wpAny (model X.prog X.w) X.A (do rule "assign.swapped-stores"; let items ← unpackItems (.ref s1.heap.objs.size) 2 none; assignInOrder [λv=>bindName X.env y v,λv=>bindName X.env x v] items.reverse; pure Flow.next) _ _ _
 refine Ch (dk (Ch (unpackItems_tuple (items:=#[u1,u2]) (I.ok.hd hc) (IsTup.new s1.heap _) λh' hx'=>?_)))
 have I3:=I2.kept (h':=h') (t':=s1.toks) λb o e=>hx' b o (bG (ZB e)) e
 show wpAny _ _ (assignInOrder [λv=>bindName X.env y v,λv=>bindName X.env x v] [u2,u1] >>= λ_=>pure Flow.next) _ _ _
 refine Ch (fW (wpAny_bindName (HF I3 hN hj (.inl hy) rw' (λs2 I4=>?_) (.inr hy))))
 refine fW (wpAny_bindName (HF I4 hN hi (.inl hx) rv (λs3 I5=>assignInOrder_nil (Go ?_)) (.inr hx)))
 rw [List.set_comm _ _ (cE hij)] at I5
 exact⟨_,H1,I5,q1⟩
end
section
variable {X:Cx}{pos:Pos}
noncomputable def Wv(c:TT)(tb:TS):TS:=λD σ H=>∃W:Nat->St->Hp->Prop,(∃m,W m σ H)/\∀m σ H,W m σ H ->
 c σ H λb H1=>if b=true then ∃N:St->Hp->Prop,(∀σ' H',N σ' H'->∃m',m'<m/\W m' σ' H')/\tb { D with nx:=N,ct:=N,bk:=D.nx } σ H1 else D.nx σ H1
theorem S6{c:Expr}{body:List Stmt}{tc:TT}{tb:TS}(hp:PassesOwn (model X.prog X.w) X.A X.env X.xe)(hc:PT X c tc)(hb:PSs X body tb):PS X (.While c body [] pos) (Wv tc tb):=by
 intro pins s σ H D I h
 obtain⟨W,⟨m0,w0⟩,turn⟩:=h
 refine wpAny_While (codeAny_whileLoop (λn s'=>∃σ' H',Inv X pins σ' H' s'/\W n σ' H') ?_ m0 ⟨σ,H,I,w0⟩)
 rintro n s1 ⟨σ1,H1,I1,w1⟩
 refine c0 hp (Bs (hc pins s1 σ1 H1 _ I1 (turn n σ1 H1 w1)) λb s2 ⟨H2,I2,q2⟩=>?_)
 cases b with
 | true =>
  obtain⟨N,hN,q2⟩:=q2
  rw [if_pos rfl]
  refine c0 hp (Bs (hb pins s2 σ1 H2 _ I2 q2) λf s3 q3=>?_)
  cases f with
  | next =>
   obtain⟨σ3,H3,I3,n3⟩:=q3
   obtain⟨m',hm,w3⟩:=hN σ3 H3 n3
   exact⟨m',hm,σ3,H3,I3,w3⟩
  | cont =>
   obtain⟨σ3,H3,I3,n3⟩:=q3
   obtain⟨m',hm,w3⟩:=hN σ3 H3 n3
   exact⟨m',hm,σ3,H3,I3,w3⟩
  | brk=>exact q3
  | ret v=>exact q3
 | false =>
  rw [if_neg ar]
  exact fB ⟨σ1,H2,I2,q2⟩
end
structure It where
 go:Nat->Hp->Prop
 yld:Nat->Hp->V->Hp->Prop
 stop:Nat->Hp->Prop
noncomputable def Ks(X:Cx)(pins:List (Addr×Obj))(H:Hp)(b:Addr):Prop :=
 H b=none/\b≠X.env.locals/\b∉X.fs/\(b∈X.ex\/X.s₀.heap.objs.size<=b)/\(∀x c,X.env.cells.lookup x=some c->c≠b)/\∀p∈X.pn++pins,p.1≠b
theorem Inv.fpOk{X:Cx}{pins:List (Addr×Obj)}{σ:St}{H H':Hp}{s:Shared}{b:Addr}(I:Inv X pins σ H s)(hb:s.heap.objs.size<=b)(hn:H' b=none):Ks X pins H' b:=by
 refine⟨hn,fC (bH I.lt hb),I.nofs hb,.inr (bF I.sz hb),λx c e z=>?_,λp hp z=>?_⟩
 ·obtain⟨v,q⟩:=I.cell x c e
  exact absurd (bH q.lt (by rw [z]; exact hb)) (cP _)
 ·exact absurd (bH (ZB (I.pin p hp).1) (by rw [z]; exact hb)) (cP _)
structure Turn (P:Program) (w:World) (K:Frag) (tg:Expr) (J:It) (fp:List Addr) (it:Addr) (tn:Nat->Heap->Prop):Prop where
 mem:it∈fp
 obj:∀i h,tn i h->∀b∈fp,∃o,h.get? b=some o/\∀v,o.data≠.cell v
 keep:∀i h h',tn i h->(∀b∈fp,∀o,h.get? b=some o->h'.get? b=some o)->tn i h'
 item:∀(X:Cx),X.prog=P->X.w=w->X.K=K->X.calm=true->∀(i:Nat) (pins:List (Addr×Obj)) (s:Shared) (σ:St) (H:Hp) (E:Value->Shared->Prop),Inv X pins σ H s->(∀b∈fp,Ks X pins H b)->tn i s.heap->J.go i H ->
  wpAny (model P w) X.A (pyNext (.ref it)) (λr s1=>∃u,r=some u /\
   wpAny (model P w) X.A (letOwnedTupleGo tg (.ref it) u) (λ_ s2=>∃x H',Inv X pins σ H' s2/\RelV x u/\J.yld i H x H'/\tn (i+1) s2.heap/\∀b∈fp,H' b=none) E s1) E s
 done:∀(X:Cx),X.prog=P->X.w=w->X.K=K->X.calm=true->∀(i:Nat) (pins:List (Addr×Obj)) (s:Shared) (σ:St) (H:Hp) (E:Value->Shared->Prop),Inv X pins σ H s->(∀b∈fp,Ks X pins H b)->tn i s.heap->J.stop i H ->
  wpAny (model P w) X.A (pyNext (.ref it)) (λr s1=>r=none/\Inv X pins σ H s1) E s
 self:∀(A:Around) (i:Nat) (s:Shared) (Q:Value->Shared->Prop) (E:Value->Shared->Prop),tn i s.heap->Q (.ref it) s->wpAny (model P w) A (pyIter (.ref it)) Q E s
noncomputable abbrev TI:=St->Hp->(It->Hp->Prop)->Prop
noncomputable def aL(X:Cx)(pins:List (Addr×Obj))(σ:St)(tg:Expr)(R:It->Hp->Prop)(itv:Value)(s2:Shared):Prop :=
 ∃(it:Addr) (fp:List Addr) (tn:Nat->Heap->Prop) (J:It) (H':Hp),itv=.ref it/\Inv X pins σ H' s2/\Turn X.prog X.w X.K tg J fp it tn/\tn 0 s2.heap/\(∀b∈fp,Ks X pins H' b)/\R J H'
noncomputable def PI(X:Cx)(tg iter:Expr)(wi:TI):Prop :=
 ∀(pins:List (Addr×Obj)) (s:Shared) (σ:St) (H:Hp) (R:It->Hp->Prop),Inv X pins σ H s->wi σ H R ->
  wpAny (model X.prog X.w) X.A (eval iter X.env) (λv s1=>wpAny (model X.prog X.w) X.A (pyIter v) (aL X pins σ tg R) X.xe s1) X.xe s
theorem QN {M : Model} {A : Around} {E : Value → Shared → Prop} {s : Shared} {tg : Expr} {it : Addr} {u : Value} {o : Obj} {n : String} {vs : Array Value} {Q : Unit → Shared → Prop} (ho : s.heap.get? it = some o) (hc : o.cls = .type n) (hd : o.data = .fields vs)
    (hn : ["enumerate", "zip", "dict_itemiterator", "dict_reverseitemiterator", "odict_iterator", "itertools.zip_longest", "itertools.pairwise"].contains n = false) (hQ : Q () s) : wpAny M A (letOwnedTupleGo tg (.ref it) u) Q E s := by
  unfold letOwnedTupleGo
  cases tg <;> first
    | exact Go hQ
    | (cases u <;> first
        | exact Go hQ
        | (refine Ch (wpAny_load ho ?_)
           rw [hc, hd]
           show wpAny M A (if (["enumerate", "zip", "dict_itemiterator", "dict_reverseitemiterator", "odict_iterator", "itertools.zip_longest", "itertools.pairwise"].contains n && vs[0]? == some (rawInt _)) = true then _ else _) Q E s
           rw [if_neg (by intro h; rw [hn, eJ] at h; cases h)]
           exact Go hQ))
noncomputable def Uo(K:Frag)(a:Addr):It :=
 ⟨λi H=>∃xs x,SqL K H a xs/\xs[i]?=some x,λi H x H'=>H'=H/\∀xs,SqL K H a xs->xs[i]?=some x,λi H=>∃xs,SqL K H a xs/\xs.length<=i⟩
noncomputable def Um(K:Frag)(a:Addr):It :=
 ⟨λi H=>∃xs x,SqT K H a xs/\xs[i]?=some x,λi H x H'=>H'=H/\∀xs,SqT K H a xs->xs[i]?=some x,λi H=>∃xs,SqT K H a xs/\xs.length<=i⟩
noncomputable def Wf(lo:Int)(n:Nat):It:=⟨λi _=>i<n,λi H x H'=>H'=H/\x=.int (lo+i),λi _=>n<=i⟩
theorem Qp{P:Program}{w:World}{K:Frag}{tg:Expr}(a it:Addr):Turn P w K tg (Uo K a) [it] it (λi h=>h.IsListIter it a i) where
 mem:=by simp
 obj:=λi h st b hb=>by
  have e:b=it:=by simpa using hb
  subst e
  obtain⟨o,e,c,d⟩:=st
  exact⟨o,e,λv z=>by rw [d] at z; cases z⟩
 keep:=λi h h' st k=>st.at λo e=>k it (by simp) o e
 item:=by
  intro X hP hw hK hc i pins s σ H E I hf st hg
  subst hP hw hK
  obtain⟨xs,x,hq,hx⟩:=hg
  obtain⟨its,rv,p,hz⟩:=I.list hq
  obtain⟨u,hu,ru⟩:=rv.get hx
  obtain⟨f0,f1,f2,f3,f4,f5⟩:=hf it (by simp)
  refine wpAny_pyNext_list_item st p.isList (x:=u) (by simpa using hu) λh' st' sb=>?_
  have I1:Inv X pins σ H { s with heap:=h' }:=I.turned (t':=s.toks) (λb o hb e=>(sb.2 b hb).trans e) f0 f1 f3 f4 f5
  obtain⟨o,e,c,d⟩:=id st'
  exact⟨u,rfl,QN (s:={ s with heap:=h' }) e c d (by decide) ⟨x,H,I1,ru,⟨rfl,λys hy=>by rw [I.list_inj hy hq]; exact hx⟩,st',λb hb=>(hf b hb).1⟩⟩
 done:=by
  intro X hP hw hK hc i pins s σ H E I hf st hg
  subst hP hw hK
  obtain⟨xs,hq,hx⟩:=hg
  obtain⟨its,rv,p,hz⟩:=I.list hq
  obtain⟨f0,f1,f2,f3,f4,f5⟩:=hf it (by simp)
  have hl:=rv.length
  exact wpAny_pyNext_list_end (I.ok.hd hc) st p.isList (by simp; omega) λh' eb=>⟨rfl,I.turned (t':=s.toks) (λb o hb e=>eb b o hb e) f0 f1 f3 f4 f5⟩
 self:=λ_ _ _ _ _ st h=>wpAny_pyIter_listiter st h
theorem Of{P:Program}{w:World}{K:Frag}{tg:Expr}(a it:Addr):Turn P w K tg (Um K a) [it] it (λi h=>h.IsTupleIter it a i) where
 mem:=by simp
 obj:=λi h st b hb=>by
  have e:b=it:=by simpa using hb
  subst e
  obtain⟨o,e,c,d⟩:=st
  exact⟨o,e,λv z=>by rw [d] at z; cases z⟩
 keep:=λi h h' st k=>st.at λo e=>k it (by simp) o e
 item:=by
  intro X hP hw hK hc i pins s σ H E I hf st hg
  subst hP hw hK
  obtain⟨xs,x,hq,hx⟩:=hg
  obtain⟨its,rv,p,hz⟩:=I.tuple hq
  obtain⟨u,hu,ru⟩:=rv.get hx
  obtain⟨f0,f1,f2,f3,f4,f5⟩:=hf it (by simp)
  refine wpAny_pyNext_tuple_item st (show s.heap.IsTuple a its.toArray from p) (x:=u) (by simpa using hu) λh' st' sb=>?_
  have I1:Inv X pins σ H { s with heap:=h' }:=I.turned (t':=s.toks) (λb o hb e=>(sb.2 b hb).trans e) f0 f1 f3 f4 f5
  obtain⟨o,e,c,d⟩:=id st'
  exact⟨u,rfl,QN (s:={ s with heap:=h' }) e c d (by decide) ⟨x,H,I1,ru,⟨rfl,λys hy=>by rw [I.tuple_inj hy hq]; exact hx⟩,st',λb hb=>(hf b hb).1⟩⟩
 done:=by
  intro X hP hw hK hc i pins s σ H E I hf st hg
  subst hP hw hK
  obtain⟨xs,hq,hx⟩:=hg
  obtain⟨its,rv,p,hz⟩:=I.tuple hq
  obtain⟨f0,f1,f2,f3,f4,f5⟩:=hf it (by simp)
  have hl:=rv.length
  exact wpAny_pyNext_tuple_end (I.ok.hd hc) st (show s.heap.IsTuple a its.toArray from p) (by simp; omega) λh' eb=>⟨rfl,I.turned (t':=s.toks) (λb o hb e=>eb b o hb e) f0 f1 f3 f4 f5⟩
 self:=λ_ _ _ _ _ st h=>wpAny_pyIter_tupleiter st h
theorem Og{P:Program}{w:World}{K:Frag}{tg:Expr}(it:Addr)(lo:Int)(n:Nat):Turn P w K tg (Wf lo n) [it] it (λi h=>IsRangeIter h it (lo+(i:Nat)*1) ((n:Int) - (i:Nat)) 1) where
 mem:=by simp
 obj:=λi h st b hb=>by
  have e:b=it:=by simpa using hb
  subst e
  exact⟨_,st,λv z=>by
   have z':Data.fields _=Data.cell v:=z
   cases z'⟩
 keep:=λi h h' st k=>k it (by simp) _ st
 item:=by
  intro X hP hw hK hc i pins s σ H E I hf st hg
  subst hP hw hK
  obtain⟨f0,f1,f2,f3,f4,f5⟩:=hf it (by simp)
  have W:=Walks.range (prog:=X.prog) (w:=X.w) (I.ok.hd hc) it lo 1 n
  refine W.item i s _ _ hg st λv h' tk hv st' kk=>?_
  obtain⟨t,rfl⟩:=hv
  have I1:Inv X pins σ H { s with heap:=h',toks:=tk }:=I.turned (λb o hb e=>kk b o (by simpa using hb) e) f0 f1 f3 f4 f5
  refine⟨_,rfl,QN (s:={ s with heap:=h',toks:=tk }) (n := "range_iterator") st' rfl rfl (by decide) ⟨.int (lo+i),H,I1,⟨t,?_⟩,⟨rfl,rfl⟩,st',λb hb=>(hf b hb).1⟩⟩
  rw [Int.mul_one]
 done:=by
  intro X hP hw hK hc i pins s σ H E I hf st hg
  subst hP hw hK
  obtain⟨f0,f1,f2,f3,f4,f5⟩:=hf it (by simp)
  exact wpAny_pyNext_range_end (I.ok.hd hc) st (by have:n<=i:=hg; omega) λh' eb=>⟨rfl,I.turned (t':=s.toks) (λb o hb e=>eb b o hb e) f0 f1 f3 f4 f5⟩
 self:=λ_ _ _ _ _ st h=>wpAny_pyIter_rangeiter st h
section
variable {X:Cx}{tg:Expr}
theorem Na{pins:List (Addr×Obj)}{σ:St}{H:Hp}{s:Shared}{R:It->Hp->Prop}{E:Value->Shared->Prop}{lo hi:Int}{t u v:Tok}{tk:Nat}(I:Inv X pins σ H s)(h1:-(2 ^ 62)<=lo)(h2:lo<2 ^ 62)(h3:-(2 ^ 62)<=hi)(h4:hi<2 ^ 62)
  (q:R (Wf lo (hi - lo).toNat) H):wpAny (model X.prog X.w) X.A (pyIter (.ref s.heap.objs.size)) (aL X pins σ tg R) E { s with heap:=s.heap.push { cls:=.type "range",data:=.fields #[.int lo t,.int hi u,.int 1 v] },toks:=tk }:=by
 refine wpAny_pyIter_range (IsRange.new ..) (small_one h1 h2 h3 h4) ?_
 have I1:Inv X pins σ H { s with heap:=s.heap.push { cls:=.type "range",data:=.fields #[.int lo t,.int hi u,.int 1 v] },toks:=tk }:=I.kept λb o e=>Ev _ e
 refine⟨(s.heap.push { cls:=.type "range",data:=.fields #[.int lo t,.int hi u,.int 1 v] }).objs.size,[(s.heap.push { cls:=.type "range",data:=.fields #[.int lo t,.int hi u,.int 1 v] }).objs.size],_,_,H,rfl,
  I1.kept (t':=tk) λb o e=>Ev _ e,Og _ lo (hi - lo).toNat,?_,λb hb=>?_,q⟩
 ·have e1:lo+((0:Nat):Int)*1=lo:=by simp
  have e2:(((hi - lo).toNat:Nat):Int) - ((0:Nat):Int)=Builtin.Range.rangeSize lo hi 1:=by rw [rangeSize_one]; split <;> omega
  show IsRangeIter _ _ (lo+((0:Nat):Int)*1) ((((hi - lo).toNat:Nat):Int) - ((0:Nat):Int)) 1
  rw [e1,e2]
  exact XV _ rfl
 ·have e:b=(s.heap.push { cls:=.type "range",data:=.fields #[.int lo t,.int hi u,.int 1 v] }).objs.size:=by simpa using hb
  subst e
  exact I1.fpOk (No _) (I1.hok.fresh (No _))
noncomputable def Yx(ta:TA):TI:=λσ H R=>ta σ H λvs H1=>∃j:Int,vs=[.int j]/\-(2 ^ 62)<=j/\j<2 ^ 62/\R (Wf 0 j.toNat) H1
noncomputable def Yw(ta:TA):TI:=λσ H R=>ta σ H λvs H1=>∃i j:Int,vs=[.int i,.int j]/\(-(2 ^ 62)<=i/\i<2 ^ 62/\-(2 ^ 62)<=j/\j<2 ^ 62)/\R (Wf i (j - i).toNat) H1
theorem DK{a:Expr}{ta:TA}{p pos:Pos}(hg:Gl X "range")(hm:X.mg "range"=none)(ha:PA X [a] ta)(hs:autoParam (starEach [a] X.env=[(false,eval a X.env)]) zau3._auto_1):PI X tg (.Call (.Name "range" p) [a] [] pos) (Yx ta):=by
 intro pins s σ H R I h
 refine Call_ (G7 I hg hm boot_range (cT (Bs (ha pos pins s σ H _ I h) λus s1 ⟨vs,H1,I1,r1,q1⟩=>?_) hs rfl))
 obtain⟨j,e,q1,q2,q⟩:=q1
 subst e
 cases r1 with
 | cons r rr =>
  cases rr
  obtain⟨t,rfl⟩:=r
  exact call_range_1 (Na I1 (by omega) (by omega) q1 q2 (by simpa using q))
theorem RF{a b:Expr}{ta:TA}{p pos:Pos}(hg:Gl X "range")(hm:X.mg "range"=none)(ha:PA X [a,b] ta)(hs:autoParam (starEach [a,b] X.env=[(false,eval a X.env),(false,eval b X.env)]) zau3._auto_1)(hs2:autoParam (starEach [b] X.env=[(false,eval b X.env)]) zau3._auto_1) :
  PI X tg (.Call (.Name "range" p) [a,b] [] pos) (Yw ta):=by
 intro pins s σ H R I h
 refine Call_ (G7 I hg hm boot_range (cT (Bs (ha pos pins s σ H _ I h) λus s1 ⟨vs,H1,I1,r1,q1⟩=>?_) (by rw [hs,hs2]) (by rw [hs2]; rfl)))
 obtain⟨i,j,e,⟨q1,q2,q3,q4⟩,q⟩:=q1
 subst e
 cases r1 with
 | cons r rr =>
  cases rr with
  | cons r' rr =>
   cases rr
   obtain⟨t,rfl⟩:=r
   obtain⟨t',rfl⟩:=r'
   exact call_range_2 (Na I1 q1 q2 q3 q4 q)
noncomputable def YT(wi:TI)(g:TG)(tb:TS):TS:=λD σ H=>wi σ H λJ H1=>∃W:Nat->Nat->St->Hp->Prop,(∃m,W 0 m σ H1)/\∀i m σ H,W i m σ H ->
 (J.stop i H/\D.nx σ H)\/(J.go i H/\∃N:St->Hp->Prop,(∀σ' H',N σ' H'->∃m',m'<m/\W (i+1) m' σ' H')/\∀x H',J.yld i H x H'->g x σ H' λσ2 H2=>tb { D with nx:=N,ct:=N,bk:=D.nx } σ2 H2)
noncomputable def J4(fp:List Addr)(h:Heap):List (Addr×Obj):=fp.filterMap λb=>(h.get? b).map λo=>(b,o)
theorem Eu{fp:List Addr}{h:Heap}{b:Addr}{o:Obj}(hb:b∈fp)(e:h.get? b=some o):(b,o)∈J4 fp h:=List.mem_filterMap.mpr ⟨b,hb,by rw [e]; rfl⟩
theorem RL{fp:List Addr}{h:Heap}{p:Addr×Obj}(hp:p∈J4 fp h):p.1∈fp/\h.get? p.1=some p.2:=by
 obtain⟨b,hb,e⟩:=List.mem_filterMap.mp hp
 cases q:h.get? b with
 | none=>rw [q] at e; cases e
 | some o =>
  rw [q] at e
  have e':(b,o)=p:=Uf e
  subst e'
  exact⟨hb,q⟩
theorem Inv.pinned{pins:List (Addr×Obj)}{σ:St}{H:Hp}{s:Shared}{fp:List Addr}(I:Inv X pins σ H s)(hf:∀b∈fp,Ks X pins H b)(ho:∀b∈fp,∃o,s.heap.get? b=some o/\∀v,o.data≠.cell v):Inv X (pins++J4 fp s.heap) σ H s :=
 I.pins_of λp hp=>(bD.mp hp).elim (λz=>I.pin p (bC _ z)) λz=>by
  obtain⟨hb,e⟩:=RL z
  obtain⟨f0,f1,f2,_⟩:=hf p.1 hb
  obtain⟨o,e',d⟩:=ho p.1 hb
  rw [e] at e'; cases e'
  exact⟨e,f0,f1,f2,d⟩
theorem Inv.unpinned{pins pl:List (Addr×Obj)}{σ:St}{H:Hp}{s:Shared}(I:Inv X (pins++pl) σ H s):Inv X pins σ H s:=I.pins_of λp hp=>I.pin p (bC _ (cH _ hp))
theorem G1{iter:Expr}{body:List Stmt}{wi:TI}{g:TG}{tb:TS}{pos:Pos}(hp:PassesOwn (model X.prog X.w) X.A X.env X.xe)(hc:X.calm=true)(hi:PI X tg iter wi)(hg:PG X tg g)(hb:PSs X body tb)
  (hs:autoParam (∀x,foldedSetIterable iter X.env x=pure x) zau2._auto_1):PS X (.For tg iter body [] pos) (YT wi g tb):=by
 intro pins s σ H D I h
 refine wpAny_For (Bs (hi pins s σ H _ I h) λv s1 h1=>Bs h1 λitv s2 h2=>?_) hs
 obtain⟨it,fp,tn,J,H2,e,I2,T,st2,f2,W,⟨m0,w0⟩,turn⟩:=h2
 subst e
 have stat:∀{H':Hp},(∀b∈fp,H' b=none)->∀b∈fp,Ks X pins H' b:=λhn b hb=>⟨hn b hb,(f2 b hb).2⟩
 refine codeAny_forLoop_any (λn s'=>∃i σ' H',Inv X pins σ' H' s'/\tn i s'.heap/\(∀b∈fp,H' b=none)/\W i n σ' H') ?_ m0 ⟨0,σ,H2,I2,st2,λb hb=>(f2 b hb).1,w0⟩
 rintro n s3 ⟨i,σ3,H3,I3,st3,fr3,w3⟩
 rcases turn i n σ3 H3 w3 with ⟨stop,qn⟩ | ⟨go,N,hN,step⟩
 ·refine c0 hp (Bs (T.done X rfl rfl rfl hc i pins s3 σ3 H3 X.xe I3 (stat fr3) st3 stop) λr s4 ⟨hr,I4⟩=>?_)
  subst hr
  exact fB ⟨σ3,H3,I4,qn⟩
 ·refine c0 hp (Bs (T.item X rfl rfl rfl hc i pins s3 σ3 H3 X.xe I3 (stat fr3) st3 go) λr s4 ⟨u,hr,h4⟩=>?_)
  subst hr
  refine c0 hp (Bs h4 λ_ s5 ⟨x,H5,I5,r5,y5,st5,fr5⟩=>?_)
  have I5':=I5.pinned (stat fr5) (T.obj _ _ st5)
  refine c0 hp (Bs (hg _ s5 σ3 H5 x u _ I5' r5 (step x H5 y5)) λ_ s6 ⟨σ6,H6,I6,q6⟩=>?_)
  refine c0 hp (Bs (hb _ s6 σ6 H6 _ I6 q6) λf s7 q7=>?_)
  have again:∀{σ7:St} {H7:Hp},Inv X (pins++J4 fp s5.heap) σ7 H7 s7->N σ7 H7->∃m,m<n/\∃i σ' H',Inv X pins σ' H' s7/\tn i s7.heap/\(∀b∈fp,H' b=none)/\W i m σ' H':=λ{σ7 H7} I7 n7=>by
   obtain⟨m',hm,w7⟩:=hN σ7 H7 n7
   refine⟨m',hm,i+1,σ7,H7,I7.unpinned,T.keep _ _ _ st5 λb hb o e=>(I7.pin (b,o) (bC _ (bC _ (Eu hb e)))).1,λb hb=>?_,w7⟩
   obtain⟨o,e,d⟩:=T.obj _ _ st5 b hb
   exact(I7.pin (b,o) (bC _ (bC _ (Eu hb e)))).2.1
  cases f with
  | next=>obtain⟨σ7,H7,I7,n7⟩:=q7; exact again I7 n7
  | cont=>obtain⟨σ7,H7,I7,n7⟩:=q7; exact again I7 n7
  | brk=>obtain⟨σ7,H7,I7,q7⟩:=q7; exact⟨σ7,H7,I7.unpinned,q7⟩
  | ret v=>obtain⟨x7,σ7,H7,I7,r7,q7⟩:=q7; exact⟨x7,σ7,H7,I7.unpinned,r7,q7⟩
end
theorem Tp{K:Frag}{a:Addr}{xs:List V}{g:TG}{tb:TS}{D:Ends}{σ:St}{H:Hp}(Pv:Nat->St->Hp->Prop)(h0:Pv 0 σ H)(hl:∀i σ H,i<=xs.length->Pv i σ H->SqL K H a xs)
  (hs:∀i x σ H,xs[i]?=some x->Pv i σ H->g x σ H λσ2 H2=>tb { D with nx:=Pv (i+1),ct:=Pv (i+1),bk:=D.nx } σ2 H2) (hd:∀σ H,Pv xs.length σ H->D.nx σ H) :
  ∃W:Nat->Nat->St->Hp->Prop,(∃m,W 0 m σ H)/\∀i m σ H,W i m σ H ->
   ((Uo K a).stop i H/\D.nx σ H)\/((Uo K a).go i H/\∃N:St->Hp->Prop,(∀σ' H',N σ' H'->∃m',m'<m/\W (i+1) m' σ' H')/\∀x H',(Uo K a).yld i H x H'->g x σ H' λσ2 H2=>tb { D with nx:=N,ct:=N,bk:=D.nx } σ2 H2):=by
 refine⟨λi m σ H=>m=xs.length - i/\i<=xs.length/\Pv i σ H,⟨xs.length,by simp,TW _,h0⟩,?_⟩
 rintro i m σ H ⟨rfl,hi,p⟩
 have q:=hl i σ H hi p
 by_cases hlt:i<xs.length
 ·refine .inr ⟨⟨xs,xs[i],q,by simp [hlt]⟩,Pv (i+1),λσ' H' p'=>⟨xs.length - (i+1),by omega,rfl,hlt,p'⟩,λx H' y=>?_⟩
  obtain⟨e,y⟩:=y
  subst e
  exact hs i x σ _ (y xs q) p
 ·have e:i=xs.length:=by omega
  subst e
  exact .inl ⟨⟨xs,q,No _⟩,hd σ H p⟩
theorem Vd{K:Frag}{a:Addr}{xs:List V}{g:TG}{tb:TS}{D:Ends}{σ:St}{H:Hp}(Pv:Nat->St->Hp->Prop)(h0:Pv 0 σ H)(hl:∀i σ H,i<=xs.length->Pv i σ H->SqT K H a xs)
  (hs:∀i x σ H,xs[i]?=some x->Pv i σ H->g x σ H λσ2 H2=>tb { D with nx:=Pv (i+1),ct:=Pv (i+1),bk:=D.nx } σ2 H2) (hd:∀σ H,Pv xs.length σ H->D.nx σ H) :
  ∃W:Nat->Nat->St->Hp->Prop,(∃m,W 0 m σ H)/\∀i m σ H,W i m σ H ->
   ((Um K a).stop i H/\D.nx σ H)\/((Um K a).go i H/\∃N:St->Hp->Prop,(∀σ' H',N σ' H'->∃m',m'<m/\W (i+1) m' σ' H')/\∀x H',(Um K a).yld i H x H'->g x σ H' λσ2 H2=>tb { D with nx:=N,ct:=N,bk:=D.nx } σ2 H2):=by
 refine⟨λi m σ H=>m=xs.length - i/\i<=xs.length/\Pv i σ H,⟨xs.length,by simp,TW _,h0⟩,?_⟩
 rintro i m σ H ⟨rfl,hi,p⟩
 have q:=hl i σ H hi p
 by_cases hlt:i<xs.length
 ·refine .inr ⟨⟨xs,xs[i],q,by simp [hlt]⟩,Pv (i+1),λσ' H' p'=>⟨xs.length - (i+1),by omega,rfl,hlt,p'⟩,λx H' y=>?_⟩
  obtain⟨e,y⟩:=y
  subst e
  exact hs i x σ _ (y xs q) p
 ·have e:i=xs.length:=by omega
  subst e
  exact .inl ⟨⟨xs,q,No _⟩,hd σ H p⟩
theorem GO{lo:Int}{n:Nat}{g:TG}{tb:TS}{D:Ends}{σ:St}{H:Hp}(Pv:Nat->St->Hp->Prop)(h0:Pv 0 σ H)
  (hs:∀i σ H,i<n->Pv i σ H->g (.int (lo+i)) σ H λσ2 H2=>tb { D with nx:=Pv (i+1),ct:=Pv (i+1),bk:=D.nx } σ2 H2) (hd:∀σ H,Pv n σ H->D.nx σ H) :
  ∃W:Nat->Nat->St->Hp->Prop,(∃m,W 0 m σ H)/\∀i m σ H,W i m σ H ->
   ((Wf lo n).stop i H/\D.nx σ H)\/((Wf lo n).go i H/\∃N:St->Hp->Prop,(∀σ' H',N σ' H'->∃m',m'<m/\W (i+1) m' σ' H')/\∀x H',(Wf lo n).yld i H x H'->g x σ H' λσ2 H2=>tb { D with nx:=N,ct:=N,bk:=D.nx } σ2 H2):=by
 refine⟨λi m σ H=>m=n - i/\i<=n/\Pv i σ H,⟨n,by simp,TW _,h0⟩,?_⟩
 rintro i m σ H ⟨rfl,hi,p⟩
 by_cases hlt:i<n
 ·refine .inr ⟨hlt,Pv (i+1),λσ' H' p'=>⟨n - (i+1),by omega,rfl,hlt,p'⟩,λx H' y=>?_⟩
  obtain⟨e,y⟩:=y
  subst e y
  exact hs i σ _ hlt p
 ·have e:i=n:=by omega
  subst e
  exact .inl ⟨No _,hd σ H p⟩
noncomputable abbrev R2:=V->V->Hp->VK->Prop
noncomputable def OpR(X:Cx)(f:Value->Value->Sem Value)(r:R2):Prop :=
 ∀(pins:List (Addr×Obj)) (s:Shared) (σ:St) (H:Hp) (x y:V) (v u:Value) (Q:VK),Inv X pins σ H s->RelV x v->RelV y u->r x y H Q ->
  wpAny (model X.prog X.w) X.A (f v u) (EP X pins σ Q) X.xe s
noncomputable def Z8(X:Cx)(f:Value->Sem Value)(r:V->Hp->VK->Prop):Prop :=
 ∀(pins:List (Addr×Obj)) (s:Shared) (σ:St) (H:Hp) (x:V) (v:Value) (Q:VK),Inv X pins σ H s->RelV x v->r x H Q ->
  wpAny (model X.prog X.w) X.A (f v) (EP X pins σ Q) X.xe s
noncomputable def CV(X:Cx)(f:Value)(r:List V->Hp->VK->Prop):Prop :=
 ∀(pins:List (Addr×Obj)) (s:Shared) (σ:St) (H:Hp) (xs:List V) (us:List Value) (Q:VK),Inv X pins σ H s->Vals xs us->r xs H Q ->
  wpAny (model X.prog X.w) X.A (call f us) (EP X pins σ Q) X.xe s
noncomputable def Dl(r:R2)(ta tb:TE):TE:=λσ H Q=>ta σ H λx H1=>tb σ H1 λy H2=>r x y H2 Q
noncomputable def aP(r:V->Hp->VK->Prop)(ta:TE):TE:=λσ H Q=>ta σ H λx H1=>r x H1 Q
noncomputable def rI(C:Int->Int->Prop)(g:Int->Int->V):R2:=λx y H Q=>∃i j,x=.int i/\y=.int j/\C i j/\Q (g i j) H
noncomputable def Ic(g:Int->Int->V):R2:=λx y H Q=>∃i j,x=.int i/\y=.int j/\Q (g i j) H
noncomputable def rU(g:Int->V):V->Hp->VK->Prop:=λx H Q=>∃i,x=.int i/\Q (g i) H
section
variable {X:Cx}{a b c:Expr}{ta tb tc:TE}{pos:Pos}
theorem Xy(ha:PE X a ta)(hb:PE X b tb){pins:List (Addr×Obj)}{s:Shared}{σ:St}{H:Hp}{R:V->V->Hp->Prop}(I:Inv X pins σ H s)
  (h:ta σ H λx H1=>tb σ H1 λy H2=>R x y H2) {Q:Value->Shared->Prop} {f:Value->Value->Sem Value}
  (hf:∀v u s2 x y H2,Inv X pins σ H2 s2->RelV x v->RelV y u->R x y H2->wpAny (model X.prog X.w) X.A (f v u) Q X.xe s2) :
  wpAny (model X.prog X.w) X.A (eval a X.env) (λv s₁=>wpAny (model X.prog X.w) X.A (eval b X.env) (λu s₂=>wpAny (model X.prog X.w) X.A (f v u) Q X.xe s₂) X.xe s₁) X.xe s:=by
 refine Bs (ha pins s σ H _ I h) λv s1 ⟨x,H1,I1,r1,q1⟩=>?_
 refine Bs (hb pins s1 σ H1 _ I1 q1) λu s2 ⟨y,H2,I2,r2,q2⟩=>?_
 exact hf v u s2 x y H2 I2 r1 r2 q2
theorem Bt{op:Operator}{r:R2}(ho:OpR X (binaryOp op) r)(ha:PE X a ta)(hb:PE X b tb):PE X (.BinOp a op b pos) (Dl r ta tb):=by
 intro pins s σ H Q I h
 exact wpAny_BinOp (Xy ha hb I h λv u s2 x y H2 I2 rx ry q=>ho pins s2 σ H2 x y v u Q I2 rx ry q)
theorem Yp{op:UnaryOp}{r:V->Hp->VK->Prop}(ho:Z8 X (unaryOp op) r)(ha:PE X a ta):PE X (.UnaryOp op a pos) (aP r ta):=by
 intro pins s σ H Q I h
 exact UnaryOp_ (Bs (ha pins s σ H _ I h) λv s1 ⟨x,H1,I1,r1,q1⟩=>ho pins s1 σ H1 x v Q I1 r1 q1)
theorem Yt{f:Value->Value->Sem Value}{C:Int->Int->Prop}{g:Int->Int->Int}
  (rule:∀(i j:Int) (t u:Tok) (s:Shared) (Q:Value->Shared->Prop) (E:Value->Shared->Prop),C i j->Q (.int (g i j) s.toks) { s with toks:=s.toks+1 }->wpAny (model X.prog X.w) X.A (f (.int i t) (.int j u)) Q E s) :
  OpR X f (rI C λi j=>.int (g i j)):=by
 intro pins s σ H x y v u Q I rx ry h
 obtain⟨i,j,rfl,rfl,hc,q⟩:=h
 obtain⟨t,rfl⟩:=rx
 obtain⟨t',rfl⟩:=ry
 exact rule i j t t' s _ _ hc ⟨.int (g i j),H,I.tok _,⟨_,rfl⟩,q⟩
theorem Ys{f:Value->Value->Sem Value}{g:Int->Int->Int}
  (rule:∀(i j:Int) (t u:Tok) (s:Shared) (Q:Value->Shared->Prop) (E:Value->Shared->Prop),Q (.int (g i j) s.toks) { s with toks:=s.toks+1 }->wpAny (model X.prog X.w) X.A (f (.int i t) (.int j u)) Q E s) :
  OpR X f (Ic λi j=>.int (g i j)):=by
 intro pins s σ H x y v u Q I rx ry h
 obtain⟨i,j,rfl,rfl,q⟩:=h
 obtain⟨t,rfl⟩:=rx
 obtain⟨t',rfl⟩:=ry
 exact rule i j t t' s _ _ ⟨.int (g i j),H,I.tok _,⟨_,rfl⟩,q⟩
theorem VP{f:Value->Value->Sem Value}{g:Int->Int->Bool}
  (rule:∀(i j:Int) (t u:Tok) (s:Shared) (Q:Value->Shared->Prop) (E:Value->Shared->Prop),Q (.bool (g i j)) s->wpAny (model X.prog X.w) X.A (f (.int i t) (.int j u)) Q E s) :
  OpR X f (Ic λi j=>.bl (g i j)):=by
 intro pins s σ H x y v u Q I rx ry h
 obtain⟨i,j,rfl,rfl,q⟩:=h
 obtain⟨t,rfl⟩:=rx
 obtain⟨t',rfl⟩:=ry
 exact rule i j t t' s _ _ ⟨.bl (g i j),H,I,rfl,q⟩
noncomputable def Rz(i j:Int):Prop:=0<j/\j<1073741824
noncomputable def LD(i j:Int):Prop:=0<=j/\j<=1000000/\i.natAbs<2 ^ 64
noncomputable def CMul(i j:Int):Prop:=(-(2 ^ 64)<i/\i<2 ^ 64)\/(-(2 ^ 64)<j/\j<2 ^ 64)
theorem CMul.ok{i j:Int}(h:CMul i j):IntMulOk i j:=by
 rcases h with ⟨h1,h2⟩ | ⟨h1,h2⟩
 ·exact .of_left (intBits_le_64 h1 h2)
 ·exact .of_right (intBits_le_64 h1 h2)
theorem op_add:OpR X (binaryOp .Add) (Ic λi j=>.int (i+j)):=Ys λ_ _ _ _ _ _ _ q=>add_int q
theorem op_sub:OpR X (binaryOp .Sub) (Ic λi j=>.int (i - j)):=Ys λ_ _ _ _ _ _ _ q=>sub_int q
theorem op_mul:OpR X (binaryOp .Mult) (rI CMul λi j=>.int (i*j)):=Yt λ_ _ _ _ _ _ _ hc q=>mul_int q hc.ok
theorem HU:OpR X (binaryOp .FloorDiv) (rI Rz λi j=>.int (i / j)):=Yt λi j _ _ _ _ _ hc q=>by
 have h1:(0:Int)<j:=hc.1
 have h2:j<1073741824:=hc.2
 exact floordiv_int (by omega) (by rw [Int.fdiv_eq_ediv_of_nonneg i (by omega)]; exact q) (.inl (PyProof.noPylong_small (by omega)))
theorem DX:OpR X (binaryOp .Mod) (rI (λ_ j=>0<j) λi j=>.int (i % j)):=Yt λi j _ _ _ _ _ hc q=>by
 have h1:(0:Int)<j:=hc
 exact mod_int' (by omega) (by rw [Int.fmod_eq_emod_of_nonneg i (by omega)]; exact q)
theorem G3:OpR X (binaryOp .Pow) (rI LD λi j=>.int (i ^ j.toNat)):=Yt λ_ _ _ _ _ _ _ hc q=>pow_int_small hc.1 hc.2.1 hc.2.2 q
theorem TK:OpR X (binaryOp .LShift) (rI LD λi j=>.int (i*2 ^ j.toNat)):=Yt λ_ _ _ _ _ _ _ hc q=>lshift_int_small hc.1 hc.2.1 hc.2.2 q
theorem aO{f:Value->Sem Value}{g:Int->Int}
  (rule:∀(i:Int) (t:Tok) (s:Shared) (Q:Value->Shared->Prop) (E:Value->Shared->Prop),Q (.int (g i) s.toks) { s with toks:=s.toks+1 }->wpAny (model X.prog X.w) X.A (f (.int i t)) Q E s) :
  Z8 X f (rU λi=>.int (g i)):=by
 intro pins s σ H x v Q I rx h
 obtain⟨i,rfl,q⟩:=h
 obtain⟨t,rfl⟩:=rx
 exact rule i t s _ _ ⟨.int (g i),H,I.tok _,⟨_,rfl⟩,q⟩
theorem Wo:Z8 X (unaryOp .USub) (rU λi=>.int (-i)):=aO λ_ _ _ _ _ q=>neg_int q
end
noncomputable def YZ:V->V->Bool
 | .non,.non=>true | .non,.int _=>true | .int _,.non=>true | .non,.bl _=>true | .bl _,.non=>true | .non,.str _=>true | .str _,.non=>true
 | .int _,.int _=>true | .bl _,.bl _=>true | .str _,.str _=>true | .byt _,.byt _=>true
 | .int _,.str _=>true | .str _,.int _=>true | .bl _,.str _=>true | .str _,.bl _=>true
 | _,_=>false
noncomputable def aF:R2:=λx y H Q=>YZ x y=true/\Q (.bl (decide (x=y))) H
noncomputable def aC:R2:=λx y H Q=>YZ x y=true/\Q (.bl (!decide (x=y))) H
theorem JX{i j:Int}:decide (V.int i=V.int j)=(i==j):=by
 rw [cF]
 simp
theorem Mq{i j:Bool}:decide (V.bl i=V.bl j)=(i==j):=by
 rw [cF]
 simp
theorem JW{i j:Str}:decide (V.str i=V.str j)=(i==j):=by
 rw [cF]
 simp
theorem QY{i j:Array UInt8}:decide (V.byt i=V.byt j)=(i.toList==j.toList):=by
 rw [cF]
 cases i
 cases j
 simp
section
variable {X:Cx}{a b c:Expr}{ta tb tc:TE}{pos:Pos}
theorem A7{pins:List (Addr×Obj)}{σ:St}{H:Hp}{s:Shared}{Q:VK}{k k':Bool}(I:Inv X pins σ H s)(q:Q (.bl k) H)(e:k=k'):EP X pins σ Q (.bool k') s:=by
 subst e
 exact⟨.bl k,H,I,rfl,q⟩
theorem CO:OpR X (compareOp .Eq) aF:=by
 intro pins s σ H x y v u Q I rx ry h
 obtain⟨hs,q⟩:=h
 cases x with
 | non =>
  cases rx
  cases y with
  | non=>cases ry; exact PySem.EqNone.eq_none_none (A7 I q (by simp))
  | bl j=>cases ry; exact PySem.EqNone.eq_none_bool (A7 I q (by simp))
  | int j=>obtain⟨t',rfl⟩:=ry; exact PySem.EqNone.eq_none_int (A7 I q (by simp))
  | str j=>obtain⟨t',rfl⟩:=ry; exact PySem.EqNone.eq_none_str (A7 I q (by simp))
  | _=>exact absurd (show false=true from hs) ar
 | bl i =>
  cases rx
  cases y with
  | non=>cases ry; exact PySem.EqNone.eq_bool_none (A7 I q (by simp))
  | bl j=>cases ry; exact eq_bool (A7 I q Mq)
  | str j=>obtain⟨t',rfl⟩:=ry; exact PySem.EqMixed.eq_bool_str (A7 I q (by simp))
  | _=>exact absurd (show false=true from hs) ar
 | int i =>
  obtain⟨t,rfl⟩:=rx
  cases y with
  | non=>cases ry; exact PySem.EqNone.eq_int_none (A7 I q (by simp))
  | int j=>obtain⟨t',rfl⟩:=ry; exact eq_int (A7 I q JX)
  | str j=>obtain⟨t',rfl⟩:=ry; exact PySem.EqMixed.eq_int_str (A7 I q (by simp))
  | _=>exact absurd (show false=true from hs) ar
 | str i =>
  obtain⟨t,rfl⟩:=rx
  cases y with
  | non=>cases ry; exact PySem.EqNone.eq_str_none (A7 I q (by simp))
  | bl j=>cases ry; exact PySem.EqMixed.eq_str_bool (A7 I q (by simp))
  | int j=>obtain⟨t',rfl⟩:=ry; exact PySem.EqMixed.eq_str_int (A7 I q (by simp))
  | str j=>obtain⟨t',rfl⟩:=ry; exact eq_str (A7 I q JW)
  | _=>exact absurd (show false=true from hs) ar
 | byt i =>
  obtain⟨t,rfl⟩:=rx
  cases y with
  | byt j=>obtain⟨t',rfl⟩:=ry; exact PySem.W.eq_bytes (A7 I q QY)
  | _=>exact absurd (show false=true from hs) ar
 | _=>cases y <;> exact absurd (show false=true from hs) ar
theorem LS:OpR X (compareOp .NotEq) aC:=by
 intro pins s σ H x y v u Q I rx ry h
 obtain⟨hs,q⟩:=h
 cases x with
 | non =>
  cases rx
  cases y with
  | non=>cases ry; exact PySem.EqNone.ne_none_none (A7 I q (by simp))
  | bl j=>cases ry; exact PySem.EqNone.ne_none_bool (A7 I q (by simp))
  | int j=>obtain⟨t',rfl⟩:=ry; exact PySem.EqNone.ne_none_int (A7 I q (by simp))
  | str j=>obtain⟨t',rfl⟩:=ry; exact PySem.EqNone.ne_none_str (A7 I q (by simp))
  | _=>exact absurd (show false=true from hs) ar
 | bl i =>
  cases rx
  cases y with
  | non=>cases ry; exact PySem.EqNone.ne_bool_none (A7 I q (by simp))
  | bl j=>cases ry; exact ne_bool (A7 I q (congrArg not Mq))
  | str j=>obtain⟨t',rfl⟩:=ry; exact PySem.EqMixed.ne_bool_str (A7 I q (by simp))
  | _=>exact absurd (show false=true from hs) ar
 | int i =>
  obtain⟨t,rfl⟩:=rx
  cases y with
  | non=>cases ry; exact PySem.EqNone.ne_int_none (A7 I q (by simp))
  | int j=>obtain⟨t',rfl⟩:=ry; exact ne_int (A7 I q (congrArg not JX))
  | str j=>obtain⟨t',rfl⟩:=ry; exact PySem.EqMixed.ne_int_str (A7 I q (by simp))
  | _=>exact absurd (show false=true from hs) ar
 | str i =>
  obtain⟨t,rfl⟩:=rx
  cases y with
  | non=>cases ry; exact PySem.EqNone.ne_str_none (A7 I q (by simp))
  | bl j=>cases ry; exact PySem.EqMixed.ne_str_bool (A7 I q (by simp))
  | int j=>obtain⟨t',rfl⟩:=ry; exact PySem.EqMixed.ne_str_int (A7 I q (by simp))
  | str j=>obtain⟨t',rfl⟩:=ry; exact ne_str (A7 I q (congrArg not JW))
  | _=>exact absurd (show false=true from hs) ar
 | byt i =>
  obtain⟨t,rfl⟩:=rx
  cases y with
  | byt j=>obtain⟨t',rfl⟩:=ry; exact PySem.W.ne_bytes (A7 I q (congrArg not QY))
  | _=>exact absurd (show false=true from hs) ar
 | _=>cases y <;> exact absurd (show false=true from hs) ar
theorem op_lt:OpR X (compareOp .Lt) (Ic λi j=>.bl (decide (i<j))):=VP λ_ _ _ _ _ _ _ q=>gZ q
theorem op_le:OpR X (compareOp .LtE) (Ic λi j=>.bl (decide (i<=j))):=VP λ_ _ _ _ _ _ _ q=>le_int q
theorem WR:OpR X (compareOp .Gt) (Ic λi j=>.bl (decide (j<i))):=VP λ_ _ _ _ _ _ _ q=>gt_int q
theorem WS:OpR X (compareOp .GtE) (Ic λi j=>.bl (decide (j<=i))):=VP λ_ _ _ _ _ _ _ q=>ge_int q
theorem RJ:OpR X (compareOp .Lt) (λx y H Q=>∃i j,x=.str i/\y=.str j/\Q (.bl (decide (i.cps.toList<j.cps.toList))) H):=by
 intro pins s σ H x y v u Q I rx ry h
 obtain⟨i,j,rfl,rfl,q⟩:=h
 obtain⟨t,rfl⟩:=rx
 obtain⟨t',rfl⟩:=ry
 exact lt_str (A7 I q rfl)
theorem MP:OpR X (compareOp .Is) (λx y H Q=>y=.non/\Q (.bl (decide (x=.non))) H):=by
 intro pins s σ H x y v u Q I rx ry h
 obtain⟨rfl,q⟩:=h
 cases ry
 refine is_none_gen (A7 I q ?_)
 cases x <;> first
  | (cases rx; rfl)
  | (obtain⟨t,rfl⟩:=rx; rfl)
theorem GL:OpR X (compareOp .IsNot) (λx y H Q=>y=.non/\Q (.bl (!decide (x=.non))) H):=by
 intro pins s σ H x y v u Q I rx ry h
 obtain⟨rfl,q⟩:=h
 cases ry
 refine isnot_none_gen (A7 I q ?_)
 cases x <;> first
  | (cases rx; rfl)
  | (obtain⟨t,rfl⟩:=rx; rfl)
theorem OpR.or{f:Value->Value->Sem Value}{r r':R2}(h:OpR X f r)(h':OpR X f r'):OpR X f (λx y H Q=>r x y H Q\/r' x y H Q):=by
 intro pins s σ H x y v u Q I rx ry q
 rcases q with q | q
 ·exact h pins s σ H x y v u Q I rx ry q
 ·exact h' pins s σ H x y v u Q I rx ry q
theorem AZ(b:Expr){op:CmpOp}(h:autoParam (op≠.In) zau1._auto_1)(h2:autoParam (op≠.NotIn) zau1._auto_1):behindInMarks op b=false:=by
 have e1:(op==CmpOp.In)=false:=by cases op <;> first | rfl | exact absurd rfl h
 have e2:(op==CmpOp.NotIn)=false:=by cases op <;> first | rfl | exact absurd rfl h2
 cases b <;> simp [behindInMarks,e1,e2]
theorem VI{op:CmpOp}{r:R2}(ho:OpR X (compareOp op) r)(ha:PE X a ta)(hb:PE X b tb)(hm:behindInMarks op b=false):PE X (.Compare a [op] [b] pos) (Dl r ta tb):=by
 intro pins s σ H Q I h
 exact wpAny_Compare1 (Xy ha hb I h λv u s2 x y H2 I2 rx ry q=>ho pins s2 σ H2 x y v u Q I2 rx ry q) hm
noncomputable def SV(t:TE):TT:=λσ H Q=>t σ H λx H'=>∃k,x=.bl k/\Q k H'
theorem C8{op:CmpOp}{r:R2}(ho:OpR X (compareOp op) r)(ha:PE X a ta)(hb:PE X b tb)(hm:behindInMarks op b=false):PT X (.Compare a [op] [b] pos) (SV (Dl r ta tb)):=by
 intro pins s σ H Q I h
 refine wpAny_isTrue_Compare1 (Bs (ha pins s σ H _ I h) λv s1 ⟨x,H1,I1,r1,q1⟩=>Bs (hb pins s1 σ H1 _ I1 q1) λu s2 ⟨y,H2,I2,r2,q2⟩ =>
  Bs (ho pins s2 σ H2 x y v u _ I2 r1 r2 q2) λc s3 ⟨z,H3,I3,r3,k,e,q3⟩=>?_) hm
 subst e
 cases r3
 exact dX ⟨H3,I3,q3⟩
theorem KO:(sizeLine:Nat)<2 ^ 63:=by rw [bu]; decide
theorem PB:OpR X (binaryOp .Add) (λx y H Q=>∃i j,x=.str i/\y=.str j/\i.length+j.length<=sizeLine/\Q (.str (i++j)) H):=by
 intro pins s σ H x y v u Q I rx ry h
 obtain⟨i,j,rfl,rfl,hz,q⟩:=h
 obtain⟨t,rfl⟩:=rx
 obtain⟨t',rfl⟩:=ry
 exact add_str (λt' tk=>⟨.str (i++j),H,I.tok _,⟨_,rfl⟩,q⟩) hz
theorem vals1{x:V}{us:List Value}(r:Vals [x] us):∃u,us=[u]/\RelV x u:=by
 cases r with
 | cons r1 r2=>cases r2; exact⟨_,rfl,r1⟩
theorem vals2{x y:V}{us:List Value}(r:Vals [x,y] us):∃u w',us=[u,w']/\RelV x u/\RelV y w':=by
 cases r with
 | cons r1 r2 =>
  cases r2 with
  | cons r3 r4=>cases r4; exact⟨_,_,rfl,r1,r3⟩
theorem Kj:CV X (.builtin "abs") (λxs H Q=>∃i,xs=[.int i]/\Q (.int (if i<0 then -i else i)) H):=by
 intro pins s σ H xs us Q I r h
 obtain⟨i,rfl,q⟩:=h
 obtain⟨u,rfl,t,rfl⟩:=vals1 r
 exact call_abs_int λu tk=>⟨.int (if i<0 then -i else i),H,I.tok _,⟨_,rfl⟩,q⟩
theorem Lk(hc:X.calm=true):CV X (.builtin "max") (λxs H Q=>∃i j,xs=[.int i,.int j]/\Q (.int (if j > i then j else i)) H):=by
 intro pins s σ H xs us Q I r h
 obtain⟨i,j,rfl,q⟩:=h
 obtain⟨u,w',rfl,⟨t,rfl⟩,⟨t',rfl⟩⟩:=vals2 r
 refine max_two_ints (I.ok.hd hc) λh' tk k=>⟨_,H,I.kept k,?_,q⟩
 by_cases hj:j > i
 ·rw [if_pos hj,if_pos hj]; exact⟨_,rfl⟩
 ·rw [if_neg hj,if_neg hj]; exact⟨_,rfl⟩
theorem GS(hc:X.calm=true):CV X (.builtin "min") (λxs H Q=>∃i j,xs=[.int i,.int j]/\Q (.int (if j<i then j else i)) H):=by
 intro pins s σ H xs us Q I r h
 obtain⟨i,j,rfl,q⟩:=h
 obtain⟨u,w',rfl,⟨t,rfl⟩,⟨t',rfl⟩⟩:=vals2 r
 refine min_two_ints (I.ok.hd hc) λh' tk k=>⟨_,H,I.kept k,?_,q⟩
 by_cases hj:j<i
 ·rw [if_pos hj,if_pos hj]; exact⟨_,rfl⟩
 ·rw [if_neg hj,if_neg hj]; exact⟨_,rfl⟩
theorem Rp:CV X (.type "int") (λxs H Q=>(∃i,xs=[.int i]/\Q (.int i) H)\/∃k,xs=[.bl k]/\Q (.int (if k then 1 else 0)) H):=by
 intro pins s σ H xs us Q I r h
 rcases h with ⟨i,rfl,q⟩ | ⟨k,rfl,q⟩
 ·obtain⟨u,rfl,t,rfl⟩:=vals1 r
  exact call_int_int ⟨.int i,H,I,⟨_,rfl⟩,q⟩
 ·obtain⟨u,rfl,r1⟩:=vals1 r
  cases r1
  exact call_int_bool ⟨.int (if k then 1 else 0),H,I.tok _,⟨_,rfl⟩,q⟩
theorem Mw:CV X (.type "str") (λxs H Q=>∃i,xs=[.int i]/\i.natAbs.log2<1920/\Q (.str (toString i)) H):=by
 intro pins s σ H xs us Q I r h
 obtain⟨i,rfl,hz,q⟩:=h
 obtain⟨u,rfl,t,rfl⟩:=vals1 r
 exact PySem.P.str_of_int hz ⟨.str _,H,I.tok _,⟨_,rfl⟩,q⟩
noncomputable def YB(K:Frag)(x:V)(H:Hp)(n:Nat):Prop :=
 match x with
 | .str y=>y.length<=sizeLine/\n=y.length
 | .byt y=>y.size<=sizeLine/\n=y.size
 | .ref p=>(∃xs,SqL K H p xs/\n=xs.length)\/∃xs,SqT K H p xs/\n=xs.length
 | _=>False
theorem Au:CV X (.builtin "len") (λxs H Q=>∃x n,xs=[x]/\YB X.K x H n/\Q (.int n) H):=by
 intro pins s σ H xs us Q I r h
 obtain⟨x,n,rfl,e,q⟩:=h
 obtain⟨u,rfl,rx⟩:=vals1 r
 have hl:=KO
 have hs:sizeLine=16777216:=bu
 cases x with
 | str y =>
  obtain⟨t,rfl⟩:=rx
  obtain⟨hy,e'⟩:y.length<=sizeLine/\n=y.length:=e
  subst e'
  exact len_str (by omega) ⟨.int _,H,I.tok _,⟨_,rfl⟩,q⟩
 | byt y =>
  obtain⟨t,rfl⟩:=rx
  obtain⟨hy,e'⟩:y.size<=sizeLine/\n=y.size:=e
  subst e'
  exact PySem.W.len_bytes (by omega) ⟨.int _,H,I.tok _,⟨_,rfl⟩,q⟩
 | ref p =>
  cases rx
  have e':(∃xs,SqL X.K H p xs/\n=xs.length)\/∃xs,SqT X.K H p xs/\n=xs.length:=e
  rcases e' with ⟨xs,hx,e'⟩ | ⟨xs,hx,e'⟩
  ·subst e'
   obtain⟨its,r',pl,hz⟩:=I.list hx
   have hlen:=r'.length
   exact Calls.call_len_list pl.isList (by simp only [T0]; omega) ⟨.int xs.length,H,I.tok _,⟨_,by simp only [T0]; rw [hlen]⟩,q⟩
  ·subst e'
   obtain⟨its,r',pl,hz⟩:=I.tuple hx
   have hlen:=r'.length
   exact len_tuple pl (by simp only [T0]; omega) ⟨.int xs.length,H,I.tok _,⟨_,by simp only [T0]; rw [hlen]⟩,q⟩
 | _=>exact(show False from e).elim
end
structure ObjM (h:Heap) (x dx C:Addr) (mA:Str->Option Value):Prop where
 obj:h.get? x=some (PySem.W.instObj C dx)
 ns:h.Ns1 dx mA
 ne:dx≠x
theorem RP{h:Heap}{dx:Addr}{mA:Str->Option Value}(n:h.Ns1 dx mA):∃od,h.get? dx=some od/\∀name,PySem.W.lookIn name od=some (mA name):=by
 obtain⟨o,es,ep,ho,hd,hk,_,hm⟩:=n
 refine⟨o,ho,λname=>?_⟩
 have e:=hm name
 unfold nsFind findBy at e
 rw [← Array.find?_toList] at e
 unfold PySem.W.lookIn
 rw [hd]
 dsimp only
 split
 ·rename_i y q
  rw [q] at e
  exact congrArg some e
 ·rename_i q
  rw [q] at e
  have a:es.toList.any (·.refKey)=false:=by
   rw [List.any_eq_false]
   intro y hy
   obtain⟨z,t,hkey⟩:=hk y (Array.mem_toList_iff.mp hy)
   simp [DictEntry.refKey,hkey]
  have a':¬es.toList.any (·.refKey)=true:=by rw [a]; exact ar
  rw [if_neg a']
  exact congrArg some e
theorem ObjM.look{h:Heap}{x dx C:Addr}{mA:Str->Option Value}(I:ObjM h x dx C mA):∃od,PySem.W.InstAt h x (PySem.W.instObj C dx) C (some od)/\∀name,PySem.W.lookIn name od=some (mA name) :=
 let ⟨od,ho,hl⟩:=RP I.ns
 ⟨od,⟨I.obj,rfl,rfl,ho⟩,hl⟩
section
variable {prog:Program}{w:World}{A:Around}{E:Value->Shared->Prop}{s:Shared}{K:Frag}{x dx C f:Addr}{mA:Str->Option Value}{name:Str}{v:Value}
end
theorem RelO.some_of{v:V}{o:Option Value}(r:RelO (some v) o):∃u,o=some u/\RelV v u:=by
 cases o with
 | none=>exact(show False from r).elim
 | some u=>exact⟨u,rfl,r⟩
section
variable {P:Program}{w:World}{H H':Hp}{h h':Heap}{a C dx:Addr}{fs fs':List (Str×V)}
theorem Va(hok:HOk P w H h)(e:H a=some (.ins C dx fs)):∃mA,ObjM h a dx C mA/\(∀f,RelO (fs.lookup f) (mA f))/\PySem.Within mA (fs.map (·.1))/\fs.length<=1000/\H dx=some (.own a):=by
 obtain⟨d,z,ne,ob,mA,n,r,q⟩:=(show ObjOk P w H h a (.ins C dx fs) from hok a _ e)
 exact⟨mA,⟨ob,n,ne⟩,r,q,z,d⟩
end
structure Cls (K:Frag) (C:Addr):Prop where
 pg:PySem.W.plainGet K C Str.empty=true
 hd:PySem.W.hasDictIn K C=true
 po:PySem.W.plainOver K C=true
 sa:PySem.W.findIn K (.ref C) "__setattr__"=some (some (.builtin "object.__setattr__"))
theorem Cls.get{K:Frag}{C:Addr}(c:Cls K C)(f:Str):PySem.W.plainGet K C f=true:=c.pg
structure al (K:Frag) (C:Addr) (f:Str) (v:V) (u:Value):Prop where
 at_:PySem.W.findIn K (.ref C) f=some (some u)
 rel:RelV v u
 get:PySem.W.specialIn K u "__get__"=some none
 cp:PySem.W.copiedNames.contains f=false
structure af (K:Frag) (C:Addr) (m:Str) (f:Addr):Prop where
 at_:PySem.W.findIn K (.ref C) m=some (some (.ref f))
 fn:PySem.W.isFn K (.ref f)=true
 kp:keepIn K (.ref f)=true
section
variable {X:Cx}{pins:List (Addr×Obj)}{σ:St}{H:Hp}{s:Shared}{a C dx:Addr}{fs:List (Str×V)}{f:Str}{v:V}{A:Around}{E:Value->Shared->Prop}
end
section
variable {X:Cx}{o e value:Expr}{f:Str}{pos pos' tpos:Pos}{ta tv:TE}
end
section
variable {X:Cx}{pins:List (Addr×Obj)}{σ:St}{H:Hp}{s:Shared}{A:Around}{E:Value->Shared->Prop}{Q:Value->Shared->Prop}{c:Value}{b:Bool}
inductive HA (K:Frag) (H:Hp):V->Value->Prop where
 | non:HA K H .non (.type "NoneType")
 | bl (x:Bool):HA K H (.bl x) (.type "bool")
 | int (i:Int):HA K H (.int i) (.type "int")
 | str (x:Str):HA K H (.str x) (.type "str")
 | flt (x:UInt64):HA K H (.flt x) (.type "float")
 | lst {a:Addr} {xs:List V} (e:H a=some (.lst xs)):HA K H (.ref a) (.type "list")
 | frz {a:Addr} {o:Obj} {xs:List V} (e:H a=some (.frz o (.lst xs))):HA K H (.ref a) (.type "list")
 | tup {a:Addr} {xs:List V} (e:H a=some (.tup xs)):HA K H (.ref a) (.type "tuple")
 | dF {a:Addr} {o:Obj} {kvs:List (Key×V)} (e:H a=some (.frz o (.dK kvs))):HA K H (.ref a) (.type "dict")
 | dK {a:Addr} {kvs:List (Key×V)} (e:H a=some (.dK kvs)):HA K H (.ref a) (.type "dict")
 | dT {a:Addr} {kvs:List (List Key×V)} (e:H a=some (.dT kvs)):HA K H (.ref a) (.type "dict")
 | ins {a C dx:Addr} {fs:List (Str×V)} (e:H a=some (.ins C dx fs)) (cl:Cls K C) (ha:PySem.W.findIn K (.ref C) "__class__"=some (some (.builtin "object.__class__")))
   (hn:PySem.W.specialIn K (.builtin "object.__class__") "__get__"=some (some (.builtin "getset_descriptor.__get__"))) (htk:PySem.W.takesIn K (.builtin "object.__class__")=some true)
   (hm:PySem.W.mroIn K C (.type "object")=some true):HA K H (.ref a) (.ref C)
theorem RY{x:V}{u t:Value}(I:Inv X pins σ H s)(rx:RelV x u)(ty:HA X.K H x t)(e:PySem.W.kitOne X.K t c=some b)(h:∀tk,Q (.bool b) { s with toks:=tk }) :
  wpAny (model X.prog X.w) A (call (.builtin "isinstance") [u,c]) Q E s:=by
 cases ty with
 | non=>cases (show u=bQ from rx); exact PySem.W.kia_one PySem.W.kitx_none I.kIn cv e (λz=>nomatch z) h
 | bl y=>cases (show u=dA y from rx); exact PySem.W.kia_one PySem.W.kitx_bool I.kIn cv e (λz=>nomatch z) h
 | int i=>obtain⟨t,q⟩:=(show ∃t,u=g8 i t from rx); cases q; exact PySem.W.kia_one PySem.W.kitx_int I.kIn cv e (λz=>nomatch z) h
 | str y=>obtain⟨t,q⟩:=(show ∃t,u=g9 y t from rx); cases q; exact PySem.W.kia_one PySem.W.kitx_str I.kIn cv e (λz=>nomatch z) h
 | flt y=>obtain⟨t,q⟩:=(show ∃t,u=Value.float y t from rx); cases q; exact PySem.W.kia_one PySem.W.kitx_float I.kIn cv e (λz=>nomatch z) h
 | @lst a xs ea =>
  cases (show u=bT a from rx)
  obtain⟨_,_,n,_,h1⟩:=(show ObjOk X.prog X.w H s.heap a (.lst xs) from I.hok a _ ea)
  exact PySem.W.kia_one PySem.W.kitx_list I.kIn ⟨_,h1,rfl⟩ e (λz=>nomatch z) h
 | @frz a ob xs ea =>
  cases (show u=bT a from rx)
  obtain⟨_,_,_,n,_,h1⟩:=(show ObjOk X.prog X.w H s.heap a (.frz ob (.lst xs)) from I.hok a _ ea)
  exact PySem.W.kia_one PySem.W.kitx_list I.kIn ⟨_,h1,rfl⟩ e (λz=>nomatch z) h
 | @tup a xs ea =>
  cases (show u=bT a from rx)
  obtain⟨_,_,_,p⟩:=(show ObjOk X.prog X.w H s.heap a (.tup xs) from I.hok a _ ea)
  obtain⟨o,h1,h2,_⟩:=p
  exact PySem.W.kia_one PySem.W.kitx_tuple I.kIn ⟨o,h1,h2⟩ e (λz=>nomatch z) h
 | @dF a ob kvs ea =>
  cases (show u=bT a from rx)
  obtain⟨_,_,_,vs,_,p⟩:=(show ObjOk X.prog X.w H s.heap a (.frz ob (.dK kvs)) from I.hok a _ ea)
  obtain⟨o,es,ep,h1,h2,_⟩:=p
  exact PySem.W.kia_one PySem.W.kitx_dict I.kIn ⟨o,h1,h2.1⟩ e (λz=>nomatch z) h
 | @dK a kvs ea =>
  cases (show u=bT a from rx)
  obtain⟨_,_,vs,_,p⟩:=(show ObjOk X.prog X.w H s.heap a (.dK kvs) from I.hok a _ ea)
  obtain⟨o,es,ep,h1,h2,_⟩:=p
  exact PySem.W.kia_one PySem.W.kitx_dict I.kIn ⟨o,h1,h2.1⟩ e (λz=>nomatch z) h
 | @dT a kvs ea =>
  cases (show u=bT a from rx)
  obtain⟨_,_,xs,_,o,es,ep,h1,h2,_⟩:=(show ObjOk X.prog X.w H s.heap a (.dT kvs) from I.hok a _ ea)
  exact PySem.W.kia_one PySem.W.kitx_dict I.kIn ⟨o,h1,h2.1⟩ e (λz=>nomatch z) h
 | @ins a C dx fs ea cl ha hn htk hm =>
  cases (show u=bT a from rx)
  obtain⟨mA,O,_⟩:=Va I.hok ea
  obtain⟨od,J,_⟩:=O.look
  exact PySem.W.kia_one (PySem.W.kitx_own (cl.get _) cl.hd ha hn htk hm) I.kIn J e (λz=>nomatch z) h
end
structure Room (k:Nat) (A:Around):Prop where
 hd:A.handled=none
 dp:A.depth+3*k+5<recursionLimit
 un:A.units+16*k+200<cLine
 gd:A.guards=some []
theorem Room.mono{j k:Nat}{A:Around}(r:Room k A)(h:j<=k):Room j A:=⟨r.hd,by have:=r.dp; omega,by have:=r.un; omega,by first | exact r.gd | (show pushGuards _ _=_; rw [r.gd]; rfl) | (simp [Around.under,pushGuards,Code.guards,Code.isGuard,r.gd])⟩
theorem Room.deeper{k:Nat}{A:Around}(r:Room (k+1) A)(env:Env):Room k (A.deeper env) :=
 ⟨r.hd,by have:=r.dp; show A.depth+1+3*k+5<_; omega,by have:=r.un; show A.units+3+16*k+200<_; omega,by first | exact r.gd | (show pushGuards _ _=_; rw [r.gd]; rfl) | (simp [Around.under,pushGuards,Code.guards,Code.isGuard,r.gd])⟩
theorem Room.depth{k:Nat}{A:Around}(r:Room k A):A.depth<recursionLimit:=by have:=r.dp; omega
theorem Room.units{k:Nat}{A:Around}(r:Room k A):A.units+64<cLine:=by have:=r.un; omega
theorem Room.units0{k:Nat}{A:Around}(r:Room k A):A.units<cLine:=by have:=r.un; omega
noncomputable def Qu:TA:=λ_ H Q=>Q [] H
noncomputable def NP(ta:TE)(tr:TA):TA:=λσ H Q=>ta σ H λx H1=>tr σ H1 λxs H2=>Q (x::xs) H2
section
variable {X:Cx}{e:Expr}{es:List Expr}{te:TE}{t:TA}{pos:Pos}
theorem BV:PA X [] Qu:=λ_ _ _ _ H Q I h=>Calls.spliced_nil ⟨[],H,I,.nil,h⟩
theorem A3(ha:PE X e te)(hr:PA X es t)(hs:autoParam (starEach (e::es) X.env=(false,eval e X.env)::starEach es X.env) zau3._auto_1):PA X (e::es) (NP te t):=by
 intro pos pins s σ H Q I h
 rw [hs]
 show wpAny _ _ (spliced ((false,eval e X.env)::backTo pos (starEach es X.env))) _ _ s
 refine Calls.spliced_cons (Bs (ha pins s σ H _ I h) λu s1 ⟨x,H1,I1,r1,q1⟩=>?_)
 exact Bs (hr pos pins s1 σ H1 _ I1 q1) λus s2 ⟨xs,H2,I2,r2,q2⟩=>⟨x::xs,H2,I2,.cons r1 r2,q2⟩
noncomputable def Zj(t:TA):TE:=λσ H Q=>t σ H λxs H1=>xs.length<=sizeLine/\∀p,H1 p=none->Q (.ref p) (BN H1 p (.tup xs))
noncomputable def Zn(t:TA):TE:=λσ H Q=>t σ H λxs H1=>xs.length<=sizeLine/\∀p,H1 p=none->Q (.ref p) (BN H1 p (.lst xs))
theorem XA{x1}(h:PA X es t):PE X (.Tuple es x1 pos) (Zj t):=by
 intro pins s σ H Q I hq
 refine wpAny_Tuple_spliced (Bs (h pos pins s σ H _ I hq) λus s1 ⟨xs,H1,I1,r,z,q⟩=>⟨by rw [← r.length]; exact z,?_⟩)
 have hf:H1 s1.heap.objs.size=none:=I1.hok.fresh (No _)
 refine⟨.ref s1.heap.objs.size,BN H1 s1.heap.objs.size (.tup xs),I1.laid (t':=s1.toks) (λb u e=>Ev _ e) (No _) ?_,rfl,q _ hf⟩
 exact⟨z,us,r,IsTupN.new _ _⟩
theorem IK(h:PA X es t):PE X (.List es pos) (Zn t):=by
 intro pins s σ H Q I hq
 refine wpAny_List_spliced (Bs (h pos pins s σ H _ I hq) λus s1 ⟨xs,H1,I1,r,z,q⟩=>⟨by rw [← r.length]; exact z,?_⟩)
 have hf:H1 s1.heap.objs.size=none:=I1.hok.fresh (No _)
 refine⟨.ref s1.heap.objs.size,BN H1 s1.heap.objs.size (.lst xs),I1.laid (t':=s1.toks) (λb u e=>Ev _ e) (No _) ?_,rfl,q _ hf⟩
 exact⟨z,us,0,r,XV _ rfl⟩
end
noncomputable abbrev Sp:=List V->Hp->VK->XK->Prop
noncomputable abbrev Up:=List Env->Hp->Shared->XK->Value->Shared->Prop
structure V6 (P:Program) (w:World) (K:Frag) (mg:Str->Option Value) (base:Heap) (A:Around) (outer:List Env) (s:Shared) (H:Hp):Prop where
 frames:A.frames=some outer
 mod:Mod K mg base
 bs:∀b o,base.get? b=some o->s.heap.get? b=some o/\H b=none
 bsz:base.objs.size<=s.heap.objs.size
 funs:s.heap.FunFrames base outer
 frf:∀b∈Rg outer,H b=none
 hok:HOk P w H s.heap
 bare:AllBare s.gens
noncomputable def CE(outer:List Env)(P:Program)(w:World)(H:Hp)(s:Shared)(Q:VK)(u:Value)(s':Shared):Prop :=
 ∃v H',s'.os=s.os/\AllBare s'.gens/\Un (Rg outer) [] H H' s.heap s'.heap/\HOk P w H' s'.heap/\RelV v u/\Q v H'
noncomputable def CR(CX:Up)(outer:List Env)(P:Program)(w:World)(H:Hp)(s:Shared)(Q:VK)(E:XK)(r:Result)(s':Shared):Prop :=
 match r with
 | .ok (.ret u)=>CE outer P w H s Q u s'
 | .ok _=>False
 | .error e=>CX outer H s E e s'
structure BG (P:Program) (w:World) (K:Frag) (mg:Str->Option Value) (base:Heap) (CX:Up) (k:Nat) (f:Addr) (fd:FuncData) (ps:List Str) (sp:Sp):Prop where
 len:∀vs H Q E,sp vs H Q E->vs.length=ps.length
 run:∀(A:Around) (outer:List Env) (s:Shared) (H:Hp) (args:Args) (us:List Value) (vs:List V) (Q:VK) (E:XK),Room k A->V6 P w K mg base A outer s H->BindsTo s fd args (ps.zip us)->Vals vs us->sp vs H Q E ->
  codeAny (model P w) A (.call (.ref f) args) (CR CX outer P w H s Q E) s
section
variable {X:Cx}{pins:List (Addr×Obj)}{σ:St}{H:Hp}{s s':Shared}
theorem Inv.env0(I:Inv X pins σ H s):V6 X.prog X.w X.K X.mg X.base X.A X.stack s H :=
 ⟨I.ok.frames,I.ok.mod,I.bs,bF I.ok.bsz I.sz,I.stack,I.stkFree,I.hok,I.bare⟩
theorem Inv.after{Q:VK}{u:Value}(I:Inv X pins σ H s)(h:CE X.stack X.prog X.w H s Q u s'):EP X pins σ Q u s':=by
 obtain⟨v,H',os,bare,un,hok,r,q⟩:=h
 obtain⟨hh,g,d,t,os'⟩:=s'
 obtain rfl:os'=s.os:=os
 exact⟨v,H',I.call (h':=hh) (g':=g) (d':=d) (t':=t) (ch:=[]) un hok bare (λb z=>absurd z (by simp)),r,q⟩
end
noncomputable def Ps(sp:Sp)(dvs:List V)(E:XK)(t:TA):TE:=λσ H Q=>t σ H λvs H1=>sp (vs++dvs) H1 Q E
noncomputable def Binds(K:Frag)(fd:FuncData)(ps:List Str)(ds:List Value):Prop :=
 ∀(s:Shared) (us:List Value),K.In s.heap->(us++ds).length=ps.length->BindsTo s fd ⟨us,[]⟩ (ps.zip (us++ds))
theorem Binds.all{K:Frag}{fd:FuncData}{ps:List Str}(h:∀us:List Value,us.length=ps.length->bindArgs fd ⟨us,[]⟩=pure (ps.zip us)):Binds K fd ps []:=λs us _ hl=>by
 rw [cL] at hl ⊢
 exact .of_eq (h us hl)
noncomputable def NB(CX:Up)(X:Cx)(E:XK):Prop:=∀(pins:List (Addr×Obj)) (σ:St) (H:Hp) (s:Shared) (e:Value) (s':Shared),Inv X pins σ H s->CX X.stack H s E e s'->X.xe e s'
section
variable {X:Cx}{CX:Up}{k:Nat}{f C:Addr}{fd:FuncData}{ps:List Str}{sp:Sp}{dvs:List V}{ds:List Value}{E:XK}{x m:Str}{p pos apos:Pos}{e o:Expr}{es:List Expr}{ta:TE}{t:TA}
theorem Sk{pins:List (Addr×Obj)}{σ:St}{H:Hp}{s:Shared}{Q:VK}{us:List Value}{vs:List V}(F:BG X.prog X.w X.K X.mg X.base CX k f fd ps sp)(hr:Room k X.A)(hb:Binds X.K fd ps ds)(hd:Vals dvs ds)(hx:NB CX X E)
  (I:Inv X pins σ H s) (r:Vals vs us) (h:sp (vs++dvs) H Q E):wpAny (model X.prog X.w) X.A (call (.ref f) us) (EP X pins σ Q) X.xe s:=by
 have r2:Vals (vs++dvs) (us++ds):=r.append hd
 have hl:(us++ds).length=ps.length:=by rw [← r2.length]; exact F.len _ _ _ _ h
 refine wpAny_call (codeAny_mono (F.run X.A X.stack s H ⟨us,[]⟩ (us++ds) (vs++dvs) Q E hr I.env0 (hb s us I.kIn hl) r2 h) λr s' hq=>?_)
 cases r with
 | error e=>exact hx pins σ H s e s' I hq
 | ok fl =>
  cases fl with
  | ret u=>exact I.after hq
  | next=>exact dB hq
  | brk=>exact dB hq
  | cont=>exact dB hq
theorem MN(F:BG X.prog X.w X.K X.mg X.base CX k f fd ps sp)(hr:Room k X.A)(hg:Gl X x)(hm:X.mg x=some (.ref f))(hk:keepIn X.K (.ref f)=true)(hb:Binds X.K fd ps ds)(hd:Vals dvs ds)(hx:NB CX X E)
  (ha:PA X (e::es) t) (hdb:autoParam ((x==("__debug__" : Str))=false) zau1._auto_1) (he:autoParam (starEach (e::es) X.env=(false,eval e X.env)::starEach es X.env) zau3._auto_1) (hpl:autoParam ((backTo pos (starEach es X.env)).any (·.1)=false) zau3._auto_1) :
  PE X (.Call (.Name x p) (e::es) [] pos) (Ps sp dvs E t):=by
 intro pins s σ H Q I h
 refine dO (Mf I hg hm ?_ hdb)
 refine PySem.W.callWith_K (h₀:=X.base) I.ok.mod.kin hk (Bs (ha pos pins s σ H _ I h) λus s1 ⟨vs,H1,I1,r,q⟩=>⟨I1.kIn,?_⟩) he hpl
 exact Sk F hr hb hd hx I1 r q
theorem TC(F:BG X.prog X.w X.K X.mg X.base CX k f fd ps sp)(hr:Room k X.A)(hg:Gl X x)(hm:X.mg x=some (.ref f))(hk:keepIn X.K (.ref f)=true)(hb:Binds X.K fd ps ds)(hd:Vals dvs ds)(hx:NB CX X E)
  (hdb:autoParam ((x==("__debug__" : Str))=false) zau1._auto_1):PE X (.Call (.Name x p) [] [] pos) (Ps sp dvs E Qu):=by
 intro pins s σ H Q I h
 refine dO (Mf I hg hm ?_ hdb)
 exact PySem.W.callWith_K0 I.kIn hk (Sk (us:=[]) F hr hb hd hx I .nil h)
structure Mk (K:Frag) (C f:Addr):Prop where
 makes:PySem.W.makesIn K C=true
 init:PySem.W.findIn K (.ref C) "__init__"=some (some (.ref f))
 fn:PySem.W.isFn K (.ref f)=true
 kp:keepIn K (.ref C)=true
end
section
variable {X:Cx}{CX:Up}{k:Nat}{f C:Addr}{fd:FuncData}{ps ks:List Str}{sp:Sp}{E:XK}{x m:Str}{p pos apos kpos:Pos}{e o:Expr}{es:List Expr}{kws:List Keyword}{te ta:TE}{t tk:TA}{nm:Option Str}
structure Z9 (K:Frag) (fd:FuncData) (ps ks:List Str) (g:List Value->List Value->List Value) (gV:List V->List V->List V):Prop where
 to:∀(s:Shared) (us ws:List Value),K.In s.heap->(g us ws).length=ps.length->BindsTo s fd ⟨us,ks.zip ws⟩ (ps.zip (g us ws))
 rel:∀{vs:List V} {us:List Value} {zs:List V} {ws:List Value},Vals vs us->Vals zs ws->Vals (gV vs zs) (g us ws)
variable {g:List Value->List Value->List Value}{gV:List V->List V->List V}
end
structure Ar (N P:List Str) (sc:Scope):Prop where
 kind:sc.kind=.function
 co:sc.isCoroutine=false
 gen:sc.isGenerator=false
 nd:N.Nodup
 pre:N.take P.length=P
 par:∀x∈P,sc.names.lookup x=some .local\/sc.names.lookup x=some .cell
 nofree:∀y∈sc.names,y.2≠.free
theorem Lm{kindOf:Str->Option NameKind}{x:Str}:∀{binds:List (Str×Value)} {m:Str->Option Value},(∀v,(x,v)∉binds)->bindL kindOf binds m x=m x
 | [],_,_=>rfl
 | (n,v)::r,m,h=>by
  unfold bindL
  rw [Lm λw hw=>h w (TM _ hw)]
  split
  ·have:x≠n:=by rintro rfl; exact h v On
   simp [this]
  ·rfl
theorem Lo{kindOf:Str->Option NameKind}{x:Str}:∀{binds:List (Str×Value)} {m:Str->Option Value},(∀v,(x,v)∉binds)->bindC kindOf binds m x=m x
 | [],_,_=>rfl
 | (n,v)::r,m,h=>by
  unfold bindC
  rw [Lo λw hw=>h w (TM _ hw)]
  split
  ·rfl
  ·have:x≠n:=by rintro rfl; exact h v On
   simp [this]
theorem Ln{kindOf:Str->Option NameKind}{x:Str}{v:Value}:∀{P:List Str} {vs:List Value} {i:Nat} {m:Str->Option Value},P.Nodup->P[i]?=some x->vs[i]?=some v->kindOf x=some .local ->
  bindL kindOf (P.zip vs) m x=some v
 | [],_,_,_,_,h,_,_=>by simp at h
 | _::_,[],_,_,_,_,h,_=>by simp at h
 | p::P,w::vs,0,m,nd,h1,h2,hk=>by
  simp at h1 h2; subst h1; subst h2
  show bindL kindOf ((p,w)::P.zip vs) m p=_
  unfold bindL
  rw [Lm λv hv=>(bZ.mp nd).1 (dP hv).1,if_pos hk]
  simp
 | p::P,w::vs,i+1,m,nd,h1,h2,hk=>by
  show bindL kindOf ((p,w)::P.zip vs) m x=_
  unfold bindL
  exact Ln (i:=i) (bZ.mp nd).2 (by simpa using h1) (by simpa using h2) hk
theorem Lp{kindOf:Str->Option NameKind}{x:Str}{v:Value}:∀{P:List Str} {vs:List Value} {i:Nat} {m:Str->Option Value},P.Nodup->P[i]?=some x->vs[i]?=some v->kindOf x≠some .local ->
  bindC kindOf (P.zip vs) m x=some v
 | [],_,_,_,_,h,_,_=>by simp at h
 | _::_,[],_,_,_,_,h,_=>by simp at h
 | p::P,w::vs,0,m,nd,h1,h2,hk=>by
  simp at h1 h2; subst h1; subst h2
  show bindC kindOf ((p,w)::P.zip vs) m p=_
  unfold bindC
  rw [Lo λv hv=>(bZ.mp nd).1 (dP hv).1,if_neg hk]
  simp
 | p::P,w::vs,i+1,m,nd,h1,h2,hk=>by
  show bindC kindOf ((p,w)::P.zip vs) m x=_
  unfold bindC
  exact Lp (i:=i) (bZ.mp nd).2 (by simpa using h1) (by simpa using h2) hk
noncomputable def start(N:List Str)(vs:List V):St:=vs.map some++Re (N.length - vs.length) none
noncomputable def Ms(CX:Up)(P:Program)(w:World)(K:Frag)(mg:Str->Option Value)(base:Heap)(N:List Str)(qual:Str)(scope:Scope)(f:Addr)(cd:Value)(A:Around)(outer:List Env)(s:Shared)(H:Hp)(E:XK):Cx where
 prog:=P
 w:=w
 K:=K
 mg:=mg
 base:=base
 A:=A.deeper (envOfC qual scope s.heap.objs.size f cd)
 N:=N
 s₀:=s
 H₀:=H
 env:=envOfC qual scope s.heap.objs.size f cd
 outer:=outer
 stack:=envOfC qual scope s.heap.objs.size f cd::outer
 ex:=[]
 calm:=true
 fn:=λ_=>true
 pn:=[]
 xe:=λe s'=>wpAny (model P w) (A.deeper (envOfC qual scope s.heap.objs.size f cd)) (leaving (envOfC qual scope s.heap.objs.size f cd) e) (λ_ s''=>CX outer H s E e s'') (λe' s''=>CX outer H s E e' s'') s'
theorem ON{sc:Scope}{n:Nat}{x:Str}(h:sc.names.lookup x=some .cell):∃c,(cellsFrom n sc.names []).lookup x=some c:=by
 have q:=PySem.W.cellsFrom_some sc.names n [] (.inl h)
 exact Option.isSome_iff_exists.mp q
theorem Ra{CX:Up}{P:Program}{w:World}{K:Frag}{mg:Str->Option Value}{base:Heap}{N ps:List Str}{qual:Str}{scope:Scope}{f:Addr}{cd:Value}{A:Around}{outer:List Env}{s s1:Shared}{H:Hp}{E:XK}{us:List Value}{vs:List V}
  (S:Ar N ps scope) (hd:A.handled=none) (e0:V6 P w K mg base A outer s H) (hl:vs.length=ps.length) (r:Vals vs us)
  (x:InCallC s s.heap.objs.size (bindL (envOfC qual scope s.heap.objs.size f cd).kindOf (ps.zip us) λ_=>none) (cellsFrom (s.heap.objs.size+1) scope.names []) (bindC (envOfC qual scope s.heap.objs.size f cd).kindOf (ps.zip us) λ_=>none) s1) :
  Inv (Ms CX P w K mg base N qual scope f cd A outer s H E) [] (start N vs) H s1:=by
 have hpl:ps.length<=N.length:=by have:=congrArg eS S.pre; rw [cN] at this; omega
 obtain⟨h1,tk,rfl,hk⟩:=x.done
 have noA:∀b:Addr,b∉(Ms CX P w K mg base N qual scope f cd A outer s H E).ex:=λb z=>absurd (show b∈([]:List Addr) from z) (by simp)
 refine⟨⟨e0.mod,S.kind,rfl,rfl,No _,λy z c h1 h2=>?_,λy hy=>?_,λy c _ h=>?_,λ_=>hd,Around.frames_deeper e0.frames,.inr ⟨rfl,rfl⟩,λb z=>absurd z (noA b),e0.bs,e0.bsz,λb _ _=>noA b,λb z=>absurd z (noA b),e0.funs,e0.frf⟩,
  rfl,e0.bare,Un.kept hk,⟨_,x.toInCall.ns,λi y v h1 h2 h3=>?_⟩,λy c h=>⟨_,x.cell y c h⟩,e0.hok.fresh (No _),λy c h=>?_,λp hp=>absurd (show p∈([]:List (Addr×Obj)) from hp) (by simp),e0.hok.kept hk,?_⟩
 ·exact name_of_addr x.apart (PySem.mem_of_lookup h1) (PySem.mem_of_lookup h2)
 ·have hy:scope.names.lookup y=some .cell\/scope.names.lookup y=some .free:=hy
  rcases hy with hy | hy
  ·exact ON hy
  ·exact absurd rfl (S.nofree _ (PySem.mem_of_lookup hy))
 ·exact eC (x.above y c (PySem.mem_of_lookup h))
 ·have hi:i<vs.length:=by
   unfold start at h2
   by_cases hi:i<vs.length
   ·exact hi
   ·rw [c6 (by simpa using hi)] at h2
    rw [eM] at h2
    split at h2 <;> cases h2
  have ha:vs[i]?=some v:=by
   unfold start at h2
   rw [d_ (by simpa using hi),Op] at h2
   cases e:vs[i]? with
   | none=>rw [e] at h2; cases h2
   | some a=>rw [e] at h2; cases h2; rfl
  obtain⟨u,hu,rv⟩:=r.get ha
  have hp:ps[i]?=some y:=by
   rw [← S.pre,List.getElem?_take_of_lt (by omega)]; exact h1
  have ndP:ps.Nodup:=by rw [← S.pre]; exact S.nd.sublist (List.take_sublist _ _)
  refine⟨u,rv,?_⟩
  rcases S.par y (bY hp) with k | k
  ·exact .inl ⟨k,Ln ndP hp hu k⟩
  ·obtain⟨c,e⟩:=ON (n:=s.heap.objs.size+1) k
   refine .inr ⟨.inl k,c,e,?_⟩
   have q:=x.cell y c e
   rw [Lp ndP hp hu (by show scope.names.lookup y≠_; rw [k]; decide)] at q
   exact q
 ·exact e0.hok.fresh (eC (x.above y c (PySem.mem_of_lookup h)))
 ·unfold start
  show _=N.length
  rw [Sc,Db,gj]
  omega
theorem Y0{CX:Up}{P:Program}{w:World}{K:Frag}{mg:Str->Option Value}{base:Heap}{k:Nat}{f:Addr}{name qual:Str}{params:Arguments}{body:List Stmt}{scope:Scope}{dV kV doc pm cdv ct oc:Value}{an od:Option Addr}
  {osl:Array (Option Value)} {N ps:List Str} {sp:Sp} (lk:K.lookup f=some ⟨oc,od,.func (fnOf name qual params body scope dV kV doc pm an cdv ct),osl⟩) (hcd:codeIn K cdv qual=true) (S:Ar N ps scope)
  (len:∀vs H Q E,sp vs H Q E->vs.length=ps.length)
  (hbody:∀(A:Around) (outer:List Env) (s:Shared) (H:Hp) (vs:List V) (Q:VK) (E:XK),Room k (A.deeper (envOfC qual scope s.heap.objs.size f cdv))->sp vs H Q E ->
   ∃t,PSs (Ms CX P w K mg base N qual scope f cdv A outer s H E) body t/\t { nx:=λ_ H'=>Q .non H',rt:=Q } (start N vs) H) :
  BG P w K mg base CX (k+1) f (fnOf name qual params body scope dV kV doc pm an cdv ct) ps sp:=by
 refine⟨len,λA outer s H args us vs Q E hr e0 hb r hsp=>?_⟩
 have hl:=len _ _ _ _ hsp
 have KX:K.In s.heap:=e0.mod.kin.keeps λb o e=>(e0.bs b o e).1
 have lim:s.heap.NoLimit:=e0.mod.nolimit.keeps λb o e=>(e0.bs b o e).1
 have hkind:∀y∈ps.zip us,scope.names.lookup y.1=some .local\/(scope.names.lookup y.1=some .cell/\((cellsFrom (s.heap.objs.size+1) scope.names []).lookup y.1).isSome=true):=fun⟨n,v⟩ hy=>by
  rcases S.par n (dP hy).1 with q | q
  ·exact .inl q
  ·exact .inr ⟨q,PySem.W.cellsFrom_some _ _ _ (.inl q)⟩
 refine codeAny_call_function hr.depth (KX _ _ lk) rfl S.co S.gen rfl (PySem.W.codeRec_of KX hcd) (hb _ _ _ _ ?_)
 refine wpAny_newFunctionEnv_cells S.kind hkind λenv he s1 x=>?_
 subst he
 refine⟨lim.keeps x.toInCall.keep,codeAny_func ?_⟩
 obtain⟨t,ht,hq⟩:=hbody A outer s H vs Q E (hr.deeper _) hsp
 have I:Inv (Ms CX P w K mg base N qual scope f cdv A outer s H E) [] (start N vs) H s1:=Ra S hr.hd e0 hl r x
 refine cD (ht [] s1 (start N vs) H _ I hq) (λfl s' hs=>?_) λe s' hs=>hs
 have fin:∀{σ':St} {H':Hp} {v:V} {u:Value},Inv (Ms CX P w K mg base N qual scope f cdv A outer s H E) [] σ' H' s'->RelV v u->Q v H'->CE outer P w H s Q u s' :=
  λ{σ' H' v u} J rv q=>⟨v,H',J.os,J.bare,J.base,J.hok,rv,q⟩
 cases fl with
 | ret u =>
  obtain⟨v,σ',H',J,rv,q⟩:=hs
  exact fin J rv q
 | next =>
  obtain⟨σ',H',J,q⟩:=hs
  exact fin (v:=V.non) (u:=bQ) J rfl q
 | brk =>
  obtain⟨_,_,_,q⟩:=hs
  exact dB q
 | cont =>
  obtain⟨_,_,_,q⟩:=hs
  exact dB q
section
variable {X:Cx}{x:Str}{p pos:Pos}{e:Expr}{es:List Expr}{t:TA}{id T:String}{r:List V->Hp->VK->Prop}
noncomputable def ZW(r:List V->Hp->VK->Prop)(t:TA):TE:=λσ H Q=>t σ H λvs H1=>r vs H1 Q
theorem Fn(hc:CV X (.builtin id) r)(hg:Gl X x)(hm:X.mg x=none)(hv:bootBuiltins x=some (.builtin id))(ha:PA X (e::es) t)(hn:autoParam (x ≠ "__name__") zau1._auto_1)(hdb:autoParam ((x==("__debug__" : Str))=false) zau1._auto_1)
  (he:autoParam (starEach (e::es) X.env=(false,eval e X.env)::starEach es X.env) zau3._auto_1) (hpl:autoParam ((backTo pos (starEach es X.env)).any (·.1)=false) zau3._auto_1):PE X (.Call (.Name x p) (e::es) [] pos) (ZW r t):=by
 intro pins s σ H Q I h
 refine dO (G7 I hg hm hv ?_ hn hdb)
 exact PyProof.Rows.callWith_builtin1 (Bs (ha pos pins s σ H _ I h) λus s1 ⟨vs,H1,I1,r1,q1⟩=>hc pins s1 σ H1 vs us Q I1 r1 q1) he hpl
theorem LR(hc:CV X (.type T) r)(hg:Gl X x)(hm:X.mg x=none)(hv:bootBuiltins x=some (.type T))(ha:PA X (e::es) t)(hn:autoParam (x ≠ "__name__") zau1._auto_1)(hdb:autoParam ((x==("__debug__" : Str))=false) zau1._auto_1)
  (he:autoParam (starEach (e::es) X.env=(false,eval e X.env)::starEach es X.env) zau3._auto_1) (hpl:autoParam ((backTo pos (starEach es X.env)).any (·.1)=false) zau3._auto_1):PE X (.Call (.Name x p) (e::es) [] pos) (ZW r t):=by
 intro pins s σ H Q I h
 refine dO (G7 I hg hm hv ?_ hn hdb)
 exact cT (Bs (ha pos pins s σ H _ I h) λus s1 ⟨vs,H1,I1,r1,q1⟩=>hc pins s1 σ H1 vs us Q I1 r1 q1) he hpl
end
end L2
namespace HT
open PySem PyProof.Rows
section
open PySem.SeqAt
open PySem.AutoSeq1 (wpAny_loadPart')
open PySem.MeetsSeq PySem.MeetsSeq2 PySem.MeetsSeq3
end
section
variable {prog:Program}{w:World}{A:Around}{E:Value->Shared->Prop}{s:Shared}
theorem cat_tup{t b:Addr}{vs ws:List Value}{Q:Value->Shared->Prop}(ht:IsTup s.heap t vs.toArray)(hb:IsTup s.heap b ws.toArray)(hv:vs≠[])
  (h1:ws=[]->Q (.ref t) s) (h2:ws≠[]->Q (.ref s.heap.objs.size) { s with heap:=s.heap.push { cls:=.type "tuple",data:=.seq (vs++ws).toArray } })
  (hsz:vs.length+ws.length<=sizeLine):wpAny (model prog w) A (binaryOp .Add (.ref t) (.ref b)) Q E s:=by
 obtain⟨⟨cls,dd,data,sl⟩,ho,hc,n,hd⟩:=id ht
 obtain⟨⟨cls2,dd2,data2,sl2⟩,ho2,hc2,n2,hd2⟩:=id hb
 simp only at hc hd hc2 hd2
 subst hc hd hc2 hd2
 have e:vs.toArray++ws.toArray=(vs++ws).toArray:=by simp
 by_cases hw:ws=[]
 ·exact concat_meets ⟨_,ho,rfl⟩ ⟨_,ho2,rfl⟩ gF seq_tuple_add PySem.F.slot_tuple_add PySem.F.entry_tuple_add (PySem.F.args_tuple_add_2 _ _)
   (tuple_addW1 t b vs.toArray ws.toArray n n2 dd dd2 sl sl2 (by simpa using hv) (by simp [hw])) ⟨ho,ho2,h1 hw⟩
 ·refine concat_meets ⟨_,ho,rfl⟩ ⟨_,ho2,rfl⟩ gF seq_tuple_add PySem.F.slot_tuple_add PySem.F.entry_tuple_add (PySem.F.args_tuple_add_2 _ _)
   (tuple_addW2 t b vs.toArray ws.toArray n n2 dd dd2 sl sl2 (by simpa using hv) (by simpa using hw) (by rw [T0,T0]; exact hsz)) ⟨ho,ho2,?_⟩
  rw [e]
  exact h2 hw
noncomputable def sIx(n d:Nat):Option Int->Nat
 | none=>d
 | some v=>if v<0 then (v+(n:Int)).toNat else min v.toNat n
theorem sIx_none(n d:Nat):sIx n d none=d:=rfl
theorem sIx_nat(n d k:Nat):sIx n d (some (k:Int))=min k n:=by
 show (if (k:Int)<0 then ((k:Int)+(n:Int)).toNat else min (k:Int).toNat n)=min k n
 rw [if_neg (by omega),bv]
theorem Wz(n d:Nat)(hd:d<=n)(o:Option Int):sIx n d o<=n:=by
 cases o with
 | none=>exact hd
 | some v =>
  show (if v<0 then (v+(n:Int)).toNat else min v.toNat n)<=n
  by_cases hv:v<0
  ·rw [if_pos hv]; omega
  ·rw [if_neg hv]; exact eU _ _
theorem Qc(v:Int)(n d:Nat):(if v<0 then max (v+(n:Int)) 0 else min v (n:Int))=((sIx n d (some v):Nat):Int):=by
 show (if v<0 then max (v+(n:Int)) 0 else min v (n:Int))=(((if v<0 then (v+(n:Int)).toNat else min v.toNat n):Nat):Int)
 by_cases hv:v<0
 ·simp only [if_pos hv]; omega
 ·simp only [if_neg hv]; omega
theorem Pj(lo hi:Option Int)(n:Nat):cf lo hi 1 (n:Int)=(((sIx n 0 lo:Nat):Int),((sIx n n hi:Nat):Int)):=by
 have h1:¬((1:Int)<0):=by omega
 unfold cf
 simp only [h1,if_false]
 refine Prod.ext ?_ ?_
 ·cases lo with
  | none=>rfl
  | some v=>exact Qc v n 0
 ·cases hi with
  | none=>rfl
  | some v=>exact Qc v n n
theorem O6(i j:Nat):bg (i:Int) (j:Int) 1=j - i:=by
 unfold bg
 have h1:(1:Int) > 0:=by omega
 simp only [h1,if_true,Int.ediv_one]
 split <;> omega
theorem slicePart_{v:Value}{o:Option Int}{Q:Option Int->Shared->Prop}(p:IsPart v o)(h:Q o s):wpAny (model prog w) A (Builtin.Slice.slicePartIndex v) Q E s:=by
 cases p with
 | none=>exact slicePart_none h
 | int i t=>exact slicePart_int h
theorem sliceApplied_gen{sl:Addr}{vl vu:Value}{lo hi:Option Int}{n:Nat}{Q:Int×Int×Nat->Shared->Prop}(hs:s.heap.IsSliceOf sl vl vu .none)(pl:IsPart vl lo)(pu:IsPart vu hi)
  (h:Q (((sIx n 0 lo:Nat):Int),1,sIx n n hi - sIx n 0 lo) s):wpAny (model prog w) A (c7 (.ref sl) (pure (n:Int))) Q E s:=by
 obtain⟨os,hos,hcs,hds⟩:=id hs
 unfold c7 gA
 refine Ch (Ch (bP hos hds (x:=vl) rfl (Ch (bP hos hds (x:=vu) rfl (Ch (bP hos hds (x:=.none) rfl (Go ?_)))))))
 refine Ch (slicePart_none ?_)
 show wpAny _ _ (if ((1:Int)==0)=true then _ else _) _ _ s
 rw [if_neg (by decide)]
 refine Ch (slicePart_ pl (Ch (slicePart_ pu (Ch (Go ?_)))))
 show wpAny _ _ (match cf lo hi 1 (n:Int) with | (lo,hi)=>pure (lo,(1:Int),bg lo hi 1)) _ _ s
 rw [Pj lo hi n]
 show wpAny _ _ (pure (((sIx n 0 lo:Nat):Int),(1:Int),bg ((sIx n 0 lo:Nat):Int) ((sIx n n hi:Nat):Int) 1)) _ _ s
 rw [O6]
 exact Go h
theorem S9(xs:Array Value)(i k:Nat):((bB k).filterMap fun(m:Nat)=>xs[((i:Int)+(m:Int)*1).toNat]?).toArray=((xs.toList.drop i).take k).toArray:=by
 have e:(fun(m:Nat)=>xs[((i:Int)+(m:Int)*1).toNat]?)=λm=>xs[i+m]?:=by
  funext m
  have:((i:Int)+(m:Int)*1).toNat=i+m:=by omega
  rw [this]
 rw [e]
 have:=pick_run xs i k
 rw [fX] at this
 have e2:((λx=>xs[x]?)∘λx=>i+x)=λm=>xs[i+m]?:=rfl
 rw [e2] at this
 rw [this]
theorem getItem_tuple_cut{t sl:Addr}{items:Array Value}{vl vu:Value}{lo hi:Option Int}{Q:Value->Shared->Prop}(ht:IsTup s.heap t items)(hs:s.heap.IsSliceOf sl vl vu .none)(pl:IsPart vl lo)(pu:IsPart vu hi)
  (hw:¬(sIx items.size 0 lo=0/\sIx items.size items.size hi=items.size))
  (h:Q (.ref s.heap.objs.size) { s with heap:=s.heap.push { cls:=.type "tuple",data:=.seq ((items.toList.drop (sIx items.size 0 lo)).take (sIx items.size items.size hi - sIx items.size 0 lo)).toArray } })
  (hsz:items.size<=sizeLine):wpAny (model prog w) A (getItem (.ref t) (.ref sl)) Q E s:=by
 have htake:sizeOk (.seq ((items.toList.drop (sIx items.size 0 lo)).take (sIx items.size items.size hi - sIx items.size 0 lo)).toArray):=by
  show ((items.toList.drop (sIx items.size 0 lo)).take (sIx items.size items.size hi - sIx items.size 0 lo)).toArray.size<=sizeLine
  rw [T0,cN,cY,bW]
  omega
 have hj:sIx items.size items.size hi<=items.size:=Wz _ _ (No _) hi
 obtain⟨os,hos,hcs,hds⟩:=id hs
 have hTs:s.TypeIs (.ref sl) "slice":=⟨os,hos,hcs⟩
 unfold getItem
 try with_reducible refine b9 ?_
 first | refine Ch (Go ?_) | skip
 refine Ch (fv ht.typeIs (by decide) ?_)
 refine Ch (bR (name:=bo "__getitem__") ht.typeIs bL
  (bp bL ht.typeIs fO ?_ (fY _ _)))
 show wpAny _ _ (dw (.ref t) >>= _) _ _ s
 refine Ch (tupleItemsOf_ ht ?_)
 refine Ch (da hTs ?_)
 rw [if_pos (by decide)]
 refine Ch (sliceApplied_gen hs pl pu ?_)
 have hno:¬((((sIx items.size 0 lo:Nat):Int)==0&&(1:Int)==1&&(sIx items.size items.size hi - sIx items.size 0 lo)==items.size)=true):=by
  intro q
  rw [az,az] at q
  have q1:((sIx items.size 0 lo:Nat):Int)=0:=eq_of_beq q.1.1
  have q2:sIx items.size items.size hi - sIx items.size 0 lo=items.size:=eq_of_beq q.2
  exact hw ⟨by omega,by omega⟩
 show wpAny _ _ (if (((sIx items.size 0 lo:Nat):Int)==0&&(1:Int)==1&&(sIx items.size items.size hi - sIx items.size 0 lo)==items.size)=true then _ else _) _ _ s
 rw [if_neg hno,S9]
 first
  | exact Ch (m:=bq _) (bO (Go ⟨_,rfl,Go h⟩) htake)
  | exact Ch (m:=bq _) (bO (Ch (Go (Go ⟨_,rfl,Go h⟩))) htake)
  | exact Ch (Ch (m:=bq _) (bO (Go (Go ⟨_,rfl,Go h⟩)) htake))
  | exact Ch (Ch (m:=bq _) (bO (Go ⟨_,rfl,Go h⟩) htake))
end
end HT
namespace L2
open PySem PySem.Spec PyProof.Rows
noncomputable abbrev TO:=St->Hp->(Option Int->Hp->Prop)->Prop
noncomputable def PO(X:Cx)(e:Option Expr)(t:TO):Prop :=
 ∀(pins:List (Addr×Obj)) (s:Shared) (σ:St) (H:Hp) (Q:Option Int->Hp->Prop),Inv X pins σ H s->t σ H Q ->
  wpAny (model X.prog X.w) X.A (evalPart e X.env) (λu s'=>∃o H',Inv X pins σ H' s'/\IsPart u o/\Q o H') X.xe s
noncomputable def Uz:TO:=λ_ H Q=>Q none H
noncomputable def YQ(t:TE):TO:=λσ H Q=>t σ H λx H1=>∃i,x=.int i/\Q (some i) H1
section
variable {X:Cx}{e:Expr}{te:TE}{lo hi:Option Expr}{tl th:TO}{pos p2:Pos}
theorem P9:PO X none Uz:=by
 intro pins s σ H Q I h
 rw [evalPart_none]
 exact Go ⟨none,H,I,.none,h⟩
theorem P8(h:PE X e te):PO X (some e) (YQ te):=by
 intro pins s σ H Q I hw
 rw [evalPart_some]
 refine Bs (h pins s σ H _ I hw) λu s1 ⟨x,H1,I1,r1,q1⟩=>?_
 obtain⟨i,rfl,q⟩:=q1
 obtain⟨t,rfl⟩:=r1
 exact⟨some i,H1,I1,.int i t,q⟩
noncomputable def SlR(X:Cx)(r:V->Option Int->Option Int->Hp->VK->Prop):Prop :=
 ∀(pins:List (Addr×Obj)) (s:Shared) (σ:St) (H:Hp) (x:V) (v vl vu:Value) (lo hi:Option Int) (sl:Addr) (Q:VK),Inv X pins σ H s->RelV x v->s.heap.IsSliceOf sl vl vu .none->IsPart vl lo->IsPart vu hi->r x lo hi H Q ->
  ∃T id,typeLookup (.type T) "__getitem__"=pure (some (.builtin id))/\s.TypeIs v T/\wpAny (model X.prog X.w) X.A (getItem v (.ref sl)) (EP X pins σ Q) X.xe s
theorem SlR.or{r r':V->Option Int->Option Int->Hp->VK->Prop}(h:SlR X r)(h':SlR X r'):SlR X (λx lo hi H Q=>r x lo hi H Q\/r' x lo hi H Q):=by
 intro pins s σ H x v vl vu lo hi sl Q I rx hs pl pu q
 rcases q with q | q
 ·exact h pins s σ H x v vl vu lo hi sl Q I rx hs pl pu q
 ·exact h' pins s σ H x v vl vu lo hi sl Q I rx hs pl pu q
noncomputable def aQ(r:V->Option Int->Option Int->Hp->VK->Prop)(te:TE)(tl th:TO):TE:=λσ H Q=>te σ H λx H1=>tl σ H1 λl H2=>th σ H2 λu H3=>r x l u H3 Q
theorem Ng{r:V->Option Int->Option Int->Hp->VK->Prop}(hr:SlR X r)(he:PE X e te)(hl:PO X lo tl)(hu:PO X hi th):PE X (.Subscript e (.Slice lo hi none p2) pos) (aQ r te tl th):=by
 intro pins s σ H Q I h
 refine Subscript_ (Bs (he pins s σ H _ I h) λv s1 ⟨x,H1,I1,r1,q1⟩=>?_)
 refine wpAny_Slice (Bs (hl pins s1 σ H1 _ I1 q1) λvl s2 ⟨l,H2,I2,pl,q2⟩=>Bs (hu pins s2 σ H2 _ I2 q2) λvu s3 ⟨u,H3,I3,pu,q3⟩=>?_)
 rw [evalPart_none]
 refine Go ?_
 have I4:Inv X pins σ H3 { s3 with heap:=s3.heap.push { cls:=.type "slice",data:=.fields #[vl,vu,.none] } }:=I3.kept (t':=s3.toks) λb ob q=>Ev _ q
 obtain⟨T,id,hT,ht,hg⟩:=hr pins { s3 with heap:=s3.heap.push { cls:=.type "slice",data:=.fields #[vl,vu,.none] } } σ H3 x v vl vu l u s3.heap.objs.size Q I4 r1 (hU ..) pl pu q3
 show wpAny (model X.prog X.w) X.A (subscriptTail e (.Slice lo hi none p2) v (.ref s3.heap.objs.size)) (EP X pins σ Q) X.xe { s3 with heap:=s3.heap.push { cls:=.type "slice",data:=.fields #[vl,vu,.none] } }
 exact tail_any (ops:=[.ref s3.heap.objs.size,v]) ht hT hg (by with_unfolding_all rfl)
noncomputable def LA(xs:List V)(lo hi:Option Int):List V:=(xs.drop (HT.sIx xs.length 0 lo)).take (HT.sIx xs.length xs.length hi - HT.sIx xs.length 0 lo)
theorem Io(xs:List V)(lo hi:Option Int):(LA xs lo hi).length<=xs.length:=by
 unfold LA
 rw [cN,cY]
 omega
noncomputable def Yd(K:Frag):V->Option Int->Option Int->Hp->VK->Prop:=λx lo hi H Q=>∃a xs,x=.ref a/\SqT K H a xs /\
 ¬(HT.sIx xs.length 0 lo=0/\HT.sIx xs.length xs.length hi=xs.length)/\∀p,H p=none->Q (.ref p) (BN H p (.tup (LA xs lo hi)))
theorem sl_tup:SlR X (Yd X.K):=by
 intro pins s σ H x v vl vu lo hi sl Q I rx hs pl pu h
 obtain⟨a,xs,rfl,hx,hw,q⟩:=h
 cases rx
 obtain⟨its,r,ht,hz⟩:=I.tuple hx
 have hlen:its.toArray.size=xs.length:=by rw [T0]; exact r.length.symm
 refine⟨"tuple",_,bL.lookup,ht.typeIs,?_⟩
 refine HT.getItem_tuple_cut ht hs pl pu (by rw [hlen]; exact hw) ?_ (by rw [hlen]; exact hz)
 rw [hlen]
 refine⟨.ref s.heap.objs.size,_,I.laid (t':=s.toks) (o:=.tup (LA xs lo hi)) (λb ob q=>Ev _ q) (No _) ?_,rfl,q _ (I.hok.fresh (No _))⟩
 exact⟨bF (Io xs lo hi) hz,_,(r.drop (HT.sIx xs.length 0 lo)).take (HT.sIx xs.length xs.length hi - HT.sIx xs.length 0 lo),IsTupN.new _ _⟩
noncomputable def S1(K:Frag):R2:=λx y H Q=>∃a b xs ys,x=.ref a/\y=.ref b/\SqT K H a xs/\SqT K H b ys/\xs≠[]/\xs.length+ys.length<=sizeLine /\
 (ys=[]->Q (.ref a) H)/\(ys≠[]->∀p,H p=none->Q (.ref p) (BN H p (.tup (xs++ys))))
theorem Vals.nil_iff{xs:List V}{us:List Value}(r:Vals xs us):us=[]↔xs=[]:=by
 cases r with
 | nil=>simp
 | cons _ _=>simp
theorem op_catT:OpR X (binaryOp .Add) (S1 X.K):=by
 intro pins s σ H x y v u Q I rx ry h
 obtain⟨a,b,xs,ys,rfl,rfl,ha,hb,hx,hz,q1,q2⟩:=h
 cases rx
 cases ry
 obtain⟨its,r1,p1,_⟩:=I.tuple ha
 obtain⟨its2,r2,p2,_⟩:=I.tuple hb
 refine HT.cat_tup p1 p2 (λz=>hx (r1.nil_iff.mp z)) (λz=>⟨.ref a,H,I,rfl,q1 (r2.nil_iff.mp z)⟩) (λz=>?_) (by rw [← r1.length,← r2.length]; exact hz)
 refine⟨.ref s.heap.objs.size,_,I.laid (t':=s.toks) (o:=.tup (xs++ys)) (λb ob q=>Ev _ q) (No _) ?_,rfl,q2 (λw=>z (r2.nil_iff.mpr w)) _ (I.hok.fresh (No _))⟩
 exact⟨by rw [Sc]; exact hz,_,r1.append r2,IsTupN.new _ _⟩
end
noncomputable def R6(n:Nat)(i:Int):Option Nat:=if 0<=i then (if i<n then some i.toNat else none) else if -(n:Int)<=i then some (i+n).toNat else none
noncomputable def atI{α:Type}(xs:List α)(i:Int):Option α:=(R6 xs.length i).bind λj=>xs[j]?
theorem QK{n:Nat}{i:Int}{j:Nat}(h:R6 n i=some j):seqIndex? i n=some j/\j<n/\-(n:Int)<=i/\i<n:=by
 unfold R6 at h
 by_cases h0:0<=i
 ·rw [if_pos h0] at h
  by_cases h1:i<n
  ·rw [if_pos h1] at h
   have e:i.toNat=j:=Uf h
   exact⟨by rw [seqIndex_of h0 h1,e],by omega,by omega,h1⟩
  ·rw [if_neg h1] at h; cases h
 ·rw [if_neg h0] at h
  by_cases h1:-(n:Int)<=i
  ·rw [if_pos h1] at h
   have e:(i+n).toNat=j:=Uf h
   exact⟨by rw [seqIndex_neg (by omega) h1,e],by omega,h1,by omega⟩
  ·rw [if_neg h1] at h; cases h
theorem Mz{α:Type}{xs:List α}{i:Int}{v:α}(h:atI xs i=some v):∃j,seqIndex? i xs.length=some j/\xs[j]?=some v/\j<xs.length/\-(xs.length:Int)<=i/\i<xs.length:=by
 unfold atI at h
 cases e:R6 xs.length i with
 | none=>rw [e] at h; cases h
 | some j =>
  rw [e] at h
  obtain⟨h1,h2,h3,h4⟩:=QK e
  exact⟨j,h1,h,h2,h3,h4⟩
theorem AR{α:Type}{xs:List α}{j:Nat}{v:α}(h:xs[j]?=some v):atI xs (j:Int)=some v:=by
 have hj:j<xs.length:=(au.mp h).1
 have e:R6 xs.length (j:Int)=some j:=by
  unfold R6
  rw [if_pos (by omega),if_pos (by omega)]; simp
 unfold atI; rw [e]; exact h
theorem OT{α:Type}(xs:List α)(v:α):atI (xs++[v]) (-1)=some v:=by
 have hl:(xs++[v]).length=xs.length+1:=by simp
 have e:R6 (xs++[v]).length (-1)=some xs.length:=by
  unfold R6
  rw [hl,if_neg (by decide),if_pos (by omega)]
  congr 1
  omega
 unfold atI
 rw [e]
 show (xs++[v])[xs.length]?=some v
 simp
noncomputable def Qm(b:Expr):Prop:=∀o i,subscripted b false o i=operate [o,i] (getItem o i)
noncomputable def IxR(X:Cx)(r:R2):Prop :=
 ∀(value slice:Expr) (pins:List (Addr×Obj)) (s:Shared) (σ:St) (H:Hp) (x y:V) (v u:Value) (Q:VK),Inv X pins σ H s->RelV x v->RelV y u->r x y H Q ->
  subscripted slice false v u=operate [v,u] (getItem v u)->wpAny (model X.prog X.w) X.A (subscriptTail value slice v u) (EP X pins σ Q) X.xe s
noncomputable def Zd(X:Cx)(id:String)(r:V->List V->Hp->VK->Prop):Prop :=
 ∀(pins:List (Addr×Obj)) (s:Shared) (σ:St) (H:Hp) (x:V) (xs:List V) (v:Value) (us:List Value) (Q:VK),Inv X pins σ H s->RelV x v->Vals xs us->r x xs H Q ->
  wpAny (model X.prog X.w) X.A (call (.builtin id) (v::us)) (EP X pins σ Q) X.xe s
section
variable {X:Cx}{a b:Expr}{ta tb:TE}{pos:Pos}
theorem IxR.or{r r':R2}(h:IxR X r)(h':IxR X r'):IxR X (λx y H Q=>r x y H Q\/r' x y H Q):=by
 intro value slice pins s σ H x y v u Q I rx ry q hs
 rcases q with q | q
 ·exact h value slice pins s σ H x y v u Q I rx ry q hs
 ·exact h' value slice pins s σ H x y v u Q I rx ry q hs
theorem Bo{r:R2}(hr:IxR X r)(ha:PE X a ta)(hb:PE X b tb)(hs:Qm b):PE X (.Subscript a b pos) (Dl r ta tb):=by
 intro pins s σ H Q I h
 exact Subscript_ (Xy ha hb I h λv u s2 x y H2 I2 rx ry q=>hr a b pins s2 σ H2 x y v u Q I2 rx ry q (hs _ _))
noncomputable def Q_(K:Frag):R2:=λx y H Q=>∃p xs i v,x=.ref p/\y=.int i/\SqL K H p xs/\atI xs i=some v/\Q v H
noncomputable def Yk(K:Frag):R2:=λx y H Q=>∃p xs i v,x=.ref p/\y=.int i/\SqT K H p xs/\atI xs i=some v/\Q v H
noncomputable def Yl:R2:=λx y H Q=>∃z i c,x=.str z/\y=.int i/\z.length<=sizeLine/\atI z.cps.toList i=some c/\Q (.str ⟨#[c]⟩) H
theorem ix_list:IxR X (Q_ X.K):=by
 intro value slice pins s σ H x y v u Q I rx ry h hs
 obtain⟨p,xs,i,z,rfl,rfl,hq,he,q⟩:=h
 cases rx
 obtain⟨t,rfl⟩:=ry
 obtain⟨its,r,pl,hz⟩:=I.list hq
 obtain⟨j,h1,h2,h3,h4,h5⟩:=Mz he
 obtain⟨w,ew,rw'⟩:=r.get h2
 have hl:=r.length
 have hn:=KO
 have fin:EP X pins σ Q w s:=⟨z,H,I,rw',q⟩
 by_cases h0:0<=i
 ·have hj:i.toNat=j:=by
   rw [seqIndex_of h0 h5] at h1
   exact Uf h1
  exact item_listR pl.isList h0 (by omega) (by rw [hj]; simpa using ew) fin hs
 ·have hj:(i+(its.toArray.size:Int)).toNat=j:=by
   rw [seqIndex_neg (by omega) h4] at h1
   rw [T0,← hl]
   exact Uf h1
  exact subscriptTail_builtinR (x:=w) pl.isList.typeIs fw.lookup
   (wpAny_getItem_list_neg (Q:=λr s'=>r=w/\EP X pins σ Q r s') pl.isList (by omega) (by rw [T0] <;> omega) (by omega) (by rw [hj]; simpa using ew) ⟨rfl,fin⟩) hs
theorem ix_tup:IxR X (Yk X.K):=by
 intro value slice pins s σ H x y v u Q I rx ry h hs
 obtain⟨p,xs,i,z,rfl,rfl,hq,he,q⟩:=h
 cases rx
 obtain⟨t,rfl⟩:=ry
 obtain⟨its,r,pl,hz⟩:=I.tuple hq
 obtain⟨j,h1,h2,h3,h4,h5⟩:=Mz he
 obtain⟨w,ew,rw'⟩:=r.get h2
 have hl:=r.length
 have hn:=KO
 have fin:EP X pins σ Q w s:=⟨z,H,I,rw',q⟩
 exact subscriptTail_builtinR (x:=w) pl.typeIs bL.lookup
  (getItem_tuple (j:=j) (Q:=λr s'=>r=w/\EP X pins σ Q r s') pl (by omega) (by omega) (by rw [T0,← hl]; exact h1) (by simpa using ew) ⟨rfl,fin⟩) hs
theorem Xc:IxR X Yl:=by
 intro value slice pins s σ H x y v u Q I rx ry h hs
 obtain⟨z,i,c,rfl,rfl,hz,he,q⟩:=h
 obtain⟨t,rfl⟩:=rx
 obtain⟨t',rfl⟩:=ry
 obtain⟨j,h1,h2,h3,h4,h5⟩:=Mz he
 have hl:z.cps.toList.length=z.length:=by simp [Str.length]
 rw [hl] at h1 h4 h5
 have hn:=KO
 exact tail_any (typeIs_str s z t) slot_str_getitem.lookup (getItem_str (c:=c) (by
  have e1:decide (i < -(2 ^ 63:Int))=false:=decide_eq_false (by omega)
  have e2:decide (i≥2 ^ 63)=false:=decide_eq_false (by omega)
  rw [e1,e2,fj]) (by rw [h1]; simpa using h2) ⟨.str ⟨#[c]⟩,H,I.tok _,⟨_,rfl⟩,q⟩) hs
noncomputable def aD(K:Frag):R2:=λx y H Q=>Q_ K x y H Q\/Yk K x y H Q\/Yl x y H Q
theorem AQ:IxR X (aD X.K):=ix_list.or (ix_tup.or Xc)
theorem PH(its:List Value)(n j:Nat)(u:Value):cX (·.setIfInBounds j u) { cls:=.type "list",data:=.seq its.toArray n }={ cls:=.type "list",data:=.seq (its.set j u).toArray n }:=by
 simp [cX]
theorem Inv.lst{pins:List (Addr×Obj)}{σ:St}{H:Hp}{s:Shared}{p:Addr}{xs:List V}(I:Inv X pins σ H s)(h:H p=some (.lst xs)) :
  ∃(its:List Value) (n:Nat),Vals xs its/\s.heap.get? p=some { cls:=.type "list",data:=.seq its.toArray n }/\xs.length<=sizeLine:=by
 obtain⟨z,its,n,r,e⟩:=I.hok p _ h
 exact⟨its,n,r,e,z⟩
theorem Inv.lstUpd{pins:List (Addr×Obj)}{σ:St}{H:Hp}{s:Shared}{p:Addr}{xs ys:List V}{its its':List Value}{n n':Nat}{f:Obj->Obj}(I:Inv X pins σ H s)(h:H p=some (.lst xs))
  (ho:s.heap.get? p=some { cls:=.type "list",data:=.seq its.toArray n }) (hf:f { cls:=.type "list",data:=.seq its.toArray n }={ cls:=.type "list",data:=.seq its'.toArray n' }) (r:Vals ys its') (hz:ys.length<=sizeLine) (t:Nat) :
  Inv X pins σ (BN H p (.lst ys)) { s with heap:=s.heap.update p f,toks:=t }:=by
 have e:(s.heap.update p f).get? p=some { cls:=.type "list",data:=.seq its'.toArray n' }:=by
  rw [e7 f ho (by rw [hf] <;> rfl),hf]
 refine I.write (x:=p) (e:=p) (by rw [h]; trivial) (.inl rfl) (λb u hb q=>(cw _ _ (cE hb)).trans q) ⟨_,e⟩ ?_
 exact⟨hz,its',n',r,e⟩
noncomputable def Sz:V->V->V->Hp->(Hp->Prop)->Prop:=λo i v H Q=>∃p xs k j,o=.ref p/\i=.int k/\H p=some (.lst xs)/\R6 xs.length k=some j/\Q (BN H p (.lst (xs.set j v)))
theorem set_list:ZJ X Sz:=by
 intro pins s σ H o i v ov iv u Q I ro ri rv h
 obtain⟨p,xs,k,j,rfl,rfl,hp,hj,q⟩:=h
 cases ro
 obtain⟨t,rfl⟩:=ri
 obtain⟨its,n,r,ho,hz⟩:=I.lst hp
 obtain⟨h1,h2,h3,h4⟩:=QK hj
 have hl:=r.length
 have hn:=KO
 have I':Inv X pins σ (BN H p (.lst (xs.set j v))) { s with heap:=s.heap.update p (cX (·.setIfInBounds j u)) } :=
  I.lstUpd hp ho (PH its n j u) (r.set rv j) (by rw [cM]; exact hz) s.toks
 by_cases h0:0<=k
 ·have hk:k.toNat=j:=by
   rw [seqIndex_of h0 h4] at h1
   exact Uf h1
  exact PySem.W.ki_setAt ho h0 (by omega) (by rw [T0,← hl]; exact h4) (by rw [hk]; exact⟨_,I',q⟩)
 ·have hk:(k+(its.toArray.size:Int)).toNat=j:=by
   rw [seqIndex_neg (by omega) h3] at h1
   rw [T0,← hl]
   exact Uf h1
  exact PySem.W.ki_setBack ho (by omega) (by rw [T0,← hl]; exact h3) (by omega) (by rw [hk]; exact⟨_,I',q⟩)
theorem L5(lo hi:Option Int)(n:Nat):(sliceBounds lo hi none n).1=((HT.sIx n 0 lo:Nat):Int)/\(sliceBounds lo hi none n).2.1=((HT.sIx n n hi:Nat):Int)/\(sliceBounds lo hi none n).2.2=1:=by
 refine⟨?_,?_,rfl⟩
 ·cases lo with
  | none=>simp [sliceBounds,HT.sIx]
  | some i =>
   simp only [sliceBounds,HT.sIx,Option.getD_none,show (1:Int) > 0 by decide,if_true]
   by_cases h:i<0
   ·simp only [h,if_true] <;> omega
   ·simp only [h,if_false] <;> omega
 ·cases hi with
  | none=>simp [sliceBounds,HT.sIx]
  | some i =>
   simp only [sliceBounds,HT.sIx,Option.getD_none,show (1:Int) > 0 by decide,if_true]
   by_cases h:i<0
   ·simp only [h,if_true] <;> omega
   ·simp only [h,if_false] <;> omega
theorem Kx(its:List Value)(lo hi:Option Int):slicePick its.toArray lo hi none=((its.drop (HT.sIx its.length 0 lo)).take (HT.sIx its.length its.length hi - HT.sIx its.length 0 lo)).toArray:=by
 obtain⟨h1,h2,h3⟩:=L5 lo hi its.toArray.size
 unfold slicePick
 rw [h1,h2,h3]
 simp only [sliceRange_one,pick_run,T0] <;> rfl
noncomputable def Ye(K:Frag):V->Option Int->Option Int->Hp->VK->Prop:=λx lo hi H Q=>∃a xs,x=.ref a/\SqL K H a xs/\∀p,H p=none->Q (.ref p) (BN H p (.lst (LA xs lo hi)))
theorem sl_list:SlR X (Ye X.K):=by
 intro pins s σ H x v vl vu lo hi sl Q I rx hs pl pu h
 obtain⟨a,xs,rfl,hx,q⟩:=h
 cases rx
 obtain⟨its,r,ht,hz⟩:=I.list hx
 have hlen:=r.length
 refine⟨"list",_,fw.lookup,ht.isList.typeIs,?_⟩
 refine wpAny_getItem_list_slice ht.isList hs pl pu .none (by simp) ?_ (by rw [T0] <;> omega)
 rw [Kx,← hlen]
 refine⟨.ref s.heap.objs.size,_,I.laid (t':=s.toks) (o:=.lst (LA xs lo hi)) (λb ob q=>Ev _ q) (No _) ?_,rfl,q _ (I.hok.fresh (No _))⟩
 exact⟨bF (Io xs lo hi) hz,_,0,(r.drop (HT.sIx xs.length 0 lo)).take (HT.sIx xs.length xs.length hi - HT.sIx xs.length 0 lo),XV _ rfl⟩
noncomputable def WU:V->Bool
 | .non=>true
 | .bl _=>true
 | .int _=>true
 | .str _=>true
 | _=>false
noncomputable def Y8:V->V->Bool
 | .non,.non=>true
 | .bl a,.bl b=>a==b
 | .bl a,.int b=>(if a then 1 else 0)==b
 | .int a,.bl b=>a==(if b then 1 else 0)
 | .int a,.int b=>a==b
 | .str a,.str b=>a==b
 | _,_=>false
theorem Mm{A:Around}{s:Shared}{y x:V}{u v:Value}(ry:RelV y u)(rx:RelV x v)(fy:WU y=true)(fx:WU x=true):SeqAt.EqAt A s u v (Y8 y x):=by
 cases y with
 | non =>
  cases ry
  cases x with
  | non=>cases rx; exact SeqAt.EqAt.same _
  | bl b=>cases rx; exact SeqAt.EqAt.none_bool b
  | int b=>obtain⟨t,rfl⟩:=rx; exact SeqAt.EqAt.none_int b t
  | str b=>obtain⟨t,rfl⟩:=rx; exact SeqAt.EqAt.none_str b t
  | _=>exact absurd (show false=true from fx) ar
 | bl a =>
  cases ry
  cases x with
  | non=>cases rx; exact SeqAt.EqAt.bool_none a
  | bl b=>cases rx; exact SeqAt.EqAt.bool_bool a b
  | int b=>obtain⟨t,rfl⟩:=rx; exact SeqAt.EqAt.bool_int a b t
  | str b=>obtain⟨t,rfl⟩:=rx; exact SeqAt.EqAt.bool_str a b t
  | _=>exact absurd (show false=true from fx) ar
 | int a =>
  obtain⟨t',rfl⟩:=ry
  cases x with
  | non=>cases rx; exact SeqAt.EqAt.int_none a t'
  | bl b=>cases rx; exact SeqAt.EqAt.int_bool a t' b
  | int b=>obtain⟨t,rfl⟩:=rx; exact SeqAt.EqAt.int_int a t' b t
  | str b=>obtain⟨t,rfl⟩:=rx; exact g_ a t' b t
  | _=>exact absurd (show false=true from fx) ar
 | str a =>
  obtain⟨t',rfl⟩:=ry
  cases x with
  | non=>cases rx; exact SeqAt.EqAt.str_none a t'
  | bl b=>cases rx; exact SeqAt.EqAt.str_bool a t' b
  | int b=>obtain⟨t,rfl⟩:=rx; exact hG a t' b t
  | str b=>obtain⟨t,rfl⟩:=rx; exact SeqAt.EqAt.str_str a t' b t
  | _=>exact absurd (show false=true from fx) ar
 | _=>exact absurd (show false=true from fy) ar
theorem CT:CV X (.type "list") (λxs H Q=>∃p ys,xs=[.ref p]/\(SqL X.K H p ys\/SqT X.K H p ys)/\∀l,H l=none->Q (.ref l) (BN H l (.lst ys))):=by
 intro pins s σ H xs us Q I r h
 obtain⟨p,ys,rfl,hq,q⟩:=h
 obtain⟨u,rfl,rx⟩:=vals1 r
 cases rx
 have fin:∀(its:List Value),Vals ys its->ys.length<=sizeLine->∀(h':Heap) (c':Nat),(∀b o',s.heap.get? b=some o'->h'.get? b=some o') ->
   h'.get? s.heap.objs.size=some { cls:=.type "list",dict:=none,data:=.seq its.toArray c',slots:=#[] }->EP X pins σ Q (.ref s.heap.objs.size) { s with heap:=h' }:=λits r' hz h' c' kp e =>
  ⟨.ref s.heap.objs.size,_,I.laid (t':=s.toks) kp (No _) (show ObjOk X.prog X.w _ h' _ (.lst ys) from⟨hz,its,c',r',e⟩),rfl,q _ (I.hok.fresh (No _))⟩
 rcases hq with hq | hq
 ·obtain⟨its,r',pl,hz⟩:=I.list hq
  have hlen:=r'.length
  obtain⟨o,ho,hc,n,hd⟩:=pl.isList
  exact call_list_seq p (.inl rfl) ho hc hd (λh' c' kp e=>fin its r' hz h' c' kp e) (by simp only [T0] <;> omega)
 ·obtain⟨its,r',pl,hz⟩:=I.tuple hq
  have hlen:=r'.length
  obtain⟨o,ho,hc,n,hd⟩:=pl
  exact call_list_seq p (.inr rfl) ho hc hd (λh' c' kp e=>fin its r' hz h' c' kp e) (by simp only [T0] <;> omega)
theorem Bh:CV X (.type "tuple") (λxs H Q=>∃p ys,xs=[.ref p]/\((SqL X.K H p ys/\∀l,H l=none->Q (.ref l) (BN H l (.tup ys)))\/(SqT X.K H p ys/\Q (.ref p) H))):=by
 intro pins s σ H xs us Q I r h
 obtain⟨p,ys,rfl,h⟩:=h
 obtain⟨u,rfl,rx⟩:=vals1 r
 cases rx
 rcases h with ⟨hq,q⟩ | ⟨hq,q⟩
 ·obtain⟨its,r',pl,hz⟩:=I.list hq
  have hlen:=r'.length
  refine call_tuple_list pl.isList (λh' kp=>?_) (by simp only [T0] <;> omega)
  have I1:Inv X pins σ H { s with heap:=h' }:=I.kept (t':=s.toks) kp
  have I2:Inv X pins σ (BN H h'.objs.size (.tup ys)) { s with heap:=h'.push { cls:=.type "tuple",data:=.seq its.toArray } } :=
   I1.laid (t':=s.toks) (λb o e=>Ev _ e) (No _) (show ObjOk X.prog X.w _ _ _ (.tup ys) from⟨hz,its,r',IsTupN.new _ _⟩)
  exact⟨.ref h'.objs.size,_,I2,rfl,q _ (I1.hok.fresh (No _))⟩
 ·obtain⟨its,r',pl,hz⟩:=I.tuple hq
  exact call_tuple_same pl ⟨.ref p,H,I,rfl,q⟩
noncomputable def Zh(K:Frag)(T:String)(x:V)(H:Hp):Prop:=match x with
 | .str _=>T = "str"
 | .int _=>T = "int"
 | .ref p=>(T = "list"/\∃xs,SqL K H p xs)\/(T = "tuple"/\∃o,K.lookup p=some o/\o.cls=.type "tuple"/\o.dict=none) \/
   (T = "dict"/\((∃kvs,H p=some (.dK kvs))\/∃kvs,H p=some (.dT kvs)))\/(T = "set"/\∃S n,H p=some (.set S n))
 | _=>False
theorem Wp{pins:List (Addr×Obj)}{σ:St}{H:Hp}{s:Shared}{T:String}{x:V}{v:Value}(I:Inv X pins σ H s)(r:RelV x v)(ty:Zh X.K T x H) :
  s.TypeIs v T/\∀a,v=.ref a->∃ob,s.heap.get? a=some ob/\ob.dict=none:=by
 cases x with
 | str z =>
  obtain⟨t,rfl⟩:=r
  cases (show T = "str" from ty)
  exact⟨typeIs_str s z t,λ_ e=>nomatch e⟩
 | int i =>
  obtain⟨t,rfl⟩:=r
  cases (show T = "int" from ty)
  exact⟨typeIs_int s i t,λ_ e=>nomatch e⟩
 | ref p =>
  cases r
  rcases ty with ⟨rfl,xs,hq⟩ | ⟨rfl,o,hk,hc,hd⟩ | ⟨rfl,hk⟩ | ⟨rfl,S,n,hk⟩
  ·obtain⟨its,_,pl,_⟩:=I.list hq
   refine⟨pl.isList.typeIs,λa e=>?_⟩
   cases e
   obtain⟨o,n,e,c,hd,_⟩:=pl
   exact⟨o,e,hd⟩
  ·refine⟨⟨o,I.kIn p o hk,hc⟩,λa e=>?_⟩
   cases e
   exact⟨o,I.kIn _ o hk,hd⟩
  ·have z:∃o,s.heap.get? p=some o/\o.ExactDict:=by
    rcases hk with ⟨kvs,hk⟩ | ⟨kvs,hk⟩
    ·obtain⟨_,_,_,_,o,_,_,e,ex,_⟩:=I.hok p _ hk
     exact⟨o,e,ex⟩
    ·obtain⟨_,_,_,_,o,_,_,e,ex,_⟩:=I.hok p _ hk
     exact⟨o,e,ex⟩
   obtain⟨o,e,ex⟩:=z
   refine⟨⟨o,e,ex.1⟩,λa e2=>?_⟩
   cases e2
   exact⟨o,e,ex.2.1⟩
  ·obtain⟨o,_,_,_,e,ex,_⟩:=I.hok p _ hk
   refine⟨⟨o,e,ex.1⟩,λa e2=>?_⟩
   cases e2
   exact⟨o,e,ex.2.1⟩
 | _=>exact dB ty
noncomputable def aT(K:Frag)(T:String)(r:V->List V->Hp->VK->Prop)(to:TE)(t:TA):TE:=λσ H Q=>to σ H λx H1=>Zh K T x H1/\t σ H1 λxs H2=>r x xs H2 Q
variable {o e:Expr}{es:List Expr}{to:TE}{t:TA}{name:Str}{apos cpos:Pos}{T id:String}{r:V->List V->Hp->VK->Prop}
theorem Yq(pa:PlainAttrs T)(slot:Slot T name id)(hty:typeOf (.builtin id)=pure (.type "method_descriptor"))(hm:Zd X id r)(ho:PE X o to)(ha:PA X (e::es) t)
  (hbase:autoParam (attributeBase o name X.env (eval o X.env)=eval o X.env) zau3._auto_1)
  (hfew:autoParam (((backTo cpos (starEach (e::es) X.env)).all (λx=>!x.1)&&(backToKw cpos (keywordEach [] X.env)).all (λx=>x.1.isSome)
   && decide ((e::es).length+([]:List Keyword).length+(if ([]:List Keyword).isEmpty then 0 else 1)<30))=true) zau3._auto_1)
  (hline:autoParam ((apos.endLine==cpos.line)=true) zau3._auto_1) (hs:autoParam (starEach (e::es) X.env=(false,eval e X.env)::starEach es X.env) zau3._auto_1) (hplain:autoParam ((backTo cpos (starEach es X.env)).any (·.1)=false) zau3._auto_1) :
  PE X (.Call (.Attribute o name apos) (e::es) [] cpos) (aT X.K T r to t):=by
 intro pins s σ H Q I h
 refine wpAny_Call_method_late hbase hfew hline rfl (Bs (ho pins s σ H _ I h) λv s1 ⟨x,H1,I1,r1,ty,q1⟩=>?_)
 obtain⟨h1,h2⟩:=Wp I1 r1 ty
 refine⟨T,id,pa,slot,hty,h1,h2,?_⟩
 have hA:=ha cpos pins s1 σ H1 _ I1 q1
 rw [hs] at hA ⊢
 refine gc (by show (false||(backTo cpos (starEach es X.env)).any (·.1))=false; rw [hplain] <;> rfl) (gu ?_)
 exact Bs hA λus s2 ⟨vs,H2,I2,r2,q2⟩=>hm pins s2 σ H2 x vs v us Q I2 r1 r2 q2
end
noncomputable def aM(X:Cx)(id:String)(r:V->List V->Hp->VK->Prop):Prop :=
 ∀(pins:List (Addr×Obj)) (s:Shared) (σ:St) (H:Hp) (x:V) (xs:List V) (v:Value) (us:List Value) (Q:VK),Inv X pins σ H s->RelV x v->Vals xs us->r x xs H Q ->
  wpAny (model X.prog X.w) X.A (call (.builtin id) (v::us)) (EP X pins σ Q) X.xe s
theorem Vals.one:∀{x:V} {us:List Value},Vals [x] us->∃u,us=[u]/\RelV x u
 | _,_,.cons r .nil=>⟨_,rfl,r⟩
theorem Vals.reverse{xs:List V}{us:List Value}(h:Vals xs us):Vals xs.reverse us.reverse:=by
 induction h with
 | nil=>exact .nil
 | cons r t ih=>rw [dY,dY]; exact Vals.append ih (.cons r .nil)
theorem Vals.rep{xs:List V}{us:List Value}(h:Vals xs us):∀k:Nat,Vals (Re k xs).flatten (Re k us).flatten
 | 0=>.nil
 | k+1=>by
  rw [dI,dI,eO,eO]
  exact Vals.append h (Vals.rep h k)
theorem foldl_rep(its:List Value):∀(k:Nat) (acc:List Value),
  List.foldl (λx1 x2=>x1++x2) acc.toArray (Re k its.toArray)=(acc++(Re k its).flatten).toArray
 | 0,acc=>by simp
 | k+1,acc=>by
  have e:acc.toArray++its.toArray=(acc++its).toArray:=by simp
  have e2:(acc++its)++(Re k its).flatten=acc++(Re (k+1) its).flatten:=by
   rw [dI,eO,bw]
  rw [← e2,← foldl_rep its k (acc++its),← e,dI,gQ]
section
variable {X:Cx}{pins:List (Addr×Obj)}{σ:St}{H:Hp}{s:Shared}{l b:Addr}{xs ys zs:List V}
theorem Inv.lset{its its':List Value}{n:Nat}{f:Array Value->Array Value}{t':Nat}(I:Inv X pins σ H s)(hH:H l=some (.lst xs))
  (e:s.heap.get? l=some { cls:=.type "list",data:=.seq its.toArray n }) (hf:f its.toArray=its'.toArray) (hv:Vals ys its') (hz:ys.length<=sizeLine) :
  Inv X pins σ (BN H l (.lst ys)) { s with heap:=s.heap.update l (cX f),toks:=t' }:=by
 have q:=PySem.IsL.update e f
 rw [hf] at q
 refine I.write (x:=l) (e:=l) (by rw [hH]; exact trivial) (.inl rfl) (λb' u hb hu=>(cw s.heap (cX f) (cE hb)).trans hu) ⟨_,q⟩ ?_
 exact⟨hz,its',_,hv,q⟩
theorem Inv.lnew{its:List Value}{t':Nat}(I:Inv X pins σ H s)(hv:Vals ys its)(hz:ys.length<=sizeLine) :
  Inv X pins σ (BN H s.heap.objs.size (.lst ys)) { s with heap:=s.heap.push { cls:=.type "list",data:=.seq its.toArray },toks:=t' } :=
 I.laid (λ_ _ q=>Ev _ q) (No _) ⟨hz,its,0,hv,XV _ rfl⟩
theorem Inv.fresh(I:Inv X pins σ H s):H s.heap.objs.size=none:=I.hok.fresh (No _)
theorem Inv.lstM(I:Inv X pins σ H s)(hH:H l=some (.lst xs)):xs.length<=sizeLine/\∃(its:List Value) (n:Nat),Vals xs its/\xs.length=its.length/\s.heap.get? l=some { cls:=.type "list",data:=.seq its.toArray n }:=by
 obtain⟨z,its,n,r,e⟩:=I.hok l _ hH
 exact⟨z,its,n,r,r.length,e⟩
theorem Np{n:Nat}(h:n<=sizeLine):dG n=false:=by
 unfold dG
 exact decide_eq_false (by omega)
end
section
variable {X:Cx}
noncomputable def P2:V->List V->Hp->VK->Prop:=λx vs H Q=>∃l xs y,x=.ref l/\vs=[y]/\H l=some (.lst xs)/\xs.length<sizeLine/\Q .non (BN H l (.lst (xs++[y])))
theorem EO:aM X "list.append" P2:=by
 intro pins s σ H x vs v us Q I rx rv h
 obtain⟨l,xs,y,rfl,rfl,hH,hz,q⟩:=h
 cases rx
 obtain⟨u,rfl,ru⟩:=rv.one
 obtain⟨z,its,n,r,hl,e⟩:=I.lstM hH
 refine gB F.slot_list_append ⟨_,e,rfl⟩ F.entry_list_append (F.args_list_append_2 _ _) (PySem.list_append l its.toArray n u (by rw [T0]; omega)) ⟨e,?_⟩
 refine⟨.non,_,I.lset (its':=its++[u]) hH e (by simp) (r.append (.cons ru .nil)) ?_,rfl,q⟩
 rw [Sc,aw]
 omega
noncomputable def P0:V->List V->Hp->VK->Prop:=λx vs H Q=>∃l b xs zs,x=.ref l/\vs=[.ref b]/\H l=some (.lst xs)/\H b=some (.lst zs)/\xs.length+zs.length<=sizeLine/\Q .non (BN H l (.lst (xs++zs)))
theorem IM:aM X "list.extend" P0:=by
 intro pins s σ H x vs v us Q I rx rv h
 obtain⟨l,b,xs,zs,rfl,rfl,hH,hB,hz,q⟩:=h
 cases rx
 obtain⟨u,rfl,ru⟩:=rv.one
 cases ru
 obtain⟨z,its,n,r,hl,e⟩:=I.lstM hH
 obtain⟨z2,its2,n2,r2,hl2,e2⟩:=I.lstM hB
 have hsz:its.toArray.size+its2.toArray.size<=sizeLine:=by rw [T0,T0]; omega
 have hlong:¬(!its.toArray.isEmpty&&dG (its.toArray.size+its2.toArray.size))=true:=by
  rw [Np hsz,fP]
  exact ar
 refine gB F.slot_list_extend ⟨_,e,rfl⟩ F.entry_list_extend (F.args_list_extend_2 _ _)
  (AutoSeq1.list_extend_list_list_0 l its.toArray n b its2.toArray n2 hlong (by rw [T0]; omega) (by omega)) ⟨e,e2,?_⟩
 refine⟨.non,_,I.lset (its':=its++its2) hH e (by simp) (r.append r2) ?_,rfl,q⟩
 rw [Sc]
 omega
noncomputable def Zq:R2:=λx y H Q=>∃l k xs,x=.ref l/\y=.int k/\H l=some (.lst xs)/\-(2 ^ 63)<=k/\k<2 ^ 63/\xs.length*k.toNat<=sizeLine /\
 ∀p,H p=none->Q (.ref p) (BN H p (.lst (Re k.toNat xs).flatten))
theorem len_rep{α:Type}(xs:List α)(k:Nat):(Re k xs).flatten.length=k*xs.length:=by
 induction k with
 | zero=>simp
 | succ k ih=>rw [dI,eO,Sc,ih,Nat.succ_mul,Nat.add_comm]
theorem XJ:OpR X (binaryOp .Mult) Zq:=by
 intro pins s σ H x y v u Q I rx ry h
 obtain⟨l,k,xs,rfl,rfl,hH,h1,h2,hz,q⟩:=h
 cases rx
 obtain⟨t,rfl⟩:=ry
 obtain⟨z,its,n,r,hl,e⟩:=I.lstM hH
 have hlen:its.toArray.size*k.toNat<=sizeLine:=by rw [T0,← hl]; exact hz
 have hcap:¬its.toArray.size*k.toNat > (2 ^ 63 - 1) / 8:=by
  have:(sizeLine:Nat)<=(2 ^ 63 - 1) / 8:=by decide
  omega
 have hfit:¬(!Builtin.List.listFitsIndex k)=true:=by
  rw [fitsIndex_both h1 h2]
  exact ar
 have hlong:¬dG (its.toArray.size*k.toNat)=true:=by
  rw [Np hlen]
  exact ar
 have hnew:List.foldl (λx1 x2=>x1++x2) #[] (Re (if its.toArray.isEmpty=true then 0 else k.toNat) its.toArray)=(Re k.toNat its).flatten.toArray:=by
  have f0:∀m:Nat,List.foldl (λx1 x2=>x1++x2) #[] (Re m its.toArray)=(Re m its).flatten.toArray:=λm=>by
   have:=foldl_rep its m []
   rw [bE] at this
   exact this
  rw [f0]
  cases its with
  | nil=>simp
  | cons a r'=>rw [if_neg (by simp)]
 refine wpAny_binaryOp_repeat_ref (T := "list") (U := "int") (by decide) ⟨_,e,rfl⟩ (λs'=>typeIs_int s' k t) noFill_list_mul F.fills_int_mul F.slot_int_rmul repeat_list F.slot_int_index.lookup
  (gB F.slot_int_rmul (typeIs_int s k t) F.entry_int_rmul (F.args_int_rmul_2 _ _) (int___rmul___int_list k t l its.toArray n)
   ⟨e,rfl,⟨_,e,rfl⟩,gB F.slot_list_mul ⟨_,e,rfl⟩ F.entry_list_mul (F.args_list_mul_2 _ _) (AutoListH.list___mul___list_int_3 l its.toArray n k t hfit hcap hlong) ⟨e,?_⟩⟩)
 rw [hnew]
 exact⟨.ref _,_,I.lnew (t':=s.toks) (r.rep k.toNat) (by rw [len_rep,Nat.mul_comm]; exact hz),rfl,q _ I.fresh⟩
end
section
variable {prog:Program}{w:World}{A:Around}{E:Value->Shared->Prop}{s:Shared}
end
section
variable {X:Cx}
end
end L2
namespace Att
open PySem PySem.W PySem.Calls PyProof.Rows
theorem JH{P:Params}{h:Heap}:∀(ns:List Int) (vs:List Value),WellAll P h vs (ns.map WData.int)->IntsAre vs ns:=by
 intro ns
 induction ns with
 | nil =>
  intro vs w
  rw [de] at w
  cases w
  exact .nil
 | cons n ns ih =>
  intro vs w
  rw [av] at w
  cases w with
  | cons a b =>
   cases a
   exact .cons _ _ (ih _ b)
theorem Qx{l:OpenLaw}{n:Nat}(hn:l.most=some n){P:Params}{h:Heap}{args:List WData}{vals:List Value}
  (hpre:l.row.toRowW.claim.pre args=true) (hwl:WellAll P h vals args) :
  ∃a vs ns,vals=[bT a]/\args=[WData.list (ns.map WData.int)]/\h.get? a=some { cls:=.type "list",data:=.seq vs.toArray }/\IntsAre vs ns/\ns.length<=n:=by
 have hsh:WShape.hasAll [] args [.list .int]=true:=(pre_splitW hpre).1
 have hc:l.pre.holds [] { args:=args }=true:=(pre_splitW hpre).2
 obtain⟨d,r,rfl,h1,h2⟩:=hasAllW_cons hsh
 obtain rfl:=hasAllW_nil h2
 obtain⟨xs,rfl,h3⟩:=hasW_list h1
 obtain⟨ns,rfl⟩:=items_int h3
 have hlen:ns.length<=n:=by
  unfold OpenLaw.pre at hc
  have h4:(WTm.not (.lt (.lit (.int (n:Int))) (.len (.arg 0)))).holds [] { args:=[.list (ns.map .int)] }=true:=by
   have h4:=(holds_andW hc).1
   rw [hn] at h4
   exact h4
  have h5:=condW_of h4 (w_not (w_lt w_lit (w_len_list (w_arg rfl))))
  rw [Db] at h5
  refine Nat.le_of_not_lt λq=>?_
  have q':(n:Int)<((ns.length:Nat):Int):=by omega
  first
   | (rw [decide_eq_true q'] at h5; exact absurd h5 (by decide))
   | (simp at h5; omega)
 cases hwl with
 | cons w1 w2 =>
  cases w2
  cases w1 with
  | list ho hall=>exact⟨_,_,ns,rfl,rfl,ho,JH ns _ hall,hlen⟩
theorem RE(l:OpenLaw)(args:List WData):l.row.toRowW.claim.post args (.bool true) args=true :=
 postW_of (r:=l.row.toRowW) (X:=(true==true))
  (show WShape.has [] (.bool true) .bool=true by first | rfl | decide | simp [WShape.has,WShape.arms,WShape.armsAll])
  (show (WTm.eq .res (.lit (.bool true))).value [] { args:=args,res:=some (.bool true),after:=args }=some (.bool (true==true)) from w_eq_bool (w_res rfl) w_lit) rfl
theorem attach_call{l:OpenLaw}{n:Nat}{q:Program}{loose:List Str}{XP:(Str->Option Value)->Heap->Prop}{YP:World->Heap->Prop}{d:DefRec}
  (hn:l.most=some n) (hdf:d.params.defaults=[])
  (call:∀(w:World) (s₀ s₁:Shared) (mg mb:Str->Option Value) (fa:Addr) (o:Obj) (pm cd doc:Value) (a:Addr) (vs:List Value) (ns:List Int),
   Ground q loose [] XP w s₀ mg mb s₁.heap->YP w s₁.heap ->
   s₁.heap.get? fa=some o->o.data=.func (docDef d.name d.params d.body d.scope pm cd doc)->s₁.heap.CodeRec cd d.name->mg d.name=some (.ref fa) ->
   s₁.heap.get? a=some { cls:=.type "list",data:=.seq vs.toArray }->IntsAre vs ns->ns.length<=n->s₁.gens=#[] ->
   codeAny (model l.prog w) callerA (.call (.ref fa) ⟨[.ref a],[]⟩) (λr s'=>r=.ok (.ret (.bool true))/\OldK s₁.heap s'.heap/\s'.os=s₁.os/\AllBare s'.gens) s₁) :
  WalkO q loose XP YP l.row.toRowW d [] (λf vs=>PySem.call f vs):=by
 intro w s₀ s₁ mg mb G Y fa o pm cd doc dV kV ho hd hcd hD hmg hg args vals as hpre hlay hrd hwl hlo
 obtain rfl:dV=.none:=Dflts.none hD hdf
 obtain rfl:kV=.none:=Dflts.noKw hD
 obtain⟨a,vs,ns,rfl,rfl,hobj,hints,hlen⟩:=Qx hn hpre hwl
 refine enter_call (codeAny_mono (call w s₀ s₁ mg mb fa o pm cd doc a vs ns G Y ho (fd_plain hd) hcd hmg hobj hints hlen hg) λr s' hq=>?_)
 obtain⟨rfl,h2,h3,h4⟩:=hq
 exact⟨.inl ⟨.bool true,.bool true,[],rfl,λ_=>rfl,.bool true,RE l _,λ_=>⟨dZ,λ_ hm=>(nomatch hm)⟩⟩,h2,h3,h4⟩
section
variable {prog:Program}{w:World}{A:Around}{E:Value->Shared->Prop}{s:Shared}{K:Frag}
end
end Att
namespace L2
open PySem PySem.Spec PyProof.Rows
theorem LI:∀{vs:List Value} {ns:List Int},IntsAre vs ns->Vals (ns.map V.int) vs
 | _,_,.nil=>.nil
 | _,_,.cons n t h=>.cons ⟨t,rfl⟩ (LI h)
noncomputable def X_(H:Hp):Prop:=∀b,H b=none\/∃o xs,H b=some (.frz o (.lst xs))
theorem Ta{P:Program}{w:World}{K:Frag}{mg mb:Str->Option Value}{CX:Up}{k:Nat}{fa a:Addr}{fd:FuncData}{x:Str}{sp:Sp}{s₁:Shared}{vs:List Value}{ns:List Int}
  (KX:K.In s₁.heap) (hns:s₁.heap.Ns mainGlobals mg) (hb:s₁.heap.Ns builtinsNs mb) (hbb:∀x:Str,x ≠ "__name__"->mb x=bootBuiltins x) (hlim:s₁.heap.NoLimit) (hg:s₁.gens=#[])
  (ha:s₁.heap.get? a=some { cls:=.type "list",data:=.seq vs.toArray }) (hi:IntsAre vs ns) (hl:ns.length<=sizeLine) (hr:Room k callerA)
  (F:∀base:Heap,K.In base->base.Ns mainGlobals mg->BG P w K mg base CX k fa fd [x] sp) (hbind:∀(s:Shared) (u:Value),BindsTo s fd ⟨[u],[]⟩ [(x,u)])
  (hsp:∀H:Hp,X_ H->SqL K H a (ns.map V.int)->sp [.ref a] H (λv _=>v=.bl true) λ_ _ _=>False)
  (hCX:∀H e s',CX [] H s₁ (λ_ _ _=>False) e s'->False) :
  codeAny (model P w) callerA (.call (.ref fa) ⟨[.ref a],[]⟩) (λr s'=>r=.ok (.ret (.bool true))/\OldK s₁.heap s'.heap/\s'.os=s₁.os/\AllBare s'.gens) s₁:=by
 have rv:=LI hi
 have lenV:=hi.length
 have core:∀H:Hp,X_ H->SqL K H a (ns.map V.int)->HOk P w H s₁.heap->(∀b,H b≠none->b=a)->(H a≠none->K.lookup a=none) ->
   codeAny (model P w) callerA (.call (.ref fa) ⟨[.ref a],[]⟩) (λr s'=>r=.ok (.ret (.bool true))/\OldK s₁.heap s'.heap/\s'.os=s₁.os/\AllBare s'.gens) s₁:=by
  intro H hO hS hok hA hK
  have base_of:∀{b:Addr} {o:Obj},s₁.heap.get? b=some o->H b=none->(Mg s₁.heap H).get? b=some o:=λe n=>Tl e n
  have noA:∀{b:Addr} {o:Obj} {es:Array DictEntry} {ep:Nat},s₁.heap.get? b=some o->o.data=.dict es ep->H b=none:=λ{b o es ep} e d=>by
   cases q:H b with
   | none=>rfl
   | some u =>
    have e':b=a:=hA b (by rw [q]; simp)
    subst e'
    rw [ha] at e; cases e
    have d':Data.seq vs.toArray _=Data.dict es ep:=d
    cases d'
  have nsK:∀{b:Addr} {m:Str->Option Value},s₁.heap.Ns b m->(Mg s₁.heap H).Ns b m:=λ{b m} ⟨o,es,ep,e,d,r⟩=>⟨o,es,ep,base_of e (noA e d),d,r⟩
  have hKb:K.In (Mg s₁.heap H):=λb o e=>base_of (KX b o e) (by
   cases q:H b with
   | none=>rfl
   | some u =>
    have e':b=a:=hA b (by rw [q]; simp)
    subst e'
    rw [hK (by rw [q]; simp)] at e; cases e)
  have hM:Mod K mg (Mg s₁.heap H):=⟨hKb,nsK hns,⟨mb,nsK hb,hbb⟩,let ⟨mc,h1,h2⟩:=hlim; ⟨mc,nsK h1,h2⟩⟩
  have e0:V6 P w K mg (Mg s₁.heap H) callerA [] s₁ H:=⟨rfl,hM,λb o e=>VT e,eD (Rc _ _),trivial,λb hb=>absurd (show b∈([]:List Addr) from hb) (by simp),hok,.of_eq hg⟩
  refine codeAny_mono ((F _ hKb (nsK hns)).run callerA [] s₁ H ⟨[.ref a],[]⟩ [.ref a] [.ref a] _ _ hr e0 (hbind s₁ (.ref a)) (.cons rfl .nil) (hsp H hO hS)) λr s' h=>?_
  cases r with
  | error e=>exact(hCX H e s' h).elim
  | ok fl =>
   cases fl with
   | next=>exact dB h
   | brk=>exact dB h
   | cont=>exact dB h
   | ret u =>
    obtain⟨v,H',os,bare,un,hok',r',q⟩:=h
    have q':v=.bl true:=q
    subst q'
    obtain rfl:u=dA true:=r'
    refine⟨rfl,OldK.of_keep λb o e=>?_,os,bare⟩
    cases q:H b with
    | none=>exact un.keep b o e q (by intro z; exact absurd (show b∈([]:List Addr) from z) (by simp)) (by simp)
    | some u =>
     rcases hO b with z | ⟨ob,xs,z⟩
     ·rw [q] at z; cases z
     ·have z2:=un.frzs b ob _ z
      obtain⟨e1,_⟩:=hok b _ z
      obtain⟨e2,_⟩:=hok' b _ z2
      rw [e] at e1; cases e1
      exact e2
 cases hk:K.lookup a with
 | some o =>
  have e:=KX a o hk
  rw [ha] at e
  cases e
  refine core (λ_=>none) (λ_=>.inl rfl) (.inr ⟨_,vs.toArray,_,hk,rfl,rfl,rfl,by rw [T0,lenV]; exact hl,by simpa using rv⟩) (λb u z=>by have z':(none:Option HO)=some u:=z; cases z') (λb z=>absurd rfl z) λz=>absurd rfl z
 | none =>
  refine core (λb=>if b=a then some (.frz { cls:=.type "list",data:=.seq vs.toArray } (.lst (ns.map V.int))) else none) (λb=>?_) (.inl (.inr ⟨{ cls:=.type "list",data:=.seq vs.toArray },if_pos rfl⟩)) (λb u z=>?_) (λb z=>?_) λ_=>hk
  ·by_cases hb:b=a
   ·exact .inr ⟨_,_,if_pos hb⟩
   ·exact .inl (if_neg hb)
  ·by_cases hb:b=a
   ·have z':=(if_pos hb).symm.trans z
    cases z'
    subst hb
    exact⟨ha,by rw [Db]; exact hl,vs,_,rv,ha⟩
   ·have z':=(if_neg hb).symm.trans z
    cases z'
  ·by_cases hb:b=a
   ·exact hb
   ·exact absurd (if_neg hb) z
theorem Pm{l:PySem.W.OpenLaw}{n k:Nat}{q:Program}{loose:List Str}{XP:(Str->Option Value)->Heap->Prop}{YP:World->Heap->Prop}{d:DefRec}{K:Params->Frag}{CX:World->Up}{sp:World->Sp}{x:Str}
  (hn:l.most=some n) (hn2:n<=sizeLine) (hdf:d.params.defaults=[]) (hr:Room k callerA)
  (hY:∀(w:World) (h:Heap),YP w h->(K w.params).In h)
  (F:∀(w:World) (mg:Str->Option Value) (fa:Addr) (h:Heap),(K w.params).In h->h.Ns mainGlobals mg->mg d.name=some (.ref fa) ->
   ∃fd:FuncData,(∀(s:Shared) (u:Value),BindsTo s fd ⟨[u],[]⟩ [(x,u)]) /\
    ∀base:Heap,(K w.params).In base->base.Ns mainGlobals mg->BG l.prog w (K w.params) mg base (CX w) k fa fd [x] (sp w))
  (hsp:∀(w:World) (H:Hp) (a:Addr) (ns:List Int),ns.length<=n->X_ H->SqL (K w.params) H a (ns.map V.int)->sp w [.ref a] H (λv _=>v=.bl true) λ_ _ _=>False)
  (hCX:∀(w:World) (H:Hp) (s:Shared) (e:Value) (s':Shared),CX w [] H s (λ_ _ _=>False) e s'->False) :
  PySem.W.WalkO q loose XP YP l.row.toRowW d [] (λf vs=>PySem.call f vs):=by
 refine Att.attach_call hn hdf λw s₀ s₁ mg mb fa o pm cd doc a vs ns G Y ho hd hcd hmg hobj hints hlen hg=>?_
 have KX:=hY w _ Y
 obtain⟨fd,hb,hF⟩:=F w mg fa _ KX G.T.g hmg
 exact Ta KX G.T.g G.T.b G.T.builtins G.T.nolimit hg hobj hints (bF hlen hn2) hr hF hb (λH hO hS=>hsp w H a ns hlen hO hS) λH e s'=>hCX w H s₁ e s'
end L2
/- THE LAST THEOREM (shape; LID, My.* are yours):
   My.Adr: a structure of the addresses that your layer names (classes, functions); My.Txt K t: a structure (Prop) of the equations over K;
   My.txt_mk : {K} {implicit addresses ..} (e1 : nsIn K mainGlobals "law" = some (some (.ref f))) (e2 : K.lookup f = some ⟨oc, od, .func (fnOf "law" "law" params body scope dV kV doc pm an cdv ct), sl⟩) (e3 : codeIn K cdv "law" = true) .. : ∃ t, My.Txt K t
set_option maxRecDepth 100000 in
set_option maxHeartbeats 0 in
theorem PySem.Challenge.cw_LID_holds : PySem.Challenge.rw_LID.Holds := by
 w_on; o_law; k_head; (case hw=>w_witness2)
 k_fill
 refine L2.Pm (l:=PySem.Challenge.rw_LID) (n:=63) (k:=40) (x := "script") (CX:=λw=>..) (sp:=λ_=>My.sp_law) rfl (by decide) rfl ⟨rfl,by decide,by decide⟩ (λw h Y=>PySem.W.kIn_of Y) ?F ?S ?C
 case F =>
  intro w mg fa h KX G hmg
  have T:∃t,My.Txt (L2.KOf KX) t:=by
   dsimp only [L2.KOf]                          -- K must stand as «<heap const> w.params» for k_is
   refine' My.txt_mk ?e1 ?e2 ?e3 ..
   (case e1=>PySem.W.k_is)                    -- in the order: a name -> its address -> its object -> its parts
   (case e2=>PySem.W.k_is)
   ..
  obtain⟨t,T⟩:=T
  have e0:=hmg.symm.trans (mg_of KX G T.law)
  cases e0                                       -- fa is the law's own address
  exact⟨_,λs u=>.of_eq rfl,λbase kb nb=>My.law_fn T kb nb⟩     -- if «.of_eq rfl» comes too early: refine' ⟨_,?b,λbase kb nb=>My.law_fn T kb nb⟩; exact λs u=>.of_eq rfl
 case S=>exact λw H a ns hl hO hS=>..
 case C=>exact ..
(the tactic k_is has no namespace: write k_is) -/
namespace L2
open PySem PySem.Spec PyProof.Rows
noncomputable def Du(s:Stmt):Arguments:=match s with
 | .FunctionDef _ a _ _ _ _ _ _ _ _=>a
 | _=>{ posonlyargs:=[],args:=[],vararg:=none,kwonlyargs:=[],kw_defaults:=[],kwarg:=none,defaults:=[] }
noncomputable def CQ(s:Stmt):List Stmt:=match s with
 | .FunctionDef _ _ b _ _ _ _ _ _ _=>b
 | _=>[]
noncomputable def AV(s:Stmt):Scope:=match s with
 | .FunctionDef _ _ _ _ _ _ sc _ _ _=>sc
 | _=>{ kind:=.function,names:=[],isGenerator:=false,isCoroutine:=false }
noncomputable abbrev CW:Up:=λ_ _ _ _ _ _=>False
noncomputable abbrev E0:XK:=λ_ _ _=>False
theorem QD{X:Cx}:NB CW X E0:=λ_ _ _ _ _ _ _ h=>h.elim
structure Fun (K:Frag) (x qual:Str) (st:Stmt) (f:Addr) (fd:FuncData):Prop where
 ex:∃(oc:Value) (od:Option Addr) (kV doc pm:Value) (an:Option Addr) (cdv ct:Value) (osl:Array (Option Value)),
  fd=fnOf x qual (Du st) (CQ st) (AV st) .none kV doc pm an cdv ct/\K.lookup f=some ⟨oc,od,.func fd,osl⟩/\codeIn K cdv qual=true
 kp:keepIn K (.ref f)=true
section
variable {P:Program}{w:World}{K:Frag}{mg:Str->Option Value}{base:Heap}
theorem Fun.ok{x qual:Str}{st:Stmt}{f:Addr}{fd:FuncData}{N ps:List Str}{k:Nat}{sp:Sp}(F:Fun K x qual st f fd)(S:Ar N ps (AV st))(len:∀vs H Q E,sp vs H Q E->vs.length=ps.length)
  (hbody:∀(cdv:Value) (A:Around) (outer:List Env) (s:Shared) (H:Hp) (vs:List V) (Q:VK) (E:XK),Room k (A.deeper (envOfC qual (AV st) s.heap.objs.size f cdv))->sp vs H Q E ->
   ∃t,PSs (Ms CW P w K mg base N qual (AV st) f cdv A outer s H E).nox (CQ st) t/\t { nx:=λ_ H'=>Q .non H',rt:=Q } (start N vs) H):BG P w K mg base CW (k+1) f fd ps sp:=by
 obtain⟨oc,od,kV,doc,pm,an,cdv,ct,osl,rfl,lk,hcd⟩:=F.ex
 refine Y0 lk hcd S len λA outer s H vs Q E hr hsp=>?_
 obtain⟨t,h,q⟩:=hbody cdv A outer s H vs Q E hr hsp
 exact⟨t,h.nox,q⟩
theorem Fun.binds{x qual:Str}{st:Stmt}{f:Addr}{fd:FuncData}{ps:List Str}(F:Fun K x qual st f fd)
  (h:∀(kV doc pm:Value) (an:Option Addr) (cdv ct:Value) (us:List Value),us.length=ps.length->bindArgs (fnOf x qual (Du st) (CQ st) (AV st) .none kV doc pm an cdv ct) ⟨us,[]⟩=pure (ps.zip us)):Binds K fd ps []:=by
 obtain⟨oc,od,kV,doc,pm,an,cdv,ct,osl,rfl,lk,hcd⟩:=F.ex
 exact .all (h kV doc pm an cdv ct)
theorem To{x qual:Str}{st:Stmt}{f:Addr}{oc:Value}{od an:Option Addr}{osl:Array (Option Value)}{kV doc pm cdv ct:Value}(l:K.lookup f=some ⟨oc,od,.func (fnOf x qual (Du st) (CQ st) (AV st) .none kV doc pm an cdv ct),osl⟩)
  (c:codeIn K cdv qual=true) (k:keepIn K (.ref f)=true):Fun K x qual st f (fnOf x qual (Du st) (CQ st) (AV st) .none kV doc pm an cdv ct):=⟨⟨oc,od,kV,doc,pm,an,cdv,ct,osl,rfl,l,c⟩,k⟩
end
theorem Ld{A:Around}{k:Nat}(hr:Room k A):A.units+1<cLine:=dQ (Nat.add_le_add_left (by decide:1<=64) _) hr.units
section
variable {X:Cx}
theorem pv(i:Nat){x:Str}{pos:Pos}(hN:autoParam (X.N[i]?=some x) zau3._auto_1)(hv:autoParam (X7 X.env.scope x) zau4._auto_1)(hd:autoParam ((x==("__debug__" : Str))=false) zau1._auto_1)
  (hcd:autoParam ((x==("__classdict__" : Str))=false) zau1._auto_1):PE X (.Name x pos) (BU i):=J6 hN hv hd hcd
end
theorem BJ{A B:Prop}(h:B):if false=true then A else B:=by
 rw [if_neg ar]
 exact h
theorem BX{A B:Prop}(h:A):if true=true then A else B:=by
 rw [if_pos rfl]
 exact h
theorem Dq{c A B:Prop}[Decidable c](h1:c->A)(h2:¬c->B):if c then A else B:=by
 by_cases h:c
 ·rw [if_pos h]
  exact h1 h
 ·rw [if_neg h]
  exact h2 h
section
variable {κ:Type}[DecidableEq κ]
noncomputable def CY(kvs:List (κ×V))(k:κ):Option V:=(kvs.find? λkv=>decide (kv.1=k)).map (·.2)
noncomputable def putK(kvs:List (κ×V))(k:κ)(v:V):List (κ×V) :=
 if (kvs.any λkv=>decide (kv.1=k))=true then kvs.map (λkv=>if kv.1=k then (kv.1,v) else kv) else kvs++[(k,v)]
theorem FQ{p:κ×V}{r:List (κ×V)}{k:κ}(e:p.1=k):CY (p::r) k=some p.2:=by simp [CY,dR,e]
theorem FR{p:κ×V}{r:List (κ×V)}{k:κ}(e:¬p.1=k):CY (p::r) k=CY r k:=by simp [CY,dR,e]
theorem NI(k:κ):∀kvs:List (κ×V),(kvs.any λkv=>decide (kv.1=k))=(CY kvs k).isSome
 | []=>rfl
 | p::r=>by
  rw [dM]
  by_cases e:p.1=k
  ·simp only [FQ e,decide_eq_true e,Bool.true_or,Option.isSome_some]
  ·rw [FR e,decide_eq_false e,Bool.false_or]; exact NI k r
theorem Ft(kvs:List (κ×V))(k:κ)(v:V):(putK kvs k v).length<=kvs.length+1:=by
 unfold putK
 split
 ·rw [Db]; omega
 ·rw [Sc,Tk,cG]; omega
theorem RelO.isSome_eq{o:Option V}{u:Option Value}(r:RelO o u):o.isSome=u.isSome:=by
 cases o with
 | none=>cases u with
  | none=>rfl
  | some _=>exact(show False from r).elim
 | some _=>cases u with
  | none=>exact(show False from r).elim
  | some _=>rfl
theorem KV.val{kvs:List (κ×V)}{vs:List (κ×Value)}(r:KV kvs vs)(k:κ):RelO (CY kvs k) (valueAt vs k):=by
 unfold KV at r
 induction r with
 | nil=>exact cv
 | @cons p q ps qs h t ih =>
  obtain⟨h1,h2⟩:=h
  by_cases e:p.1=k
  ·have e':q.1=k:=h1.symm.trans e
   have b:valueAt (q::qs) k=some q.2:=by simp [valueAt,dR,e']
   rw [FQ e,b]; exact h2
  ·have e':¬q.1=k:=λz=>e (h1.trans z)
   have b:valueAt (q::qs) k=valueAt qs k:=by simp [valueAt,dR,e']
   rw [FR e,b]; exact ih
theorem KV.any{kvs:List (κ×V)}{vs:List (κ×Value)}(r:KV kvs vs)(k:κ):(kvs.any λkv=>decide (kv.1=k))=vs.any λkv=>decide (kv.1=k):=by
 unfold KV at r
 induction r with
 | nil=>rfl
 | cons h t ih=>rw [dM,dM,ih,h.1]
theorem KV.repl{kvs:List (κ×V)}{vs:List (κ×Value)}(r:KV kvs vs)(k:κ){y:V}{u:Value}(ry:RelV y u) :
  KV (kvs.map λkv=>if kv.1=k then (kv.1,y) else kv) (vs.map λkv=>if kv.1=k then (kv.1,u) else kv):=by
 unfold KV at r ⊢
 induction r with
 | nil=>exact .nil
 | @cons p q ps qs h t ih =>
  rw [av,av]
  refine .cons ?_ ih
  obtain⟨h1,h2⟩:=h
  by_cases e:p.1=k
  ·rw [if_pos e,if_pos (h1.symm.trans e)]; exact⟨h1,ry⟩
  ·rw [if_neg e,if_neg (λz=>e (h1.trans z))]; exact⟨h1,h2⟩
theorem KV.put{kvs:List (κ×V)}{vs:List (κ×Value)}(r:KV kvs vs)(k:κ){y:V}{u:Value}(ry:RelV y u):KV (putK kvs k y) (stored vs k u):=by
 unfold putK stored
 rw [r.any k]
 by_cases e:(vs.any λkv=>decide (kv.1=k))=true
 ·rw [if_pos e,if_pos e]; exact r.repl k ry
 ·rw [if_neg e,if_neg e]; exact Paired.snoc r ⟨rfl,ry⟩
theorem KV.length{kvs:List (κ×V)}{vs:List (κ×Value)}(r:KV kvs vs):kvs.length=vs.length:=Paired.length r
end
theorem N4{P:Program}{w:World}{k:Key}{u:Value}(r:RelV (kV k) u):(Be P w).is k u=true:=by
 cases k with
 | inl i=>obtain⟨t,e⟩:=(show ∃t,u=g8 i t from r); subst e; exact Nu P w i t
 | inr x=>obtain⟨t,e⟩:=(show ∃t,u=g9 x t from r); subst e; exact Nq P w x t
theorem Lc{P:Program}{w:World}:∀{ks:List Key} {us:List Value},Vals (ks.map kV) us->ItemsAre (Be P w) ks us
 | [],_,r=>by rw [de] at r; cases r; exact .nil
 | k::ks,_,r=>by
  rw [av] at r
  cases r with
  | cons h t=>exact .cons (N4 h) (Lc t)
noncomputable abbrev KT(H:Hp):List (List Key×V)->List (List Key×Addr×Value)->Prop:=Paired λp q=>p.1=q.1/\H q.2.1=some (.tup (p.1.map kV))/\RelV p.2 q.2.2
theorem KT.val{H:Hp}{kvs:List (List Key×V)}{xs:List (List Key×Addr×Value)}(r:KT H kvs xs)(k:List Key):RelO (CY kvs k) ((atKey xs k).map (·.2)):=by
 induction r with
 | nil=>exact cv
 | @cons p q ps qs h t ih =>
  obtain⟨h1,_,h2⟩:=h
  by_cases e:p.1=k
  ·have e':q.1=k:=h1.symm.trans e
   have b:atKey (q::qs) k=some q.2:=by simp [atKey,dR,e']
   rw [FQ e,b]; exact h2
  ·have e':¬q.1=k:=λz=>e (h1.trans z)
   have b:atKey (q::qs) k=atKey qs k:=by simp [atKey,dR,e']
   rw [FR e,b]; exact ih
theorem KT.repl{H:Hp}{kvs:List (List Key×V)}{xs:List (List Key×Addr×Value)}(r:KT H kvs xs)(k:List Key){y:V}{u:Value}(ry:RelV y u) :
  KT H (kvs.map λkv=>if kv.1=k then (kv.1,y) else kv) (xs.map (putAt k u)):=by
 induction r with
 | nil=>exact .nil
 | @cons p q ps qs h t ih =>
  rw [av,av]
  refine .cons ?_ ih
  obtain⟨h1,h2,h3⟩:=h
  unfold putAt
  by_cases e:p.1=k
  ·rw [if_pos e,if_pos (h1.symm.trans e)]; exact⟨h1,h2,ry⟩
  ·rw [if_neg e,if_neg (λz=>e (h1.trans z))]; exact⟨h1,h2,h3⟩
theorem KT.put{H:Hp}{kvs:List (List Key×V)}{xs:List (List Key×Addr×Value)}(r:KT H kvs xs)(k:List Key){b:Addr}{y:V}{u:Value}(hb:H b=some (.tup (k.map kV)))(ry:RelV y u) :
  KT H (putK kvs k y) (storedH xs k b u):=by
 have e:(kvs.any λkv=>decide (kv.1=k))=(atKey xs k).isSome:=by
  rw [NI,(r.val k).isSome_eq,Option.isSome_map]
 unfold putK storedH
 rw [e]
 by_cases q:(atKey xs k).isSome=true
 ·rw [if_pos q,if_pos q]; exact r.repl k ry
 ·rw [if_neg q,if_neg q]; exact Paired.snoc r ⟨rfl,hb,ry⟩
theorem KT.keeps{H H':Hp}{kvs:List (List Key×V)}{xs:List (List Key×Addr×Value)}(r:KT H kvs xs)(ht:∀b ys,H b=some (.tup ys)->H' b=some (.tup ys)):KT H' kvs xs :=
 Paired.mapP r λ_ _ z=>⟨z.1,ht _ _ z.2.1,z.2.2⟩
section
variable {P:Program}{w:World}{H:Hp}{h:Heap}{a:Addr}
theorem WC{u:HO}(ok:HOk P w H h)(e:Rd H a u):ObjOk P w H h a u:=e.ok ok
theorem UH{kvs:List (Key×V)}(ok:HOk P w H h)(e:Rd H a (.dK kvs)):kvs.length<=sizeLine/\(a==sysModules)=false/\∃vs,KV kvs vs/\h.DictOf (Be P w) a vs :=
 show ObjOk P w H h a (.dK kvs) from WC ok e
theorem WY{kvs:List (Key×V)}(ok:HOk P w H h)(e:H a=some (.dK kvs)):kvs.length<=sizeLine/\(a==sysModules)=false/\∃vs,KV kvs vs/\h.DictOf (Be P w) a vs:=UH ok (.inl e)
theorem PL{ks:List Key}(ok:HOk P w H h)(e:H a=some (.tup (ks.map kV))):(tupleKind (Be P w)).is h ks a:=by
 obtain⟨_,its,r,o,h1,h2,n,h3,_⟩:=(show ObjOk P w H h a (.tup (ks.map kV)) from ok a _ e)
 exact⟨o,its.toArray,n,h1,h2,h3,by simpa using Lc r⟩
theorem OE{kvs:List (List Key×V)}(ok:HOk P w H h)(e:Rd H a (.dT kvs)):kvs.length<=sizeLine/\(a==sysModules)=false /\
  ∃xs,KT H kvs xs/\h.DictOfH (tupleKind (Be P w)) a xs:=by
 obtain⟨z,y,xs,r,o,es,ep,h1,h2,h3,h4,h5⟩:=(show ObjOk P w H h a (.dT kvs) from WC ok e)
 refine⟨z,y,xs,r,o,es,ep,h1,h2,h3,h4,λx hx=>?_,h5⟩
 have all:∀{l:List (List Key×V)} {m:List (List Key×Addr×Value)},KT H l m->∀x∈m,(tupleKind (Be P w)).is h x.1 x.2.1:=by
  intro l m q
  induction q with
  | nil=>intro x hx; exact nomatch hx
  | @cons p q ps qs hq t ih =>
   intro x hx
   rcases aq.mp hx with e | hx
   ·subst e
    exact PL ok (by rw [← hq.1]; exact hq.2.1)
   ·exact ih x hx
 exact all r x hx
theorem Y_{kvs:List (List Key×V)}(ok:HOk P w H h)(e:H a=some (.dT kvs)):kvs.length<=sizeLine/\(a==sysModules)=false /\
  ∃xs,KT H kvs xs/\h.DictOfH (tupleKind (Be P w)) a xs:=OE ok (.inl e)
end
noncomputable def DGet(H:Hp)(a:Addr)(y:V)(r:Option V):Prop :=
 (∃kvs k,Rd H a (.dK kvs)/\y=kV k/\r=CY kvs k)\/∃kvs k b,Rd H a (.dT kvs)/\y=.ref b/\H b=some (.tup (k.map kV))/\r=CY kvs k
noncomputable def DPut(H:Hp)(a:Addr)(y v:V)(H':Hp):Prop :=
 (∃kvs k,H a=some (.dK kvs)/\y=kV k/\kvs.length<sizeLine/\H'=BN H a (.dK (putK kvs k v))) \/
 ∃kvs k b,H a=some (.dT kvs)/\y=.ref b/\H b=some (.tup (k.map kV))/\kvs.length<sizeLine/\H'=BN H a (.dT (putK kvs k v))
theorem DGet.k{H:Hp}{a:Addr}{kvs:List (Key×V)}{k:Key}(e:H a=some (.dK kvs)):DGet H a (kV k) (CY kvs k):=.inl ⟨kvs,k,.inl e,rfl,rfl⟩
theorem DPut.k{H:Hp}{a:Addr}{kvs:List (Key×V)}{k:Key}{v:V}(e:H a=some (.dK kvs))(hl:kvs.length<sizeLine):DPut H a (kV k) v (BN H a (.dK (putK kvs k v))):=.inl ⟨kvs,k,e,rfl,hl,rfl⟩
theorem DPut.t{H:Hp}{a b:Addr}{kvs:List (List Key×V)}{k:List Key}{v:V}(e:H a=some (.dT kvs))(eb:H b=some (.tup (k.map kV)))(hl:kvs.length<sizeLine) :
  DPut H a (.ref b) v (BN H a (.dT (putK kvs k v))):=.inr ⟨kvs,k,b,e,rfl,eb,hl,rfl⟩
section
variable {X:Cx}{pins:List (Addr×Obj)}{σ:St}{H:Hp}{s:Shared}{a:Addr}{y v:V}{u r:Value}{o:Option V}{A:Around}{E:Value->Shared->Prop}
theorem Inv.big(I:Inv X pins σ H s):sysModules<s.heap.objs.size:=by
 have h:mainGlobals<s.heap.objs.size:=(I.mod.glob.keeps I.bk).lt
 exact fD (by decide) h
theorem Ro{Q:Value->Shared->Prop}(hu:A.units+1<cLine)(I:Inv X pins σ H s)(g:DGet H a y (some v))(ry:RelV y u)(h:∀w' s',Inv X pins σ H s'->RelV v w'->Q w' s') :
  wpAny (model X.prog X.w) A (getItem (.ref a) u) Q E s:=by
 rcases g with ⟨kvs,k,e,ey,l⟩ | ⟨kvs,k,b,e,ey,eb,l⟩
 ·subst ey
  obtain⟨z,hd,vs,rel,dd⟩:=UH I.hok e
  obtain⟨w',hw,rw'⟩:=RelO.some_of (v:=v) (o:=valueAt vs k) (by rw [l]; exact rel.val k)
  exact wpAny_getItem_of (N4 ry) dd.mapOf hw (h w' _ (I.tok _) rw')
 ·subst ey
  cases (show u=bT b from ry)
  obtain⟨z,hd,xs,rel,dd⟩:=OE I.hok e
  obtain⟨w',hw,rw'⟩:=RelO.some_of (v:=v) (o:=(atKey xs k).map (·.2)) (by rw [l]; exact rel.val k)
  obtain⟨p,hp,hp2⟩:=a_.mp hw
  refine wpAny_getItem_heap (tupleKind_room_in1 hu) (PL I.hok eb) dd hp ?_
  rw [hp2]
  exact h w' _ (I.tok _) rw'
theorem Mr{h':Heap}{t':Nat}{ob:HO}(I:Inv X pins σ H s)(mu:ZN (H a))(hs:cz a s.heap h')(he:∃q,h'.get? a=some q)(new:ObjOk X.prog X.w (BN H a ob) h' a ob) :
  Inv X pins σ (BN H a ob) { s with heap:=h',toks:=t' } :=
 I.write (x:=a) (e:=a) mu (.inl rfl) (λb q hb z=>(hs.2 b hb).trans z) he new
theorem PR{P:Program}{w:World}{H':Hp}{h':Heap}{kvs:List (Key×V)}{vs:List (Key×Value)}(z:kvs.length<=sizeLine)(hd:(a==sysModules)=false)(rel:KV kvs vs)(dd:h'.DictOf (Be P w) a vs) :
  ObjOk P w H' h' a (.dK kvs):=⟨z,hd,vs,rel,dd⟩
theorem Rn{H':Hp}{Q:Unit->Shared->Prop}(hu:A.units+1<cLine)(I:Inv X pins σ H s)(g:DPut H a y v H')(ry:RelV y u)(rv:RelV v r)(h:∀s',Inv X pins σ H' s'->Q () s') :
  wpAny (model X.prog X.w) A (setItem (.ref a) u r) Q E s:=by
 rcases g with ⟨kvs,k,e,ey,l,eH⟩ | ⟨kvs,k,b,e,ey,eb,l,eH⟩
 ·subst ey eH
  obtain⟨z,hd,vs,rel,dd⟩:=WY I.hok e
  have hz:vs.length<=sizeLine:=by rw [← rel.length]; exact z
  have hl:(putK kvs k v).length<=sizeLine:=by have:=Ft kvs k v; omega
  refine wpAny_setItem_pairs (hsz:=hz) (N4 ry) dd λh' dd' hs=>h _ ?_
  have he:∃q,h'.get? a=some q:=let ⟨q,_,_,hq,_⟩:=dd'; ⟨q,hq⟩
  exact Mr I (by rw [e]; exact cv) hs he (PR hl hd (rel.put k rv) dd')
 ·subst ey eH
  cases (show u=bT b from ry)
  obtain⟨z,hd,xs,rel,dd⟩:=Y_ I.hok e
  have hz:xs.length<=sizeLine:=by rw [← Paired.length rel]; exact z
  have hl:(putK kvs k v).length<=sizeLine:=by have:=Ft kvs k v; omega
  refine wpAny_setItem_heap (hsz:=hz) (tupleKind_room_in1 hu) (PL I.hok eb) dd λh' dd' hs=>h _ ?_
  obtain⟨q,es,ep,hq,h2,h3,h4,_,h5⟩:=dd'
  refine Mr I (by rw [e]; exact cv) hs ⟨q,hq⟩ ⟨hl,hd,_,(rel.put k eb rv).keeps λc ys ec=>?_,q,es,ep,hq,h2,h3,h4,h5⟩
  rw [Ac (Yv ec e (λz=>nomatch z))]
  exact ec
end
section
variable {X:Cx}{pins:List (Addr×Obj)}{σ:St}{H:Hp}{s:Shared}{a:Addr}{kvs:List (Key×V)}{k:Key}{u:Value}{A:Around}{E:Value->Shared->Prop}
end
noncomputable def Rw(i:Expr):Prop:=∀ov iv,subscripted i false ov iv=operate [ov,iv] (getItem ov iv)
theorem U2{prog:Program}{w:World}{A:Around}{E:Value->Shared->Prop}{s:Shared}{env:Env}{value slice:Expr}{pos:Pos}{T id:String}{Q:Value->Shared->Prop}
  (hl:typeLookup (.type T) "__getitem__"=pure (some (.builtin id))) (hs:Rw slice)
  (h:wpAny (model prog w) A (eval value env) (λo s₁=>wpAny (model prog w) A (eval slice env) (λi s₂=>s₂.TypeIs o T/\wpAny (model prog w) A (getItem o i) Q E s₂) E s₁) E s) :
  wpAny (model prog w) A (eval (.Subscript value slice pos) env) Q E s:=by
 refine Subscript_ (cD h (λo s₁ h₁=>cD h₁ (λi s₂ h₂=>?_) λ_ _ x=>x) λ_ _ x=>x)
 obtain⟨hT,h₂⟩:=h₂
 unfold subscriptTail
 refine Ch ?_
 rw [getitemInPython_of_ne hT.not_modules]
 refine Ch (wpAny_specialOf hT hl ?_)
 have fin:wpAny (model prog w) A (subscripted slice false o i) (λr s₃=>wpAny (model prog w) A (letTemporaryGo value o r >>= λ_=>pure r) Q E s₃) E s₂:=by
  rw [hs o i]
  exact wpAny_operating (cD h₂ (λr s₃ h₃=>Ch (wpAny_letTemporaryGo (Go h₃))) λ_ _ x=>x)
 first
  | exact Go (Ch fin)
  | exact Ch (Go (Ch fin))
  | exact Ch fin
theorem OG{X:Cx}{pins:List (Addr×Obj)}{σ:St}{H:Hp}{s:Shared}{a:Addr}{y:V}{o:Option V}(I:Inv X pins σ H s)(g:DGet H a y o):s.TypeIs (.ref a) "dict":=by
 rcases g with ⟨kvs,k,e,_,_⟩ | ⟨kvs,k,b,e,_,_,_⟩
 ·obtain⟨_,_,vs,_,dd⟩:=UH I.hok e
  exact dd.typeIs
 ·obtain⟨_,_,xs,_,dd⟩:=OE I.hok e
  exact dd.typeIs
noncomputable def YW(td ty:TE):TE:=λσ H Q=>td σ H λx H1=>ty σ H1 λy H2=>∃a v,x=.ref a/\DGet H2 a y (some v)/\Q v H2
noncomputable def Ya(td ty tv:TE):TS:=λD σ H=>tv σ H λv H1=>td σ H1 λx H2=>ty σ H2 λy H3=>∃a H4,x=.ref a/\DPut H3 a y v H4/\D.nx σ H4
section
variable {X:Cx}{o i e value:Expr}{pos pos' tpos:Pos}{td ty tv:TE}
theorem JM(hu:X.A.units+1<cLine)(ho:PE X o td)(hi:PE X i ty)(hs:Rw i):PE X (.Subscript o i pos) (YW td ty):=by
 intro pins s σ H Q I h
 refine U2 PySem.F.slot_dict_getitem.lookup hs (Bs (ho pins s σ H _ I h) λu s1 ⟨x,H1,I1,rx,q1⟩=>Bs (hi pins s1 σ H1 _ I1 q1) λiv s2 ⟨y,H2,I2,ry,a,v,ex,g,q2⟩=>?_)
 subst ex
 obtain rfl:u=bT a:=rx
 exact⟨OG I2 g,Ro hu I2 g ry λw' s3 I3 rw'=>⟨v,H2,I3,rw',q2⟩⟩
theorem P5(hu:X.A.units+1<cLine)(ho:PE X o td)(hi:PE X i ty)(hv:PE X value tv)(hs:swapsWith value (some (.Subscript o i pos')) pos.line X.env=pure false) :
  PS X (.Assign [.Subscript o i pos'] value pos) (Ya td ty tv):=by
 intro pins s σ H D I h
 refine wpAny_Assign_Subscript (Bs (hv pins s σ H _ I h) λr s1 ⟨v,H1,I1,rv,q1⟩=>Bs (ho pins s1 σ H1 _ I1 q1) λu s2 ⟨x,H2,I2,rx,q2⟩=>Bs (hi pins s2 σ H2 _ I2 q2) λiv s3 ⟨y,H3,I3,ry,a,H4,ex,g,q3⟩=>?_) hs
 subst ex
 obtain rfl:u=bT a:=rx
 exact Rn hu I3 g ry rv λs4 I4=>⟨σ,H4,I4,q3⟩
end
theorem UI{P:Program}{w:World}{H:Hp}(h:Heap)(hb:sysModules<h.objs.size):ObjOk P w H (h.push { cls:=.type "dict",data:=.dict #[] }) h.objs.size (.dK []) :=
 ⟨TW _,beq_eq_false_iff_ne.mpr (cE (bG hb)),[],.nil,Heap.DictOf.new h⟩
theorem UE{P:Program}{w:World}{H:Hp}(h:Heap)(hb:sysModules<h.objs.size):ObjOk P w H (h.push { cls:=.type "dict",data:=.dict #[] }) h.objs.size (.dT []) :=
 ⟨TW _,beq_eq_false_iff_ne.mpr (cE (bG hb)),[],.nil,_,#[],0,XV _ rfl,⟨rfl,rfl,rfl⟩,rfl,rfl,cq⟩
noncomputable def Ww:TE:=λ_ H Q=>∀p,H p=none->Q (.ref p) (BN H p (.dT []))
section
variable {X:Cx}{pos:Pos}
theorem TB:PE X (.Dict [] [] pos) Ww:=λpins s σ H Q I h =>
 wpAny_Dict_empty ⟨.ref s.heap.objs.size,_,I.laid (a:=s.heap.objs.size) (o:=.dT []) (t':=s.toks) (λ_ _ q=>Ev _ q) (No _) (UE s.heap I.big),rfl,h _ (I.hok.fresh (No _))⟩
end
noncomputable def Oj:List (TE×TE)->St->Hp->(List (V×V)->Hp->Prop)->Prop
 | [],_,H,Q=>Q [] H
 | (tk,tv)::r,σ,H,Q=>tk σ H λx H1=>tv σ H1 λy H2=>Oj r σ H2 λps H3=>Q ((x,y)::ps) H3
noncomputable abbrev VV:List (V×V)->List (Value×Value)->Prop:=Paired λp q=>RelV p.1 q.1/\RelV p.2 q.2
noncomputable def Zc(X:Cx)(pos:Pos)(keys:List (Option Expr))(values:List Expr)(trs:List (TE×TE)):Prop :=
 ∀(pins:List (Addr×Obj)) (s:Shared) (σ:St) (H:Hp) (Q:List (V×V)->Hp->Prop),Inv X pins σ H s->Oj trs σ H Q ->
  wpAny (model X.prog X.w) X.A (evalPairs (pairTrees keys values X.env pos)) (λvs s'=>∃ps H',Inv X pins σ H' s'/\VV ps vs/\Q ps H') X.xe s
theorem P7{X:Cx}{pos:Pos}:Zc X pos [] [] []:=λpins s σ H Q I h=>pairTrees_nil_walk ⟨[],H,I,.nil,h⟩
theorem DU{X:Cx}{pos:Pos}{k v:Expr}{ks:List (Option Expr)}{vs:List Expr}{tk tv:TE}{trs:List (TE×TE)}(hk:PE X k tk)(hv:PE X v tv)(hr:Zc X pos ks vs trs) :
  Zc X pos (some k::ks) (v::vs) ((tk,tv)::trs):=λpins s σ H Q I h =>
 pairTrees_cons_walk (Bs (hk pins s σ H _ I h) λu s1 ⟨x,H1,I1,rx,q1⟩=>Bs (hv pins s1 σ H1 _ I1 q1) λw2 s2 ⟨y,H2,I2,ry,q2⟩ =>
  Bs (hr pins s2 σ H2 _ I2 q2) λws s3 ⟨ps,H3,I3,rel,q3⟩=>⟨(x,y)::ps,H3,I3,.cons ⟨rx,ry⟩ rel,q3⟩)
noncomputable def Et(kvs more:List (Key×V)):List (Key×V):=more.foldl (λacc kv=>putK acc kv.1 kv.2) kvs
theorem KV.merge:∀{more:List (Key×V)} {rs:List (Key×Value)} {kvs:List (Key×V)} {vs:List (Key×Value)},KV more rs->KV kvs vs->KV (Et kvs more) (merged vs rs):=by
 intro more rs kvs vs r
 unfold KV at r
 induction r generalizing kvs vs with
 | nil=>intro q; exact q
 | @cons p q ps qs h t ih =>
  intro r0
  have e:KV (putK kvs p.1 p.2) (stored vs q.1 q.2):=by
   have:=r0.put p.1 h.2
   rw [← h.1]; exact this
  exact ih e
theorem Gc:∀(more kvs:List (Key×V)),(Et kvs more).length<=kvs.length+more.length
 | [],kvs=>by show kvs.length<=kvs.length+0; omega
 | p::r,kvs=>by
  have h1:=Gc r (putK kvs p.1 p.2)
  have h2:=Ft kvs p.1 p.2
  show (Et (putK kvs p.1 p.2) r).length<=_
  rw [Tk]; omega
theorem Ki{P:Program}{w:World}:∀{kvs:List (Key×V)} {ws:List (Value×Value)},VV (kvs.map λkv=>(kV kv.1,kv.2)) ws->∃rs,Carries (Be P w) ws rs/\KV kvs rs
 | [],_,r=>by rw [de] at r; cases r; exact⟨[],cv,.nil⟩
 | p::kvs,_,r=>by
  rw [av] at r
  cases r with
  | @cons a b as bs h t =>
   obtain⟨rs,c,q⟩:=Ki (P:=P) (w:=w) t
   obtain⟨b1,b2⟩:=b
   exact⟨(p.1,b2)::rs,⟨N4 h.1,rfl,c⟩,.cons ⟨rfl,h.2⟩ q⟩
noncomputable def YV(trs:List (TE×TE)):TE:=λσ H Q=>∀p,H p=none->Oj trs σ (BN H p (.dK [])) λps H2=>H2 p=some (.dK [])/\∃kvs:List (Key×V),ps=kvs.map (λkv=>(kV kv.1,kv.2))/\kvs.length<=15/\Q (.ref p) (BN H2 p (.dK (Et [] kvs)))
theorem QC{X:Cx}{pos:Pos}{keys:List (Option Expr)}{values:List Expr}{trs:List (TE×TE)}(h:Zc X pos keys values trs)(hall:keys.all (·.isSome)=true)(hl:keys.length=values.length)(h0:keys≠[])
  (h15:keys.length<=15):PE X (.Dict keys values pos) (YV trs):=by
 intro pins s σ H Q I q
 have hn:=I.hok.fresh (No s.heap.objs.size)
 have I1:=I.laid (a:=s.heap.objs.size) (o:=.dK []) (h':=s.heap.push { cls:=.type "dict",data:=.dict #[] }) (t':=s.toks) (λ_ _ q=>Ev _ q) (No _) (UI s.heap I.big)
 refine wpAny_Dict_walk (knd:=Be X.prog X.w) hall hl h0 h15 (Bs (h pins _ σ _ _ I1 (q _ hn)) λws s2 ⟨ps,H2,I2,rel,e,kvs,ep,lk,q2⟩=>?_)
 subst ep
 obtain⟨rs,c,rk⟩:=Ki (P:=X.prog) (w:=X.w) rel
 obtain⟨z,hd,vs0,r0,dd⟩:=WY I2.hok e
 cases r0
 refine⟨rs,c,dd,λh' dd' hs=>⟨.ref s.heap.objs.size,_,?_,rfl,q2⟩⟩
 have hz:(Et [] kvs).length<=sizeLine:=by
  have h1:=Gc kvs []
  rw [cG] at h1
  rw [bu]; omega
 have he:∃q,h'.get? s.heap.objs.size=some q:=let ⟨q,_,_,hq,_⟩:=dd'; ⟨q,hq⟩
 exact Mr I2 (by rw [e]; exact cv) hs he (PR hz hd (rk.merge .nil) dd')
structure M1 (X:Cx) (o:Expr) (m:Str) (apos:Pos) (e:Expr) (cpos:Pos):Prop where
 base:attributeBase o m X.env (eval o X.env)=eval o X.env
 few:((backTo cpos (starEach [e] X.env)).all (λx=>!x.1)&&(backToKw cpos (keywordEach [] X.env)).all (λx=>x.1.isSome)
  && decide (([e]:List Expr).length+([]:List Keyword).length+(if ([]:List Keyword).isEmpty then 0 else 1)<30))=true
 line:(apos.endLine==cpos.line)=true
 trees:backTo cpos (starEach [e] X.env)=[(false,eval e X.env)]
structure M2 (X:Cx) (o:Expr) (m:Str) (apos:Pos) (e f:Expr) (cpos:Pos):Prop where
 base:attributeBase o m X.env (eval o X.env)=eval o X.env
 few:((backTo cpos (starEach [e,f] X.env)).all (λx=>!x.1)&&(backToKw cpos (keywordEach [] X.env)).all (λx=>x.1.isSome)
  && decide (([e,f]:List Expr).length+([]:List Keyword).length+(if ([]:List Keyword).isEmpty then 0 else 1)<30))=true
 line:(apos.endLine==cpos.line)=true
 trees:backTo cpos (starEach [e,f] X.env)=[(false,eval e X.env),(false,eval f X.env)]
section
variable {X:Cx}{pins:List (Addr×Obj)}{σ:St}{H:Hp}{s:Shared}{a:Addr}{y d:V}{u r:Value}{o:Option V}{A:Around}{E:Value->Shared->Prop}
end
section
variable {X:Cx}{o e f:Expr}{apos cpos:Pos}{td ty tx:TE}
end
section
variable {X:Cx}{pins:List (Addr×Obj)}{σ:St}{H:Hp}{s:Shared}{a:Addr}{kvs:List (Key×V)}{A:Around}{E:Value->Shared->Prop}
end
section
variable {X:Cx}{pins:List (Addr×Obj)}{σ:St}{H:Hp}{s:Shared}{a:Addr}{y:V}{u:Value}{A:Around}{E:Value->Shared->Prop}
end
end L2
set_option maxHeartbeats 4000000
namespace L2
open PySem PySem.Spec PyProof.Rows
section
theorem PY{env:Env}:∀(names:List (Str×NameKind)) (cs:List (Str×Addr)),(∀x,(x,bV)∈names->∃c,env.cells.lookup x=some c)->(∀x c,cs.lookup x=some c->env.cells.lookup x=some c) ->
  ∃cl,(forIn names cs fun(x:Str×NameKind) (r:List (Str×Addr))=>(if (x.2==bV)=true then do let a ← cellOf env x.1; pure (cg ((x.1,a)::r)) else pure (cg r):Sem (ForInStep (List (Str×Addr)))))=(pure cl:Sem _) /\
   (∀x c,cl.lookup x=some c->env.cells.lookup x=some c)/\(∀x,((x,bV)∈names\/∃c,cs.lookup x=some c)->∃c,cl.lookup x=some c):=by
 intro names
 induction names with
 | nil =>
  intro cs _ h2
  exact⟨cs,rfl,h2,λx hx=>hx.elim (λz=>absurd z (by simp)) λz=>z⟩
 | cons p r ih =>
  intro cs h1 h2
  obtain⟨n,k⟩:=p
  by_cases hk:k=bV
  ·subst hk
   obtain⟨c,hc⟩:=h1 n On
   have hcell:cellOf env n=pure c:=by simp only [cellOf,hc]
   obtain⟨cl,e,a,b⟩:=ih ((n,c)::cs) (λx hx=>h1 x (TM _ hx)) (λx c' hx=>by
    rw [cr] at hx
    cases hb:x==n with
    | true =>
     rw [hb] at hx
     have hx':some c=some c':=hx
     cases hx'
     have:x=n:=by simpa using hb
     rw [this]; exact hc
    | false=>rw [hb] at hx; exact h2 x c' hx)
   refine⟨cl,?_,a,λx hx=>b x ?_⟩
   ·rw [c5]
    simp only [beq_self_eq_true,if_true,hcell,pure_bind]
    exact e
   ·by_cases hxn:x=n
    ·subst hxn
     exact .inr ⟨c,by simp [cr]⟩
    ·rcases hx with hx | ⟨c',hx⟩
     ·rcases aq.mp hx with hx | hx
      ·cases hx; exact absurd rfl hxn
      ·exact .inl hx
     ·refine .inr ⟨c',?_⟩
      have:(x==n)=false:=by simpa using hxn
      rw [cr,this]
      exact hx
  ·have hk':(k==bV)=false:=by simpa using hk
   obtain⟨cl,e,a,b⟩:=ih cs (λx hx=>h1 x (TM _ hx)) h2
   refine⟨cl,?_,a,λx hx=>b x ?_⟩
   ·rw [c5]
    simp only [hk',bi,if_false,pure_bind]
    exact e
   ·rcases hx with hx | hx
    ·rcases aq.mp hx with hx | hx
     ·cases hx; exact absurd rfl hk
     ·exact .inl hx
    ·exact .inr hx
theorem Kh{scope:Scope}{env:Env}(h:∀x,(x,bV)∈scope.names->∃c,env.cells.lookup x=some c) :
  ∃cl,closureFor scope env=pure cl/\(∀x c,cl.lookup x=some c->env.cells.lookup x=some c)/\(∀x,(x,bV)∈scope.names->∃c,cl.lookup x=some c):=by
 obtain⟨cl,e,a,b⟩:=PY scope.names [] h (λx c hx=>by simp at hx)
 refine⟨cl,?_,a,λx hx=>b x (.inl hx)⟩
 simp only [closureFor]
 rw [e,pure_bind]
variable {prog:Program}{w:World}{A:Around}{E:Value->Shared->Prop}{R:Result->Shared->Prop}{s:Shared}
theorem Mt{elt target iter:Expr}{ifs:List Expr}{scope:Scope}{pos:Pos}{it acc:Value}{env:Env}(I:Nat->Shared->Prop)
  (turn:∀n s,I n s->wpAny (model prog w) A (pyNext it) (λr s₁=>match r with
   | none=>R (.ok .next) s₁
   | some v=>wpAny (model prog w) A (letOwnedTupleGo target it v) (λ_ s₁'=>wpAny (model prog w) A (assign target env v) (λ_ s₂ =>
     wpAny (model prog w) A (forIn ifs true λc r=>if r=true then do let ok ← isTrue c env (eval c env); pure (cg ok) else pure (cg r)) (λok s₃ =>
      if ok=true then wpAny (model prog w) A (eval elt env) (λx s₄ =>
       wpAny (model prog w) A (call (.builtin "list.append") [acc,x]) (λ_ s₅=>∃m,m<n/\I m s₅) (λ_ _=>False) s₄) (λ_ _=>False) s₃
      else ∃m,m<n/\I m s₃) (λ_ _=>False) s₂) (λ_ _=>False) s₁') (λ_ _=>False) s₁) (λ_ _=>False) s)
  (n:Nat) (h:I n s) :
  codeAny (model prog w) A (.compLoop (.ListComp elt [⟨target,iter,ifs,0⟩] scope pos) 0 it acc env) R s:=by
 refine codeAny_loop rfl I (λn s hI=>?_) n h
 show wpAny _ A ((compTurn (.ListComp elt [⟨target,iter,ifs,0⟩] scope pos) 0 it acc env).onRaise (λx=>do noteFrame x env; theTreesLotGoes x)) _ _ s
 refine wpAny_noted ?_
 rw [compTurn_list]
 refine Ch (fi (Ch (cD (turn n s hI) (λr s₁ h₁=>?_) λ_ _ h'=>h'.elim)))
 cases r with
 | none=>exact Go h₁
 | some v =>
  refine Ch (cD h₁ (λ_ s₁' h₁'=>?_) λ_ _ h'=>h'.elim)
  refine Ch (cD h₁' (λ_ s₂ h₂=>Ch (cD h₂ (λok s₃ h₃=>?_) λ_ _ h'=>h'.elim)) λ_ _ h'=>h'.elim)
  cases ok with
  | false=>exact Go ⟨rfl,h₃⟩
  | true =>
   exact Ch (Ch (cD h₃ (λx s₄ h₄=>Ch (cD h₄ (λ_ s₅ h₅=>Go (Go ⟨rfl,h₅⟩)) λ_ _ h'=>h'.elim)) λ_ _ h'=>h'.elim))
end
noncomputable def BF(X:Cx)(sc:Scope)(N':List Str)(cl:List (Str×Addr))(C:Addr)(s:Shared)(H:Hp)(ex:List Addr):Cx where
 prog:=X.prog
 w:=X.w
 K:=X.K
 mg:=X.mg
 base:=X.base
 A:=X.A
 N:=N'
 s₀:=s
 H₀:=H
 env:=compEnvC sc cl C X.env
 outer:=X.stack
 stack:=X.stack
 ex:=ex
 fn:=λ_=>false
 calm:=true
 pn:=[]
 xe:=λ_ _=>False
noncomputable def Cc(js:List (Option Nat))(σ:St):St:=js.map λo=>match o with
 | some i=>(σ[i]?).getD none
 | none=>none
noncomputable def VZ(o:Option NameKind):Bool:=match o with
 | some .cell=>true
 | some .free=>true
 | _=>false
theorem QM{o:Option NameKind}(h:VZ o=true):o=some .cell\/o=some .free:=by
 unfold VZ at h
 split at h
 ·exact .inl rfl
 ·exact .inr rfl
 ·cases h
noncomputable def isFree(o:Option NameKind):Bool:=match o with
 | some .free=>true
 | _=>false
theorem RZ{o:Option NameKind}(h:isFree o=true):o=some .free:=by
 unfold isFree at h
 split at h
 ·rfl
 ·cases h
noncomputable def Th(o:Option NameKind):Bool:=match o with
 | some .local=>true
 | _=>false
theorem Tg{o:Option NameKind}(h:Th o=true):o=some .local:=by
 unfold Th at h
 split at h
 ·rfl
 ·cases h
noncomputable def Tj(k:ScopeKind):Bool:=match k with
 | .function=>true
 | _=>false
theorem Ti{k:ScopeKind}(h:Tj k=true):k=.function:=by
 unfold Tj at h
 split at h
 ·rfl
 ·cases h
noncomputable def Zt(sc esc:Scope)(p:Str×NameKind):Bool:=match p.2 with
 | .cell=>false
 | .free=>VZ (esc.names.lookup p.1)
 | .local=>Th (sc.names.lookup p.1)
 | _=>true
noncomputable def Z2(x:Option Str)(y:Str):Bool:=match x with
 | some z=>z==y
 | none=>false
theorem Xk{x:Option Str}{y:Str}(h:Z2 x y=true):x=some y:=by
 unfold Z2 at h
 split at h
 ·exact congrArg some (by simpa using h)
 ·cases h
noncomputable def Hm(sc esc:Scope)(N:List Str):List Str->List (Option Nat)->Bool
 | [],[]=>true
 | x::xs,some j::js=>isFree (sc.names.lookup x)&&Z2 (N[j]?) x&&VZ (esc.names.lookup x)&&Hm sc esc N xs js
 | _::xs,none::js=>Hm sc esc N xs js
 | _,_=>false
noncomputable def Kg(sc esc:Scope)(N N':List Str)(js:List (Option Nat)):Bool:=Tj sc.kind&&sc.names.all (Zt sc esc)&&Hm sc esc N N' js
theorem F1{sc esc:Scope}{N:List Str}:∀{N':List Str} {js:List (Option Nat)},Hm sc esc N N' js=true->js.length=N'.length
 | [],[],_=>rfl
 | x::xs,some j::js,h=>by
  unfold Hm at h
  rw [az] at h
  rw [Tk,Tk,F1 h.2]
 | x::xs,none::js,h=>by
  unfold Hm at h
  rw [Tk,Tk,F1 h]
 | [],some _::_,h=>by unfold Hm at h; cases h
 | [],none::_,h=>by unfold Hm at h; cases h
 | _::_,[],h=>by unfold Hm at h; cases h
theorem Mu{sc esc:Scope}{N:List Str}:∀{N':List Str} {js:List (Option Nat)},Hm sc esc N N' js=true->∀{k:Nat} {x:Str} {j:Nat},N'[k]?=some x->js[k]?=some (some j) ->
  sc.names.lookup x=some .free/\N[j]?=some x/\(esc.names.lookup x=some .cell\/esc.names.lookup x=some .free)
 | [],_,_,k,x,j,h1,_=>by simp at h1
 | _::_,[],h,_,_,_,_,_=>by unfold Hm at h; cases h
 | y::ys,some i::js,h,k,x,j,h1,h2=>by
  unfold Hm at h
  rw [az,az,az] at h
  cases k with
  | zero =>
   simp at h1 h2
   subst h1 h2
   exact⟨RZ h.1.1.1,Xk h.1.1.2,QM h.1.2⟩
  | succ k=>exact Mu h.2 (k:=k) (by simpa using h1) (by simpa using h2)
 | y::ys,none::js,h,k,x,j,h1,h2=>by
  unfold Hm at h
  cases k with
  | zero=>simp at h2
  | succ k=>exact Mu h (k:=k) (by simpa using h1) (by simpa using h2)
theorem RQ{js:List (Option Nat)}{σ:St}{k:Nat}{v:V}(h:(Cc js σ)[k]?=some (some v)):∃j,js[k]?=some (some j)/\σ[j]?=some (some v):=by
 unfold Cc at h
 rw [Op] at h
 cases e:js[k]? with
 | none=>rw [e] at h; cases h
 | some o =>
  rw [e] at h
  cases o with
  | none=>cases h
  | some j =>
   refine⟨j,rfl,?_⟩
   have h':some ((σ[j]?).getD none)=some (some v):=h
   have h2:=Uf h'
   cases q:σ[j]? with
   | none=>rw [q] at h2; cases h2
   | some w=>rw [q] at h2; exact congrArg some h2
theorem C2{env:Env}:∀{names:List (Str×NameKind)} {x:Str},names.lookup x=some .free ->
  (names.map fun(n,k)=>if (k==bV&&env.scope.kind==.function&&env.kindOf n==some .cell) then (n,d6) else (n,k)).lookup x=some .cell \/
  (names.map fun(n,k)=>if (k==bV&&env.scope.kind==.function&&env.kindOf n==some .cell) then (n,d6) else (n,k)).lookup x=some .free
 | [],_,h=>by simp at h
 | (n,k)::r,x,h=>by
  have ih:=@C2 env r x
  show List.lookup x ((if (k==bV&&env.scope.kind==.function&&env.kindOf n==some .cell)=true then (n,d6) else (n,k))::_)=_\/List.lookup x ((if (k==bV&&env.scope.kind==.function&&env.kindOf n==some .cell)=true then (n,d6) else (n,k))::_)=_
  by_cases hc:(k==bV&&env.scope.kind==.function&&env.kindOf n==some .cell)=true
  ·rw [if_pos hc]
   cases hx:x==n with
   | true=>exact .inl (by simp only [cr,hx])
   | false =>
    simp only [cr,hx] at h ⊢
    exact ih h
  ·rw [if_neg hc]
   cases hx:x==n with
   | true =>
    simp only [cr,hx] at h ⊢
    exact .inr h
   | false =>
    simp only [cr,hx] at h ⊢
    exact ih h
theorem Ox{env:Env}{sc:Scope}(hcell:∀y∈sc.names,y.2≠.cell){x:Str}(h:(relabel sc env).names.lookup x=some .cell\/(relabel sc env).names.lookup x=some .free):(x,bV)∈sc.names:=by
 have hm:(x,d6)∈(relabel sc env).names\/(x,bV)∈(relabel sc env).names:=h.elim (λz=>.inl (PySem.mem_of_lookup z)) λz=>.inr (PySem.mem_of_lookup z)
 have go:∀k:NameKind,(k=.cell\/k=.free)->(x,k)∈(relabel sc env).names->(x,bV)∈sc.names:=by
  intro k hk hmem
  unfold relabel at hmem
  obtain⟨⟨n,k0⟩,hn,e⟩:=UF.mp hmem
  by_cases hc:(k0==bV&&env.scope.kind==.function&&env.kindOf n==some .cell)=true
  ·have e':(n,d6)=(x,k):=by
    have:=e
    simp only [hc,if_true] at this
    exact this
   have hk0:k0=.free:=by
    rw [az,az] at hc
    simpa using hc.1.1
   cases e'
   subst hk0
   exact hn
  ·have e':(n,k0)=(x,k):=by
    have:=e
    simp only [hc,if_false] at this
    exact this
   cases e'
   rcases hk with rfl | rfl
   ·exact absurd rfl (hcell _ hn)
   ·exact hn
 exact hm.elim (go _ (.inl rfl)) (go _ (.inr rfl))
section
variable {X:Cx}{pins:List (Addr×Obj)}{σ:St}{H:Hp}{s:Shared}
structure CompOk (X:Cx) (sc:Scope) (N':List Str) (js:List (Option Nat)):Prop where
 kind:sc.kind=.function
 cell:∀y∈sc.names,y.2≠.cell
 free:∀x,(x,bV)∈sc.names->X.env.scope.names.lookup x=some .cell\/X.env.scope.names.lookup x=some .free
 names:∀y∈sc.names,y.2=.local->sc.names.lookup y.1=some .local
 cap:Hm sc X.env.scope X.N N' js=true
theorem CompOk.of{sc:Scope}{N':List Str}{js:List (Option Nat)}(h:Kg sc X.env.scope X.N N' js=true):CompOk X sc N' js:=by
 unfold Kg at h
 rw [az,az,cO] at h
 obtain⟨⟨h1,h2⟩,h3⟩:=h
 refine⟨Ti h1,λy hy e=>?_,λx hx=>?_,λy hy e=>?_,h3⟩
 ·have q:=h2 y hy
  unfold Zt at q
  rw [e] at q
  cases q
 ·have q:=h2 _ hx
  exact QM q
 ·have q:=h2 y hy
  unfold Zt at q
  rw [e] at q
  exact Tg q
theorem N8{sc:Scope}{N':List Str}{js:List (Option Nat)}{cl:List (Str×Addr)}{fp:List Addr}{h₁:Heap}{tk:Nat}(I:Inv X pins σ H s)(hc:X.calm=true)(O:CompOk X sc N' js)
  (hcl:∀x c,cl.lookup x=some c->X.env.cells.lookup x=some c) (hcl2:∀x,(x,bV)∈sc.names->∃c,cl.lookup x=some c)
  (hf:∀b∈fp,Ks X pins H b) (ho:∀b∈fp,∃o,s.heap.get? b=some o)
  (hns:h₁.Ns (s.heap.objs.size+1) (λ_=>none)) (hk:∀b o,s.heap.get? b=some o->h₁.get? b=some o) (hD:∃n,h₁.get? s.heap.objs.size=some { cls:=.type "list",data:=.seq #[] n }) :
  Inv (BF X sc N' cl (s.heap.objs.size+1) s H fp) [] (Cc js σ) (BN H s.heap.objs.size (.lst [])) { s with heap:=h₁,toks:=tk }:=by
 have fr:∀a,s.heap.objs.size<=a->H a=none:=λa ha=>I.hok.fresh ha
 have cellLt:∀x c,cl.lookup x=some c->c<s.heap.objs.size:=λx c e=>by
  obtain⟨v,q⟩:=I.cell x c (hcl x c e)
  exact q.lt
 have ok:(BF X sc N' cl (s.heap.objs.size+1) s H fp).Ok:=by
  refine⟨I.ok.mod,O.kind,I.ok.glob,I.ok.blt,dD _,λx y c h1 h2=>I.ok.inj x y c (hcl x c h1) (hcl y c h2),λx hx=>?_,λx c hx=>?_,λ_=>I.ok.hd hc,I.ok.frames,.inl rfl,λb hb=>⟨?_,λx c e=>?_⟩,I.bs,bF I.ok.bsz I.sz,λb o e hb=>?_,λb hb hb2=>?_,I.stack,I.stkFree⟩
  ·exact hcl2 x (Ox (env:=X.env) O.cell hx)
  ·exact absurd (show false=true from hx) ar
  ·obtain⟨o,e⟩:=ho b hb
   exact bG (fz (ZB e))
  ·exact(hf b hb).2.2.2.2.1 x c (hcl x c e)
  ·rcases (hf b hb).2.2.2.1 with z | z
   ·exact I.ok.noex b o e z
   ·have h1:b<X.base.objs.size:=ZB e
    exact absurd (bH h1 (bF I.ok.bsz z)) (cP _)
  ·rcases aq.mp (I.stkSub b hb2) with z | z
   ·exact(hf b hb).2.1 z
   ·exact(hf b hb).2.2.1 z
 refine⟨ok,rfl,I.bare,?_,⟨_,hns,λi x v h1 h2 h3=>?_⟩,λx c e=>?_,?_,λx c e=>?_,λp hp=>absurd (show p∈([]:List (Addr×Obj)) from hp) (by simp),?_,?_⟩
 ·exact Un.laid hk (No _) (fr _ (No _))
 ·obtain⟨j,e1,e2⟩:=RQ h2
  obtain⟨c1,c2,c3⟩:=Mu O.cap h1 e1
  obtain⟨m,_,hl⟩:=I.loc
  obtain⟨u,r,l⟩:=hl j x v c2 e2 (.inr c3)
  refine⟨u,r,.inr ⟨C2 c1,?_⟩⟩
  rcases l with ⟨l1,_⟩ | ⟨_,c,l2,l3⟩
  ·have l1':X.env.scope.names.lookup x=some .local:=l1
   rcases c3 with c3 | c3 <;> (rw [l1'] at c3; cases c3)
  ·obtain⟨c',e'⟩:=hcl2 x (PySem.mem_of_lookup c1)
   have:c'=c:=Uf ((hcl x c' e').symm.trans l2)
   subst this
   obtain⟨oc,hoc,hocd⟩:=id l3
   exact⟨c',e',oc,hk _ _ hoc,hocd⟩
 ·obtain⟨v,oc,hoc,hocd⟩:=I.cell x c (hcl x c e)
  exact⟨v,oc,hk _ _ hoc,hocd⟩
 ·show BN H s.heap.objs.size (.lst []) (s.heap.objs.size+1)=none
  rw [Ac (Nat.succ_ne_self _)]
  exact fr _ (dD _)
 ·show BN H s.heap.objs.size (.lst []) c=none
  rw [Ac (bG (cellLt x c e))]
  exact I.freeC x c (hcl x c e)
 ·refine I.hok.laid hk (No _) ?_
  obtain⟨n,e⟩:=hD
  exact⟨TW _,[],n,.nil,e⟩
 ·unfold Cc
  show (js.map _).length=N'.length
  rw [Db]
  exact F1 O.cap
theorem Un.but{fs ex:List Addr}{H H1:Hp}{h h1 h':Heap}{C:Addr}(u:Un fs ex H H1 h h1)(hC:h.get? C=none)(hs:∀b,b≠C->h'.get? b=h1.get? b):Un fs ex H H1 h h':=by
 have ne:∀{b:Addr} {o:Obj},h.get? b=some o->b≠C:=λ{b o} e z=>by rw [z,hC] at e; cases e
 refine⟨λb o e n h1 h2=>(hs b (ne e)).trans (u.keep b o e n h1 h2),λb o e n h1 h2=>?_,u.free,λb o e h1=>?_,u.tups,u.frzs,u.tbls⟩
 ·obtain⟨sl,q⟩:=u.slot b o e n h1 h2
  exact⟨sl,(hs b (ne e)).trans q⟩
 ·obtain⟨o',q⟩:=u.there b o e h1
  exact⟨o',(hs b (ne e)).trans q⟩
theorem KW{sc:Scope}{N':List Str}{cl:List (Str×Addr)}{C:Addr}{fp:List Addr}{pins':List (Addr×Obj)}{σ':St}{H':Hp}{s':Shared}{h':Heap}(I:Inv X pins σ H s)(hf:∀b∈fp,Ks X pins H b)(hC:s.heap.objs.size<=C)
  (J:Inv (BF X sc N' cl C s H fp) pins' σ' H' s') (hs:∀b,b≠C->h'.get? b=s'.heap.get? b):Inv X pins σ H' { s' with heap:=h' }:=by
 have nC:s.heap.get? C=none:=by
  cases e:s.heap.get? C with
  | none=>rfl
  | some o=>exact absurd (ZB e) (Nat.not_lt.mpr hC)
 have hC':H' C=none:=J.free
 refine I.call' (s':={ s' with heap:=h' }) (ch:=fp) J.os (Un.but J.base nC hs) (λa o e=>?_) J.bare λb hb=>?_
 ·exact(J.hok a o e).stay (λb u hb q=>(hs b (λz=>by
   rw [z] at hb
   rcases hb with z2 | z2
   ·rw [← z2,hC'] at e; cases e
   ·rw [hC'] at z2; cases z2)).trans q) (λ_ q=>q) λ_ _ q=>q
 ·obtain⟨f0,f1,f2,f3,f4,f5⟩:=hf b hb
  exact⟨f3,f1,f4,f5⟩
end
noncomputable def ZK(X:Cx)(ifs:List Expr)(t:TT):Prop :=
 ∀(pins:List (Addr×Obj)) (s:Shared) (σ:St) (H:Hp) (Q:Bool->Hp->Prop),Inv X pins σ H s->t σ H Q ->
  wpAny (model X.prog X.w) X.A (forIn ifs true λc r=>if r=true then do let ok ← isTrue c X.env (eval c X.env); pure (cg ok) else pure (cg r)) (TP X pins σ Q) X.xe s
noncomputable def Zi:TT:=λ_ H Q=>Q true H
theorem P_{X:Cx}:ZK X [] Zi:=λpins s σ H Q I h=>wpAny_tests_nil ⟨H,I,h⟩
theorem VF{X:Cx}{c:Expr}{t:TT}(h:PT X c t):ZK X [c] t:=λpins s σ H Q I q=>wpAny_tests_one (h pins s σ H Q I q)
noncomputable def SX(X:Cx)(sc:Scope)(N':List Str)(js:List (Option Nat))(tg elt:Expr)(ifs:List Expr)(wi:TI):TE:=λσ H Q=>wi σ H λJ H1=>∀l,H1 l=none->X.K.lookup l=none->∀cl C s H0 fp,∃(g:TG) (tt:TT) (te:TE) (W:Nat->Nat->St->Hp->Prop),
 PG (BF X sc N' cl C s H0 fp) tg g/\ZK (BF X sc N' cl C s H0 fp) ifs tt/\PE (BF X sc N' cl C s H0 fp) elt te/\(∃m,W 0 m (Cc js σ) (BN H1 l (.lst [])))/\∀i m σ' H',W i m σ' H' ->
 (J.stop i H'/\Q (.ref l) H')\/(J.go i H'/\∀x H2,J.yld i H' x H2->g x σ' H2 λσ3 H3=>tt σ3 H3 λb H4=>if b=true then te σ3 H4 λy H5=>∃ys,H5 l=some (.lst ys)/\ys.length<sizeLine/\∃m',m'<m/\W (i+1) m' σ3 (BN H5 l (.lst (ys++[y]))) else ∃m',m'<m/\W (i+1) m' σ3 H4)
section
variable {X:Cx}{tg elt iter:Expr}{ifs:List Expr}{sc:Scope}{pos:Pos}{N':List Str}{js:List (Option Nat)}{wi:TI}{g:TG}{tt:TT}{te:TE}
theorem Lh{pins:List (Addr×Obj)}{σ:St}{H:Hp}{s:Shared}{cl:List (Str×Addr)}{C l it:Addr}{fp:List Addr}{tn:Nat->Heap->Prop}{J:It}{s3:Shared}{Q:VK}{R:Result->Shared->Prop}{W:Nat->Nat->St->Hp->Prop}{m0:Nat}{σ0:St}{H0:Hp}
  (I:Inv X pins σ H s) (hf:∀b∈fp,Ks X pins H b) (hlt:∀b∈fp,b<s.heap.objs.size) (hC:s.heap.objs.size<=C)
  (T:Turn X.prog X.w X.K tg J fp it tn)
  (hg:PG (BF X sc N' cl C s H fp) tg g) (ht:ZK (BF X sc N' cl C s H fp) ifs tt) (he:PE (BF X sc N' cl C s H fp) elt te)
  (hW:∀i m σ' H',W i m σ' H' ->
   (J.stop i H'/\Q (.ref l) H')\/(J.go i H'/\∀x H2,J.yld i H' x H2->g x σ' H2 λσ3 H3=>tt σ3 H3 λb H4=>if b=true then te σ3 H4 λy H5=>∃ys,H5 l=some (.lst ys)/\ys.length<sizeLine/\∃m',m'<m/\W (i+1) m' σ3 (BN H5 l (.lst (ys++[y]))) else ∃m',m'<m/\W (i+1) m' σ3 H4))
  (hR:∀σ' H' s',Inv (BF X sc N' cl C s H fp) [] σ' H' s'->Q (.ref l) H'->R (.ok .next) s')
  (I3:Inv (BF X sc N' cl C s H fp) [] σ0 H0 s3) (t3:tn 0 s3.heap) (f3:∀b∈fp,H0 b=none) (w0:W 0 m0 σ0 H0) :
  codeAny (model X.prog X.w) X.A (.compLoop (.ListComp elt [⟨tg,iter,ifs,0⟩] sc pos) 0 (.ref it) (.ref l) (compEnvC sc cl C X.env)) R s3:=by
 have stat:∀{H':Hp},(∀b∈fp,H' b=none)->∀b∈fp,Ks (BF X sc N' cl C s H fp) [] H' b:=λhn b hb=>by
  have q:=I3.ok.exf b hb
  refine⟨hn b hb,q.1,I3.ok.exfs b hb,.inl hb,q.2,λp hp=>absurd (show p∈([]:List (Addr×Obj)) from hp) (by simp)⟩
 refine Mt (λn s'=>∃i σ' H',Inv (BF X sc N' cl C s H fp) [] σ' H' s'/\tn i s'.heap/\(∀b∈fp,H' b=none)/\W i n σ' H') ?_ m0 ⟨0,σ0,H0,I3,t3,f3,w0⟩
 rintro n s4 ⟨i,σ4,H4,I4,st4,fr4,w4⟩
 rcases hW i n σ4 H4 w4 with ⟨stop,qn⟩ | ⟨go,step⟩
 ·refine Bs (T.done (BF X sc N' cl C s H fp) rfl rfl rfl rfl i [] s4 σ4 H4 (λ_ _=>False) I4 (stat fr4) st4 stop) λr s5 ⟨hr,I5⟩=>?_
  subst hr
  exact hR σ4 H4 s5 I5 qn
 ·refine Bs (T.item (BF X sc N' cl C s H fp) rfl rfl rfl rfl i [] s4 σ4 H4 (λ_ _=>False) I4 (stat fr4) st4 go) λr s5 ⟨u,hr,h5⟩=>?_
  subst hr
  refine Bs h5 λ_ s6 ⟨x,H6,I6,r6,y6,st6,fr6⟩=>?_
  have I6':=I6.pinned (stat fr6) (T.obj _ _ st6)
  refine Bs (hg _ s6 σ4 H6 x u _ I6' r6 (step x H6 y6)) λ_ s7 ⟨σ7,H7,I7,q7⟩=>?_
  have again:∀{σ9:St} {H9:Hp} {s9:Shared} {m':Nat},Inv (BF X sc N' cl C s H fp) ([]++J4 fp s6.heap) σ9 H9 s9->m'<n->W (i+1) m' σ9 H9->∃m,m<n/\∃i σ' H',Inv (BF X sc N' cl C s H fp) [] σ' H' s9/\tn i s9.heap/\(∀b∈fp,H' b=none)/\W i m σ' H':=λ{σ9 H9 s9 m'} I9 hm w9=>by
   refine⟨m',hm,i+1,σ9,H9,I9.unpinned,T.keep _ _ _ st6 λb hb o e=>(I9.pin (b,o) (bC _ (bC _ (Eu hb e)))).1,λb hb=>?_,w9⟩
   obtain⟨o,e,d⟩:=T.obj _ _ st6 b hb
   exact(I9.pin (b,o) (bC _ (bC _ (Eu hb e)))).2.1
  refine Bs (ht _ s7 σ7 H7 _ I7 q7) λok s8 ⟨H8,I8,q8⟩=>?_
  cases ok with
  | false =>
   have q8':∃m',m'<n/\W (i+1) m' σ7 H8:=q8
   obtain⟨m',hm,w8⟩:=q8'
   show ∃m,m<n/\_
   exact again I8 hm w8
  | true =>
   refine Bs (he _ s8 σ7 H8 _ I8 q8) λy s9 ⟨yv,H9,I9,ry,q9⟩=>?_
   obtain⟨ys,hl,hz,m',hm,w9⟩:=q9
   refine Bs (EO (X:=BF X sc N' cl C s H fp) _ s9 σ7 H9 (.ref l) [yv] (.ref l) [y] (λv H'=>v=.non/\H'=BN H9 l (.lst (ys++[yv]))) I9 rfl (.cons ry .nil) ⟨l,ys,yv,rfl,rfl,hl,hz,rfl,rfl⟩) λ_ sa ⟨v,Ha,Ia,_,_,eH⟩=>?_
   subst eH
   exact again Ia hm w9
theorem VH(hc:X.calm=true)(N':List Str)(js:List (Option Nat))(hi:PI X tg iter wi)
  (hB:Kg sc X.env.scope X.N N' js=true)
  (hs:autoParam (∀x,foldedSetIterable iter X.env x=pure x) zau2._auto_1) :
  PE X (.ListComp elt [⟨tg,iter,ifs,0⟩] sc pos) (SX X sc N' js tg elt ifs wi):=by
 intro pins s σ H Q I h
 have O:CompOk X sc N' js:=CompOk.of hB
 obtain⟨cl,hclos,hcl,hcl2⟩:=Kh (scope:=sc) (env:=X.env) λx hx=>I.ok.has x (O.free x hx)
 rw [eval_ListComp]
 refine wpAny_comprehension_free (use:=none) rfl hs hclos O.kind O.names (Bs (hi pins s σ H _ I h) λv s1 h1=>Bs h1 λitv s2 h2=>?_)
 obtain⟨it,fp,tn,J,H2,e,I2,T,st2,f2,hq⟩:=h2
 subst e
 have kfree:X.K.lookup s2.heap.objs.size=none:=by
  cases q:X.K.lookup s2.heap.objs.size with
  | none=>rfl
  | some o=>exact absurd (ZB (I2.kIn _ _ q)) (cP _)
 obtain⟨g,tt,te,W,hg,ht,he,⟨m0,w0⟩,hW⟩:=hq s2.heap.objs.size (I2.hok.fresh (No _)) kfree cl (s2.heap.objs.size+1) s2 H2 fp
 refine bO (wpAny_newFunctionEnv O.cell (by intro y hy; simp at hy) (λh₁ hns₁ hsb₁=>?_) O.kind)
 dsimp only at hns₁ hsb₁ ⊢
 generalize hH2:s2.heap.push { cls:=.type "list",dict:=none,data:=.seq ([]:List Value).toArray }=Hh at hns₁ hsb₁ ⊢
 have hCe:Hh.objs.size=s2.heap.objs.size+1:=by rw [← hH2,dE]
 have hlt:∀b∈fp,b<s2.heap.objs.size:=λb hb=>by
  obtain⟨o,e,_⟩:=T.obj _ _ st2 b hb
  exact ZB e
 have old:∀b o,s2.heap.get? b=some o->h₁.get? b=some o:=λb o e=>hsb₁.extBut b o (by rw [hCe]; exact bG (fz (ZB e))) (Ev _ (hH2▸Ev _ e))
 have hD:∃n,h₁.get? s2.heap.objs.size=some { cls:=.type "list",data:=.seq #[] n }:=⟨_,hsb₁.extBut _ _ (by rw [hCe]; exact bG (Nat.lt_succ_self _)) (Ev _ (hH2▸XV _ rfl))⟩
 have I3:∀tk,Inv (BF X sc N' cl (s2.heap.objs.size+1) s2 H2 fp) [] (Cc js σ) (BN H2 s2.heap.objs.size (.lst [])) { s2 with heap:=h₁,toks:=tk }:=λtk =>
  N8 I2 hc O hcl hcl2 f2 (λb hb=>let ⟨o,e,_⟩:=T.obj _ _ st2 b hb; ⟨o,e⟩) (by rw [← hCe]; exact hns₁) old hD
 have st3:tn 0 h₁:=T.keep _ _ _ st2 λb hb o e=>old b o e
 have fr3:∀b∈fp,BN H2 s2.heap.objs.size (.lst []) b=none:=λb hb=>by
  rw [Ac (bG (hlt b hb))]
  exact(f2 b hb).1
 have loop:∀tk,codeAny (model X.prog X.w) X.A (.compLoop (.ListComp elt [⟨tg,iter,ifs,0⟩] sc pos) 0 (.ref it) (.ref s2.heap.objs.size) (compEnvC sc cl (s2.heap.objs.size+1) X.env))
   (compPost (model X.prog X.w) X.A X.xe none (EP X pins σ Q) (.ref s2.heap.objs.size) (s2.heap.objs.size+1)) { s2 with heap:=h₁,toks:=tk }:=λtk=>by
  refine Lh (W:=W) (m0:=m0) (Q:=Q) I2 f2 hlt (dD _) T hg ht he hW (λσ' H' s' J' q'=>?_) (I3 tk) st3 fr3 w0
  obtain⟨m,hn,_⟩:=J'.loc
  exact⟨m,hn,λh' hs'=>⟨.ref _,H',KW I2 f2 (dD _) J' λb hb=>hs'.2 b hb,rfl,q'⟩⟩
 rw [show (newEnv sc Hh.objs.size X.env.globals cl X.env.qual none .none (some X.env) builtinsNs).locals=s2.heap.objs.size+1 from hCe]
 show codeAny (model X.prog X.w) X.A (.compStart (.ListComp elt [⟨tg,iter,ifs,0⟩] sc pos) 0 (.ref it) (.ref s2.heap.objs.size) (compEnvC sc cl (s2.heap.objs.size+1) X.env)) _ _
 exact codeAny_compStart_list (loop _) (T.self _ 0 _ _ _ st3 (loop _))
end
end L2
namespace L2
open PySem
structure ag (B:Heap) (l:List Env) (a C:Addr) (dx:Option Addr) (h:Heap):Prop where
 stays:B.StaysIn h
 new:B.get? a=none
 frames:h.FunFrames B l
 obj:∃vs sl tb,h.get? a=some ⟨.ref C,dx,.fields vs,sl⟩/\vs[2]?=some .none/\vs[1]?=some tb/\(tb=.none\/∃T oT ts,tb=.ref T/\B.get? T=none/\T≠a/\h.get? T=some oT/\oT.data=.fields ts/\3<ts.size)
section
variable {M:Model}{A:Around}{E:Value->Shared->Prop}{s:Shared}{B:Heap}{env:Env}{outer l:List Env}{L a C:Addr}{dx:Option Addr}{Q:Unit->Shared->Prop}
end
section
variable {prog:Program}{w:World}{A:Around}{E:Value->Shared->Prop}{R:Result->Shared->Prop}{h:Heap}{g:Array GenState}{d:Drawn}{t:Nat}{os:OsState}
variable {nm q:Str}{C N f:Addr}{bs bm bmB:List Value}{hdct:Bool}{sn:List Str}{sub:List Value}{ab:Bool}{col:Option Bool}{dd:Option Addr}{k0 k1 k2 k3 k5:Option Value}{B newId initId:String}{of:Obj}
end
noncomputable def ZE:List Value:=[.type "ValueError",.type "Exception",.type "BaseException",.type "object"]
structure XC (K:Frag) (nm:Str) (C U:Addr):Prop where
 obj:∃q N bs sn sub ab col dd k0 k1 k2 k3 k5,K.lookup C=some (excClassObj nm q C N bs (.ref U::ZE) true sn sub ab col dd k0 k1 k2 k3 k5 "ValueError.__new__")
 up:∃q N bs sn sub ab col dd k0 k1 k2 k3 k5 hd,K.lookup U=some (excClassObj "ThinError" q U N bs ZE hd sn sub ab col dd k0 k1 k2 k3 k5 "ValueError.__new__")
 kp:keepIn K (.ref C)=true
 ga:PySem.W.findIn K (.ref C) "__getattribute__"=some (some (.builtin "BaseException.__getattribute__"))
 gt:PySem.W.findIn K (.ref C) "__getattr__"=some none
 sa:PySem.W.findIn K (.ref C) "__setattr__"=some (some (.builtin "object.__setattr__"))
 at_:nsIn K mainGlobals nm=some (some (.ref C))
 atU:nsIn K mainGlobals "ThinError"=some (some (.ref U))
 ca:PySem.W.findIn K (.ref C) "__class__"=some (some (.builtin "object.__class__"))
 nw:PySem.W.findIn K (.ref C) "word"=some none
 nn:PySem.W.findIn K (.ref C) "number"=some none
 nr:PySem.W.findIn K (.ref C) "row"=some none
section
variable {prog:Program}{w:World}{A:Around}{E:Value->Shared->Prop}{s:Shared}{K:Frag}{nm name:Str}{x C U:Addr}{v:Value}{R:Result->Shared->Prop}
end
section
variable {M:Model}{prog:Program}{w:World}{A:Around}{E:Value->Shared->Prop}{R:Result->Shared->Prop}{h:Heap}{g:Array GenState}{d:Drawn}{t:Nat}{os:OsState}
variable {K:Frag}{nm q:Str}{C U N f:Addr}{bs:List Value}{sn:List Str}{sub:List Value}{ab:Bool}{col:Option Bool}{dd:Option Addr}{k0 k1 k2 k3 k5:Option Value}{rest:List Value}
end
section
variable {prog:Program}{w:World}{A:Around}{E:Value->Shared->Prop}{s:Shared}
end
end L2
namespace L2
open PySem PySem.Spec PyProof.Rows
structure ao (P:Program) (w:World) (outer:List Env) (H:Hp) (s:Shared) (a C:Addr) (dx:Option Addr) (B:Heap) (H':Hp) (s':Shared):Prop where
 os:s'.os=s.os
 bare:AllBare s'.gens
 un:Un (Rg outer) [] H H' s.heap s'.heap
 hok:HOk P w H' B
 all:∀b o o',s.heap.get? b=some o->b∉Rg outer->s'.heap.get? b=some o'->B.get? b=some o'
 fly:ag B outer a C dx s'.heap
 new:s.heap.objs.size<=a
 free:H' a=none
section
variable {P:Program}{w:World}{outer:List Env}{H H':Hp}{s s':Shared}{a C:Addr}{dx:Option Addr}{B h':Heap}
end
section
variable {X:Cx}{pins:List (Addr×Obj)}{σ:St}{H H':Hp}{s s':Shared}{a C:Addr}{dx:Option Addr}{B h':Heap}
end
noncomputable def XF(d:Addr)(fs:List (Str×V))(h:Heap):Prop:=∃mA,h.Ns1 d mA/\(∀f,RelO (fs.lookup f) (mA f))/\PySem.Within mA (fs.map (·.1))/\fs.length<=1000
section
variable {X:Cx}{pins:List (Addr×Obj)}{σ:St}{H:Hp}{s:Shared}{a C U:Addr}{nm f:Str}{A:Around}{E:Value->Shared->Prop}
end
section
variable {X:Cx}{o value:Expr}{nm f:Str}{C U:Addr}{pos pos':Pos}{ta tv:TE}
end
section
variable {X:Cx}{pins:List (Addr×Obj)}{σ:St}{H H1:Hp}{s s1:Shared}{a C U:Addr}{dx:Option Addr}{nm:Str}
end
section
variable {X:Cx}{pins:List (Addr×Obj)}{σ:St}{H:Hp}{s:Shared}{C U:Addr}{nm:Str}{R:XK}
end
section
variable {X:Cx}{pins:List (Addr×Obj)}{σ:St}{H:Hp}{s:Shared}{C U f:Addr}{nm k1 k2 p0 p1 p2:Str}{R:XK}{E:Value->Shared->Prop}{k:Nat}{fd:FuncData}{us:List Value}{v1 v2:V}{vs:List V}
end
section
variable {X:Cx}{st:Stmt}{rest:List Stmt}{t u:TSX}{te:TEX}{e:Expr}{es:List Expr}{ta:TA}{x nm k1 k2 p0 p1 p2:Str}{p pos cpos:Pos}{C U f:Addr}{k:Nat}{fd:FuncData}{ps:List Str}{sp:Sp}
end
section
variable {X:Cx}{A:Around}{pins:List (Addr×Obj)}{σ:St}{H:Hp}{s:Shared}
end
noncomputable def XT(C:Addr)(dx:Option Addr)(a:Addr)(u:HO):Prop:=∃vs sl,u=.frz ⟨.ref C,dx,.fields vs,sl⟩ (.own a)/\vs[2]?=some .none
section
variable {X:Cx}{i:Nat}{n x:Str}{np pos:Pos}{b₀:Stmt}{suite body:List Stmt}{rest:List ExceptHandler}{Dc U:Addr}{nm:Str}{th:TH}{ts:Addr->TS}{tb:TSX}
end
end L2
namespace Dp
open PySem PySem.Spec PyProof.Rows L2
inductive D where
 | non | bl (b:Bool) | int (i:Int) | str (x:Str) | tup (xs:List D) | lst (xs:List D) | dic (ks:List Key) (xs:List D) | fdi (ks:List Key) (xs:List D) | dit (ks:List (List Key)) (xs:List D)
 deriving Inhabited
noncomputable def NdT(M:Addr->Prop)(H:Hp)(a:Addr)(vs:List V):Prop:=H a=some (.tup vs)
noncomputable def NdL(M:Addr->Prop)(H:Hp)(a:Addr)(vs:List V):Prop:=¬M a/\H a=some (.lst vs)
noncomputable def NdD(M:Addr->Prop)(H:Hp)(a:Addr)(ks:List Key)(vs:List V):Prop:=¬M a/\H a=some (.dK (ks.zip vs))
noncomputable def NdF(M:Addr->Prop)(H:Hp)(a:Addr)(ks:List Key)(vs:List V):Prop:=∃o,¬M a/\H a=some (.frz o (.dK (ks.zip vs)))
noncomputable def NdU(M:Addr->Prop)(H:Hp)(a:Addr)(ks:List (List Key))(vs:List V):Prop:=¬M a/\H a=some (.dT (ks.zip vs))
mutual
noncomputable def At(K:Frag)(M:Addr->Prop)(H:Hp):D->V->Prop
 | .non,v=>v=.non
 | .bl b,v=>v=.bl b
 | .int i,v=>v=.int i
 | .str x,v=>v=.str x/\x.length<=sizeLine
 | .tup ds,v=>∃a vs,v=.ref a/\NdT M H a vs/\Ats K M H ds vs
 | .lst ds,v=>∃a vs,v=.ref a/\NdL M H a vs/\Ats K M H ds vs
 | .dic ks ds,v=>∃a vs,v=.ref a/\NdD M H a ks vs/\ks.length=ds.length/\Ats K M H ds vs
 | .fdi ks ds,v=>∃a vs,v=.ref a/\NdF M H a ks vs/\ks.length=ds.length/\Ats K M H ds vs
 | .dit ks ds,v=>∃a vs,v=.ref a/\NdU M H a ks vs/\ks.length=ds.length/\Ats K M H ds vs
noncomputable def Ats(K:Frag)(M:Addr->Prop)(H:Hp):List D->List V->Prop
 | [],vs=>vs=[]
 | d::ds,vs=>∃v r,vs=v::r/\At K M H d v/\Ats K M H ds r
end
section
variable {K:Frag}{M M':Addr->Prop}{H H':Hp}{a:Addr}{vs:List V}{ks:List Key}
theorem NdT.sq(h:NdT M H a vs):SqT K H a vs:=.inl (.inl h)
theorem NdL.sq(h:NdL M H a vs):SqL K H a vs:=.inl (.inl h.2)
noncomputable def Pres(M:Addr->Prop)(H:Hp)(M':Addr->Prop)(H':Hp):Prop:=(∀b o,H b=some o->¬M b->H' b=some o)/\(∀b,M' b->M b\/H b=none)/\∀b vs,H b=some (.tup vs)->H' b=some (.tup vs)
theorem Pres.nd{u:HO}(p:Pres M H M' H')(n:¬M a)(h:H a=some u):¬M' a/\H' a=some u:=by
 refine⟨λz=>?_,p.1 _ _ h n⟩
 rcases p.2.1 a z with z | z
 ·exact n z
 ·rw [z] at h; cases h
theorem NdT.pres(p:Pres M H M' H')(h:NdT M H a vs):NdT M' H' a vs:=p.2.2 _ _ h
theorem NdL.pres(p:Pres M H M' H')(h:NdL M H a vs):NdL M' H' a vs:=p.nd h.1 h.2
theorem NdD.pres(p:Pres M H M' H')(h:NdD M H a ks vs):NdD M' H' a ks vs:=p.nd h.1 h.2
theorem NdU.pres{ks:List (List Key)}(p:Pres M H M' H')(h:NdU M H a ks vs):NdU M' H' a ks vs:=p.nd h.1 h.2
theorem NdF.pres(p:Pres M H M' H')(h:NdF M H a ks vs):NdF M' H' a ks vs:=let ⟨o,h1,h2⟩:=h; ⟨o,p.nd h1 h2⟩
mutual
theorem At.pres(p:Pres M H M' H'):∀{d:D} {v:V},At K M H d v->At K M' H' d v
 | .non,v,h=>h
 | .bl b,v,h=>h
 | .int i,v,h=>h
 | .str x,v,h=>h
 | .tup ds,v,h=>by
  obtain⟨a,vs,e,hn,hs⟩:=h
  exact⟨a,vs,e,hn.pres p,Ats.pres p hs⟩
 | .lst ds,v,h=>by
  obtain⟨a,vs,e,hn,hs⟩:=h
  exact⟨a,vs,e,hn.pres p,Ats.pres p hs⟩
 | .dic ks ds,v,h=>by
  obtain⟨a,vs,e,hn,hl,hs⟩:=h
  exact⟨a,vs,e,hn.pres p,hl,Ats.pres p hs⟩
 | .fdi ks ds,v,h=>by
  obtain⟨a,vs,e,hn,hl,hs⟩:=h
  exact⟨a,vs,e,hn.pres p,hl,Ats.pres p hs⟩
 | .dit ks ds,v,h=>by
  obtain⟨a,vs,e,hn,hl,hs⟩:=h
  exact⟨a,vs,e,hn.pres p,hl,Ats.pres p hs⟩
theorem Ats.pres(p:Pres M H M' H'):∀{ds:List D} {vs:List V},Ats K M H ds vs->Ats K M' H' ds vs
 | [],vs,h=>h
 | d::ds,vs,h=>by
  obtain⟨v,r,e,h1,h2⟩:=h
  exact⟨v,r,e,At.pres p h1,Ats.pres p h2⟩
end
theorem Pres.trans{M1 M2 M3:Addr->Prop}{H1 H2 H3:Hp}(p:Pres M1 H1 M2 H2)(q:Pres M2 H2 M3 H3):Pres M1 H1 M3 H3:=by
 refine⟨λb o e n=>?_,λb z=>?_,λb vs e=>q.2.2 b vs (p.2.2 b vs e)⟩
 ·refine q.1 b o (p.1 b o e n) λz=>?_
  rcases p.2.1 b z with z | z
  ·exact n z
  ·rw [z] at e; cases e
 ·rcases q.2.1 b z with z | z
  ·exact p.2.1 b z
  ·cases e:H1 b with
   | none=>exact .inr rfl
   | some o =>
    by_cases n:M1 b
    ·exact .inl n
    ·rw [p.1 b o e n] at z; cases z
theorem Pres.refl(M:Addr->Prop)(H:Hp):Pres M H M H:=⟨λ_ _ e _=>e,λ_ z=>.inl z,λ_ _ e=>e⟩
theorem Pres.less(h:∀b,M' b->M b):Pres M H M' H:=⟨λ_ _ e _=>e,λb z=>.inl (h b z),λ_ _ e=>e⟩
theorem Ats.length:∀{ds:List D} {vs:List V},Ats K M H ds vs->vs.length=ds.length
 | [],vs,h=>by cases h; rfl
 | d::ds,vs,h=>by
  obtain⟨v,r,e,h1,h2⟩:=h
  subst e
  rw [Tk,Tk,Ats.length h2]
theorem Ats.get:∀{ds:List D} {vs:List V} {i:Nat} {d:D},Ats K M H ds vs->ds[i]?=some d->∃v,vs[i]?=some v/\At K M H d v
 | [],vs,i,d,h,e=>by simp at e
 | d0::ds,vs,0,d,h,e=>by
  obtain⟨v,r,e1,h1,h2⟩:=h
  simp at e
  subst e e1
  exact⟨v,rfl,h1⟩
 | d0::ds,vs,i+1,d,h,e=>by
  obtain⟨v,r,e1,h1,h2⟩:=h
  subst e1
  obtain⟨u,e2,h3⟩:=Ats.get (i:=i) (d:=d) h2 (by simpa using e)
  exact⟨u,by simpa using e2,h3⟩
theorem Ats.append:∀{ds es:List D} {vs us:List V},Ats K M H ds vs->Ats K M H es us->Ats K M H (ds++es) (vs++us)
 | [],es,vs,us,h,g=>by cases h; exact g
 | d::ds,es,vs,us,h,g=>by
  obtain⟨v,r,e,h1,h2⟩:=h
  subst e
  exact⟨v,r++us,rfl,h1,Ats.append h2 g⟩
theorem Ats.drop:∀{ds:List D} {vs:List V} (n:Nat),Ats K M H ds vs->Ats K M H (ds.drop n) (vs.drop n)
 | ds,vs,0,h=>h
 | [],vs,n+1,h=>by cases h; exact rfl
 | d::ds,vs,n+1,h=>by
  obtain⟨v,r,e,h1,h2⟩:=h
  subst e
  exact Ats.drop n h2
theorem Ats.take:∀{ds:List D} {vs:List V} (n:Nat),Ats K M H ds vs->Ats K M H (ds.take n) (vs.take n)
 | ds,vs,0,h=>rfl
 | [],vs,n+1,h=>by cases h; exact rfl
 | d::ds,vs,n+1,h=>by
  obtain⟨v,r,e,h1,h2⟩:=h
  subst e
  exact⟨v,r.take n,rfl,h1,Ats.take n h2⟩
theorem Ats.one{d:D}{v:V}(h:At K M H d v):Ats K M H [d] [v]:=⟨v,[],rfl,h,rfl⟩
theorem Ats.reverse:∀{ds:List D} {vs:List V},Ats K M H ds vs->Ats K M H ds.reverse vs.reverse
 | [],vs,h=>by cases h; exact rfl
 | d::ds,vs,h=>by
  obtain⟨v,r,e,h1,h2⟩:=h
  subst e
  rw [dY,dY]
  exact Ats.append (Ats.reverse h2) (Ats.one h1)
end
inductive Kd where
 | sh | tp | fr
noncomputable def Tops(K:Frag)(M:Addr->Prop)(H:Hp)(a:Addr):D->Prop
 | .lst ds=>∃vs,H a=some (.lst vs)/\Ats K M H ds vs
 | .dic ks ds=>∃vs,H a=some (.dK (ks.zip vs))/\ks.length=ds.length/\Ats K M H ds vs
 | .dit ks ds=>∃vs,H a=some (.dT (ks.zip vs))/\ks.length=ds.length/\Ats K M H ds vs
 | _=>False
theorem Tops.notT{K:Frag}{M:Addr->Prop}{H:Hp}{a:Addr}{d:D}(h:Tops K M H a d){vs:List V}:H a≠some (.tup vs):=λq=>by
 cases d with
 | lst ds=>obtain⟨us,e,_⟩:=h; rw [e] at q; cases q
 | dic ks ds=>obtain⟨us,e,_⟩:=h; rw [e] at q; cases q
 | dit ks ds=>obtain⟨us,e,_⟩:=h; rw [e] at q; cases q
 | _=>exact h.elim
theorem Tops.pres{K:Frag}{M M':Addr->Prop}{H H':Hp}{a:Addr}{d:D}(h:Tops K M H a d)(p:Pres M H M' H')(e:∀o,H a=some o->H' a=some o):Tops K M' H' a d:=by
 cases d with
 | lst ds=>obtain⟨vs,h1,h2⟩:=h; exact⟨vs,e _ h1,h2.pres p⟩
 | dic ks ds=>obtain⟨vs,h1,h2,h3⟩:=h; exact⟨vs,e _ h1,h2,h3.pres p⟩
 | dit ks ds=>obtain⟨vs,h1,h2,h3⟩:=h; exact⟨vs,e _ h1,h2,h3.pres p⟩
 | _=>exact(show False from h).elim
theorem Tops.at{K:Frag}{M:Addr->Prop}{H:Hp}{a:Addr}{d:D}(h:Tops K M H a d)(n:¬M a):At K M H d (.ref a):=by
 cases d with
 | lst ds=>obtain⟨vs,h1,h2⟩:=h; exact⟨a,vs,rfl,⟨n,h1⟩,h2⟩
 | dic ks ds=>obtain⟨vs,h1,h2,h3⟩:=h; exact⟨a,vs,rfl,⟨n,h1⟩,h2,h3⟩
 | dit ks ds=>obtain⟨vs,h1,h2,h3⟩:=h; exact⟨a,vs,rfl,⟨n,h1⟩,h2,h3⟩
 | _=>exact(show False from h).elim
noncomputable def AtT(K:Frag)(U:Addr->Prop)(M:Addr->Prop)(H:Hp):D->V->Prop
 | .lst ds,v=>∃a vs,v=.ref a/\¬U a/\Rd H a (.lst vs)/\Ats K M H ds vs
 | .dic ks ds,v=>∃a vs,v=.ref a/\¬U a/\H a=some (.dK (ks.zip vs))/\ks.length=ds.length/\Ats K M H ds vs
 | .dit ks ds,v=>∃a vs,v=.ref a/\¬U a/\H a=some (.dT (ks.zip vs))/\ks.length=ds.length/\Ats K M H ds vs
 | d,v=>At K M H d v
theorem Tops.att{K:Frag}{U M:Addr->Prop}{H:Hp}{a:Addr}{d:D}(h:Tops K M H a d)(n:¬U a):AtT K U M H d (.ref a):=by
 cases d with
 | lst ds=>obtain⟨vs,h1,h2⟩:=h; exact⟨a,vs,rfl,n,.inl h1,h2⟩
 | dic ks ds=>obtain⟨vs,h1,h2,h3⟩:=h; exact⟨a,vs,rfl,n,h1,h2,h3⟩
 | dit ks ds=>obtain⟨vs,h1,h2,h3⟩:=h; exact⟨a,vs,rfl,n,h1,h2,h3⟩
 | _=>exact(show False from h).elim
noncomputable def VR(K:Frag)(U:Addr->Prop)(M:Addr->Prop)(H H':Hp):Kd->V->D->Prop
 | .sh,v,d=>At K M H' d v
 | .tp,v,d=>AtT K U M H' d v
 | .fr,v,d=>∃a,v=.ref a/\H a=none/\Tops K (λb=>M b\/b=a) H' a d
mutual
noncomputable def E9:D->Bool
 | .tup ds=>CD ds
 | .lst ds=>CD ds
 | .dic _ _=>false
 | .fdi _ _=>false
 | .dit _ _=>false
 | _=>true
noncomputable def CD:List D->Bool
 | []=>true
 | d::ds=>E9 d&&CD ds
end
structure Fd where
 a:Addr
 b:Addr
 t:Option (List Key×List D×List V)
noncomputable def ZO(M:Addr->Prop)(H:Hp)(f:Fd)(n:Nat):Prop :=
 ∃(at_ rest:Int) (cells:List Int),H f.1=some (.lst [.ref f.2,.int at_,.int rest])/\f.2≠f.1/\NdL M H f.2 (cells.map V.int)/\cells.length<=63/\0<=at_/\at_+n<=2 ^ 60
noncomputable def Wh(K:Frag)(M:Addr->Prop)(H:Hp)(a:Addr)(ks:List Key)(ds:List D)(vs:List V)(n:Nat):Prop:=∃r:Int,H a=some (.dK ((ks++[(bJ "room" : Key)]).zip (vs++[V.int r])))/\ks.length=ds.length/\Ats K M H ds vs/\(n:Int)<=r/\r<=100000/\CD ds=true
noncomputable def FeedOk(K:Frag)(M:Addr->Prop)(H:Hp)(f:Fd)(n:Nat):Prop:=f.t=none/\ZO M H f n\/∃ks ds vs,f.t=some (ks,ds,vs)/\Wh K M H f.1 ks ds vs n
noncomputable def FeedC(K:Frag)(F:Option Fd)(M:Addr->Prop)(H:Hp)(n:Nat):Prop:=∀f,F=some f->FeedOk K M H f n
noncomputable def Ext(U:Addr->Prop)(H H':Hp):Prop:=∀b o,H b=some o->∃o',H' b=some o'/\(¬U b->o'=o)/\∀vs,o=.tup vs->o'=o
theorem Ext.keep{U:Addr->Prop}{H H':Hp}(p:Ext U H H'){b:Addr}{o:HO}(e:H b=some o)(n:¬U b):H' b=some o:=by
 obtain⟨o',q,r,_⟩:=p b o e
 rw [q,r n]
theorem Ext.tup{U:Addr->Prop}{H H':Hp}(p:Ext U H H'){b:Addr}{vs:List V}(e:H b=some (.tup vs)):H' b=some (.tup vs):=by
 obtain⟨o',q,_,r⟩:=p b _ e
 rw [q,r vs rfl]
theorem Ext.free{U:Addr->Prop}{H H':Hp}(p:Ext U H H'){b:Addr}(e:H' b=none):H b=none:=by
 cases q:H b with
 | none=>rfl
 | some o =>
  obtain⟨o',z,_⟩:=p b o q
  rw [e] at z; cases z
theorem Ext.refl(U:Addr->Prop)(H:Hp):Ext U H H:=λ_ o e=>⟨o,e,λ_=>rfl,λ_ _=>rfl⟩
theorem Ext.trans{U:Addr->Prop}{H1 H2 H3:Hp}(p:Ext U H1 H2)(q:Ext U H2 H3):Ext U H1 H3:=λb o e=>by
 obtain⟨o',e1,r1,t1⟩:=p b o e
 obtain⟨o2,e2,r2,t2⟩:=q b o' e1
 exact⟨o2,e2,λn=>(r2 n).trans (r1 n),λvs z=>(t2 vs ((t1 vs z).trans z)).trans (t1 vs z)⟩
noncomputable def Grow(H H':Hp):Prop:=H'=H\/∃p o,H p=none/\H'=BN H p o
theorem Grow.all{H H':Hp}(g:Grow H H'):∀b o,H b=some o->H' b=some o:=by
 intro b o e
 rcases g with rfl | ⟨p,u,n,rfl⟩
 ·exact e
 ·rw [Ac (BE e n)]; exact e
theorem Grow.refl{H:Hp}:Grow H H:=.inl rfl
theorem Grow.ext{U:Addr->Prop}{H H':Hp}(g:Grow H H'):Ext U H H':=λb o e=>⟨o,g.all b o e,λ_=>rfl,λ_ _=>rfl⟩
theorem Grow.pres{M:Addr->Prop}{H H':Hp}(g:Grow H H'):Pres M H M H':=⟨λb o e _=>g.all b o e,λ_ z=>.inl z,λb vs e=>g.all b _ e⟩
theorem FeedOk.pres{K:Frag}{M M':Addr->Prop}{H H':Hp}{f:Fd}{n:Nat}(h:FeedOk K M H f n)(p:Pres M H M' H')(e:∀o,H f.1=some o->H' f.1=some o):FeedOk K M' H' f n:=by
 rcases h with ⟨t,a,r,cs,h1,h2,h3,h4⟩ | ⟨ks,ds,vs,t,r,h1,h2,h3,h4⟩
 ·exact .inl ⟨t,a,r,cs,e _ h1,h2,h3.pres p,h4⟩
 ·exact .inr ⟨ks,ds,vs,t,r,e _ h1,h2,h3.pres p,h4⟩
theorem FeedC.pres{K:Frag}{F:Option Fd}{M M':Addr->Prop}{H H':Hp}{n:Nat}(h:FeedC K F M H n)(p:Pres M H M' H')(e:∀f o,F=some f->H f.1=some o->H' f.1=some o):FeedC K F M' H' n:=λf hf=>(h f hf).pres p λo q=>e f o hf q
theorem FeedC.grow{K:Frag}{F:Option Fd}{M:Addr->Prop}{H H':Hp}{n:Nat}(h:FeedC K F M H n)(g:Grow H H'):FeedC K F M H' n:=h.pres g.pres λf o _ e=>g.all f.1 o e
theorem FeedC.more{K:Frag}{F:Option Fd}{M:Addr->Prop}{H:Hp}{n:Nat}(h:FeedC K F M H n)(a:Addr)(ha:∀f,F=some f->f.t=none->f.2≠a)(hw:∀f ks ds vs,F=some f->f.t=some (ks,ds,vs)->Ats K (λb=>M b\/b=a) H ds vs):FeedC K F (λb=>M b\/b=a) H n:=λf hf=>by
 rcases h f hf with ⟨t,x,r,cs,h1,h2,h3,h4⟩ | ⟨ks,ds,vs,t,r,h1,h2,h3,h4⟩
 ·exact .inl ⟨t,x,r,cs,h1,h2,⟨λz=>z.elim h3.1 (ha f hf t),h3.2⟩,h4⟩
 ·exact .inr ⟨ks,ds,vs,t,r,h1,h2,hw f ks ds vs hf t,h4⟩
noncomputable def AtX(K:Frag)(M:Addr->Prop)(H:Hp)(a:Addr)(nm:Str)(ks:List Str)(ds:List D):Prop:=∃C U dx u vs,XC K nm C U/\(¬M a/\H a=some u)/\XT C dx a u/\(dx=none/\ks=[]/\vs=[]\/∃d,dx=some d/\¬M d/\H d=some (.ext (XF d (ks.zip vs))))/\ks.length=ds.length/\Ats K M H ds vs
theorem AtX.pres{K:Frag}{M M':Addr->Prop}{H H':Hp}{a:Addr}{nm:Str}{ks:List Str}{ds:List D}(h:AtX K M H a nm ks ds)(p:Pres M H M' H'):AtX K M' H' a nm ks ds:=by
 obtain⟨C,U,dx,u,vs,c,⟨n,ha⟩,x,hd,hl,hs⟩:=h
 refine⟨C,U,dx,u,vs,c,p.nd n ha,x,?_,hl,hs.pres p⟩
 rcases hd with z | ⟨d,e1,n1,h1⟩
 ·exact .inl z
 ·exact .inr ⟨d,e1,p.nd n1 h1⟩
inductive Slot where
 | no | sh (d:D) | br (d:D) | fd | ow (d:D) | lt (a:Addr) (d:D) | ex (a:Addr) (nm:Str) (ks:List Str) (ds:List D) | wd (ks:List Key) (ds:List D)
noncomputable def Slot.owns:Slot->Bool
 | .ow _=>true
 | .lt _ _=>true
 | _=>false
noncomputable def SlotOk(K:Frag)(F:Option Fd)(U:Addr->Prop)(M:Addr->Prop)(H:Hp):Slot->Option V->Prop
 | .no,_=>True
 | .sh d,o=>∃v,o=some v/\At K M H d v
 | .br d,o=>∃v,o=some v/\AtT K U M H d v
 | .fd,o=>∃f,o=some (.ref f.1)/\F=some f/\f.t=none
 | .wd ks ds,o=>∃f vs,o=some (.ref f.1)/\F=some f/\f.t=some (ks,ds,vs)
 | .ow d,o=>∃a,o=some (.ref a)/\M a/\¬U a/\Tops K M H a d
 | .lt a d,o=>o=some (.ref a)/\M a/\¬U a/\Tops K M H a d
 | .ex a nm ks ds,o=>o=some (.ref a)/\AtX K M H a nm ks ds
structure Fm where
 M0:Addr->Prop
 F:Option Fd
 U:Addr->Prop
 V:Addr->Prop
 H0:Hp
 pins:List ((Addr->Prop)×Hp)
 kp:List (Addr×HO)
noncomputable def Apart(ρ:List Slot)(σ:L2.St):Prop:=∀(i j:Nat) (s t:Slot) (a:Addr),ρ[i]?=some s->s.owns=true->ρ[j]?=some t->t.owns=true->(σ[i]?).getD none=some (.ref a)->(σ[j]?).getD none=some (.ref a)->i=j
structure Rel (K:Frag) (C:Fm) (M:Addr->Prop) (H:Hp) (n:Nat) (ρ:List Slot) (σ:L2.St):Prop where
 len:ρ.length=σ.length
 sub:∀a,C.M0 a->M a
 dom:∀a,M a->∃o,H a=some o
 ext:Ext C.U C.H0 H
 fU:∀f,C.F=some f->C.U f.1
 uV:∀a,C.U a->C.V a
 vM:∀a,C.V a->M a
 feed:FeedC K C.F M H n
 sl:∀(i:Nat) (s:Slot),ρ[i]?=some s->SlotOk K C.F C.V M H s ((σ[i]?).getD none)
 pin:∀p∈C.pins,Pres p.1 p.2 M H
 br0:∀(i:Nat) (d:D) (a:Addr),ρ[i]?=some (.br d)->(σ[i]?).getD none=some (.ref a)->∃o,C.H0 a=some o
 new:∀(i:Nat) (s:Slot) (a:Addr),ρ[i]?=some s->s.owns=true->(σ[i]?).getD none=some (.ref a)->¬C.M0 a/\C.H0 a=none
 two:Apart ρ σ
 kept:∀p∈C.kp,H p.1=some p.2/\M p.1/\¬C.V p.1/\∀(i:Nat) (d:D),ρ[i]?=some (.ow d)->(σ[i]?).getD none≠some (.ref p.1)
section
variable {K:Frag}{C:Fm}{M:Addr->Prop}{H H':Hp}{n n':Nat}{ρ:List Slot}{σ:L2.St}{d:D}{v:V}{κ:Kd}
theorem Rel.pres(R:Rel K C M H n ρ σ)(e:Ext C.U H H'):Pres M H M H':=⟨λb o q nb=>e.keep q λz=>nb (R.vM b (R.uV b z)),λ_ z=>.inl z,λb vs q=>e.tup q⟩
theorem AtT.pres{U V':Addr->Prop}{M':Addr->Prop}(h:AtT K V' M H d v)(p:Pres M H M' H')(e:Ext U H H')(uV:∀a,U a->V' a):AtT K V' M' H' d v:=by
 cases d with
 | lst ds =>
  obtain⟨a,vs,e1,n1,hq,hs⟩:=h
  refine⟨a,vs,e1,n1,?_,hs.pres p⟩
  rcases hq with hq | ⟨o,hq⟩
  ·exact .inl (e.keep hq λz=>n1 (uV a z))
  ·exact .inr ⟨o,e.keep hq λz=>n1 (uV a z)⟩
 | dic ks ds =>
  obtain⟨a,vs,e1,n1,hq,hl,hs⟩:=h
  exact⟨a,vs,e1,n1,e.keep hq λz=>n1 (uV a z),hl,hs.pres p⟩
 | dit ks ds =>
  obtain⟨a,vs,e1,n1,hq,hl,hs⟩:=h
  exact⟨a,vs,e1,n1,e.keep hq λz=>n1 (uV a z),hl,hs.pres p⟩
 | non=>exact At.pres (K:=K) p (d:=.non) h
 | bl b=>exact At.pres (K:=K) p (d:=.bl b) h
 | int i=>exact At.pres (K:=K) p (d:=.int i) h
 | str x=>exact At.pres (K:=K) p (d:=.str x) h
 | tup ds=>exact At.pres (K:=K) p (d:=.tup ds) h
 | fdi ks ds=>exact At.pres (K:=K) p (d:=.fdi ks ds) h
theorem AtT.same{U V':Addr->Prop}{M':Addr->Prop}(h:AtT K U M H d v)(p:Pres M H M' H')(e:∀a o,v=.ref a->H a=some o->H' a=some o)(nv:∀a,v=.ref a->¬U a->¬V' a):AtT K V' M' H' d v:=by
 cases d with
 | lst ds =>
  obtain⟨a,vs,e1,n1,hq,hs⟩:=h
  refine⟨a,vs,e1,nv a e1 n1,?_,hs.pres p⟩
  rcases hq with hq | ⟨o,hq⟩
  ·exact .inl (e a _ e1 hq)
  ·exact .inr ⟨o,e a _ e1 hq⟩
 | dic ks ds =>
  obtain⟨a,vs,e1,n1,hq,hl,hs⟩:=h
  exact⟨a,vs,e1,nv a e1 n1,e a _ e1 hq,hl,hs.pres p⟩
 | dit ks ds =>
  obtain⟨a,vs,e1,n1,hq,hl,hs⟩:=h
  exact⟨a,vs,e1,nv a e1 n1,e a _ e1 hq,hl,hs.pres p⟩
 | non=>exact At.pres (K:=K) p (d:=.non) h
 | bl b=>exact At.pres (K:=K) p (d:=.bl b) h
 | int i=>exact At.pres (K:=K) p (d:=.int i) h
 | str x=>exact At.pres (K:=K) p (d:=.str x) h
 | tup ds=>exact At.pres (K:=K) p (d:=.tup ds) h
 | fdi ks ds=>exact At.pres (K:=K) p (d:=.fdi ks ds) h
theorem AtT.lies{U:Addr->Prop}{a:Addr}(h:AtT K U M H d (.ref a)):∃o,H a=some o:=by
 cases d with
 | lst ds =>
  obtain⟨b,vs,e,_,hq,_⟩:=h
  cases e
  rcases hq with hq | ⟨o,hq⟩
  ·exact⟨_,hq⟩
  ·exact⟨_,hq⟩
 | dic ks ds =>
  obtain⟨b,vs,e,_,hq,_⟩:=h
  cases e
  exact⟨_,hq⟩
 | dit ks ds =>
  obtain⟨b,vs,e,_,hq,_⟩:=h
  cases e
  exact⟨_,hq⟩
 | non=>cases (show V.ref a=.non from h)
 | bl b=>cases (show V.ref a=.bl b from h)
 | int i=>cases (show V.ref a=.int i from h)
 | str x=>cases (show V.ref a=.str x/\_ from h).1
 | tup ds =>
  obtain⟨b,vs,e,hq,_⟩:=h
  cases e
  exact⟨_,hq⟩
 | fdi ks ds =>
  obtain⟨b,vs,e,⟨o,_,hq⟩,_⟩:=h
  cases e
  exact⟨_,hq⟩
theorem SlotOk.pres{F:Option Fd}{U V' M':Addr->Prop}{s:Slot}{o:Option V}(h:SlotOk K F V' M H s o)(p:Pres M H M' H')(m:∀a,M a->M' a)(e:Ext U H H')(uV:∀a,U a->V' a):SlotOk K F V' M' H' s o:=by
 cases s with
 | no=>trivial
 | sh d=>obtain⟨v,e1,h1⟩:=h; exact⟨v,e1,h1.pres p⟩
 | ex a nm ks ds=>obtain⟨e1,h1⟩:=h; exact⟨e1,h1.pres p⟩
 | br d=>obtain⟨v,e1,h1⟩:=h; exact⟨v,e1,h1.pres p e uV⟩
 | fd=>exact h
 | wd ks ds=>exact h
 | ow d=>obtain⟨a,e1,h1,h2,h3⟩:=h; exact⟨a,e1,m a h1,h2,h3.pres p λo q=>e.keep q λz=>h2 (uV a z)⟩
 | lt a d=>obtain⟨e1,h1,h2,h3⟩:=h; exact⟨e1,m a h1,h2,h3.pres p λo q=>e.keep q λz=>h2 (uV a z)⟩
theorem Rel.step(R:Rel K C M H n ρ σ)(e:Ext C.U H H')(f:FeedC K C.F M H' n'):Rel K C M H' n' ρ σ:=by
 have p:=R.pres e
 refine⟨R.len,R.sub,λa z=>?_,R.ext.trans e,R.fU,R.uV,R.vM,f,λi s q=>(R.sl i s q).pres p (λ_ z=>z) e R.uV,λq hq=>(R.pin q hq).trans p,R.br0,R.new,R.two,λq hq=>?_⟩
 ·obtain⟨o,h1⟩:=R.dom a z
  obtain⟨o',h2,_⟩:=e a o h1
  exact⟨o',h2⟩
 ·obtain⟨h1,h2,h3,h4⟩:=R.kept q hq
  exact⟨e.keep h1 λz=>h3 (R.uV _ z),h2,h3,h4⟩
theorem Rel.udom(R:Rel K C M H n ρ σ):∀a,C.U a->∃o,H a=some o:=λa z=>R.dom a (R.vM a (R.uV a z))
theorem At.tp{U:Addr->Prop}(uM:∀a,U a->M a)(h:At K M H d v):AtT K U M H d v:=by
 cases d with
 | lst ds =>
  obtain⟨a,vs,e,hn,hs⟩:=h
  exact⟨a,vs,e,λz=>hn.1 (uM a z),.inl hn.2,hs⟩
 | dic ks ds =>
  obtain⟨a,vs,e,hn,hl,hs⟩:=h
  exact⟨a,vs,e,λz=>hn.1 (uM a z),hn.2,hl,hs⟩
 | dit ks ds =>
  obtain⟨a,vs,e,hn,hl,hs⟩:=h
  exact⟨a,vs,e,λz=>hn.1 (uM a z),hn.2,hl,hs⟩
 | non=>exact h
 | bl b=>exact h
 | int i=>exact h
 | str x=>exact h
 | tup ds=>exact h
 | fdi ks ds=>exact h
theorem VR.back{U V':Addr->Prop}{H1:Hp}(e:Ext U H H1)(h:VR K V' M H1 H' κ v d):VR K V' M H H' κ v d:=by
 cases κ with
 | sh=>exact h
 | tp=>exact h
 | fr =>
  obtain⟨a,e1,h1,h2⟩:=h
  exact⟨a,e1,e.free h1,h2⟩
theorem VR.shOf{U:Addr->Prop}(dom:∀a,M a->∃o,H a=some o)(h:VR K U M H H' κ v d)(hk:κ≠.tp):At K M H' d v:=by
 cases κ with
 | sh=>exact h
 | tp=>exact absurd rfl hk
 | fr =>
  obtain⟨a,rfl,h1,h2⟩:=h
  refine(h2.pres (Pres.less (M':=M) λ_ z=>.inl z) λ_ z=>z).at λz=>?_
  obtain⟨o,q⟩:=dom a z
  rw [h1] at q; cases q
theorem VR.tpOf{U:Addr->Prop}(dom:∀a,M a->∃o,H a=some o)(uM:∀a,U a->M a)(h:VR K U M H H' κ v d):AtT K U M H' d v:=by
 cases κ with
 | sh=>exact At.tp uM h
 | tp=>exact h
 | fr=>exact At.tp uM (VR.shOf dom h (by intro z; cases z))
theorem FU{α:Type}{l:List α}{i j:Nat}{x y:α}(h:(l.set i x)[j]?=some y):(j=i/\i<l.length/\y=x)\/(j≠i/\l[j]?=some y):=by
 rw [eP] at h
 by_cases e:i=j
 ·rw [if_pos e] at h
  by_cases hl:i<l.length
  ·rw [if_pos hl] at h
   exact .inl ⟨e.symm,hl,(Uf h).symm⟩
  ·rw [if_neg hl] at h; cases h
 ·rw [if_neg e] at h
  exact .inr ⟨λz=>e z.symm,h⟩
theorem L7{l:L2.St}{i j:Nat}{x:Option V}(h:j≠i):((l.set i x)[j]?).getD none=(l[j]?).getD none:=by
 rw [eP,if_neg (λz=>h z.symm)]
theorem Si{l:L2.St}{i:Nat}{x:Option V}(h:i<l.length):((l.set i x)[i]?).getD none=x:=by
 rw [eP,if_pos rfl,if_pos h]
 rfl
theorem Rel.set(R:Rel K C M H n ρ σ){i:Nat}(h:At K M H d v):Rel K C M H n (ρ.set i (.sh d)) (σ.set i (some v)):=by
 have two:∀(j:Nat) (s:Slot),(ρ.set i (.sh d))[j]?=some s->s.owns=true->ρ[j]?=some s/\((σ.set i (some v))[j]?).getD none=(σ[j]?).getD none:=λj s q o=>by
  rcases FU q with ⟨_,_,rfl⟩ | ⟨hj,q⟩
  ·cases o
  ·exact⟨q,L7 hj⟩
 refine⟨by rw [cM,cM]; exact R.len,R.sub,R.dom,R.ext,R.fU,R.uV,R.vM,R.feed,λj s q=>?_,R.pin,λj e a q q2=>?_,λj s a q o q2=>?_,λj k s t a q1 o1 q2 o2 z1 z2=>?_,λp hp=>?_⟩
 ·rcases FU q with ⟨rfl,hl,rfl⟩ | ⟨hj,q⟩
  ·rw [Si (by rw [← R.len]; exact hl)]
   exact⟨v,rfl,h⟩
  ·rw [L7 hj]
   exact R.sl j s q
 ·rcases FU q with ⟨_,_,e⟩ | ⟨hj,q⟩
  ·cases e
  ·rw [L7 hj] at q2
   exact R.br0 j e a q q2
 ·obtain⟨q1,e⟩:=two j s q o
  rw [e] at q2
  exact R.new j s a q1 o q2
 ·obtain⟨p1,e1⟩:=two j s q1 o1
  obtain⟨p2,e2⟩:=two k t q2 o2
  rw [e1] at z1
  rw [e2] at z2
  exact R.two j k s t a p1 o1 p2 o2 z1 z2
 ·obtain⟨h1,h2,h3,h4⟩:=R.kept p hp
  refine⟨h1,h2,h3,λj e q=>?_⟩
  obtain⟨q1,e2⟩:=two j _ q rfl
  rw [e2]
  exact h4 j e q1
theorem Rel.owner(R:Rel K C M H n ρ σ){i:Nat}{s:Slot}(h:ρ[i]?=some s)(o:s.owns=true):∃a e,(σ[i]?).getD none=some (.ref a)/\M a/\¬C.V a/\Tops K M H a e/\¬C.M0 a/\C.H0 a=none:=by
 have q:=R.sl i s h
 cases s with
 | ow d=>obtain⟨a,e1,h1,h2,h3⟩:=q; exact⟨a,d,e1,h1,h2,h3,R.new i _ a h o e1⟩
 | lt a d=>obtain⟨e1,h1,h2,h3⟩:=q; exact⟨a,d,e1,h1,h2,h3,R.new i _ a h o e1⟩
 | _=>cases o
theorem Rel.setOw(R:Rel K C M H n ρ σ){i:Nat}{a:Addr}(e:Ext C.U H H')(f:FeedC K C.F M H' n')(ha:H a=none)(h:Tops K (λb=>M b\/b=a) H' a d) :
  Rel K C (λb=>M b\/b=a) H' n' (ρ.set i (.ow d)) (σ.set i (some (.ref a))):=by
 have R1:=R.step e f
 have ne:∀b,M b->b≠a:=λb z q=>by
  obtain⟨o,w⟩:=R.dom b z
  rw [q,ha] at w; cases w
 have a0:¬C.M0 a/\C.H0 a=none:=⟨λz=>ne a (R.sub a z) rfl,R.ext.free ha⟩
 have pr:Pres M H (λb=>M b\/b=a) H':=⟨λb o q nb=>e.keep q λz=>nb (R.vM b (R.uV b z)),λb z=>z.elim .inl λz=>.inr (by rw [z]; exact ha),λb vs q=>e.tup q⟩
 have two:∀(j:Nat) (s:Slot),(ρ.set i (.ow d))[j]?=some s->(j=i/\s=.ow d/\((σ.set i (some (.ref a)))[j]?).getD none=some (.ref a))\/(j≠i/\ρ[j]?=some s/\((σ.set i (some (.ref a)))[j]?).getD none=(σ[j]?).getD none):=λj s q=>by
  rcases FU q with ⟨rfl,hl,rfl⟩ | ⟨hj,q⟩
  ·exact .inl ⟨rfl,rfl,Si (by rw [← R.len]; exact hl)⟩
  ·exact .inr ⟨hj,q,L7 hj⟩
 have old:∀(j:Nat) (s:Slot) (b:Addr),ρ[j]?=some s->s.owns=true->(σ[j]?).getD none=some (.ref b)->b≠a:=λj s b q o z=>by
  obtain⟨c,_,e1,m,_⟩:=R.owner q o
  rw [e1] at z
  cases z
  exact ne _ m
 have hd:∃o,H' a=some o:=by
  cases d with
  | lst ds=>obtain⟨vs,q,_⟩:=h; exact⟨_,q⟩
  | dic ks ds=>obtain⟨vs,q,_⟩:=h; exact⟨_,q⟩
  | dit ks ds=>obtain⟨vs,q,_⟩:=h; exact⟨_,q⟩
  | _=>exact(show False from h).elim
 refine⟨by rw [cM,cM]; exact R.len,λb z=>.inl (R.sub b z),λb z=>?_,R1.ext,R.fU,R.uV,λb z=>.inl (R.vM b z),f.more a (λg hg tg q=>?_) (λg ks' ds' vs' hg tg=>?_),λj s q=>?_,λq hq=>(R.pin q hq).trans pr,λj e2 b q q2=>?_,λj s b q o q2=>?_,λj k s t b q1 o1 q2 o2 z1 z2=>?_,λp hp=>?_⟩
 ·rcases z with z | z
  ·exact R1.dom b z
  ·rw [z]; exact hd
 ·rcases R.feed g hg with ⟨_,_,_,_,_,_,h3,_⟩ | ⟨_,_,_,t2,_⟩
  ·have:=h3.2
   rw [q,ha] at this; cases this
  ·rw [tg] at t2; cases t2
 ·rcases R.feed g hg with ⟨t2,_⟩ | ⟨_,_,_,t2,_,_,_,h3,_⟩
  ·rw [tg] at t2; cases t2
  ·rw [tg] at t2; cases t2; exact h3.pres pr
 ·rcases two j s q with ⟨rfl,rfl,e1⟩ | ⟨hj,q1,e1⟩
  ·rw [e1]
   exact⟨a,rfl,.inr rfl,λz=>ne a (R.vM a z) rfl,h⟩
  ·rw [e1]
   exact(R.sl j s q1).pres pr (λ_ z=>.inl z) e R.uV
 ·rcases two j _ q with ⟨_,e1,_⟩ | ⟨hj,q1,e1⟩
  ·cases e1
  ·rw [e1] at q2
   exact R.br0 j e2 b q1 q2
 ·rcases two j s q with ⟨_,_,e1⟩ | ⟨hj,q1,e1⟩
  ·rw [e1] at q2
   cases q2
   exact a0
  ·rw [e1] at q2
   exact R.new j s b q1 o q2
 ·rcases two j s q1 with ⟨rfl,_,e1⟩ | ⟨hj,p1,e1⟩
  ·rw [e1] at z1
   cases z1
   rcases two k t q2 with ⟨rfl,_,_⟩ | ⟨hk,p2,e2⟩
   ·rfl
   ·rw [e2] at z2
    exact absurd rfl (old k t a p2 o2 z2)
  ·rw [e1] at z1
   rcases two k t q2 with ⟨rfl,_,e2⟩ | ⟨hk,p2,e2⟩
   ·rw [e2] at z2
    cases z2
    exact absurd rfl (old j s a p1 o1 z1)
   ·rw [e2] at z2
    exact R.two j k s t b p1 o1 p2 o2 z1 z2
 ·obtain⟨h1,h2,h3,h4⟩:=R1.kept p hp
  refine⟨h1,.inl h2,h3,λj e2 q=>?_⟩
  rcases two j _ q with ⟨_,_,e1⟩ | ⟨hj,q1,e1⟩
  ·rw [e1]
   intro z
   cases z
   exact ne _ h2 rfl
  ·rw [e1]
   exact h4 j e2 q1
theorem Rel.mut(R:Rel K C M H n ρ σ){i:Nat}{a:Addr}{e:D}{o:HO}(hi:ρ[i]?=some (.ow d))(ha:(σ[i]?).getD none=some (.ref a))(h:Tops K M (BN H a o) a e) :
  Rel K C M (BN H a o) n (ρ.set i (.ow e)) σ:=by
 obtain⟨b,_,e1,m,nv,t,n0,h0⟩:=R.owner hi rfl
 rw [ha] at e1
 cases e1
 have pr:Pres M H M (BN H a o):=⟨λb o' q nb=>by rw [Ac (λz=>nb (by rw [z]; exact m))]; exact q,λ_ z=>.inl z,λb vs q=>by rw [Ac (λz=>t.notT (by rw [← z]; exact q))]; exact q⟩
 have old:∀(j:Nat) (s:Slot),(ρ.set i (.ow e))[j]?=some s->(j=i/\s=.ow e)\/(j≠i/\ρ[j]?=some s):=λj s q=>by
  rcases FU q with ⟨rfl,hl,rfl⟩ | ⟨hj,q⟩
  ·exact .inl ⟨rfl,rfl⟩
  ·exact .inr ⟨hj,q⟩
 have far:∀(j:Nat) (s:Slot) (b:Addr),j≠i->ρ[j]?=some s->s.owns=true->(σ[j]?).getD none=some (.ref b)->b≠a:=λj s b hj q o z w=>by
  subst w
  exact hj (R.two j i s _ b q o hi rfl z ha)
 refine⟨by rw [cM]; exact R.len,R.sub,λb z=>?_,λb o' q=>?_,R.fU,R.uV,R.vM,R.feed.pres pr λf o' hf q=>?_,λj s q=>?_,λq hq=>(R.pin q hq).trans pr,λj e2 b q q2=>?_,λj s b q o2 q2=>?_,λj k s t b q1 o1 q2 o2 z1 z2=>?_,λp hp=>?_⟩
 ·by_cases hb:b=a
  ·exact⟨o,by rw [hb,Ak]⟩
  ·obtain⟨o',q⟩:=R.dom b z
   exact⟨o',by rw [Ac hb]; exact q⟩
 ·obtain⟨o2,q2,r⟩:=R.ext b o' q
  have hb:b≠a:=λz=>by rw [z,h0] at q; cases q
  exact⟨o2,by rw [Ac hb]; exact q2,r⟩
 ·have hb:f.1≠a:=λz=>nv (by rw [← z]; exact R.uV _ (R.fU f hf))
  rw [Ac hb]; exact q
 ·rcases old j s q with ⟨rfl,rfl⟩ | ⟨hj,q1⟩
  ·rw [ha]
   exact⟨a,rfl,m,nv,h⟩
  ·have q2:=R.sl j s q1
   cases s with
   | no=>trivial
   | sh d=>obtain⟨v,e1,h1⟩:=q2; exact⟨v,e1,h1.pres pr⟩
   | ex a nm ks ds=>obtain⟨e1,h1⟩:=q2; exact⟨e1,h1.pres pr⟩
   | br d =>
    obtain⟨v,e1,h1⟩:=q2
    refine⟨v,e1,h1.same pr (λb o' z q=>?_) λ_ _ z=>z⟩
    subst z
    obtain⟨o3,w⟩:=R.br0 j d b q1 e1
    rw [Ac (λz=>by rw [z,h0] at w; cases w)]
    exact q
   | fd=>exact q2
   | wd ks ds=>exact q2
   | ow d =>
    obtain⟨b,e1,h1,h2,h3⟩:=q2
    exact⟨b,e1,h1,h2,h3.pres pr λo' w=>by rw [Ac (far j _ b hj q1 rfl e1)]; exact w⟩
   | lt b d =>
    obtain⟨e1,h1,h2,h3⟩:=q2
    exact⟨e1,h1,h2,h3.pres pr λo' w=>by rw [Ac (far j _ b hj q1 rfl e1)]; exact w⟩
 ·rcases old j _ q with ⟨_,e1⟩ | ⟨hj,q1⟩
  ·cases e1
  ·exact R.br0 j e2 b q1 q2
 ·rcases old j s q with ⟨rfl,_⟩ | ⟨hj,q1⟩
  ·exact R.new j _ b hi rfl q2
  ·exact R.new j s b q1 o2 q2
 ·rcases old j s q1 with ⟨rfl,rfl⟩ | ⟨hj,p1⟩
  ·rcases old k t q2 with ⟨rfl,_⟩ | ⟨hk,p2⟩
   ·rfl
   ·exact R.two j k _ t b hi rfl p2 o2 z1 z2
  ·rcases old k t q2 with ⟨rfl,rfl⟩ | ⟨hk,p2⟩
   ·exact R.two j k s _ b p1 o1 hi rfl z1 z2
   ·exact R.two j k s t b p1 o1 p2 o2 z1 z2
 ·obtain⟨h1,h2,h3,h4⟩:=R.kept p hp
  have hb:p.1≠a:=λz=>h4 i d hi (by rw [ha,z])
  refine⟨by rw [Ac hb]; exact h1,h2,h3,λj e2 q=>?_⟩
  rcases old j _ q with ⟨rfl,_⟩ | ⟨hj,q1⟩
  ·exact h4 j d hi
  ·exact h4 j e2 q1
theorem Rel.freeze(R:Rel K C M H n ρ σ){i:Nat}{a:Addr}(hi:ρ[i]?=some (.ow d))(ha:(σ[i]?).getD none=some (.ref a)):Rel K C (λb=>M b/\b≠a) H n (ρ.set i (.sh d)) σ:=by
 obtain⟨b,_,e1,m,nv,_,n0,h0⟩:=R.owner hi rfl
 rw [ha] at e1
 cases e1
 have less:∀b,M b/\b≠a->M b:=λ_ z=>z.1
 have pr:Pres M H (λb=>M b/\b≠a) H:=Pres.less less
 have old:∀(j:Nat) (s:Slot),(ρ.set i (.sh d))[j]?=some s->(j=i/\s=.sh d)\/(j≠i/\ρ[j]?=some s):=λj s q=>by
  rcases FU q with ⟨rfl,hl,rfl⟩ | ⟨hj,q⟩
  ·exact .inl ⟨rfl,rfl⟩
  ·exact .inr ⟨hj,q⟩
 have far:∀(j:Nat) (s:Slot) (b:Addr),j≠i->ρ[j]?=some s->s.owns=true->(σ[j]?).getD none=some (.ref b)->b≠a:=λj s b hj q o z w=>by
  subst w
  exact hj (R.two j i s _ b q o hi rfl z ha)
 have t:Tops K M H a d:=by
  obtain⟨b,e1,_,_,h3⟩:=R.sl i _ hi
  rw [ha] at e1
  cases e1
  exact h3
 refine⟨by rw [cM]; exact R.len,λb z=>⟨R.sub b z,λw=>n0 (by rw [← w]; exact z)⟩,λb z=>R.dom b z.1,R.ext,R.fU,R.uV,λb z=>⟨R.vM b z,λw=>nv (by rw [← w]; exact z)⟩,R.feed.pres pr λ_ _ _ q=>q,λj s q=>?_,λq hq=>(R.pin q hq).trans pr,λj e2 b q q2=>?_,λj s b q o2 q2=>?_,λj k s t b q1 o1 q2 o2 z1 z2=>?_,λp hp=>?_⟩
 ·rcases old j s q with ⟨rfl,rfl⟩ | ⟨hj,q1⟩
  ·rw [ha]
   exact⟨_,rfl,(t.pres pr λ_ z=>z).at λz=>z.2 rfl⟩
  ·have q2:=R.sl j s q1
   cases s with
   | no=>trivial
   | sh d=>obtain⟨v,e1,h1⟩:=q2; exact⟨v,e1,h1.pres pr⟩
   | ex a nm ks ds=>obtain⟨e1,h1⟩:=q2; exact⟨e1,h1.pres pr⟩
   | br d=>obtain⟨v,e1,h1⟩:=q2; exact⟨v,e1,h1.same pr (λ_ _ _ z=>z) λ_ _ z=>z⟩
   | fd=>exact q2
   | wd ks ds=>exact q2
   | ow d =>
    obtain⟨b,e1,h1,h2,h3⟩:=q2
    exact⟨b,e1,⟨h1,far j _ b hj q1 rfl e1⟩,h2,h3.pres pr λ_ z=>z⟩
   | lt b d =>
    obtain⟨e1,h1,h2,h3⟩:=q2
    exact⟨e1,⟨h1,far j _ b hj q1 rfl e1⟩,h2,h3.pres pr λ_ z=>z⟩
 ·rcases old j _ q with ⟨_,e1⟩ | ⟨hj,q1⟩
  ·cases e1
  ·exact R.br0 j e2 b q1 q2
 ·rcases old j s q with ⟨_,rfl⟩ | ⟨hj,q1⟩
  ·cases o2
  ·exact R.new j s b q1 o2 q2
 ·rcases old j s q1 with ⟨_,rfl⟩ | ⟨hj,p1⟩
  ·cases o1
  ·rcases old k t q2 with ⟨_,rfl⟩ | ⟨hk,p2⟩
   ·cases o2
   ·exact R.two j k s t b p1 o1 p2 o2 z1 z2
 ·obtain⟨h1,h2,h3,h4⟩:=R.kept p hp
  have hb:p.1≠a:=λz=>h4 i d hi (by rw [ha,z])
  refine⟨h1,⟨h2,hb⟩,h3,λj e2 q=>?_⟩
  rcases old j _ q with ⟨_,e1⟩ | ⟨hj,q1⟩
  ·cases e1
  ·exact h4 j e2 q1
theorem Rel.lend(R:Rel K C M H n ρ σ){i:Nat}{a:Addr}{o:HO}(hi:ρ[i]?=some (.ow d))(ha:(σ[i]?).getD none=some (.ref a))(ho:H a=some o):Rel K { C with kp:=(a,o)::C.kp } M H n (ρ.set i (.lt a d)) σ:=by
 obtain⟨b,e1,m,nv,t⟩:=R.sl i _ hi
 rw [ha] at e1
 cases e1
 have old:∀(j:Nat) (s:Slot),(ρ.set i (.lt a d))[j]?=some s->(j=i/\s=.lt a d)\/(j≠i/\ρ[j]?=some s):=λj s q=>by
  rcases FU q with ⟨rfl,hl,rfl⟩ | ⟨hj,q⟩
  ·exact .inl ⟨rfl,rfl⟩
  ·exact .inr ⟨hj,q⟩
 refine⟨by rw [cM]; exact R.len,R.sub,R.dom,R.ext,R.fU,R.uV,R.vM,R.feed,λj s q=>?_,R.pin,λj e2 b q q2=>?_,λj s b q o2 q2=>?_,λj k s t b q1 o1 q2 o2 z1 z2=>?_,λp hp=>?_⟩
 ·rcases old j s q with ⟨rfl,rfl⟩ | ⟨hj,q1⟩
  ·exact⟨ha,m,nv,t⟩
  ·exact R.sl j s q1
 ·rcases old j _ q with ⟨_,e1⟩ | ⟨hj,q1⟩
  ·cases e1
  ·exact R.br0 j e2 b q1 q2
 ·rcases old j s q with ⟨rfl,_⟩ | ⟨hj,q1⟩
  ·exact R.new j _ b hi rfl q2
  ·exact R.new j s b q1 o2 q2
 ·rcases old j s q1 with ⟨rfl,rfl⟩ | ⟨hj,p1⟩
  ·rcases old k t q2 with ⟨rfl,_⟩ | ⟨hk,p2⟩
   ·rfl
   ·exact R.two j k _ t b hi rfl p2 o2 z1 z2
  ·rcases old k t q2 with ⟨rfl,rfl⟩ | ⟨hk,p2⟩
   ·exact R.two j k s _ b p1 o1 hi rfl z1 z2
   ·exact R.two j k s t b p1 o1 p2 o2 z1 z2
 ·rcases aq.mp hp with rfl | hp
  ·refine⟨ho,m,nv,λj e2 q z=>?_⟩
   rcases old j _ q with ⟨_,e1⟩ | ⟨hj,q1⟩
   ·cases e1
   ·exact hj (R.two j i _ _ a q1 rfl hi rfl z ha)
  ·obtain⟨h1,h2,h3,h4⟩:=R.kept p hp
   refine⟨h1,h2,h3,λj e2 q=>?_⟩
   rcases old j _ q with ⟨_,e1⟩ | ⟨hj,q1⟩
   ·cases e1
   ·exact h4 j e2 q1
theorem Rel.unlend{a:Addr}{o:HO}(R:Rel K { C with kp:=(a,o)::C.kp } M H n ρ σ){i:Nat}(hi:ρ[i]?=some (.lt a d))(hk:∀p∈C.kp,p.1≠a):Rel K C M H n (ρ.set i (.ow d)) σ:=by
 obtain⟨ha,m,nv,t⟩:=R.sl i _ hi
 have old:∀(j:Nat) (s:Slot),(ρ.set i (.ow d))[j]?=some s->(j=i/\s=.ow d)\/(j≠i/\ρ[j]?=some s):=λj s q=>by
  rcases FU q with ⟨rfl,hl,rfl⟩ | ⟨hj,q⟩
  ·exact .inl ⟨rfl,rfl⟩
  ·exact .inr ⟨hj,q⟩
 refine⟨by rw [cM]; exact R.len,R.sub,R.dom,R.ext,R.fU,R.uV,R.vM,R.feed,λj s q=>?_,R.pin,λj e2 b q q2=>?_,λj s b q o2 q2=>?_,λj k s t b q1 o1 q2 o2 z1 z2=>?_,λp hp=>?_⟩
 ·rcases old j s q with ⟨rfl,rfl⟩ | ⟨hj,q1⟩
  ·exact⟨a,ha,m,nv,t⟩
  ·exact R.sl j s q1
 ·rcases old j _ q with ⟨_,e1⟩ | ⟨hj,q1⟩
  ·cases e1
  ·exact R.br0 j e2 b q1 q2
 ·rcases old j s q with ⟨rfl,_⟩ | ⟨hj,q1⟩
  ·exact R.new j _ b hi rfl q2
  ·exact R.new j s b q1 o2 q2
 ·rcases old j s q1 with ⟨rfl,rfl⟩ | ⟨hj,p1⟩
  ·rcases old k t q2 with ⟨rfl,_⟩ | ⟨hk,p2⟩
   ·rfl
   ·exact R.two j k _ t b hi rfl p2 o2 z1 z2
  ·rcases old k t q2 with ⟨rfl,rfl⟩ | ⟨hk,p2⟩
   ·exact R.two j k s _ b p1 o1 hi rfl z1 z2
   ·exact R.two j k s t b p1 o1 p2 o2 z1 z2
 ·obtain⟨h1,h2,h3,h4⟩:=R.kept p (TM _ hp)
  refine⟨h1,h2,h3,λj e2 q=>?_⟩
  rcases old j _ q with ⟨rfl,_⟩ | ⟨hj,q1⟩
  ·rw [ha]
   intro z
   cases z
   exact hk p hp rfl
  ·exact h4 j e2 q1
end
noncomputable abbrev DW:=Nat->List Slot->(D->Nat->Prop)->Prop
noncomputable abbrev Jk:=Nat->List Slot->(Bool->Nat->Prop)->Prop
noncomputable abbrev FP:=Nat->List Slot->(List D->Nat->Prop)->Prop
noncomputable abbrev YC:=Nat->List Slot->(List Slot->Nat->Prop)->Prop
section
variable (X:Cx)
noncomputable def DE(e:Expr)(κ:Kd)(w:DW):Prop:=∃t,PE X e t/\∀(C:Fm) (M:Addr->Prop) (H:Hp) (n:Nat) (ρ:List Slot) (σ:L2.St) (P:D->Nat->Prop) (Q:VK),Rel X.K C M H n ρ σ->w n ρ P ->
 (∀v H' d n',Ext C.U H H'->FeedC X.K C.F M H' n'->VR X.K C.V M H H' κ v d->P d n'->Q v H')->t σ H Q
noncomputable def DT(e:Expr)(w:Jk):Prop:=∃t,PT X e t/\∀(C:Fm) (M:Addr->Prop) (H:Hp) (n:Nat) (ρ:List Slot) (σ:L2.St) (P:Bool->Nat->Prop) (Q:Bool->Hp->Prop),Rel X.K C M H n ρ σ->w n ρ P ->
 (∀b H' n',Ext C.U H H'->FeedC X.K C.F M H' n'->P b n'->Q b H')->t σ H Q
noncomputable def DTW(e:Expr)(w:Jk):Prop:=∃t,PW X e t/\∀(C:Fm) (M:Addr->Prop) (H:Hp) (n:Nat) (ρ:List Slot) (σ:L2.St) (P:Bool->Nat->Prop) (Q:Bool->Hp->Prop),Rel X.K C M H n ρ σ->w n ρ P ->
 (∀b H' n',Ext C.U H H'->FeedC X.K C.F M H' n'->P b n'->Q b H')->t σ H Q
noncomputable def V7(es:List Expr)(w:FP):Prop:=∃t,PA X es t/\∀(C:Fm) (M:Addr->Prop) (H:Hp) (n:Nat) (ρ:List Slot) (σ:L2.St) (P:List D->Nat->Prop) (Q:List V->Hp->Prop),Rel X.K C M H n ρ σ->w n ρ P ->
 (∀vs H' ds n',Ext C.U H H'->FeedC X.K C.F M H' n'->Paired (λv d=>AtT X.K C.V M H' d v) vs ds->P ds n'->Q vs H')->t σ H Q
noncomputable def YD(es:List Expr)(w:FP):Prop:=∃t,PA X es t/\∀(C:Fm) (M:Addr->Prop) (H:Hp) (n:Nat) (ρ:List Slot) (σ:L2.St) (P:List D->Nat->Prop) (Q:List V->Hp->Prop),Rel X.K C M H n ρ σ->w n ρ P ->
 (∀vs H' ds n',Ext C.U H H'->FeedC X.K C.F M H' n'->Ats X.K M H' ds vs->P ds n'->Q vs H')->t σ H Q
noncomputable def Lx(K:Frag)(F:Option Fd)(V' M:Addr->Prop)(H:Hp)(v:V)(s:Slot):Prop:=SlotOk K F V' M H s (some v)/\s.owns=false
noncomputable def ZT(e:Expr)(w:Nat->List Slot->(Slot->Nat->Prop)->Prop):Prop:=∃t,PE X e t/\∀(C:Fm) (M:Addr->Prop) (H:Hp) (n:Nat) (ρ:List Slot) (σ:L2.St) (P:Slot->Nat->Prop) (Q:VK),Rel X.K C M H n ρ σ->w n ρ P ->
 (∀v H' s n',Ext C.U H H'->FeedC X.K C.F M H' n'->Lx X.K C.F C.V M H' v s->P s n'->Q v H')->t σ H Q
noncomputable def ZR(es:List Expr)(w:YC):Prop:=∃t,PA X es t/\∀(C:Fm) (M:Addr->Prop) (H:Hp) (n:Nat) (ρ:List Slot) (σ:L2.St) (P:List Slot->Nat->Prop) (Q:List V->Hp->Prop),Rel X.K C M H n ρ σ->w n ρ P ->
 (∀vs H' ss n',Ext C.U H H'->FeedC X.K C.F M H' n'->Paired (Lx X.K C.F C.V M H') vs ss->P ss n'->Q vs H')->t σ H Q
end
noncomputable def AG(i:Nat):DW:=λn ρ P=>match ρ[i]? with
 | some (.sh d)=>P d n
 | _=>False
noncomputable def IY(i:Nat):DW:=λn ρ P=>match ρ[i]? with
 | some (.sh d)=>P d n
 | some (.br d)=>P d n
 | some (.ow d)=>P d n
 | some (.lt _ d)=>P d n
 | _=>False
noncomputable def wC(d:D):DW:=λn _ P=>P d n
section
variable {X:Cx}{a b c e:Expr}{κ κa κb:Kd}{wa wb wc:DW}{pos:Pos}
theorem getD_some{σ:L2.St}{i:Nat}{v:V}(h:(σ[i]?).getD none=some v):σ[i]?=some (some v):=by
 cases q:σ[i]? with
 | none=>rw [q] at h; cases h
 | some o=>rw [q] at h; exact congrArg some h
theorem Vz{i:Nat}(h:PE X e (BU i)):DE X e .sh (AG i):=by
 refine⟨_,h,λC M H n ρ σ P Q R w q=>?_⟩
 unfold AG at w
 split at w
 ·rename_i d hd
  obtain⟨v,e1,h1⟩:=R.sl i _ hd
  exact⟨v,getD_some e1,q v H d n (Ext.refl _ _) R.feed h1 w⟩
 ·exact w.elim
theorem UK{i:Nat}(h:PE X e (BU i)):DE X e .tp (IY i):=by
 refine⟨_,h,λC M H n ρ σ P Q R w q=>?_⟩
 unfold IY at w
 split at w
 ·rename_i d hd
  obtain⟨v,e1,h1⟩:=R.sl i _ hd
  exact⟨v,getD_some e1,q v H d n (Ext.refl _ _) R.feed (At.tp R.vM h1) w⟩
 ·rename_i d hd
  obtain⟨v,e1,h1⟩:=R.sl i _ hd
  exact⟨v,getD_some e1,q v H d n (Ext.refl _ _) R.feed h1 w⟩
 ·rename_i d hd
  obtain⟨a,e1,_,h2,h3⟩:=R.sl i _ hd
  exact⟨.ref a,getD_some e1,q _ H d n (Ext.refl _ _) R.feed (h3.att h2) w⟩
 ·rename_i a d hd
  obtain⟨e1,_,h2,h3⟩:=R.sl i _ hd
  exact⟨.ref a,getD_some e1,q _ H d n (Ext.refl _ _) R.feed (h3.att h2) w⟩
 ·exact w.elim
theorem dv(i:Nat){x:Str}{pos:Pos}(hN:autoParam (X.N[i]?=some x) zau3._auto_1)(hv:autoParam (X7 X.env.scope x) zau4._auto_1)(hd:autoParam ((x==("__debug__" : Str))=false) zau1._auto_1)
  (hcd:autoParam ((x==("__classdict__" : Str))=false) zau1._auto_1):DE X (.Name x pos) .sh (AG i):=Vz (J6 hN hv hd hcd)
theorem Y9(i:Nat){x:Str}{pos:Pos}(hN:autoParam (X.N[i]?=some x) zau3._auto_1)(hv:autoParam (X7 X.env.scope x) zau4._auto_1)(hd:autoParam ((x==("__debug__" : Str))=false) zau1._auto_1)
  (hcd:autoParam ((x==("__classdict__" : Str))=false) zau1._auto_1):DE X (.Name x pos) .tp (IY i):=UK (J6 hN hv hd hcd)
theorem Fz{d:D}{v:V}(h:PE X e (tC v))(hd:∀M H,At X.K M H d v):DE X e .sh (wC d) :=
 ⟨_,h,λC M H n ρ σ P Q R w q=>q v H d n (Ext.refl _ _) R.feed (hd M H) w⟩
theorem AC{i:Int}{j pos}:DE X (.Constant (.int i) j pos) .sh (wC (.int i)):=Fz A6 λ_ _=>rfl
theorem BR{b:Bool}{j pos}:DE X (.Constant (.bool b) j pos) .sh (wC (.bl b)):=Fz Yr λ_ _=>rfl
theorem Bm{j pos}:DE X (.Constant .none j pos) .sh (wC .non):=Fz J8 λ_ _=>rfl
theorem AS{x:Str}{j pos}(hx:autoParam (decide (x.length<=1000)=true) zau3._auto_1):DE X (.Constant (.str x) j pos) .sh (wC (.str x)) :=
 Fz ED λ_ _=>⟨rfl,bF (of_decide_eq_true hx) (by rw [bu]; decide)⟩
theorem QZ{x:Str}{i:Int}{t:Tok}{pos:Pos}(hg:Gl X x)(hm:X.mg x=some (.int i t))(hd:autoParam ((x==("__debug__" : Str))=false) zau1._auto_1):DE X (.Name x pos) .sh (wC (.int i)) :=
 Fz (VG hg hm (v:=.int i) ⟨t,rfl⟩ hd) λ_ _=>rfl
noncomputable def HB(K:Frag)(κ:Kd)(r:R2)(f:D->D->(D->Prop)->Prop):Prop:=∀(U:Addr->Prop) (M:Addr->Prop) (H:Hp) (d e:D) (x y:V) (P:D->Prop) (Q:VK),(∀a,M a->∃o,H a=some o)->(∀a,U a->M a) ->
 AtT K U M H d x->AtT K U M H e y->f d e P->(∀v H' z,Grow H H'->VR K U M H H' κ v z->P z->Q v H')->r x y H Q
noncomputable def Am(f:D->D->(D->Prop)->Prop)(wa wb:DW):DW:=λn ρ P=>wa n ρ λx n1=>wb n1 ρ λy n2=>f x y λz=>P z n2
theorem E3{r:R2}{f:D->D->(D->Prop)->Prop}(hA:HB X.K κ r f){ta tb:TE}(ha:∀(C:Fm) (M:Addr->Prop) (H:Hp) (n:Nat) (ρ:List Slot) (σ:L2.St) (P:D->Nat->Prop) (Q:VK),Rel X.K C M H n ρ σ->wa n ρ P ->
   (∀v H' d n',Ext C.U H H'->FeedC X.K C.F M H' n'->VR X.K C.V M H H' κa v d->P d n'->Q v H')->ta σ H Q)
  (hb:∀(C:Fm) (M:Addr->Prop) (H:Hp) (n:Nat) (ρ:List Slot) (σ:L2.St) (P:D->Nat->Prop) (Q:VK),Rel X.K C M H n ρ σ->wb n ρ P ->
   (∀v H' d n',Ext C.U H H'->FeedC X.K C.F M H' n'->VR X.K C.V M H H' κb v d->P d n'->Q v H')->tb σ H Q)
  (C:Fm) (M:Addr->Prop) (H:Hp) (n:Nat) (ρ:List Slot) (σ:L2.St) (P:D->Nat->Prop) (Q:VK) (R:Rel X.K C M H n ρ σ) (w:Am f wa wb n ρ P)
  (q:∀v H' d n',Ext C.U H H'->FeedC X.K C.F M H' n'->VR X.K C.V M H H' κ v d->P d n'->Q v H'):Dl r ta tb σ H Q:=by
 refine ha C M H n ρ σ _ _ R w λx H1 d n1 e1 f1 r1 w1=>?_
 have R1:=R.step e1 f1
 refine hb C M H1 n1 ρ σ _ _ R1 w1 λy H2 e n2 e2 f2 r2 w2=>?_
 have R2':=R1.step e2 f2
 refine hA C.V M H2 d e x y _ _ R2'.dom R2'.vM ((r1.tpOf R.dom R.vM).pres (R1.pres e2) e2 R.uV) (r2.tpOf R1.dom R1.vM) w2 λv H3 z g vr p=>?_
 exact q v H3 z n2 ((e1.trans e2).trans g.ext) (f2.grow g) (VR.back (e1.trans e2) vr) p
theorem AY{op:Operator}{r:R2}{f:D->D->(D->Prop)->Prop}(ho:OpR X (binaryOp op) r)(hA:HB X.K κ r f)(ha:DE X a κa wa)(hb:DE X b κb wb):DE X (.BinOp a op b pos) κ (Am f wa wb):=by
 obtain⟨ta,ha1,ha2⟩:=ha
 obtain⟨tb,hb1,hb2⟩:=hb
 exact⟨_,Bt ho ha1 hb1,λC M H n ρ σ P Q R w q=>E3 hA ha2 hb2 C M H n ρ σ P Q R w q⟩
theorem AX{r:R2}{f:D->D->(D->Prop)->Prop}(ho:IxR X r)(hA:HB X.K κ r f)(ha:DE X a κa wa)(hb:DE X b κb wb)(hs:autoParam (Qm b) zau5._auto_1):DE X (.Subscript a b pos) κ (Am f wa wb):=by
 obtain⟨ta,ha1,ha2⟩:=ha
 obtain⟨tb,hb1,hb2⟩:=hb
 exact⟨_,Bo ho ha1 hb1 hs,λC M H n ρ σ P Q R w q=>E3 hA ha2 hb2 C M H n ρ σ P Q R w q⟩
theorem BY{op:CmpOp}{r:R2}{f:D->D->(D->Prop)->Prop}(ho:OpR X (compareOp op) r)(hA:HB X.K .sh r f)(ha:DE X a κa wa)(hb:DE X b κb wb)(hm:behindInMarks op b=false):DE X (.Compare a [op] [b] pos) .sh (Am f wa wb):=by
 obtain⟨ta,ha1,ha2⟩:=ha
 obtain⟨tb,hb1,hb2⟩:=hb
 exact⟨_,VI ho ha1 hb1 hm,λC M H n ρ σ P Q R w q=>E3 hA ha2 hb2 C M H n ρ σ P Q R w q⟩
noncomputable def As(w:DW):Jk:=λn ρ P=>w n ρ λd n1=>match d with
 | .bl b=>P b n1
 | _=>False
theorem JK{U:Addr->Prop}{K:Frag}{M:Addr->Prop}{H H':Hp}{v:V}{b:Bool}(h:VR K U M H H' κ v (.bl b)):v=.bl b:=by
 cases κ with
 | sh=>exact h
 | tp=>exact h
 | fr=>obtain⟨a,_,_,t⟩:=h; exact(show False from t).elim
theorem Ai{op:CmpOp}{r:R2}{f:D->D->(D->Prop)->Prop}(ho:OpR X (compareOp op) r)(hA:HB X.K .sh r f)(ha:DE X a κa wa)(hb:DE X b κb wb)(hm:behindInMarks op b=false):DT X (.Compare a [op] [b] pos) (As (Am f wa wb)):=by
 obtain⟨ta,ha1,ha2⟩:=ha
 obtain⟨tb,hb1,hb2⟩:=hb
 refine⟨_,C8 ho ha1 hb1 hm,λC M H n ρ σ P Q R w q=>?_⟩
 refine E3 hA ha2 hb2 C M H n ρ σ _ _ R w λv H' d n' e f r p=>?_
 cases d with
 | bl b=>exact⟨b,JK r,q b H' n' e f p⟩
 | _=>exact p.elim
theorem Az(h:DE X e κ wa)(he:autoParam (∀whole,isTrue e X.env whole=(do let v ← whole; standAt e.pos; holding [v] (truthy v))) zau2._auto_1):DT X e (As wa):=by
 obtain⟨t,h1,h2⟩:=h
 refine⟨_,W7 h1 he,λC M H n ρ σ P Q R w q=>?_⟩
 refine h2 C M H n ρ σ _ _ R w λv H' d n' e f r p=>?_
 cases d with
 | bl b=>exact⟨b,JK r,q b H' n' e f p⟩
 | _=>exact p.elim
noncomputable def LG(u v:Jk):Jk:=λn ρ P=>u n ρ λc n1=>if c=true then v n1 ρ P else P false n1
noncomputable def EM(u v:Jk):Jk:=λn ρ P=>u n ρ λc n1=>if c=true then P true n1 else v n1 ρ P
noncomputable def CH(u:Jk):Jk:=λn ρ P=>u n ρ λc n1=>P (!c) n1
variable {wA wB:Jk}{rest:List Expr}
theorem GQ(h:DT X a wA):DTW X (.BoolOp .And [a] pos) wA:=by
 obtain⟨t,h1,h2⟩:=h
 exact⟨t,MK h1,h2⟩
theorem Bb(h:DT X a wA):DTW X (.BoolOp .Or [a] pos) wA:=by
 obtain⟨t,h1,h2⟩:=h
 exact⟨t,S3 h1,h2⟩
theorem Fw(ha:DT X a wA)(hb:DTW X (.BoolOp .And (b::rest) pos) wB):DTW X (.BoolOp .And (a::b::rest) pos) (LG wA wB):=by
 obtain⟨t,h1,h2⟩:=ha
 obtain⟨u,g1,g2⟩:=hb
 refine⟨_,O5 h1 g1,λC M H n ρ σ P Q R w q=>?_⟩
 refine h2 C M H n ρ σ _ _ R w λc H1 n1 e1 f1 p=>?_
 cases c with
 | false=>exact q false H1 n1 e1 f1 p
 | true=>exact g2 C M H1 n1 ρ σ P Q (R.step e1 f1) p λb H2 n2 e2 f2 p2=>q b H2 n2 (e1.trans e2) f2 p2
theorem Bi(ha:DT X a wA)(hb:DTW X (.BoolOp .Or (b::rest) pos) wB):DTW X (.BoolOp .Or (a::b::rest) pos) (EM wA wB):=by
 obtain⟨t,h1,h2⟩:=ha
 obtain⟨u,g1,g2⟩:=hb
 refine⟨_,WO h1 g1,λC M H n ρ σ P Q R w q=>?_⟩
 refine h2 C M H n ρ σ _ _ R w λc H1 n1 e1 f1 p=>?_
 cases c with
 | true=>exact q true H1 n1 e1 f1 p
 | false=>exact g2 C M H1 n1 ρ σ P Q (R.step e1 f1) p λb H2 n2 e2 f2 p2=>q b H2 n2 (e1.trans e2) f2 p2
theorem DTW.dt(h:DTW X e wA):DT X e wA:=by
 obtain⟨t,h1,h2⟩:=h
 exact⟨t,h1.pt,h2⟩
theorem BK(ha:DT X a wA):DT X (.UnaryOp .Not a pos) (CH wA):=by
 obtain⟨t,h1,h2⟩:=ha
 refine⟨_,W8 h1,λC M H n ρ σ P Q R w q=>?_⟩
 exact h2 C M H n ρ σ _ _ R w λc H1 n1 e1 f1 p=>q (!c) H1 n1 e1 f1 p
noncomputable def I_(u v:DW):DW:=λn ρ P=>u n ρ λc n1=>match c with
 | .bl true=>v n1 ρ P
 | .bl false=>P (.bl false) n1
 | _=>False
noncomputable def YI(u:DW):DW:=λn ρ P=>u n ρ λc n1=>match c with
 | .bl b=>P (.bl (!b)) n1
 | _=>False
theorem Cy{op}(h:DE X a κ wa):DE X (.BoolOp op [a] pos) κ wa:=by
 obtain⟨t,h1,h2⟩:=h
 exact⟨t,XD h1,h2⟩
theorem Cz(ha:DE X a κa wa)(hb:DE X (.BoolOp .And (b::rest) pos) .sh wb):DE X (.BoolOp .And (a::b::rest) pos) .sh (I_ wa wb):=by
 obtain⟨t,h1,h2⟩:=ha
 obtain⟨u,g1,g2⟩:=hb
 refine⟨_,XG h1 g1,λC M H n ρ σ P Q R w q=>?_⟩
 refine h2 C M H n ρ σ _ _ R w λc H1 d n1 e1 f1 r1 p=>?_
 cases d with
 | bl k =>
  refine⟨k,JK r1,?_⟩
  cases k with
  | false=>exact q _ H1 _ n1 e1 f1 (show VR X.K C.V M H H1 .sh (.bl false) (.bl false) from rfl) p
  | true =>
   show u σ H1 Q
   exact g2 C M H1 n1 ρ σ P Q (R.step e1 f1) p λv H2 d n2 e2 f2 r2 p2=>q v H2 d n2 (e1.trans e2) f2 r2 p2
 | _=>exact p.elim
theorem Xr(ha:DE X a κa wa):DE X (.UnaryOp .Not a pos) .sh (YI wa):=by
 obtain⟨t,h1,h2⟩:=ha
 refine⟨_,XE h1,λC M H n ρ σ P Q R w q=>?_⟩
 refine h2 C M H n ρ σ _ _ R w λc H1 d n1 e1 f1 r1 p=>?_
 cases d with
 | bl k=>exact⟨k,JK r1,q _ H1 _ n1 e1 f1 (show VR X.K C.V M H H1 .sh (.bl (!k)) (.bl (!k)) from rfl) p⟩
 | _=>exact p.elim
noncomputable def YE(t:Jk)(u v:DW):DW:=λn ρ P=>t n ρ λc n1=>if c=true then u n1 ρ P else v n1 ρ P
theorem OI(hc:DT X c wA)(ha:DE X a κ wa)(hb:DE X b κ wb):DE X (.IfExp c a b pos) κ (YE wA wa wb):=by
 obtain⟨t,h1,h2⟩:=hc
 obtain⟨u,g1,g2⟩:=ha
 obtain⟨u',k1,k2⟩:=hb
 refine⟨_,Nh h1 g1 k1,λC M H n ρ σ P Q R w q=>?_⟩
 refine h2 C M H n ρ σ _ _ R w λc H1 n1 e1 f1 p=>?_
 cases c with
 | true=>exact g2 C M H1 n1 ρ σ P Q (R.step e1 f1) p λv H2 d n2 e2 f2 r2 p2=>q v H2 d n2 (e1.trans e2) f2 (VR.back e1 r2) p2
 | false=>exact k2 C M H1 n1 ρ σ P Q (R.step e1 f1) p λv H2 d n2 e2 f2 r2 p2=>q v H2 d n2 (e1.trans e2) f2 (VR.back e1 r2) p2
noncomputable def AW:FP:=λn _ P=>P [] n
noncomputable def AE(w:DW)(ws:FP):FP:=λn ρ P=>w n ρ λd n1=>ws n1 ρ λds n2=>P (d::ds) n2
variable {es:List Expr}{ws:FP}
theorem AU:V7 X [] AW:=⟨_,BV,λC M H n ρ σ P Q R w q=>q [] H [] n (Ext.refl _ _) R.feed .nil w⟩
theorem AK:YD X [] AW:=⟨_,BV,λC M H n ρ σ P Q R w q=>q [] H [] n (Ext.refl _ _) R.feed rfl w⟩
theorem AO(ha:DE X e κ wa)(hr:V7 X es ws)(hs:autoParam (starEach (e::es) X.env=(false,eval e X.env)::starEach es X.env) zau3._auto_1):V7 X (e::es) (AE wa ws):=by
 obtain⟨t,h1,h2⟩:=ha
 obtain⟨u,g1,g2⟩:=hr
 refine⟨_,A3 h1 g1 hs,λC M H n ρ σ P Q R w q=>?_⟩
 refine h2 C M H n ρ σ _ _ R w λv H1 d n1 e1 f1 r1 p=>?_
 have R1:=R.step e1 f1
 refine g2 C M H1 n1 ρ σ _ _ R1 p λvs H2 ds n2 e2 f2 r2 p2=>?_
 exact q (v::vs) H2 (d::ds) n2 (e1.trans e2) f2 (.cons ((r1.tpOf R.dom R.vM).pres (R1.pres e2) e2 R.uV) r2) p2
theorem AB(ha:DE X e κ wa)(hr:YD X es ws)(hk:autoParam (κ≠.tp) zau6._auto_1)(hs:autoParam (starEach (e::es) X.env=(false,eval e X.env)::starEach es X.env) zau3._auto_1):YD X (e::es) (AE wa ws):=by
 obtain⟨t,h1,h2⟩:=ha
 obtain⟨u,g1,g2⟩:=hr
 refine⟨_,A3 h1 g1 hs,λC M H n ρ σ P Q R w q=>?_⟩
 refine h2 C M H n ρ σ _ _ R w λv H1 d n1 e1 f1 r1 p=>?_
 have R1:=R.step e1 f1
 refine g2 C M H1 n1 ρ σ _ _ R1 p λvs H2 ds n2 e2 f2 r2 p2=>?_
 exact q (v::vs) H2 (d::ds) n2 (e1.trans e2) f2 ⟨v,vs,rfl,(r1.shOf R.dom hk).pres (R1.pres e2),r2⟩ p2
noncomputable def BH(ws:FP):DW:=λn ρ P=>ws n ρ λds n1=>ds.length<=sizeLine/\P (.tup ds) n1
noncomputable def BM(ws:FP):DW:=λn ρ P=>ws n ρ λds n1=>ds.length<=sizeLine/\P (.lst ds) n1
theorem KY{M:Addr->Prop}{H:Hp}{p:Addr}{o:HO}(h:H p=none):Pres M H (λb=>M b\/b=p) (BN H p o):=⟨λb u e _=>by rw [Ac (BE e h)]; exact e,λb z=>z.elim .inl λz=>.inr (by rw [z]; exact h),λb vs e=>by rw [Ac (BE e h)]; exact e⟩
theorem BD{H:Hp}{p:Addr}{o:HO}(h:H p=none):Grow H (BN H p o):=.inr ⟨p,o,h,rfl⟩
theorem Al{x1}(h:YD X es ws):DE X (.Tuple es x1 pos) .sh (BH ws):=by
 obtain⟨t,h1,h2⟩:=h
 refine⟨_,XA h1,λC M H n ρ σ P Q R w q=>?_⟩
 refine h2 C M H n ρ σ _ _ R w λvs H1 ds n1 e1 f1 r1 p=>?_
 refine⟨by rw [r1.length]; exact p.1,λa ha=>?_⟩
 have g:Grow H1 (BN H1 a (.tup vs)):=BD ha
 refine q _ _ (.tup ds) n1 (e1.trans g.ext) (f1.grow g) ⟨a,vs,rfl,Ak,r1.pres g.pres⟩ p.2
theorem Ao(h:YD X es ws):DE X (.List es pos) .fr (BM ws):=by
 obtain⟨t,h1,h2⟩:=h
 refine⟨_,IK h1,λC M H n ρ σ P Q R w q=>?_⟩
 refine h2 C M H n ρ σ _ _ R w λvs H1 ds n1 e1 f1 r1 p=>?_
 refine⟨by rw [r1.length]; exact p.1,λa ha=>?_⟩
 have g:Grow H1 (BN H1 a (.lst vs)):=BD ha
 exact q _ _ (.lst ds) n1 (e1.trans g.ext) (f1.grow g) (VR.back e1 ⟨a,rfl,ha,vs,Ak,r1.pres (KY ha)⟩) p.2
noncomputable def C6(K:Frag)(κ:Kd)(r:List V->Hp->VK->Prop)(f:List D->(D->Prop)->Prop):Prop:=∀(U:Addr->Prop) (M:Addr->Prop) (H:Hp) (ds:List D) (vs:List V) (P:D->Prop) (Q:VK),(∀a,M a->∃o,H a=some o)->(∀a,U a->M a) ->
 Paired (λv d=>AtT K U M H d v) vs ds->f ds P->(∀v H' z,Grow H H'->VR K U M H H' κ v z->P z->Q v H')->r vs H Q
noncomputable def Cj(f:List D->(D->Prop)->Prop)(ws:FP):DW:=λn ρ P=>ws n ρ λds n1=>f ds λz=>P z n1
theorem Wa{r:List V->Hp->VK->Prop}{f:List D->(D->Prop)->Prop}{t:TA}(hA:C6 X.K κ r f)(h2:∀(C:Fm) (M:Addr->Prop) (H:Hp) (n:Nat) (ρ:List Slot) (σ:L2.St) (P:List D->Nat->Prop) (Q:List V->Hp->Prop),Rel X.K C M H n ρ σ->ws n ρ P ->
   (∀vs H' ds n',Ext C.U H H'->FeedC X.K C.F M H' n'->Paired (λv d=>AtT X.K C.V M H' d v) vs ds->P ds n'->Q vs H')->t σ H Q)
  (C:Fm) (M:Addr->Prop) (H:Hp) (n:Nat) (ρ:List Slot) (σ:L2.St) (P:D->Nat->Prop) (Q:VK) (R:Rel X.K C M H n ρ σ) (w:Cj f ws n ρ P)
  (q:∀v H' d n',Ext C.U H H'->FeedC X.K C.F M H' n'->VR X.K C.V M H H' κ v d->P d n'->Q v H'):ZW r t σ H Q:=by
 refine h2 C M H n ρ σ _ _ R w λvs H1 ds n1 e1 f1 r1 p=>?_
 have R1:=R.step e1 f1
 refine hA C.V M H1 ds vs _ _ R1.dom R1.vM r1 p λv H2 z g vr pz=>?_
 exact q v H2 z n1 (e1.trans g.ext) (f1.grow g) (VR.back e1 vr) pz
theorem Ah{x:Str}{id:String}{p:Pos}{r:List V->Hp->VK->Prop}{f:List D->(D->Prop)->Prop}(hc:CV X (.builtin id) r)(hA:C6 X.K κ r f)(hg:Gl X x)(hm:X.mg x=none)(hv:bootBuiltins x=some (.builtin id))(ha:V7 X (e::es) ws)
  (hn:autoParam (x ≠ "__name__") zau1._auto_1) (hdb:autoParam ((x==("__debug__" : Str))=false) zau1._auto_1)
  (he:autoParam (starEach (e::es) X.env=(false,eval e X.env)::starEach es X.env) zau3._auto_1) (hpl:autoParam ((backTo pos (starEach es X.env)).any (·.1)=false) zau3._auto_1):DE X (.Call (.Name x p) (e::es) [] pos) κ (Cj f ws):=by
 obtain⟨t,h1,h2⟩:=ha
 exact⟨_,Fn hc hg hm hv h1 hn hdb he hpl,λC M H n ρ σ P Q R w q=>Wa hA h2 C M H n ρ σ P Q R w q⟩
theorem BP{x:Str}{T:String}{p:Pos}{r:List V->Hp->VK->Prop}{f:List D->(D->Prop)->Prop}(hc:CV X (.type T) r)(hA:C6 X.K κ r f)(hg:Gl X x)(hm:X.mg x=none)(hv:bootBuiltins x=some (.type T))(ha:V7 X (e::es) ws)
  (hn:autoParam (x ≠ "__name__") zau1._auto_1) (hdb:autoParam ((x==("__debug__" : Str))=false) zau1._auto_1)
  (he:autoParam (starEach (e::es) X.env=(false,eval e X.env)::starEach es X.env) zau3._auto_1) (hpl:autoParam ((backTo pos (starEach es X.env)).any (·.1)=false) zau3._auto_1):DE X (.Call (.Name x p) (e::es) [] pos) κ (Cj f ws):=by
 obtain⟨t,h1,h2⟩:=ha
 exact⟨_,LR hc hg hm hv h1 hn hdb he hpl,λC M H n ρ σ P Q R w q=>Wa hA h2 C M H n ρ σ P Q R w q⟩
end
end Dp
namespace L2
open PySem PySem.Spec PyProof.Rows
noncomputable def Ze(z:Str):It:=⟨λi _=>i<z.cps.size,λi H x H'=>H'=H/\∃c,z.cps[i]?=some c/\x=.str ⟨#[c]⟩,λi _=>z.cps.size<=i⟩
theorem NL{P:Program}{w:World}{K:Frag}{tg:Expr}(it:Addr)(z:Str)(t:Tok)(ty:String)(hty:ty = "str_ascii_iterator"\/ty = "str_iterator")
  (W:∀A':Around,A'.handled=none->Walks P w A' it [it] [it] z.cps.size (SignAt z) (λi h=>h.IsStrIter it ty z t i)):Turn P w K tg (Ze z) [it] it (λi h=>h.IsStrIter it ty z t i) where
 mem:=by simp
 obj:=λi h st b hb=>by
  have e:b=it:=by simpa using hb
  subst e
  obtain⟨o,e,c,d⟩:=st
  exact⟨o,e,λv z=>by rw [d] at z; cases z⟩
 keep:=λi h h' st k=>let ⟨o,ho,r⟩:=st; ⟨o,k it (by simp) o ho,r⟩
 item:=by
  intro X hP hw hK hc i pins s σ H E I hf st hg
  subst hP hw hK
  obtain⟨f0,f1,f2,f3,f4,f5⟩:=hf it (by simp)
  refine(W X.A (I.ok.hd hc)).item i s _ _ hg st λv h' tk hv st' kk=>?_
  obtain⟨c,u,hcu,rfl⟩:=hv
  have I1:Inv X pins σ H { s with heap:=h',toks:=tk }:=I.turned (λb o hb e=>kk b o (by simpa using hb) e) f0 f1 f3 f4 f5
  obtain⟨o,e,cc,d⟩:=id st'
  exact⟨_,rfl,QN (s:={ s with heap:=h',toks:=tk }) e cc d (by rcases hty with rfl | rfl <;> decide) ⟨.str ⟨#[c]⟩,H,I1,⟨_,rfl⟩,⟨rfl,c,hcu,rfl⟩,st',λb hb=>(hf b hb).1⟩⟩
 done:=by
  intro X hP hw hK hc i pins s σ H E I hf st hg
  subst hP hw hK
  obtain⟨f0,f1,f2,f3,f4,f5⟩:=hf it (by simp)
  have hx:z.cps[i]?=none:=by
   have:z.cps.size<=i:=hg
   simp [this]
  rcases hty with rfl | rfl
  ·exact wpAny_pyNext_ascii_end (I.ok.hd hc) st hx λh' eb=>⟨rfl,I.turned (t':=s.toks) (λb o hb e=>eb b o hb e) f0 f1 f3 f4 f5⟩
  ·exact wpAny_pyNext_wide_end (I.ok.hd hc) st hx λh' eb=>⟨rfl,I.turned (t':=s.toks) (λb o hb e=>eb b o hb e) f0 f1 f3 f4 f5⟩
 self:=λA i s Q E st h=>by
  rcases hty with rfl | rfl
  ·exact wpAny_pyIter_striter_ascii st h
  ·exact wpAny_pyIter_striter_wide st h
section
variable {X:Cx}{tg:Expr}
noncomputable def Yy(K:Frag)(tl:TE):TI:=λσ H R=>tl σ H λx H1 =>
 (∃a,x=.ref a/\(∃xs,SqL K H1 a xs)/\R (Uo K a) H1)\/(∃a,x=.ref a/\(∃xs,SqT K H1 a xs)/\R (Um K a) H1)\/∃z,x=.str z/\R (Ze z) H1
theorem MM{l:Expr}{tl:TE}(hl:PE X l tl):PI X tg l (Yy X.K tl):=by
 intro pins s σ H R I h
 refine Bs (hl pins s σ H _ I h) λv s1 ⟨x,H1,I1,r1,q1⟩=>?_
 have hne:∀b,b∈[s1.heap.objs.size]->Ks X pins H1 b:=λb hb=>by
  have e:b=s1.heap.objs.size:=by simpa using hb
  subst e
  exact I1.fpOk (No _) (I1.hok.fresh (No _))
 rcases q1 with ⟨a,e,⟨xs,hq⟩,q⟩ | ⟨a,e,⟨xs,hq⟩,q⟩ | ⟨z,e,q⟩
 ·subst e
  cases r1
  obtain⟨its,rv,p,hz⟩:=I1.list hq
  refine c9 p.isList ?_
  exact⟨s1.heap.objs.size,[s1.heap.objs.size],_,_,H1,rfl,I1.kept (t':=s1.toks) λb o e=>Ev _ e,Qp a _,⟨_,XV _ rfl,rfl,rfl⟩,hne,q⟩
 ·subst e
  cases r1
  obtain⟨its,rv,p,hz⟩:=I1.tuple hq
  refine dS (show s1.heap.IsTuple a its.toArray from p) ?_
  exact⟨s1.heap.objs.size,[s1.heap.objs.size],_,_,H1,rfl,I1.kept (t':=s1.toks) λb o e=>Ev _ e,Of a _,⟨_,XV _ rfl,rfl,rfl⟩,hne,q⟩
 ·subst e
  obtain⟨t,rfl⟩:=r1
  cases ha:z.cps.all (·<128)
  ·refine wpAny_pyIter_wide ha ?_
   exact⟨s1.heap.objs.size,[s1.heap.objs.size],_,_,H1,rfl,I1.kept (t':=s1.toks) λb o e=>Ev _ e,NL _ z t "str_iterator" (.inr rfl) (λA' hA=>Walks.strWide hA _ z t),⟨_,XV _ rfl,rfl,rfl⟩,hne,q⟩
  ·refine wpAny_pyIter_ascii ha ?_
   exact⟨s1.heap.objs.size,[s1.heap.objs.size],_,_,H1,rfl,I1.kept (t':=s1.toks) λb o e=>Ev _ e,NL _ z t "str_ascii_iterator" (.inl rfl) (λA' hA=>Walks.strAscii hA _ z t),⟨_,XV _ rfl,rfl,rfl⟩,hne,q⟩
end
section
variable {X:Cx}
theorem K2(bs:List Bool):((bB bs.length).all λi=>(bs[i]?).getD true)=bs.all id:=by
 induction bs with
 | nil=>rfl
 | cons b r ih =>
  rw [Tk,dW,fk,List.all_map,fk]
  simp only [List.getElem?_cons_zero,Option.getD_some,id_eq]
  congr 1
theorem OP(hc:X.calm=true):CV X (.builtin "all") (λxs H Q=>∃(p:Addr) (bs:List Bool),xs=[.ref p]/\SqL X.K H p (bs.map V.bl)/\Q (.bl (bs.all id)) H):=by
 intro pins s σ H xs us Q I r h
 obtain⟨p,bs,rfl,hq,q⟩:=h
 obtain⟨u,rfl,rx⟩:=vals1 r
 cases rx
 obtain⟨its,r',pl,hz⟩:=I.list hq
 have hlen:=r'.length
 have hl:s.heap.IsList p its.toArray:=pl.isList
 have hlt:p<s.heap.objs.size:=by obtain⟨_,e,_⟩:=id hl; exact ZB e
 refine call_all_walk (c9 hl ?_)
 refine⟨s.heap.objs.size,[s.heap.objs.size,p],[s.heap.objs.size],its.toArray.size,_,_,λi=>(bs[i]?).getD true,rfl,Walks.list (A:=X.A.in1) (I.ok.hd hc) _ p (bG hlt) its.toArray,
  ⟨⟨_,XV _ rfl,rfl,rfl⟩,hl.push _⟩,λi v s' Q' E' hP hQ=>?_,λh' tk hk=>?_⟩
 ·have hv:its[i]?=some v:=by simpa using hP
  have hb:∃b,bs[i]?=some b:=by
   have hi:i<its.length:=(au.mp hv).1
   rw [Db] at hlen
   exact⟨bs[i]'(by omega),FM (by omega)⟩
  obtain⟨b,eb⟩:=hb
  obtain⟨u,eu,ru⟩:=r'.get (i:=i) (x:=.bl b) (by rw [Op,eb]; rfl)
  rw [hv] at eu
  cases eu
  cases ru
  simp only [eb,Option.getD_some] at hQ
  exact dX hQ
 ·have e:((bB its.toArray.size).all λi=>(bs[i]?).getD true)=bs.all id:=by
   rw [T0,← hlen,Db]; exact K2 bs
  rw [e]
  exact⟨.bl _,H,I.kept (t':=tk) λb x e=>hk b x (λhm=>by rw [ay.mp hm] at e; exact cP _ (ZB e)) (Ev _ e),rfl,q⟩
theorem OO:CV X (.builtin "isinstance") (λxs H Q=>∃x T t b,xs=[x,.ty T]/\HA X.K H x t/\PySem.W.kitOne X.K t (.type T)=some b/\Q (.bl b) H):=by
 intro pins s σ H xs us Q I r h
 obtain⟨x,T,t,b,rfl,ty,e,q⟩:=h
 obtain⟨u,w',rfl,rx,rt⟩:=vals2 r
 cases rt
 exact RY I rx ty e λtk=>⟨.bl b,H,I.tok _,rfl,q⟩
theorem RK:OpR X (compareOp .LtE) (λx y H Q=>∃i j,x=.str i/\y=.str j/\Q (.bl (!(j.cps.toList<i.cps.toList))) H):=by
 intro pins s σ H x y v u Q I rx ry h
 obtain⟨i,j,rfl,rfl,q⟩:=h
 obtain⟨t,rfl⟩:=rx
 obtain⟨t',rfl⟩:=ry
 exact PySem.P.le_str ⟨.bl _,H,I,rfl,q⟩
theorem Om{ys:List Str}:∀{us:List Value},Vals (ys.map V.str) us->StrsAre us ys:=by
 induction ys with
 | nil=>intro us r; rw [de] at r; cases r; exact .nil
 | cons n ns ih =>
  intro us r
  rw [av] at r
  cases r with
  | cons r1 r2 =>
   obtain⟨t,e⟩:=r1
   subst e
   exact .cons n t (ih r2)
theorem Wy:SlR X (λx lo hi H Q=>∃z,x=.str z/\z.length<=sizeLine/\Q (.str (Txt.slice z lo hi)) H):=by
 intro pins s σ H x v vl vu lo hi sl Q I rx hs pl pu h
 obtain⟨z,rfl,hz,q⟩:=h
 obtain⟨t,rfl⟩:=rx
 refine⟨"str",_,F.slot_str_getitem.lookup,typeIs_str _ _ _,?_⟩
 have fin:∀t' k,EP X pins σ Q (.str (Txt.slice z lo hi) t') { s with toks:=k }:=λt' k=>⟨.str _,H,I.tok _,⟨_,rfl⟩,q⟩
 cases pl with
 | none =>
  cases pu with
  | none=>exact dJ (l:=none) (u:=none) (st:=none) hs rfl (fE ⟨bF (Txt.slice_le z _ _) hz,λt' k=>fin t' k⟩)
  | int j tj=>exact dJ (l:=none) (u:=some (j,tj)) (st:=none) hs rfl (fE ⟨bF (Txt.slice_le z _ _) hz,λt' k=>fin t' k⟩)
 | int i ti =>
  cases pu with
  | none=>exact dJ (l:=some (i,ti)) (u:=none) (st:=none) hs rfl (fE ⟨bF (Txt.slice_le z _ _) hz,λt' k=>fin t' k⟩)
  | int j tj=>exact dJ (l:=some (i,ti)) (u:=some (j,tj)) (st:=none) hs rfl (fE ⟨bF (Txt.slice_le z _ _) hz,λt' k=>fin t' k⟩)
theorem RI(hu:X.A.units<cLine):OpR X (compareOp .NotEq) (λx y H Q=>∃a b xs,x=.ref a/\y=.ref b/\SqL X.K H a xs/\SqL X.K H b []/\Q (.bl (!xs.isEmpty)) H):=by
 intro pins s σ H x y v u Q I rx ry h
 obtain⟨a,b,xs,rfl,rfl,ha,hb,q⟩:=h
 cases rx
 cases ry
 obtain⟨its,r1,p1,_⟩:=I.list ha
 obtain⟨its2,r2,p2,_⟩:=I.list hb
 cases r2
 cases r1 with
 | nil=>exact SeqAt.RcNeAt.lists (e:=λ_=>true) p1.isList p2.isList rfl hu (λj h1 h2=>absurd h1 (by simp)) X.prog X.w X.xe _ ⟨.bl _,H,I,rfl,q⟩
 | cons r1 r2=>exact SeqAt.RcNeAt.lists_lengths p1.isList p2.isList (by simp) hu X.prog X.w X.xe _ ⟨.bl _,H,I,rfl,q⟩
end
end L2
namespace Dp
open PySem PySem.Spec PyProof.Rows L2
noncomputable def ZI(K:Frag)(F:Option Fd)(U V' M:Addr->Prop)(H:Hp)(n:Nat)(ss:List Slot)(vs:List V):Prop :=
 (∀a,M a->∃o,H a=some o)/\(∀f,F=some f->U f.1)/\(∀a,U a->V' a)/\(∀a,V' a->M a)/\FeedC K F M H n/\Paired (Lx K F V' M H) vs ss
noncomputable abbrev W2:=List Slot->Nat->(D->Nat->Prop)->Prop
noncomputable def C7(K:Frag)(κ:Kd)(W:W2)(np:Nat):Sp:=λvs H Q _=>vs.length=np/\∃(F:Option Fd) (U V' M:Addr->Prop) (n:Nat) (ss:List Slot) (P:D->Nat->Prop),ZI K F U V' M H n ss vs/\W ss n P /\
 ∀v H' d n',Ext U H H'->FeedC K F M H' n'->VR K V' M H H' κ v d->P d n'->Q v H'
noncomputable def AN(w:DW):Nat->List Slot->(Slot->Nat->Prop)->Prop:=λn ρ P=>w n ρ λd n1=>P (.sh d) n1
noncomputable def SD(w:DW):Nat->List Slot->(Slot->Nat->Prop)->Prop:=λn ρ P=>w n ρ λd n1=>P (.br d) n1
noncomputable def Ay(i:Nat):Nat->List Slot->(Slot->Nat->Prop)->Prop:=λn ρ P=>match ρ[i]? with
 | some .fd=>P .fd n
 | _=>False
noncomputable def Af:YC:=λn _ P=>P [] n
noncomputable def AD(w:Nat->List Slot->(Slot->Nat->Prop)->Prop)(ws:YC):YC:=λn ρ P=>w n ρ λs n1=>ws n1 ρ λss n2=>P (s::ss) n2
noncomputable def Ad(W:W2)(was:YC):DW:=λn ρ P=>was n ρ λss n1=>W ss n1 P
section
variable {X:Cx}{a b c e:Expr}{es:List Expr}{κ κa κb:Kd}{wa wb wc:DW}{pos:Pos}{w1:Nat->List Slot->(Slot->Nat->Prop)->Prop}{was:YC}{ws:FP}
theorem AH(h:DE X e κ wa)(hk:autoParam (κ≠.tp) zau6._auto_1):ZT X e (AN wa):=by
 obtain⟨t,h1,h2⟩:=h
 refine⟨t,h1,λC M H n ρ σ P Q R w q=>h2 C M H n ρ σ _ _ R w λv H' d n' e f r p=>?_⟩
 exact q v H' (.sh d) n' e f ⟨⟨v,rfl,r.shOf R.dom hk⟩,rfl⟩ p
theorem ZA(h:DE X e κ wa):ZT X e (SD wa):=by
 obtain⟨t,h1,h2⟩:=h
 refine⟨t,h1,λC M H n ρ σ P Q R w q=>h2 C M H n ρ σ _ _ R w λv H' d n' e f r p=>?_⟩
 exact q v H' (.br d) n' e f ⟨⟨v,rfl,r.tpOf R.dom R.vM⟩,rfl⟩ p
theorem Aw(i:Nat){x:Str}{pos:Pos}(hN:autoParam (X.N[i]?=some x) zau3._auto_1)(hv:autoParam (X7 X.env.scope x) zau4._auto_1)(hd:autoParam ((x==("__debug__" : Str))=false) zau1._auto_1)
  (hcd:autoParam ((x==("__classdict__" : Str))=false) zau1._auto_1):ZT X (.Name x pos) (Ay i):=by
 refine⟨_,J6 hN hv hd hcd,λC M H n ρ σ P Q R w q=>?_⟩
 unfold Ay at w
 split at w
 ·rename_i hd
  obtain⟨f,e1,h1⟩:=R.sl i _ hd
  exact⟨.ref f.1,getD_some e1,q _ H .fd n (Ext.refl _ _) R.feed ⟨⟨f,rfl,h1⟩,rfl⟩ w⟩
 ·exact w.elim
theorem AM:ZR X [] Af:=⟨_,BV,λC M H n ρ σ P Q R w q=>q [] H [] n (Ext.refl _ _) R.feed .nil w⟩
theorem AA(ha:ZT X e w1)(hr:ZR X es was)(hs:autoParam (starEach (e::es) X.env=(false,eval e X.env)::starEach es X.env) zau3._auto_1):ZR X (e::es) (AD w1 was):=by
 obtain⟨t,h1,h2⟩:=ha
 obtain⟨u,g1,g2⟩:=hr
 refine⟨_,A3 h1 g1 hs,λC M H n ρ σ P Q R w q=>?_⟩
 refine h2 C M H n ρ σ _ _ R w λv H1 d n1 e1 f1 r1 p=>?_
 have R1:=R.step e1 f1
 refine g2 C M H1 n1 ρ σ _ _ R1 p λvs H2 ds n2 e2 f2 r2 p2=>?_
 exact q (v::vs) H2 (d::ds) n2 (e1.trans e2) f2 (.cons ⟨r1.1.pres (R1.pres e2) (λ_ z=>z) e2 R.uV,r1.2⟩ r2) p2
theorem V0{k:Nat}{f:Addr}{fd:FuncData}{ps:List Str}{W:W2}{x:Str}{p:Pos}(G:BG X.prog X.w X.K X.mg X.base CW k f fd ps (C7 X.K κ W ps.length))(hW:∀ss n P,W ss n P->ss.length=ps.length)
  (hr:Room k X.A) (hg:Gl X x) (hm:X.mg x=some (.ref f)) (hk:keepIn X.K (.ref f)=true) (hb:Binds X.K fd ps []) (ha:ZR X (e::es) was)
  (hdb:autoParam ((x==("__debug__" : Str))=false) zau1._auto_1) (he:autoParam (starEach (e::es) X.env=(false,eval e X.env)::starEach es X.env) zau3._auto_1) (hpl:autoParam ((backTo pos (starEach es X.env)).any (·.1)=false) zau3._auto_1) :
  DE X (.Call (.Name x p) (e::es) [] pos) κ (Ad W was):=by
 obtain⟨t,h1,h2⟩:=ha
 refine⟨_,MN G hr hg hm hk hb .nil QD h1 hdb he hpl,λC M H n ρ σ P Q R w q=>?_⟩
 refine h2 C M H n ρ σ _ _ R w λvs H1 ss n1 e1 f1 r1 p=>?_
 have R1:=R.step e1 f1
 show C7 X.K κ W ps.length (vs++[]) H1 Q E0
 rw [cL]
 refine⟨(Paired.length r1).trans (hW _ _ _ p),C.F,C.U,C.V,M,n1,ss,P,⟨R1.dom,R1.fU,R1.uV,R1.vM,f1,r1⟩,p,λv H2 d n2 e2 f2 r2 p2=>?_⟩
 exact q v H2 d n2 (e1.trans e2) f2 (VR.back e1 r2) p2
noncomputable def ac(K:Frag)(κ:Kd)(T:String)(r:V->List V->Hp->VK->Prop)(f:D->List D->(D->Prop)->Prop):Prop:=∀(U:Addr->Prop) (M:Addr->Prop) (H:Hp) (d:D) (ds:List D) (x:V) (vs:List V) (P:D->Prop) (Q:VK),(∀a,M a->∃o,H a=some o)->(∀a,U a->M a) ->
 AtT K U M H d x->Paired (λv d=>AtT K U M H d v) vs ds->f d ds P->(∀v H' z,Grow H H'->VR K U M H H' κ v z->P z->Q v H')->r x vs H Q
noncomputable def aG(T:String)(d:D):Prop:=match d with
 | .str _=>T = "str"
 | .int _=>T = "int"
 | .lst _=>T = "list"
 | _=>False
theorem Xg{T:String}{K:Frag}{U:Addr->Prop}{M:Addr->Prop}{H:Hp}{d:D}{x:V}(h:aG T d)(hx:AtT K U M H d x):Zh K T x H:=by
 cases d with
 | str z=>obtain⟨e,_⟩:=hx; subst e; exact h
 | int i=>cases (show x=.int i from hx); exact h
 | lst ds=>obtain⟨a,vs,e,_,hq,_⟩:=hx; subst e; exact .inl ⟨h,vs,.inl hq⟩
 | _=>exact(show False from h).elim
noncomputable def DO(X:Cx)(e:Option Expr)(w:Nat->List Slot->(Option Int->Nat->Prop)->Prop):Prop:=∃t,PO X e t/\∀(C:Fm) (M:Addr->Prop) (H:Hp) (n:Nat) (ρ:List Slot) (σ:L2.St) (P:Option Int->Nat->Prop) (Q:Option Int->Hp->Prop),Rel X.K C M H n ρ σ->w n ρ P ->
 (∀o H' n',Ext C.U H H'->FeedC X.K C.F M H' n'->P o n'->Q o H')->t σ H Q
noncomputable def Bk:Nat->List Slot->(Option Int->Nat->Prop)->Prop:=λn _ P=>P none n
noncomputable def C1(w:DW):Nat->List Slot->(Option Int->Nat->Prop)->Prop:=λn ρ P=>w n ρ λd n1=>match d with
 | .int i=>P (some i) n1
 | _=>False
theorem A_:DO X none Bk:=⟨_,P9,λC M H n ρ σ P Q R w q=>q none H n (Ext.refl _ _) R.feed w⟩
theorem PM{U:Addr->Prop}{K:Frag}{M:Addr->Prop}{H H':Hp}{v:V}{i:Int}(h:VR K U M H H' κ v (.int i)):v=.int i:=by
 cases κ with
 | sh=>exact h
 | tp=>exact h
 | fr=>obtain⟨a,_,_,t⟩:=h; exact(show False from t).elim
theorem A9(h:DE X e κ wa):DO X (some e) (C1 wa):=by
 obtain⟨t,h1,h2⟩:=h
 refine⟨_,P8 h1,λC M H n ρ σ P Q R w q=>?_⟩
 refine h2 C M H n ρ σ _ _ R w λv H1 d n1 e1 f1 r1 p=>?_
 cases d with
 | int i=>exact⟨i,PM r1,q _ H1 n1 e1 f1 p⟩
 | _=>exact p.elim
noncomputable def aJ(K:Frag)(κ:Kd)(r:V->Option Int->Option Int->Hp->VK->Prop)(f:D->Option Int->Option Int->(D->Prop)->Prop):Prop:=∀(U:Addr->Prop) (M:Addr->Prop) (H:Hp) (d:D) (x:V) (lo hi:Option Int) (P:D->Prop) (Q:VK),(∀a,M a->∃o,H a=some o)->(∀a,U a->M a) ->
 AtT K U M H d x->f d lo hi P->(∀v H' z,Grow H H'->VR K U M H H' κ v z->P z->Q v H')->r x lo hi H Q
noncomputable def OZ(f:D->Option Int->Option Int->(D->Prop)->Prop)(w:DW)(wl wh:Nat->List Slot->(Option Int->Nat->Prop)->Prop):DW:=λn ρ P=>w n ρ λd n1=>wl n1 ρ λlo n2=>wh n2 ρ λhi n3=>f d lo hi λz=>P z n3
theorem Bp{lo hi:Option Expr}{p2:Pos}{r:V->Option Int->Option Int->Hp->VK->Prop}{f:D->Option Int->Option Int->(D->Prop)->Prop}{wl wh:Nat->List Slot->(Option Int->Nat->Prop)->Prop}(hr:SlR X r)(hA:aJ X.K κ r f)(he:DE X e κa wa)(hl:DO X lo wl)(hh:DO X hi wh) :
  DE X (.Subscript e (.Slice lo hi none p2) pos) κ (OZ f wa wl wh):=by
 obtain⟨t,h1,h2⟩:=he
 obtain⟨u,g1,g2⟩:=hl
 obtain⟨u',k1,k2⟩:=hh
 refine⟨_,Ng hr h1 g1 k1,λC M H n ρ σ P Q R w q=>?_⟩
 refine h2 C M H n ρ σ _ _ R w λv H1 d n1 e1 f1 r1 p=>?_
 have R1:=R.step e1 f1
 have tv:=r1.tpOf R.dom R.vM
 refine g2 C M H1 n1 ρ σ _ _ R1 p λlo H2 n2 e2 f2 p2=>?_
 have R2':=R1.step e2 f2
 refine k2 C M H2 n2 ρ σ _ _ R2' p2 λhi H3 n3 e3 f3 p3=>?_
 have R3:=R2'.step e3 f3
 refine hA C.V M H3 d v lo hi _ _ R3.dom R3.vM ((tv.pres (R1.pres e2) e2 R.uV).pres (R2'.pres e3) e3 R.uV) p3 λv H4 z g vr pz=>?_
 exact q v H4 z n3 (((e1.trans e2).trans e3).trans g.ext) (f3.grow g) (VR.back ((e1.trans e2).trans e3) vr) pz
end
structure E2 where
 nx:Nat->List Slot->Prop
 rt:D->Nat->Prop
 bk:Nat->List Slot->Prop:=λ_ _=>False
 ct:Nat->List Slot->Prop:=λ_ _=>False
noncomputable abbrev Aj:=E2->Nat->List Slot->Prop
structure Uk (K:Frag) (C:Fm) (κ:Kd) (D2:E2) (E:Ends):Prop where
 nx:∀M H n ρ σ,Rel K C M H n ρ σ->D2.nx n ρ->E.nx σ H
 rt:∀v H d n,Ext C.U C.H0 H->FeedC K C.F C.M0 H n->VR K C.V C.M0 C.H0 H κ v d->D2.rt d n->E.rt v H
 bk:∀M H n ρ σ,Rel K C M H n ρ σ->D2.bk n ρ->E.bk σ H
 ct:∀M H n ρ σ,Rel K C M H n ρ σ->D2.ct n ρ->E.ct σ H
noncomputable def DS(X:Cx)(κ:Kd)(st:Stmt)(w:Aj):Prop:=∃t,PS X st t/\∀(C:Fm) (M:Addr->Prop) (H:Hp) (n:Nat) (ρ:List Slot) (σ:L2.St) (D2:E2) (E:Ends),Rel X.K C M H n ρ σ->Uk X.K C κ D2 E->w D2 n ρ->t E σ H
noncomputable def Ry(X:Cx)(κ:Kd)(st:List Stmt)(w:Aj):Prop:=∃t,PSs X st t/\∀(C:Fm) (M:Addr->Prop) (H:Hp) (n:Nat) (ρ:List Slot) (σ:L2.St) (D2:E2) (E:Ends),Rel X.K C M H n ρ σ->Uk X.K C κ D2 E->w D2 n ρ->t E σ H
noncomputable def BA:Aj:=λD2 n ρ=>D2.nx n ρ
noncomputable def Ap(u v:Aj):Aj:=λD2 n ρ=>u { D2 with nx:=v D2 } n ρ
noncomputable def A2(w:DW):Aj:=λD2 n ρ=>w n ρ λd n1=>D2.rt d n1
noncomputable def Bl(t:Jk)(u v:Aj):Aj:=λD2 n ρ=>t n ρ λc n1=>if c=true then u D2 n1 ρ else v D2 n1 ρ
noncomputable def A5(i:Nat)(w:DW):Aj:=λD2 n ρ=>w n ρ λd n1=>D2.nx n1 (ρ.set i (.sh d))
section
variable {X:Cx}{κ κe:Kd}{st:Stmt}{rest:List Stmt}{u v:Aj}{wa:DW}{wA:Jk}{e c:Expr}{pos:Pos}
theorem Ab:Ry X κ [] BA:=⟨_,HR,λC M H n ρ σ D2 E R L w=>L.nx M H n ρ σ R w⟩
theorem AF(h1:DS X κ st u)(h2:Ry X κ rest v):Ry X κ (st::rest) (Ap u v):=by
 obtain⟨t,a1,a2⟩:=h1
 obtain⟨t',b1,b2⟩:=h2
 refine⟨_,BI a1 b1,λC M H n ρ σ D2 E R L w=>?_⟩
 exact a2 C M H n ρ σ { D2 with nx:=v D2 } { E with nx:=t' E } R ⟨λM H n ρ σ R w=>b2 C M H n ρ σ D2 E R L w,L.rt,L.bk,L.ct⟩ w
theorem AL(h1:DS X κ st u):Ry X κ [st] u:=by
 obtain⟨t,a1,a2⟩:=h1
 exact⟨t,Bz a1,a2⟩
theorem W3{K:Frag}{C:Fm}{M:Addr->Prop}{H H':Hp}{n n':Nat}{ρ:List Slot}{σ:L2.St}{D2:E2}{E:Ends}{d:D}{v:V}(R:Rel K C M H n ρ σ)(L:Uk K C κ D2 E)(e:Ext C.U H H')(f:FeedC K C.F M H' n')(r:VR K C.V M H H' κ v d)(hk:κ≠.tp)(p:D2.rt d n'):E.rt v H':=by
 have less:Pres M H' C.M0 H':=Pres.less R.sub
 refine L.rt v H' d n' (R.ext.trans e) (f.pres less λ_ _ _ z=>z) ?_ p
 cases κ with
 | sh=>exact At.pres less r
 | tp=>exact absurd rfl hk
 | fr =>
  have r':=VR.back (κ:=.fr) R.ext r
  obtain⟨a,e1,h1,h2⟩:=r'
  exact⟨a,e1,h1,h2.pres (Pres.less λb z=>z.imp (R.sub b) id) λ_ z=>z⟩
theorem AT(h:DE X e κ wa)(hk:autoParam (κ≠.tp) zau6._auto_1):DS X κ (.Return (some e) pos) (A2 wa):=by
 obtain⟨t,a1,a2⟩:=h
 refine⟨_,G0 a1,λC M H n ρ σ D2 E R L w=>?_⟩
 exact a2 C M H n ρ σ _ _ R w λv H' d n' e1 f1 r1 p=>W3 R L e1 f1 r1 hk p
theorem Ax{a b:List Stmt}(hc:DT X c wA)(ha:Ry X κ a u)(hb:Ry X κ b v):DS X κ (.If c a b pos) (Bl wA u v):=by
 obtain⟨t,a1,a2⟩:=hc
 obtain⟨t',b1,b2⟩:=ha
 obtain⟨t'',c1,c2⟩:=hb
 refine⟨_,Nd a1 b1 c1,λC M H n ρ σ D2 E R L w=>?_⟩
 refine a2 C M H n ρ σ _ _ R w λb H1 n1 e1 f1 p=>?_
 cases b with
 | true=>exact b2 C M H1 n1 ρ σ D2 E (R.step e1 f1) L p
 | false=>exact c2 C M H1 n1 ρ σ D2 E (R.step e1 f1) L p
theorem Ae{i:Nat}{x:Str}{pos':Pos}(hN:X.N.Nodup)(hi:X.N[i]?=some x)(hx:Loc X.env.scope x)(he:DE X e κe wa)(hk:autoParam (κe≠.tp) zau6._auto_1)(hs:autoParam (swapsWith e (some (.Name x pos')) pos.line X.env=pure false) zau3._auto_1)
  (hf:autoParam (X.fn x=true\/X.env.scope.names.lookup x=some .local) zau0._auto_1):DS X κ (.Assign [.Name x pos'] e pos) (A5 i wa):=by
 obtain⟨t,a1,a2⟩:=he
 refine⟨_,Er hN hi hx a1 hs hf,λC M H n ρ σ D2 E R L w=>?_⟩
 refine a2 C M H n ρ σ _ _ R w λv H' d n' e1 f1 r1 p=>?_
 exact L.nx M H' n' _ _ ((R.step e1 f1).set (r1.shOf R.dom hk)) p
end
section
variable {X:Cx}{κ κe:Kd}{e:Expr}{wa:DW}{pos:Pos}
noncomputable def Jo(i:Nat)(w:DW):Aj:=λD2 n ρ=>w n ρ λd n1=>D2.nx n1 (ρ.set i (.ow d))
theorem GR{i:Nat}{x:Str}{pos':Pos}(hN:X.N.Nodup)(hi:X.N[i]?=some x)(hx:Loc X.env.scope x)(he:DE X e .fr wa)(hs:autoParam (swapsWith e (some (.Name x pos')) pos.line X.env=pure false) zau3._auto_1)
  (hf:autoParam (X.fn x=true\/X.env.scope.names.lookup x=some .local) zau0._auto_1):DS X κ (.Assign [.Name x pos'] e pos) (Jo i wa):=by
 obtain⟨t,a1,a2⟩:=he
 refine⟨_,Er hN hi hx a1 hs hf,λC M H n ρ σ D2 E R L w=>?_⟩
 refine a2 C M H n ρ σ _ _ R w λv H' d n' e1 f1 r1 p=>?_
 obtain⟨a,rfl,h1,h2⟩:=r1
 exact L.nx _ H' n' _ _ (R.setOw e1 f1 h1 h2) p
noncomputable def Wn(i:Nat)(w:Aj):Aj:=λD2 n ρ=>∃d,ρ[i]?=some (.ow d)/\w D2 n (ρ.set i (.sh d))
theorem Xi{K:Frag}{C:Fm}{M:Addr->Prop}{H:Hp}{n:Nat}{ρ:List Slot}{σ:L2.St}{i:Nat}{d:D}(R:Rel K C M H n ρ σ)(hi:ρ[i]?=some (.ow d)):∃M',Rel K C M' H n (ρ.set i (.sh d)) σ:=by
 obtain⟨a,e1,_⟩:=R.sl i _ hi
 exact⟨_,R.freeze hi e1⟩
theorem QU{st:List Stmt}{w:Aj}(i:Nat)(h:Ry X κ st w):Ry X κ st (Wn i w):=by
 obtain⟨t,a1,a2⟩:=h
 refine⟨t,a1,λC M H n ρ σ D2 E R L ⟨d,hd,hw⟩=>?_⟩
 obtain⟨M',R'⟩:=Xi R hd
 exact a2 C M' H n _ σ D2 E R' L hw
noncomputable def V9(i:Nat):Aj:=λD2 n ρ=>∃d,ρ[i]?=some (.ow d)/\D2.rt d n
theorem Vr{x:Str}{p:Pos}(i:Nat)(h:PE X (.Name x p) (BU i)):DS X .fr (.Return (some (.Name x p)) pos) (V9 i):=by
 refine⟨_,G0 h,λC M H n ρ σ D2 E R L ⟨d,hd,hw⟩=>?_⟩
 obtain⟨a,e1,m,nv,t⟩:=R.sl i _ hd
 refine⟨.ref a,getD_some e1,L.rt _ H d n R.ext (R.feed.pres (Pres.less R.sub) λ_ _ _ z=>z) ⟨a,rfl,(R.new i _ a hd rfl e1).2,?_⟩ hw⟩
 exact t.pres (Pres.less λb z=>z.elim (R.sub b) λz=>by rw [z]; exact m) λ_ z=>z
noncomputable def YA(K:Frag)(r:V->List V->Hp->VK->Prop)(f:D->List D->(D->D->Prop)->Prop):Prop:=∀(M:Addr->Prop) (H:Hp) (a:Addr) (d:D) (ds:List D) (vs:List V) (P:D->D->Prop) (Q:VK),M a->Tops K M H a d->Ats K M H ds vs->f d ds P ->
 (∀o e z v,Tops K M (BN H a o) a e->At K M (BN H a o) z v->P e z->Q v (BN H a o))->r (.ref a) vs H Q
noncomputable def Ut(i:Nat)(T:String)(f:D->List D->(D->D->Prop)->Prop)(ws:FP):Aj:=λD2 n ρ=>∃d,ρ[i]?=some (.ow d)/\aG T d/\ws n ρ λds n1=>f d ds λe _=>D2.nx n1 (ρ.set i (.ow e))
theorem GN{M:Addr->Prop}{H:Hp}{a:Addr}{o u:HO}(m:M a)(e:H a=some u)(t:autoParam (∀vs,u≠.tup vs) zau7._auto_1):Pres M H M (BN H a o):=⟨λb o' q nb=>by rw [Ac (λz=>nb (by rw [z]; exact m))]; exact q,λ_ z=>.inl z,λb vs q=>by rw [Ac (λz=>by rw [z,e] at q; exact t vs (Uf q))]; exact q⟩
theorem Ke{x name:Str}{p apos cpos:Pos}{T id:String}{r:V->List V->Hp->VK->Prop}{f:D->List D->(D->D->Prop)->Prop}{es:List Expr}{ws:FP}(i:Nat)(pa:PlainAttrs T)(slot:PySem.Slot T name id)(hty:typeOf (.builtin id)=pure (.type "method_descriptor"))
  (hm:Zd X id r) (hA:YA X.K r f) (h:PE X (.Name x p) (BU i)) (ha:YD X (e::es) ws)
  (hbase:autoParam (attributeBase (.Name x p) name X.env (eval (.Name x p) X.env)=eval (.Name x p) X.env) zau3._auto_1)
  (hfew:autoParam (((backTo cpos (starEach (e::es) X.env)).all (λx=>!x.1)&&(backToKw cpos (keywordEach [] X.env)).all (λx=>x.1.isSome)
   && decide ((e::es).length+([]:List Keyword).length+(if ([]:List Keyword).isEmpty then 0 else 1)<30))=true) zau3._auto_1)
  (hline:autoParam ((apos.endLine==cpos.line)=true) zau3._auto_1) (hs:autoParam (starEach (e::es) X.env=(false,eval e X.env)::starEach es X.env) zau3._auto_1) (hplain:autoParam ((backTo cpos (starEach es X.env)).any (·.1)=false) zau3._auto_1)
  (hsw:autoParam (swapsWith (.Call (.Attribute (.Name x p) name apos) (e::es) [] cpos) none pos.line X.env=pure false) zau3._auto_1) :
  DS X κ (.Expr (.Call (.Attribute (.Name x p) name apos) (e::es) [] cpos) pos) (Ut i T f ws):=by
 obtain⟨t,a1,a2⟩:=ha
 refine⟨_,VD (Yq pa slot hty hm h a1 hbase hfew hline hs hplain) hsw,λC M H n ρ σ D2 E R L ⟨d,hd,hT,hw⟩=>?_⟩
 obtain⟨a,e1,m,nv,tt⟩:=R.sl i _ hd
 refine⟨.ref a,getD_some e1,Xg hT (tt.att nv),?_⟩
 refine a2 C M H n ρ σ _ _ R hw λvs H1 ds n1 ee f1 r1 p=>?_
 have R1:=R.step ee f1
 obtain⟨a',e1',m',nv',tt'⟩:=R1.sl i _ hd
 rw [e1] at e1'
 cases e1'
 exact hA M H1 a d ds vs _ _ m' tt' r1 p λo d' z v t2 hz pp=>L.nx M _ n1 _ σ (R1.mut hd e1 t2) pp
noncomputable def T6(d:D)(ds:List D)(P:D->D->Prop):Prop:=∃xs y,d=.lst xs/\ds=[y]/\xs.length<sizeLine/\P (.lst (xs++[y])) .non
theorem Qg{K:Frag}:YA K P2 T6:=by
 intro M H a d ds vs P Q m t hv w q
 obtain⟨xs,y,rfl,rfl,hl,w⟩:=w
 obtain⟨us,h1,h2⟩:=t
 obtain⟨u,r,rfl,hu,hr⟩:=hv
 cases (show r=[] from hr)
 refine⟨a,us,u,rfl,rfl,h1,by rw [h2.length]; exact hl,q _ (.lst (xs++[y])) .non _ ⟨us++[u],Ak,?_⟩ rfl w⟩
 exact(h2.append (Ats.one hu)).pres (GN m h1)
noncomputable def T5(d:D)(ds:List D)(P:D->D->Prop):Prop:=∃xs ys,d=.lst xs/\ds=[.lst ys]/\xs.length+ys.length<=sizeLine/\P (.lst (xs++ys)) .non
theorem Ud{K:Frag}:YA K P0 T5:=by
 intro M H a d ds vs P Q m t hv w q
 obtain⟨xs,ys,rfl,rfl,hl,w⟩:=w
 obtain⟨us,h1,h2⟩:=t
 obtain⟨u,r,rfl,hu,hr⟩:=hv
 cases (show r=[] from hr)
 obtain⟨b,zs,rfl,hb,hz⟩:=hu
 refine⟨a,b,us,zs,rfl,rfl,h1,hb.2,by rw [h2.length,hz.length]; exact hl,q _ (.lst (xs++ys)) .non _ ⟨us++zs,Ak,?_⟩ rfl w⟩
 exact(h2.append hz).pres (GN m h1)
end
noncomputable def Yields(K:Frag)(M:Addr->Prop)(H:Hp)(J:It)(ds:List D):Prop:=∀(i:Nat) (M':Addr->Prop) (H':Hp),Pres M H M' H'->(∀a,M' a->∃o,H' a=some o) ->
 (∀d,ds[i]?=some d->J.go i H'/\∀x H2,J.yld i H' x H2->Grow H' H2/\At K M' H2 d x)/\(ds.length<=i->J.stop i H')
noncomputable def Qh(K:Frag)(U M:Addr->Prop)(H:Hp)(J:It)(ds:List D):Prop:=∀(i:Nat) (M':Addr->Prop) (H':Hp),Pres M H M' H'->Ext U H H'->(∀a,M' a->∃o,H' a=some o) ->
 (∀d,ds[i]?=some d->J.go i H'/\∀x H2,J.yld i H' x H2->Grow H' H2/\At K M' H2 d x)/\(ds.length<=i->J.stop i H')
theorem Yields.e{K:Frag}{U M:Addr->Prop}{H:Hp}{J:It}{ds:List D}(h:Yields K M H J ds):Qh K U M H J ds:=λi M' H' p _ d=>h i M' H' p d
noncomputable def ZQ(X:Cx)(tg iter:Expr)(w:FP):Prop:=∃wi,PI X tg iter wi/\∀(C:Fm) (M:Addr->Prop) (H:Hp) (n:Nat) (ρ:List Slot) (σ:L2.St) (P:List D->Nat->Prop) (R:It->Hp->Prop),Rel X.K C M H n ρ σ->w n ρ P ->
 (∀J H' ds n',Ext C.U H H'->FeedC X.K C.F M H' n'->Qh X.K C.U M H' J ds->P ds n'->R J H')->wi σ H R
noncomputable def DI(X:Cx)(tg iter:Expr)(w:FP):Prop:=∃wi,PI X tg iter wi/\∀(C:Fm) (M:Addr->Prop) (H:Hp) (n:Nat) (ρ:List Slot) (σ:L2.St) (P:List D->Nat->Prop) (R:It->Hp->Prop),Rel X.K C M H n ρ σ->w n ρ P ->
 (∀J H' ds n',Ext C.U H H'->FeedC X.K C.F M H' n'->Yields X.K M H' J ds->P ds n'->R J H')->wi σ H R
noncomputable def signs(x:Str):List D:=x.cps.toList.map λc=>.str ⟨#[c]⟩
noncomputable def BZ(w:DW):FP:=λn ρ P=>w n ρ λd n1=>match d with
 | .lst ds=>P ds n1
 | .tup ds=>P ds n1
 | .str x=>P (signs x) n1
 | _=>False
theorem NC{K:Frag}{M:Addr->Prop}{H:Hp}{a:Addr}{vs:List V}{ds:List D}(h:NdL M H a vs)(hs:Ats K M H ds vs):Yields K M H (Uo K a) ds:=by
 intro i M' H' p _
 have hq:SqL K H' a vs:=(h.pres p).sq
 refine⟨λd hd=>?_,λhl=>⟨vs,hq,by rw [hs.length]; exact hl⟩⟩
 obtain⟨v,e,hv⟩:=(hs.pres p).get hd
 refine⟨⟨vs,v,hq,e⟩,λx H2 y=>?_⟩
 obtain⟨e2,y⟩:=y
 subst e2
 have:some v=some x:=e.symm.trans (y vs hq)
 cases this
 exact⟨.refl,hv⟩
theorem Jl{K:Frag}{M:Addr->Prop}{H:Hp}{a:Addr}{vs:List V}{ds:List D}(h:NdT M H a vs)(hs:Ats K M H ds vs):Yields K M H (Um K a) ds:=by
 intro i M' H' p _
 have hq:SqT K H' a vs:=(h.pres p).sq
 refine⟨λd hd=>?_,λhl=>⟨vs,hq,by rw [hs.length]; exact hl⟩⟩
 obtain⟨v,e,hv⟩:=(hs.pres p).get hd
 refine⟨⟨vs,v,hq,e⟩,λx H2 y=>?_⟩
 obtain⟨e2,y⟩:=y
 subst e2
 have:some v=some x:=e.symm.trans (y vs hq)
 cases this
 exact⟨.refl,hv⟩
theorem yields_str{K:Frag}{M:Addr->Prop}{H:Hp}{z:Str}:Yields K M H (Ze z) (signs z):=by
 intro i M' H' p _
 refine⟨λd hd=>?_,λhl=>?_⟩
 ·unfold signs at hd
  rw [Op] at hd
  have hi:i<z.cps.size:=by
   cases q:z.cps.toList[i]? with
   | none=>rw [q] at hd; cases hd
   | some c=>simpa using (au.mp q).1
  refine⟨hi,λx H2 y=>?_⟩
  obtain⟨e2,c,hc,rfl⟩:=y
  subst e2
  have:z.cps.toList[i]?=some c:=by simpa using hc
  rw [this] at hd
  have hd':D.str ⟨#[c]⟩=d:=Uf hd
  subst hd'
  exact⟨.refl,rfl,by rw [bu]; show 1<=16777216; decide⟩
 ·show z.cps.size<=i
  unfold signs at hl
  simpa using hl
noncomputable def By(lo:Int)(n:Nat):List D:=(bB n).map fun(i:Nat)=>.int (lo+(i:Int))
theorem HC{K:Frag}{M:Addr->Prop}{H:Hp}{lo:Int}{m:Nat}:Yields K M H (Wf lo m) (By lo m):=by
 intro i M' H' p _
 refine⟨λd hd=>?_,λhl=>?_⟩
 ·unfold By at hd
  rw [Op] at hd
  have hi:i<m:=by
   cases q:(bB m)[i]? with
   | none=>rw [q] at hd; cases hd
   | some c=>simpa using (au.mp q).1
  rw [d8 hi] at hd
  have hd':D.int (lo+i)=d:=Uf hd
  subst hd'
  refine⟨hi,λx H2 y=>?_⟩
  obtain⟨e2,e3⟩:=y
  subst e2
  exact⟨.refl,e3⟩
 ·show m<=i
  unfold By at hl
  simpa using hl
section
variable {X:Cx}{tg e e2:Expr}{es:List Expr}{κ:Kd}{wa:DW}{ws:FP}{p pos:Pos}
theorem Fy(h:DE X e κ wa)(hk:autoParam (κ≠.tp) zau6._auto_1):DI X tg e (BZ wa):=by
 obtain⟨t,a1,a2⟩:=h
 refine⟨_,MM a1,λC M H n ρ σ P Rr R w q=>?_⟩
 refine a2 C M H n ρ σ _ _ R w λv H1 d n1 e1 f1 r1 p=>?_
 have hv:=r1.shOf R.dom hk
 cases d with
 | lst ds =>
  obtain⟨a,vs,e,hn,hs⟩:=hv
  exact .inl ⟨a,e,⟨vs,hn.sq⟩,q _ H1 ds n1 e1 f1 (NC hn hs) p⟩
 | tup ds =>
  obtain⟨a,vs,e,hn,hs⟩:=hv
  exact .inr (.inl ⟨a,e,⟨vs,hn.sq⟩,q _ H1 ds n1 e1 f1 (Jl hn hs) p⟩)
 | str z=>exact .inr (.inr ⟨z,hv.1,q _ H1 _ n1 e1 f1 yields_str p⟩)
 | _=>exact p.elim
noncomputable def IZ(ws:FP):FP:=λn ρ P=>ws n ρ λds n1=>∃j:Int,ds=[.int j]/\(-(2 ^ 62)<=j/\j<2 ^ 62)/\P (By 0 j.toNat) n1
theorem DM(hg:Gl X "range")(hm:X.mg "range"=none)(ha:V7 X [e] ws)(hs:autoParam (starEach [e] X.env=[(false,eval e X.env)]) zau3._auto_1):DI X tg (.Call (.Name "range" p) [e] [] pos) (IZ ws):=by
 obtain⟨t,a1,a2⟩:=ha
 refine⟨_,DK hg hm a1 hs,λC M H n ρ σ P Rr R w q=>?_⟩
 refine a2 C M H n ρ σ _ _ R w λvs H1 ds n1 e1 f1 r1 p=>?_
 obtain⟨j,rfl,hj,p⟩:=p
 cases r1 with
 | cons r rr =>
  cases rr
  have hv:_=V.int j:=r
  exact⟨j,by rw [hv],hj.1,hj.2,q _ H1 _ n1 e1 f1 HC p⟩
theorem DI.c(h:DI X tg e ws):ZQ X tg e ws:=by
 obtain⟨wi,a1,a2⟩:=h
 exact⟨wi,a1,λC M H n ρ σ P Rr R w q=>a2 C M H n ρ σ P Rr R w λJ H' ds n' e1 f1 y p=>q J H' ds n' e1 f1 y.e p⟩
theorem B1(h:DE X e κ wa):ZQ X tg e (BZ wa):=by
 obtain⟨t,a1,a2⟩:=h
 refine⟨_,MM a1,λC M H n ρ σ P Rr R w q=>?_⟩
 refine a2 C M H n ρ σ _ _ R w λv H1 d n1 e1 f1 r1 p=>?_
 have hv:AtT X.K C.V M H1 d v:=r1.tpOf R.dom R.vM
 cases d with
 | lst ds =>
  obtain⟨a,vs,e,nv,hr,hs⟩:=hv
  refine .inl ⟨a,e,⟨vs,.inl hr⟩,q _ H1 ds n1 e1 f1 (λi M' H' pr ex _=>?_) p⟩
  have hq:SqL X.K H' a vs:=by
   rcases hr with hr | ⟨o,hr⟩
   ·exact .inl (.inl (ex.keep hr λz=>nv (R.uV a z)))
   ·exact .inl (.inr ⟨o,ex.keep hr λz=>nv (R.uV a z)⟩)
  refine⟨λd hd=>?_,λhl=>⟨vs,hq,by rw [hs.length]; exact hl⟩⟩
  obtain⟨v,e,hv⟩:=(hs.pres pr).get hd
  refine⟨⟨vs,v,hq,e⟩,λx H2 y=>?_⟩
  obtain⟨e2,y⟩:=y
  subst e2
  have:some v=some x:=e.symm.trans (y vs hq)
  cases this
  exact⟨.refl,hv⟩
 | tup ds =>
  obtain⟨a,vs,e,hn,hs⟩:=hv
  exact .inr (.inl ⟨a,e,⟨vs,hn.sq⟩,q _ H1 ds n1 e1 f1 (Jl hn hs).e p⟩)
 | str z=>exact .inr (.inr ⟨z,hv.1,q _ H1 _ n1 e1 f1 yields_str.e p⟩)
 | _=>exact p.elim
end
noncomputable abbrev BW:=D->List Slot->(List Slot->Prop)->Prop
noncomputable def DG(X:Cx)(tg:Expr)(b:BW):Prop:=∃g,PG X tg g/\∀(C:Fm) (M:Addr->Prop) (H:Hp) (n:Nat) (ρ:List Slot) (σ:L2.St) (d:D) (v:V) (P:List Slot->Prop) (Q:L2.St->Hp->Prop),Rel X.K C M H n ρ σ->At X.K M H d v->b d ρ P ->
 (∀ρ' σ',Rel X.K C M H n ρ' σ'->P ρ'->Q σ' H)->g v σ H Q
noncomputable def A1(i:Nat):BW:=λd ρ P=>P (ρ.set i (.sh d))
theorem Av{X:Cx}{i:Nat}{x:Str}{pos:Pos}(hN:X.N.Nodup)(hi:X.N[i]?=some x)(hx:Loc X.env.scope x)(hf:autoParam (X.fn x=true\/X.env.scope.names.lookup x=some .local) zau0._auto_1):DG X (.Name x pos) (A1 i) :=
 ⟨_,C9 hN hi hx hf,λC M H n ρ σ d v P Q R h w q=>q _ _ (R.set h) w⟩
noncomputable def B8(b:BW)(body:Aj)(D2:E2):List D->Nat->List Slot->Prop
 | [],n,ρ=>D2.nx n ρ
 | d::ds,n,ρ=>b d ρ λρ1=>body { D2 with nx:=B8 b body D2 ds,ct:=B8 b body D2 ds,bk:=D2.nx } n ρ1
noncomputable def Gr(src:FP)(b:BW)(body:Aj):Aj:=λD2 n ρ=>src n ρ λds n1=>B8 b body D2 ds n1 ρ
theorem Rel.unpin{K:Frag}{C:Fm}{p:(Addr->Prop)×Hp}{M:Addr->Prop}{H:Hp}{n:Nat}{ρ:List Slot}{σ:L2.St}(R:Rel K { C with pins:=p::C.pins } M H n ρ σ):Rel K C M H n ρ σ :=
 ⟨R.len,R.sub,R.dom,R.ext,R.fU,R.uV,R.vM,R.feed,R.sl,λq hq=>R.pin q (TM _ hq),R.br0,R.new,R.two,R.kept⟩
theorem Rel.pinned{K:Frag}{C:Fm}{M:Addr->Prop}{H:Hp}{n:Nat}{ρ:List Slot}{σ:L2.St}(R:Rel K C M H n ρ σ):Rel K { C with pins:=(M,H)::C.pins } M H n ρ σ :=
 ⟨R.len,R.sub,R.dom,R.ext,R.fU,R.uV,R.vM,R.feed,R.sl,λq hq=>(aq.mp hq).elim (λe=>e▸Pres.refl M H) (R.pin q),R.br0,R.new,R.two,R.kept⟩
section
variable {X:Cx}{κ:Kd}{tg iter:Expr}{body:List Stmt}{src:FP}{b:BW}{wb:Aj}{pos:Pos}
theorem Ce(hp:PassesOwn (model X.prog X.w) X.A X.env X.xe)(hc:X.calm=true)(hi:DI X tg iter src)(hg:DG X tg b)(hb:Ry X κ body wb)
  (hs:autoParam (∀x,foldedSetIterable iter X.env x=pure x) zau2._auto_1):DS X κ (.For tg iter body [] pos) (Gr src b wb):=by
 obtain⟨wi,a1,a2⟩:=hi
 obtain⟨g,g1,g2⟩:=hg
 obtain⟨tb,b1,b2⟩:=hb
 refine⟨_,G1 hp hc a1 g1 b1 hs,λC M H n ρ σ D2 E R L w=>?_⟩
 refine a2 C M H n ρ σ _ _ R w λJ H1 ds n1 e1 f1 y w1=>?_
 have R1:=R.step e1 f1
 refine⟨λi m σ' H'=>m=ds.length - i/\i<=ds.length/\∃M' n' ρ',Rel X.K { C with pins:=(M,H1)::C.pins } M' H' n' ρ' σ'/\B8 b wb D2 (ds.drop i) n' ρ',⟨ds.length,by simp,TW _,M,n1,ρ,R1.pinned,w1⟩,?_⟩
 rintro i m σ' H' ⟨rfl,hi,M',n',ρ',R',w'⟩
 have pr:Pres M H1 M' H':=R'.pin (M,H1) On
 by_cases hlt:i<ds.length
 ·have ed:ds.drop i=ds[i]::ds.drop (i+1):=cC hlt
  rw [ed] at w'
  obtain⟨go,yl⟩:=(y i M' H' pr R'.dom).1 ds[i] (FM hlt)
  refine .inr ⟨go,λσ2 H2=>∃M2 n2 ρ2,Rel X.K { C with pins:=(M,H1)::C.pins } M2 H2 n2 ρ2 σ2/\B8 b wb D2 (ds.drop (i+1)) n2 ρ2,λσ2 H2 ⟨M2,n2,ρ2,R2',w2⟩=>⟨ds.length - (i+1),by omega,rfl,hlt,M2,n2,ρ2,R2',w2⟩,λx H2 hy=>?_⟩
  obtain⟨gr,hx⟩:=yl x H2 hy
  have R2':=R'.step gr.ext (R'.feed.grow gr)
  refine g2 _ M' H2 n' ρ' σ' ds[i] x _ _ R2' hx w' λρ3 σ3 R3 w3=>?_
  refine b2 _ M' H2 n' ρ3 σ3 { D2 with nx:=B8 b wb D2 (ds.drop (i+1)),ct:=B8 b wb D2 (ds.drop (i+1)),bk:=D2.nx } _ R3 ⟨λM4 H4 n4 ρ4 σ4 R4 w4=>⟨M4,n4,ρ4,R4,w4⟩,L.rt,λM4 H4 n4 ρ4 σ4 R4 w4=>L.nx M4 H4 n4 ρ4 σ4 R4.unpin w4,λM4 H4 n4 ρ4 σ4 R4 w4=>⟨M4,n4,ρ4,R4,w4⟩⟩ w3
 ·have e:i=ds.length:=by omega
  subst e
  rw [eV] at w'
  exact .inl ⟨(y _ M' H' pr R'.dom).2 (No _),L.nx M' H' n' ρ' σ' R'.unpin w'⟩
end
noncomputable def ER(b:BW)(tt:Jk)(te:DW)(P:List D->Nat->Prop):List D->List D->Nat->List Slot->Prop
 | [],acc,n,_=>P acc n
 | d::ds,acc,n,ρ=>b d ρ λρ1=>tt n ρ1 λc n1=>if c=true then te n1 ρ1 λy n2=>ER b tt te P ds (acc++[y]) n2 ρ1 else ER b tt te P ds acc n1 ρ1
noncomputable def RO:Slot->Slot
 | .ow d=>.br d
 | .lt _ d=>.br d
 | s=>s
theorem RN(s:Slot):(RO s).owns=false:=by cases s <;> rfl
theorem Ew{js:List (Option Nat)}{ρ:List Slot}{i:Nat}{s:Slot}(h:(js.map λo=>match o with | some i=>RO ((ρ[i]?).getD .no) | none=>Slot.no)[i]?=some s):s.owns=false:=by
 rw [Op] at h
 cases q:js[i]? with
 | none=>rw [q] at h; cases h
 | some o =>
  rw [q] at h
  cases o with
  | none =>
   have e:Slot.no=s:=Uf h
   rw [← e]; rfl
  | some j =>
   have e:RO ((ρ[j]?).getD .no)=s:=Uf h
   rw [← e]; exact RN _
noncomputable def Hb(js:List (Option Nat))(ρ:List Slot):List Slot:=js.map λo=>match o with
 | some i=>RO ((ρ[i]?).getD .no)
 | none=>.no
noncomputable def B6(js:List (Option Nat))(src:FP)(b:BW)(tt:Jk)(te:DW):DW:=λn ρ P=>src n ρ λds n1=>ds.length<=10000000/\ER b tt te (λacc n2=>P (.lst acc) n2) ds [] n1 (Hb js ρ)
noncomputable def ZP(X:Cx)(ifs:List Expr)(w:Jk):Prop:=∃t,ZK X ifs t/\∀(C:Fm) (M:Addr->Prop) (H:Hp) (n:Nat) (ρ:List Slot) (σ:L2.St) (P:Bool->Nat->Prop) (Q:Bool->Hp->Prop),Rel X.K C M H n ρ σ->w n ρ P ->
 (∀b H' n',Ext C.U H H'->FeedC X.K C.F M H' n'->P b n'->Q b H')->t σ H Q
noncomputable def FK:Jk:=λn _ P=>P true n
theorem CA{X:Cx}:ZP X [] FK:=⟨_,P_,λC M H n ρ σ P Q R w q=>q true H n (Ext.refl _ _) R.feed w⟩
theorem Hk{X:Cx}{c:Expr}{w:Jk}(h:DT X c w):ZP X [c] w:=by
 obtain⟨t,h1,h2⟩:=h
 exact⟨t,VF h1,h2⟩
theorem LX{js:List (Option Nat)}{ρ:List Slot}{σ:L2.St}{i:Nat}{s:Slot}(hs:(Hb js ρ)[i]?=some s):s=.no\/∃(j:Nat) (s':Slot),ρ[j]?=some s'/\s=RO s'/\((Cc js σ)[i]?).getD none=(σ[j]?).getD none:=by
 unfold Hb at hs
 unfold Cc
 rw [Op] at hs ⊢
 cases q:js[i]? with
 | none=>rw [q] at hs; cases hs
 | some o =>
  rw [q] at hs
  cases o with
  | none=>exact .inl (Uf hs).symm
  | some j =>
   have e:RO ((ρ[j]?).getD .no)=s:=Uf hs
   cases q2:ρ[j]? with
   | none=>rw [q2] at e; exact .inl e.symm
   | some s' =>
    rw [q2] at e
    exact .inr ⟨j,s',q2,e.symm,rfl⟩
theorem Nx{K:Frag}{F:Option Fd}{U U' M M':Addr->Prop}{H H':Hp}{js:List (Option Nat)}{ρ:List Slot}{σ:L2.St}(hsl:∀(i:Nat) (s:Slot),ρ[i]?=some s->SlotOk K F U M H s ((σ[i]?).getD none))
  (pr:Pres M H M' H') (br:∀d v,AtT K U M H d v->AtT K U' M' H' d v):∀(i:Nat) (s:Slot),(Hb js ρ)[i]?=some s->SlotOk K F U' M' H' s (((Cc js σ)[i]?).getD none):=by
 intro i s hs
 rcases LX (σ:=σ) hs with rfl | ⟨j,s',q,rfl,e⟩
 ·trivial
 ·rw [e]
  have h1:=hsl j s' q
  cases s' with
  | no=>trivial
  | sh d=>obtain⟨v,e1,h2⟩:=h1; exact⟨v,e1,h2.pres pr⟩
  | ex a nm ks ds=>obtain⟨e1,h2⟩:=h1; exact⟨e1,h2.pres pr⟩
  | br d=>obtain⟨v,e1,h2⟩:=h1; exact⟨v,e1,br d v h2⟩
  | fd=>exact h1
  | wd ks ds=>exact h1
  | ow d=>obtain⟨a,e1,_,nv,t⟩:=h1; exact⟨.ref a,e1,br d _ (t.att nv)⟩
  | lt a d=>obtain⟨e1,_,nv,t⟩:=h1; exact⟨.ref a,e1,br d _ (t.att nv)⟩
theorem QG{K:Frag}{F:Option Fd}{U M:Addr->Prop}{H:Hp}{js:List (Option Nat)}{ρ:List Slot}{σ:L2.St}(hsl:∀(i:Nat) (s:Slot),ρ[i]?=some s->SlotOk K F U M H s ((σ[i]?).getD none)){i:Nat}{d:D}{a:Addr}
  (hs:(Hb js ρ)[i]?=some (.br d)) (ha:((Cc js σ)[i]?).getD none=some (.ref a)):∃o,H a=some o:=by
 rcases LX (σ:=σ) hs with z | ⟨j,s',q,z,e⟩
 ·cases z
 ·rw [e] at ha
  have h1:=hsl j s' q
  rw [ha] at h1
  cases s' with
  | br d=>obtain⟨v,e1,h2⟩:=h1; cases e1; exact h2.lies
  | ow d=>obtain⟨b,e1,_,nv,t⟩:=h1; cases e1; exact(t.att nv).lies
  | lt b d=>obtain⟨e1,_,nv,t⟩:=h1; cases e1; exact(t.att nv).lies
  | no=>cases z
  | sh d=>cases z
  | ex a nm ks ds=>cases z
  | fd=>cases z
  | wd ks ds=>cases z
section
variable {X:Cx}{κe:Kd}{tg elt iter:Expr}{ifs:List Expr}{sc:Scope}{pos:Pos}{src:FP}{b:BW}{tt:Jk}{te:DW}
theorem B2(hc:X.calm=true)(N':List Str)(js:List (Option Nat))(hi:ZQ X tg iter src)(hg:∀cl C s H fp,DG (BF X sc N' cl C s H fp) tg b)(ht:∀cl C s H fp,ZP (BF X sc N' cl C s H fp) ifs tt)(he:∀cl C s H fp,DE (BF X sc N' cl C s H fp) elt κe te)
  (hB:Kg sc X.env.scope X.N N' js=true) (hk:autoParam (κe≠.tp) zau6._auto_1)
  (hs:autoParam (∀x,foldedSetIterable iter X.env x=pure x) zau2._auto_1):DE X (.ListComp elt [⟨tg,iter,ifs,0⟩] sc pos) .fr (B6 js src b tt te):=by
 obtain⟨wi,a1,a2⟩:=hi
 refine⟨_,VH hc N' js a1 hB hs,λC M H n ρ σ P Q R w q=>?_⟩
 refine a2 C M H n ρ σ _ _ R w λJ H1 ds n1 e1 f1 y w1=>?_
 obtain⟨hlen,w1⟩:=w1
 have R1:=R.step e1 f1
 intro l hl hkl cl Ca s0 H0 fp
 obtain⟨g,g1,g2⟩:=hg cl Ca s0 H0 fp
 obtain⟨tc,c1,c2⟩:=ht cl Ca s0 H0 fp
 obtain⟨tx,x1,x2⟩:=he cl Ca s0 H0 fp
 have noU:¬C.U l:=λz=>by
  obtain⟨o,z⟩:=R1.udom l z
  rw [hl] at z; cases z
 generalize hM':(λb=>M b\/b=l)=M'
 have M'l:M' l:=by rw [← hM']; exact .inr rfl
 have M'of:∀b,M b->M' b:=λb z=>by rw [← hM']; exact .inl z
 have ofM':∀b,M' b->M b\/b=l:=λb z=>by rw [← hM'] at z; exact z
 have inV:∀b,C.V b\/b=l->M' b:=λb z=>z.elim (λz=>M'of b (R1.vM b z)) λz=>by rw [z]; exact M'l
 have lenj:js.length=N'.length:=F1 (CompOk.of hB).cap
 refine⟨g,tc,tx,λi m σ' H'=>m=ds.length - i/\i<=ds.length/\∃n' ρ' acc vs,Rel X.K ⟨M',C.F,C.U,λb=>C.V b\/b=l,H1,[],[]⟩ M' H' n' ρ' σ'/\H' l=some (.lst vs)/\Ats X.K M' H' acc vs/\acc.length<=i/\Pres M H1 M' H' /\
   ER b tt te (λacc n2=>P (.lst acc) n2) (ds.drop i) acc n' ρ',g1,c1,x1,⟨ds.length,by simp,TW _,n1,Hb js ρ,[],[],?_⟩,?_⟩
 ·have gr:Grow H1 (BN H1 l (.lst [])):=BD hl
  have pr:Pres M H1 M' (BN H1 l (.lst [])):=⟨λb o e _=>gr.all b o e,λb z=>(ofM' b z).elim .inl λz=>.inr (by rw [z]; exact hl),λb vs e=>gr.all b _ e⟩
  refine⟨⟨?_,λa z=>z,λa z=>?_,gr.ext,R1.fU,λa z=>.inl (R1.uV a z),inV,f1.pres pr λf o _ e=>gr.all f.1 o e,?_,λp hp=>absurd hp (by simp),λi d a q z=>QG R1.sl q z,λi s a q o _=>absurd o (by rw [Ew q]; decide),λi j s t a q o _ _ _ _=>absurd o (by rw [Ew q]; decide),λp hp=>absurd hp (by simp)⟩,Ak,rfl,TW _,pr,w1⟩
  ·unfold Hb Cc
   rw [Db,Db]
  ·rcases ofM' a z with z | z
   ·obtain⟨o,z⟩:=R1.dom a z
    exact⟨o,gr.all a o z⟩
   ·subst z
    exact⟨_,Ak⟩
  ·refine Nx R1.sl pr λd v h=>h.same pr (λa o _ e=>gr.all a o e) λa e n1 z=>z.elim n1 λz=>?_
   subst e
   obtain⟨o,w⟩:=h.lies
   rw [z,hl] at w
   cases w
 ·rintro i m σ' H' ⟨rfl,hi,n',ρ',acc,vs,R',hlv,hac,hal,pr,w'⟩
  by_cases hlt:i<ds.length
  ·have ed:ds.drop i=ds[i]::ds.drop (i+1):=cC hlt
   rw [ed] at w'
   obtain⟨go,yl⟩:=(y i M' H' pr R'.ext R'.dom).1 ds[i] (FM hlt)
   refine .inr ⟨go,λx H2 hy=>?_⟩
   obtain⟨gr,hx⟩:=yl x H2 hy
   have R2':=R'.step gr.ext (R'.feed.grow gr)
   refine g2 _ M' H2 n' ρ' σ' ds[i] x _ _ R2' hx w' λρ3 σ3 R3 w3=>?_
   refine c2 _ M' H2 n' ρ3 σ3 _ _ R3 w3 λc H4 n4 e4 f4 w4=>?_
   have R4:=R3.step e4 f4
   have p4:Pres M' H' M' H4:=gr.pres.trans (R3.pres e4)
   have l4:H4 l=some (.lst vs):=e4.keep (gr.all _ _ hlv) noU
   cases c with
   | false=>exact⟨ds.length - (i+1),by omega,rfl,hlt,n4,ρ3,acc,vs,R4,l4,hac.pres p4,by omega,pr.trans p4,w4⟩
   | true =>
    refine x2 _ M' H4 n4 ρ3 σ3 _ _ R4 w4 λyv H5 d5 n5 e5 f5 r5 w5=>?_
    have R5:=R4.step e5 f5
    have p5:Pres M' H4 M' H5:=R4.pres e5
    have l5:H5 l=some (.lst vs):=e5.keep l4 noU
    have hy5:=r5.shOf R4.dom hk
    have a5:=(hac.pres p4).pres p5
    have pu:Pres M' H5 M' (BN H5 l (.lst (vs++[yv]))):=GN M'l l5
    have hvl:vs.length=acc.length:=hac.length
    refine⟨vs,l5,by rw [bu]; omega,ds.length - (i+1),by omega,rfl,hlt,n5,ρ3,acc++[d5],vs++[yv],?_,Ak,(a5.append (Ats.one hy5)).pres pu,by rw [Sc,aw]; omega,(pr.trans p4).trans (p5.trans pu),w5⟩
    refine⟨R5.len,R5.sub,λa z=>?_,λb o e=>?_,R5.fU,R5.uV,R5.vM,?_,λj s hs=>?_,λp hp=>absurd hp (by simp),R5.br0,R5.new,R5.two,λp hp=>absurd hp (by simp)⟩
    ·by_cases ha:a=l
     ·subst ha; exact⟨_,Ak⟩
     ·rw [Ac ha]; exact R5.dom a z
    ·obtain⟨o',q1,q2⟩:=R5.ext b o e
     by_cases hb:b=l
     ·subst hb
      have e':H1 b=some o:=e
      rw [hl] at e'; cases e'
     ·exact⟨o',by rw [Ac hb]; exact q1,q2⟩
    ·refine f5.pres pu λf o hf e=>?_
     rw [Ac (λz=>noU (by rw [← z]; exact R1.fU f hf))]
     exact e
    ·have hs5:=R5.sl j s hs
     cases s with
     | no=>trivial
     | sh d=>obtain⟨v,e1,h2⟩:=hs5; exact⟨v,e1,h2.pres pu⟩
     | ex a nm ks ds=>obtain⟨e1,h2⟩:=hs5; exact⟨e1,h2.pres pu⟩
     | br d =>
      obtain⟨v,e1,h2⟩:=hs5
      refine⟨v,e1,h2.same pu (λa o z e=>?_) λ_ _ z=>z⟩
      subst z
      obtain⟨o3,w⟩:=R5.br0 j d a hs e1
      have hal:a≠l:=λz=>by
       have w':H1 a=some o3:=w
       rw [z,hl] at w'; cases w'
      rw [Ac hal]; exact e
     | ow d =>
      obtain⟨a,e1,h2,_⟩:=hs5
      exact absurd h2 (R5.new j _ a hs rfl e1).1
     | lt a d =>
      obtain⟨e1,h2,_⟩:=hs5
      exact absurd h2 (R5.new j _ a hs rfl e1).1
     | fd=>exact hs5
     | wd ks ds=>exact hs5
  ·have e:i=ds.length:=by omega
   subst e
   rw [eV] at w'
   refine .inl ⟨(y _ M' H' pr R'.ext R'.dom).2 (No _),?_⟩
   have eb:Ext C.U H1 H':=R'.ext
   have less:Pres M' H' M H':=Pres.less M'of
   refine q _ H' (.lst acc) n' (e1.trans eb) (R'.feed.pres less λ_ _ _ z=>z) (VR.back e1 ?_) w'
   exact⟨l,rfl,hl,vs,hlv,by rw [hM']; exact hac⟩
end
theorem Qy{K:Frag}{F:Option Fd}{U V' M:Addr->Prop}{H:Hp}{n:Nat}{ss:List Slot}{vs:List V}{N:List Str}(h:ZI K F U V' M H n ss vs)(hl:vs.length<=N.length) :
  Rel K ⟨M,F,U,V',H,[],[]⟩ M H n (ss++Re (N.length - ss.length) .no) (L2.start N vs):=by
 obtain⟨dom,fU,uV,vM,fd,pa⟩:=h
 have el:vs.length=ss.length:=Paired.length pa
 have go:∀{vs:List V} {ss:List Slot} {i:Nat} {s:Slot},Paired (Lx K F V' M H) vs ss->ss[i]?=some s->∃v,vs[i]?=some v/\Lx K F V' M H v s:=by
  intro vs ss i s pa
  induction pa generalizing i with
  | nil=>intro e; simp at e
  | cons r t ih =>
   intro e
   cases i with
   | zero=>simp at e; subst e; exact⟨_,rfl,r⟩
   | succ i =>
    obtain⟨v,e1,h1⟩:=ih (i:=i) (by simpa using e)
    exact⟨v,by simpa using e1,h1⟩
 have at_:∀(i:Nat) (s:Slot),(ss++Re (N.length - ss.length) Slot.no)[i]?=some s->s=.no\/∃v,((L2.start N vs)[i]?).getD none=some v/\Lx K F V' M H v s:=by
  intro i s hs
  by_cases hi:i<ss.length
  ·rw [d_ hi] at hs
   obtain⟨v,e1,h1⟩:=go pa hs
   refine .inr ⟨v,?_,h1⟩
   unfold L2.start
   rw [d_ (by rw [Db,el]; exact hi),Op,e1]
   rfl
  ·rw [c6 (by omega),eM] at hs
   split at hs
   ·exact .inl (Uf hs).symm
   ·cases hs
 refine⟨?_,λa z=>z,dom,Ext.refl _ _,fU,uV,vM,fd,λi s hs=>?_,λp hp=>absurd hp (by simp),λi d a hs ha=>?_,λi s a hs o _=>?_,λi j s t a hs o _ _ _ _=>?_,λp hp=>absurd hp (by simp)⟩
 ·unfold L2.start
  simp only [Sc,Db,gj]
  omega
 ·rcases at_ i s hs with rfl | ⟨v,e,h⟩
  ·trivial
  ·rw [e]; exact h.1
 ·rcases at_ i _ hs with z | ⟨v,e,h⟩
  ·cases z
  ·rw [e] at ha
   cases ha
   obtain⟨v,e1,h1⟩:=h.1
   cases e1
   exact h1.lies
 ·rcases at_ i s hs with rfl | ⟨v,e,h⟩
  ·cases o
  ·rw [h.2] at o; cases o
 ·rcases at_ i s hs with rfl | ⟨v,e,h⟩
  ·cases o
  ·rw [h.2] at o; cases o
theorem Dr{P:Program}{w:World}{K:Frag}{mg:Str->Option Value}{base:Heap}{x qual:Str}{st:Stmt}{f:Addr}{fd:FuncData}{N ps:List Str}{k:Nat}{κ:Kd}{W:W2}{wb:Aj}(F:Fun K x qual st f fd)(S:Ar N ps (AV st))(hNp:ps.length<=N.length)
  (hb:∀(cdv:Value) (A:Around) (outer:List Env) (s:Shared) (H:Hp) (E:XK),Room k (A.deeper (envOfC qual (AV st) s.heap.objs.size f cdv))->Ry (Ms CW P w K mg base N qual (AV st) f cdv A outer s H E).nox κ (CQ st) wb)
  (hW:∀ss n Pd,ss.length=ps.length->W ss n Pd->wb { nx:=λn _=>κ=.sh/\Pd .non n,rt:=Pd } n (ss++Re (N.length - ps.length) .no)) :
  BG P w K mg base CW (k+1) f fd ps (C7 K κ W ps.length):=by
 refine F.ok S (λvs H Q E h=>h.1) (λcdv A outer s H vs Q E hr h=>?_)
 obtain⟨hl,F0,U,V',M,n,ss,Pd,ra,hw,q⟩:=h
 obtain⟨t,t1,t2⟩:=hb cdv A outer s H E hr
 refine⟨t,t1,?_⟩
 have el:vs.length=ss.length:=Paired.length ra.2.2.2.2.2
 have R:=Qy (N:=N) ra (by omega)
 refine t2 ⟨M,F0,U,V',H,[],[]⟩ M H n _ _ { nx:=λn _=>κ=.sh/\Pd .non n,rt:=Pd } _ R ⟨λM1 H1 n1 ρ1 σ1 R1 p=>?_,λv H1 d n1 e1 f1 r1 p=>q v H1 d n1 e1 f1 r1 p,λ_ _ _ _ _ _ z=>z.elim,λ_ _ _ _ _ _ z=>z.elim⟩ ?_
 ·obtain⟨hk,p⟩:=p
  subst hk
  exact q .non H1 .non n1 R1.ext (R1.feed.pres (Pres.less R1.sub) λ_ _ _ z=>z) rfl p
 ·have e:ss.length=ps.length:=by omega
  have h1:=hW ss n Pd e hw
  rw [← e] at h1
  exact h1
end Dp
namespace L2
open PySem PySem.Spec PyProof.Rows
section
variable {X:Cx}
theorem Inv.rdl{pins:List (Addr×Obj)}{σ:L2.St}{H:Hp}{s:Shared}{l:Addr}{xs:List V}(I:Inv X pins σ H s)(h:Rd H l (.lst xs)):xs.length<=sizeLine/\∃(its:List Value) (n:Nat),Vals xs its/\xs.length=its.length/\s.heap.get? l=some { cls:=.type "list",data:=.seq its.toArray n }:=by
 obtain⟨z,its,n,r,e⟩:=h.ok I.hok
 exact⟨z,its,n,r,r.length,e⟩
theorem QF:OpR X (binaryOp .Add) (λx y H Q=>∃l b xs zs,x=.ref l/\y=.ref b/\Rd H l (.lst xs)/\Rd H b (.lst zs)/\xs.length+zs.length<=sizeLine/\∀p,H p=none->Q (.ref p) (BN H p (.lst (xs++zs)))):=by
 intro pins s σ H x y v u Q I rx ry h
 obtain⟨l,b,xs,zs,rfl,rfl,hH,hB,hz,q⟩:=h
 cases rx
 cases ry
 obtain⟨z,its,n,r,hl,e⟩:=I.rdl hH
 obtain⟨z2,its2,n2,r2,hl2,e2⟩:=I.rdl hB
 refine PySem.P.add_list e e2 ?_ (by rw [T0,T0]; omega)
 have ea:its.toArray++its2.toArray=(its++its2).toArray:=by simp
 rw [ea]
 exact⟨.ref _,_,I.lnew (t':=s.toks) (r.append r2) (by rw [Sc]; omega),rfl,q _ I.fresh⟩
end
end L2
namespace Dp
open PySem PySem.Spec PyProof.Rows L2
section
variable {K:Frag}
theorem AtT.int{U M:Addr->Prop}{H:Hp}{i:Int}{v:V}(h:AtT K U M H (.int i) v):v=.int i:=h
theorem AtT.bl{U M:Addr->Prop}{H:Hp}{i:Bool}{v:V}(h:AtT K U M H (.bl i) v):v=.bl i:=h
theorem AtT.str{U M:Addr->Prop}{H:Hp}{x:Str}{v:V}(h:AtT K U M H (.str x) v):v=.str x/\x.length<=sizeLine:=h
theorem AtT.tup{U M:Addr->Prop}{H:Hp}{ds:List D}{v:V}(h:AtT K U M H (.tup ds) v):∃a vs,v=.ref a/\NdT M H a vs/\Ats K M H ds vs:=h
noncomputable def Zb(g:Int->Int->(D->Prop)->Prop)(d e:D)(P:D->Prop):Prop:=match d,e with
 | .int i,.int j=>g i j P
 | _,_=>False
theorem Mj{g:Int->Int->(D->Prop)->Prop}{d e:D}{P:D->Prop}(w:Zb g d e P):∃i j,d=.int i/\e=.int j/\g i j P:=by
 unfold Zb at w
 split at w
 ·exact⟨_,_,rfl,rfl,w⟩
 ·exact w.elim
noncomputable def f2(g:Int->Int->D):D->D->(D->Prop)->Prop:=Zb λi j P=>P (g i j)
noncomputable def Rj(C:Int->Int->Prop)(g:Int->Int->D):D->D->(D->Prop)->Prop:=Zb λi j P=>C i j/\P (g i j)
theorem Uc{g:Int->Int->Int}:HB K .sh (Ic λi j=>.int (g i j)) (f2 λi j=>.int (g i j)):=by
 intro U M H d e x y P Q dom vM hx hy w q
 obtain⟨i,j,rfl,rfl,w⟩:=Mj w
 exact⟨i,j,hx,hy,q _ H (.int (g i j)) .refl rfl w⟩
theorem M7{g:Int->Int->Bool}:HB K .sh (Ic λi j=>.bl (g i j)) (f2 λi j=>.bl (g i j)):=by
 intro U M H d e x y P Q dom vM hx hy w q
 obtain⟨i,j,rfl,rfl,w⟩:=Mj w
 exact⟨i,j,hx,hy,q _ H (.bl (g i j)) .refl rfl w⟩
theorem CG{C:Int->Int->Prop}{g:Int->Int->Int}:HB K .sh (rI C λi j=>.int (g i j)) (Rj C λi j=>.int (g i j)):=by
 intro U M H d e x y P Q dom vM hx hy w q
 obtain⟨i,j,rfl,rfl,w⟩:=Mj w
 exact⟨i,j,hx,hy,w.1,q _ H (.int (g i j)) .refl rfl w.2⟩
noncomputable def ZZ(g:Str->Str->(D->Prop)->Prop)(d e:D)(P:D->Prop):Prop:=match d,e with
 | .str i,.str j=>g i j P
 | _,_=>False
theorem QO{g:Str->Str->(D->Prop)->Prop}{d e:D}{P:D->Prop}(w:ZZ g d e P):∃i j,d=.str i/\e=.str j/\g i j P:=by
 unfold ZZ at w
 split at w
 ·exact⟨_,_,rfl,rfl,w⟩
 ·exact w.elim
theorem UW{g:Str->Str->Bool}:HB K .sh (λx y H Q=>∃i j,x=.str i/\y=.str j/\Q (.bl (g i j)) H) (ZZ λi j P=>P (.bl (g i j))):=by
 intro U M H d e x y P Q dom vM hx hy w q
 obtain⟨i,j,rfl,rfl,w⟩:=QO w
 exact⟨i,j,hx.1,hy.1,q _ H (.bl (g i j)) .refl rfl w⟩
theorem Rv:HB K .sh (λx y H Q=>∃i j,x=.str i/\y=.str j/\i.length+j.length<=sizeLine/\Q (.str (i++j)) H) (ZZ λi j P=>i.length+j.length<=sizeLine/\P (.str (i++j))):=by
 intro U M H d e x y P Q dom vM hx hy w q
 obtain⟨i,j,rfl,rfl,w⟩:=QO w
 exact⟨i,j,hx.1,hy.1,w.1,q _ H (.str (i++j)) .refl ⟨rfl,by rw [show (i++j).length=i.length+j.length from Str.length_append i j]; exact w.1⟩ w.2⟩
noncomputable def Z0(g:List D->List D->(D->Prop)->Prop)(d e:D)(P:D->Prop):Prop:=match d,e with
 | .tup i,.tup j=>g i j P
 | _,_=>False
noncomputable def Za(g:List D->List D->(D->Prop)->Prop)(d e:D)(P:D->Prop):Prop:=match d,e with
 | .lst i,.lst j=>g i j P
 | _,_=>False
theorem Vi{g:List D->List D->(D->Prop)->Prop}{d e:D}{P:D->Prop}(w:Z0 g d e P):∃i j,d=.tup i/\e=.tup j/\g i j P:=by
 unfold Z0 at w
 split at w
 ·exact⟨_,_,rfl,rfl,w⟩
 ·exact w.elim
theorem Vj{g:List D->List D->(D->Prop)->Prop}{d e:D}{P:D->Prop}(w:Za g d e P):∃i j,d=.lst i/\e=.lst j/\g i j P:=by
 unfold Za at w
 split at w
 ·exact⟨_,_,rfl,rfl,w⟩
 ·exact w.elim
theorem Hg{M:Addr->Prop}{H:Hp}{p:Addr}{vs:List V}{ds:List D}(dom:∀a,M a->∃o,H a=some o)(hp:H p=none)(h:Ats K M H ds vs):At K M (BN H p (.tup vs)) (.tup ds) (.ref p):=by
 exact⟨p,vs,rfl,Ak,h.pres (BD hp).pres⟩
theorem Co{U M:Addr->Prop}{H:Hp}{p:Addr}{vs:List V}{ds:List D}(hp:H p=none)(h:Ats K M H ds vs):VR K U M H (BN H p (.lst vs)) .fr (.ref p) (.lst ds) :=
 ⟨p,rfl,hp,vs,Ak,h.pres (KY hp)⟩
theorem Ru:HB K .sh (S1 K) (Z0 λi j P=>i≠[]/\i.length+j.length<=sizeLine/\P (.tup (i++j))):=by
 intro U M H d e x y P Q dom vM hx hy w q
 obtain⟨i,j,rfl,rfl,w⟩:=Vi w
 obtain⟨a,vs,rfl,ha,hs⟩:=hx.tup
 obtain⟨b,us,rfl,hb,ht⟩:=hy.tup
 have l1:=hs.length
 have l2:=ht.length
 refine⟨a,b,vs,us,rfl,rfl,ha.sq,hb.sq,λz=>w.1 ?_,by rw [l1,l2]; exact w.2.1,λz=>?_,λz p hp=>?_⟩
 ·rw [z] at l1; exact eN.mp l1.symm
 ·rw [z] at l2
  have:j=[]:=eN.mp l2.symm
  subst this
  exact q _ H (.tup i) .refl ⟨a,vs,rfl,ha,hs⟩ (by have:=w.2.2; rw [cL] at this; exact this)
 ·exact q _ _ (.tup (i++j)) (BD hp) (Hg dom hp (hs.append ht)) w.2.2
theorem Lr:HB K .fr (λx y H Q=>∃l b xs zs,x=.ref l/\y=.ref b/\Rd H l (.lst xs)/\Rd H b (.lst zs)/\xs.length+zs.length<=sizeLine/\∀p,H p=none->Q (.ref p) (BN H p (.lst (xs++zs)))) (Za λi j P=>i.length+j.length<=sizeLine/\P (.lst (i++j))):=by
 intro U M H d e x y P Q dom vM hx hy w q
 obtain⟨i,j,rfl,rfl,w⟩:=Vj w
 obtain⟨a,vs,rfl,_,ha,hs⟩:=hx
 obtain⟨b,us,rfl,_,hb,ht⟩:=hy
 exact⟨a,b,vs,us,rfl,rfl,ha,hb,by rw [hs.length,ht.length]; exact w.1,λp hp=>q _ _ (.lst (i++j)) (BD hp) (Co hp (hs.append ht)) w.2⟩
noncomputable def Ku(neg:Bool)(d e:D)(P:D->Prop):Prop:=match d,e with
 | .bl i,.bl j=>P (.bl (if neg then !(i==j) else i==j))
 | .int i,.int j=>P (.bl (if neg then !(i==j) else i==j))
 | .str i,.str j=>P (.bl (if neg then !(i==j) else i==j))
 | _,_=>False
theorem QQ{neg:Bool}{d e:D}{P:D->Prop}(w:Ku neg d e P):(∃i j,d=.bl i/\e=.bl j/\P (.bl (if neg then !(i==j) else i==j)))\/(∃i j,d=.int i/\e=.int j/\P (.bl (if neg then !(i==j) else i==j)))\/∃i j,d=.str i/\e=.str j/\P (.bl (if neg then !(i==j) else i==j)):=by
 unfold Ku at w
 split at w
 ·exact .inl ⟨_,_,rfl,rfl,w⟩
 ·exact .inr (.inl ⟨_,_,rfl,rfl,w⟩)
 ·exact .inr (.inr ⟨_,_,rfl,rfl,w⟩)
 ·exact w.elim
theorem E4:HB K .sh aF (Ku false):=by
 intro U M H d e x y P Q dom vM hx hy w q
 rcases QQ w with ⟨i,j,rfl,rfl,w⟩ | ⟨i,j,rfl,rfl,w⟩ | ⟨i,j,rfl,rfl,w⟩
 ·rw [hx.bl,hy.bl]; exact⟨rfl,q _ H _ .refl (by rw [Mq]; rfl) w⟩
 ·rw [hx.int,hy.int]; exact⟨rfl,q _ H _ .refl (by rw [JX]; rfl) w⟩
 ·rw [hx.str.1,hy.str.1]; exact⟨rfl,q _ H _ .refl (by rw [JW]; rfl) w⟩
theorem Rt:HB K .sh aC (Ku true):=by
 intro U M H d e x y P Q dom vM hx hy w q
 rcases QQ w with ⟨i,j,rfl,rfl,w⟩ | ⟨i,j,rfl,rfl,w⟩ | ⟨i,j,rfl,rfl,w⟩
 ·rw [hx.bl,hy.bl]; exact⟨rfl,q _ H _ .refl (by rw [Mq]; rfl) w⟩
 ·rw [hx.int,hy.int]; exact⟨rfl,q _ H _ .refl (by rw [JX]; rfl) w⟩
 ·rw [hx.str.1,hy.str.1]; exact⟨rfl,q _ H _ .refl (by rw [JW]; rfl) w⟩
noncomputable def N7:D->Bool
 | .non=>true
 | _=>false
theorem N6{U M:Addr->Prop}{H:Hp}{d:D}{x:V}(h:AtT K U M H d x):decide (x=.non)=N7 d:=by
 cases d with
 | non=>rw [show x=.non from h]; rfl
 | bl b=>rw [h.bl]; rfl
 | int i=>rw [h.int]; rfl
 | str z=>rw [h.str.1]; rfl
 | tup ds=>obtain⟨a,vs,rfl,_⟩:=h.tup; rfl
 | lst ds=>obtain⟨a,vs,rfl,_⟩:=h; rfl
 | dic ks ds=>obtain⟨a,vs,rfl,_⟩:=h; rfl
 | fdi ks ds=>obtain⟨a,vs,rfl,_⟩:=h; rfl
 | dit ks ds=>obtain⟨a,vs,rfl,_⟩:=h; rfl
noncomputable def BQ(d e:D)(P:D->Prop):Prop:=match d,e with
 | .lst ds,.int i=>∃z,atI ds i=some z/\P z
 | .tup ds,.int i=>∃z,atI ds i=some z/\P z
 | .str x,.int i=>∃c,atI x.cps.toList i=some c/\P (.str ⟨#[c]⟩)
 | _,_=>False
theorem Vk{d e:D}{P:D->Prop}(w:BQ d e P):(∃ds i z,d=.lst ds/\e=.int i/\atI ds i=some z/\P z)\/(∃ds i z,d=.tup ds/\e=.int i/\atI ds i=some z/\P z)\/∃x i c,d=.str x/\e=.int i/\atI x.cps.toList i=some c/\P (.str ⟨#[c]⟩):=by
 unfold BQ at w
 split at w
 ·obtain⟨z,h1,h2⟩:=w; exact .inl ⟨_,_,z,rfl,rfl,h1,h2⟩
 ·obtain⟨z,h1,h2⟩:=w; exact .inr (.inl ⟨_,_,z,rfl,rfl,h1,h2⟩)
 ·obtain⟨z,h1,h2⟩:=w; exact .inr (.inr ⟨_,_,z,rfl,rfl,h1,h2⟩)
 ·exact w.elim
theorem Ats.atI{M:Addr->Prop}{H:Hp}{ds:List D}{vs:List V}{i:Int}{z:D}(h:Ats K M H ds vs)(e:atI ds i=some z):∃v,L2.atI vs i=some v/\At K M H z v:=by
 unfold L2.atI at e ⊢
 rw [h.length]
 cases q:R6 ds.length i with
 | none=>rw [q] at e; cases e
 | some j =>
  rw [q] at e
  exact h.get e
theorem Aq:HB K .sh (aD K) BQ:=by
 intro U M H d e x y P Q dom vM hx hy w q
 rcases Vk w with ⟨ds,i,z,rfl,rfl,hz,w⟩ | ⟨ds,i,z,rfl,rfl,hz,w⟩ | ⟨x,i,c,rfl,rfl,hc,w⟩
 ·obtain⟨a,vs,rfl,_,ha,hs⟩:=hx
  obtain⟨v,hv,hAt⟩:=hs.atI hz
  exact .inl ⟨a,vs,i,v,rfl,hy,.inl ha,hv,q v H z .refl hAt w⟩
 ·obtain⟨a,vs,rfl,ha,hs⟩:=hx.tup
  obtain⟨v,hv,hAt⟩:=hs.atI hz
  exact .inr (.inl ⟨a,vs,i,v,rfl,hy,ha.sq,hv,q v H z .refl hAt w⟩)
 ·exact .inr (.inr ⟨x,i,c,hx.str.1,hy,hx.str.2,hc,q _ H (.str ⟨#[c]⟩) .refl ⟨rfl,by rw [bu]; show 1<=16777216; decide⟩ w⟩)
noncomputable def cutD{α:Type}(xs:List α)(lo hi:Option Int):List α:=(xs.drop (HT.sIx xs.length 0 lo)).take (HT.sIx xs.length xs.length hi - HT.sIx xs.length 0 lo)
theorem DV{R:V->D->Prop}{vs:List V}{d:D}(h:Paired R vs [d]):∃v,vs=[v]/\R v d:=by
 cases h with
 | cons r t=>cases t; exact⟨_,rfl,r⟩
noncomputable def Zv:D->Option Nat
 | .str x=>some x.length
 | .tup xs=>some xs.length
 | .lst xs=>some xs.length
 | _=>none
noncomputable def DB(ds:List D)(P:D->Prop):Prop:=∃d n,ds=[d]/\Zv d=some n/\P (.int (n:Int))
theorem BS:C6 K .sh (λxs H Q=>∃x n,xs=[x]/\YB K x H n/\Q (.int n) H) DB:=by
 intro U M H ds vs P Q dom vM hp w q
 obtain⟨d,n,rfl,hn,w⟩:=w
 obtain⟨v,rfl,hx⟩:=DV hp
 refine⟨v,n,rfl,?_,q _ H (.int (n:Int)) .refl rfl w⟩
 cases d with
 | str z=>cases hn; rw [hx.str.1]; exact⟨hx.str.2,rfl⟩
 | tup xs =>
  cases hn
  obtain⟨a,us,rfl,ha,hs⟩:=hx.tup
  exact .inr ⟨us,ha.sq,hs.length.symm⟩
 | lst xs =>
  cases hn
  obtain⟨a,us,rfl,_,ha,hs⟩:=hx
  exact .inl ⟨us,.inl ha,hs.length.symm⟩
 | _=>cases hn
noncomputable def allB:List D->Option (List Bool)
 | []=>some []
 | .bl b::r=>(allB r).map (b::·)
 | _::_=>none
theorem Qf{M:Addr->Prop}{H:Hp}:∀{ds:List D} {vs:List V} {bs:List Bool},allB ds=some bs->Ats K M H ds vs->vs=bs.map V.bl
 | [],vs,bs,e,h=>by cases e; exact h
 | .bl b::r,vs,bs,e,h=>by
  obtain⟨v,r',e1,h1,h2⟩:=h
  unfold allB at e
  obtain⟨bs',e2,rfl⟩:=a_.mp e
  rw [e1,Qf e2 h2,show v=.bl b from h1]
  rfl
 | .non::r,vs,bs,e,h=>by unfold allB at e; cases e
 | .int _::r,vs,bs,e,h=>by unfold allB at e; cases e
 | .str _::r,vs,bs,e,h=>by unfold allB at e; cases e
 | .tup _::r,vs,bs,e,h=>by unfold allB at e; cases e
 | .lst _::r,vs,bs,e,h=>by unfold allB at e; cases e
 | .dic _ _::r,vs,bs,e,h=>by unfold allB at e; cases e
 | .fdi _ _::r,vs,bs,e,h=>by unfold allB at e; cases e
 | .dit _ _::r,vs,bs,e,h=>by unfold allB at e; cases e
noncomputable def Vl(ds:List D)(P:D->Prop):Prop:=∃xs bs,ds=[.lst xs]/\allB xs=some bs/\P (.bl (bs.all id))
theorem Wd:C6 K .sh (λxs H Q=>∃(p:Addr) (bs:List Bool),xs=[.ref p]/\SqL K H p (bs.map V.bl)/\Q (.bl (bs.all id)) H) Vl:=by
 intro U M H ds vs P Q dom vM hp w q
 obtain⟨xs,bs,rfl,e,w⟩:=w
 obtain⟨v,rfl,hx⟩:=DV hp
 obtain⟨a,us,rfl,_,ha,hs⟩:=hx
 have:=Qf e hs
 subst this
 exact⟨a,bs,rfl,.inl ha,q _ H (.bl (bs.all id)) .refl rfl w⟩
noncomputable def DF:List D->Option (List Str)
 | []=>some []
 | .str b::r=>(DF r).map (b::·)
 | _::_=>none
theorem Qd{M:Addr->Prop}{H:Hp}:∀{ds:List D} {vs:List V} {bs:List Str},DF ds=some bs->Ats K M H ds vs->vs=bs.map V.str
 | [],vs,bs,e,h=>by cases e; exact h
 | .str b::r,vs,bs,e,h=>by
  obtain⟨v,r',e1,h1,h2⟩:=h
  unfold DF at e
  obtain⟨bs',e2,rfl⟩:=a_.mp e
  rw [e1,Qd e2 h2,h1.1]
  rfl
 | .non::r,vs,bs,e,h=>by unfold DF at e; cases e
 | .int _::r,vs,bs,e,h=>by unfold DF at e; cases e
 | .bl _::r,vs,bs,e,h=>by unfold DF at e; cases e
 | .tup _::r,vs,bs,e,h=>by unfold DF at e; cases e
 | .lst _::r,vs,bs,e,h=>by unfold DF at e; cases e
 | .dic _ _::r,vs,bs,e,h=>by unfold DF at e; cases e
 | .fdi _ _::r,vs,bs,e,h=>by unfold DF at e; cases e
 | .dit _ _::r,vs,bs,e,h=>by unfold DF at e; cases e
noncomputable def T4(ds:List D)(P:D->Prop):Prop:=match ds with
 | [.int i]=>P (.int i)
 | [.bl k]=>P (.int (if k then 1 else 0))
 | _=>False
theorem X5:C6 K .sh (λxs H Q=>(∃i,xs=[.int i]/\Q (.int i) H)\/∃k,xs=[.bl k]/\Q (.int (if k then 1 else 0)) H) T4:=by
 intro U M H ds vs P Q dom vM hp w q
 unfold T4 at w
 split at w
 ·rename_i i
  obtain⟨v,rfl,hx⟩:=DV hp
  rw [hx.int]; exact .inl ⟨i,rfl,q _ H (.int i) .refl rfl w⟩
 ·rename_i k
  obtain⟨v,rfl,hx⟩:=DV hp
  rw [hx.bl]; exact .inr ⟨k,rfl,q _ H (.int (if k then 1 else 0)) .refl rfl w⟩
 ·exact w.elim
noncomputable def Kb(ds:List D)(P:D->Prop):Prop:=match ds with
 | [.lst xs]=>P (.lst xs)
 | [.tup xs]=>P (.lst xs)
 | _=>False
theorem Jb:C6 K .fr (λxs H Q=>∃p ys,xs=[.ref p]/\(SqL K H p ys\/SqT K H p ys)/\∀l,H l=none->Q (.ref l) (BN H l (.lst ys))) Kb:=by
 intro U M H ds vs P Q dom vM hp w q
 unfold Kb at w
 split at w
 ·obtain⟨v,rfl,hx⟩:=DV hp
  obtain⟨a,us,rfl,_,ha,hs⟩:=hx
  exact⟨a,us,rfl,.inl (.inl ha),λl hl=>q _ _ _ (BD hl) (Co hl hs) w⟩
 ·obtain⟨v,rfl,hx⟩:=DV hp
  obtain⟨a,us,rfl,ha,hs⟩:=hx.tup
  exact⟨a,us,rfl,.inr ha.sq,λl hl=>q _ _ _ (BD hl) (Co hl hs) w⟩
 ·exact w.elim
end
noncomputable def YL:D->String
 | .non => "NoneType"
 | .bl _ => "bool"
 | .int _ => "int"
 | .str _ => "str"
 | .tup _ => "tuple"
 | .lst _ => "list"
 | .dic _ _ => "dict"
 | .fdi _ _ => "dict"
 | .dit _ _ => "dict"
noncomputable def Xf(t T:String):Bool:=t==T||(t == "bool"&&T == "int")
noncomputable def FL(T:String)(wa:DW):DW:=λn ρ P=>wa n ρ λd n1=>P (.bl (Xf (YL d) T)) n1
structure Ul (K:Frag) (T:String):Prop where
 ans:∀t∈["NoneType","bool","int","str","tuple","list","dict"],PySem.W.kitOne K (.type t) (.type T)=some (Xf t T)
theorem Uu{K:Frag}{M U:Addr->Prop}{H:Hp}{d:D}{x:V}(h:AtT K U M H d x):HA K H x (.type (YL d)):=by
 cases d with
 | non=>cases (show x=.non from h); exact .non
 | bl b=>cases h.bl; exact .bl b
 | int i=>cases h.int; exact .int i
 | str z=>cases h.str.1; exact .str z
 | tup ds =>
  obtain⟨a,vs,rfl,ha,hs⟩:=h.tup
  exact .tup ha
 | lst ds =>
  obtain⟨a,vs,rfl,_,ha,hs⟩:=h
  rcases ha with ha | ⟨o,ha⟩
  ·exact .lst ha
  ·exact .frz ha
 | dic ks ds =>
  obtain⟨a,vs,rfl,_,ha,_⟩:=h
  exact .dK ha
 | fdi ks ds =>
  obtain⟨a,vs,rfl,⟨o,_,ha⟩,_⟩:=h
  exact .dF ha
 | dit ks ds =>
  obtain⟨a,vs,rfl,_,ha,_⟩:=h
  exact .dT ha
theorem Uv(d:D):YL d∈["NoneType","bool","int","str","tuple","list","dict"]:=by cases d <;> simp [YL]
theorem Ba{X:Cx}{a:Expr}{κ:Kd}{wa:DW}{T:String}{Tn:Str}{p p2 pos:Pos}(kt:Ul X.K T)(ha:DE X a κ wa)(hg:Gl X "isinstance")(hm:X.mg "isinstance"=none)(hgT:Gl X Tn)(hmT:X.mg Tn=none)(hvT:bootBuiltins Tn=some (.type T))
  (hnT:autoParam (Tn ≠ "__name__") zau1._auto_1) (hdT:autoParam ((Tn==("__debug__" : Str))=false) zau1._auto_1)
  (he:autoParam (starEach [a,.Name Tn p2] X.env=(false,eval a X.env)::starEach [.Name Tn p2] X.env) zau3._auto_1) (he2:autoParam (starEach [.Name Tn p2] X.env=[(false,eval (.Name Tn p2) X.env)]) zau3._auto_1)
  (hpl:autoParam ((backTo pos (starEach [.Name Tn p2] X.env)).any (·.1)=false) zau3._auto_1):DE X (.Call (.Name "isinstance" p) [a,.Name Tn p2] [] pos) .sh (FL T wa):=by
 obtain⟨t,h1,h2⟩:=ha
 have pT:PE X (.Name Tn p2) (tC (.ty T)):=VJ hgT hmT hvT (v:=.ty T) rfl hnT hdT
 refine⟨_,Fn OO hg hm (by decide +kernel) (A3 h1 (A3 pT BV he2) he) (by decide) (by decide) he hpl,λC M H n ρ σ P Q R w q=>?_⟩
 refine h2 C M H n ρ σ _ _ R w λv H1 d n1 e1 f1 r1 p=>?_
 exact⟨v,T,_,_,rfl,Uu (r1.tpOf R.dom R.vM),kt.ans _ (Uv d),q _ H1 (.bl (Xf (YL d) T)) n1 e1 f1 rfl p⟩
section
variable {K:Frag}{X:Cx}
noncomputable def WW(d e:D)(P:D->Prop):Prop:=match d,e with
 | .int i,.int j=>P (.int (i+j))
 | .str i,.str j=>i.length+j.length<=sizeLine/\P (.str (i++j))
 | .tup i,.tup j=>i≠[]/\i.length+j.length<=sizeLine/\P (.tup (i++j))
 | .lst i,.lst j=>i.length+j.length<=sizeLine/\P (.lst (i++j))
 | _,_=>False
noncomputable def WM:R2:=λx y H Q=>∃l b xs zs,x=.ref l/\y=.ref b/\Rd H l (.lst xs)/\Rd H b (.lst zs)/\xs.length+zs.length<=sizeLine/\∀p,H p=none->Q (.ref p) (BN H p (.lst (xs++zs)))
noncomputable def WL:R2:=λx y H Q=>∃i j,x=.str i/\y=.str j/\i.length+j.length<=sizeLine/\Q (.str (i++j)) H
noncomputable def WE(g:Str->Str->Bool):R2:=λx y H Q=>∃i j,x=.str i/\y=.str j/\Q (.bl (g i j)) H
noncomputable def S2(K:Frag):R2:=λx y H Q=>(Ic λi j=>.int (i+j)) x y H Q\/WL x y H Q\/S1 K x y H Q\/WM x y H Q
theorem op_addU:OpR X (binaryOp .Add) (S2 X.K):=op_add.or ((show OpR X (binaryOp .Add) WL from PB).or (op_catT.or (show OpR X (binaryOp .Add) WM from QF)))
theorem M8:HB X.K .sh (S2 X.K) WW:=λU M H d e x y P Q dom vM hx hy w q=>by
 unfold WW at w
 split at w
 ·exact .inl (Uc (K:=X.K) (g:=λi j=>i+j) U M H (.int _) (.int _) x y P Q dom vM hx hy w q)
 ·exact .inr (.inl (Rv (K:=X.K) U M H (.str _) (.str _) x y P Q dom vM hx hy w q))
 ·exact .inr (.inr (.inl (Ru (K:=X.K) U M H (.tup _) (.tup _) x y P Q dom vM hx hy w q)))
 ·exact .inr (.inr (.inr (Lr (K:=X.K) U M H (.lst _) (.lst _) x y P Q dom vM hx hy w λv H' z g r p=>q v H' z g (r.shOf dom (by intro z; cases z)) p)))
 ·exact w.elim
noncomputable def Y4(d e:D)(P:D->Prop):Prop:=match d,e with
 | .int i,.int j=>P (.bl (decide (i<j)))
 | .str i,.str j=>P (.bl (decide (i.cps.toList<j.cps.toList)))
 | _,_=>False
noncomputable def W4:R2:=λx y H Q=>(Ic λi j=>.bl (decide (i<j))) x y H Q\/WE (λi j=>decide (i.cps.toList<j.cps.toList)) x y H Q
theorem op_ltU:OpR X (compareOp .Lt) W4:=op_lt.or RJ
theorem Wc:HB X.K .sh W4 Y4:=λU M H d e x y P Q dom vM hx hy w q=>by
 unfold Y4 at w
 split at w
 ·exact .inl (M7 (K:=X.K) (g:=λi j=>decide (i<j)) U M H (.int _) (.int _) x y P Q dom vM hx hy w q)
 ·exact .inr (UW (K:=X.K) (g:=λi j=>decide (i.cps.toList<j.cps.toList)) U M H (.str _) (.str _) x y P Q dom vM hx hy w q)
 ·exact w.elim
noncomputable def T3(d e:D)(P:D->Prop):Prop:=match d,e with
 | .int i,.int j=>P (.bl (decide (i<=j)))
 | .str i,.str j=>P (.bl (!(decide (j.cps.toList<i.cps.toList))))
 | _,_=>False
noncomputable def Yj:R2:=λx y H Q=>(Ic λi j=>.bl (decide (i<=j))) x y H Q\/WE (λi j=>!(decide (j.cps.toList<i.cps.toList))) x y H Q
theorem O_:OpR X (compareOp .LtE) Yj:=op_le.or RK
theorem Ua:HB X.K .sh Yj T3:=λU M H d e x y P Q dom vM hx hy w q=>by
 unfold T3 at w
 split at w
 ·exact .inl (M7 (K:=X.K) (g:=λi j=>decide (i<=j)) U M H (.int _) (.int _) x y P Q dom vM hx hy w q)
 ·exact .inr (UW (K:=X.K) (g:=λi j=>!(decide (j.cps.toList<i.cps.toList))) U M H (.str _) (.str _) x y P Q dom vM hx hy w q)
 ·exact w.elim
noncomputable def Ym:R2:=Ic λi j=>.bl (decide (j<i))
theorem Cb:OpR X (compareOp .Gt) Ym:=WR
theorem EZ:HB X.K .sh Ym (f2 λi j=>.bl (decide (j<i))):=M7
noncomputable def Yn:R2:=Ic λi j=>.bl (decide (j<=i))
theorem G4:OpR X (compareOp .GtE) Yn:=WS
theorem Km:HB X.K .sh Yn (f2 λi j=>.bl (decide (j<=i))):=M7
noncomputable def Yc:V->Option Int->Option Int->Hp->VK->Prop:=λx lo hi H Q=>∃z,x=.str z/\z.length<=sizeLine/\Q (.str (Txt.slice z lo hi)) H
theorem sl_U:SlR X Yc:=Wy
noncomputable def Oc(w:DW):DW:=λn ρ P=>w n ρ λd n1=>∃i,d=.int i/\P (.int (-i)) n1
theorem Ez{a:Expr}{κ:Kd}{wa:DW}{pos:Pos}(h:DE X a κ wa):DE X (.UnaryOp .USub a pos) .sh (Oc wa):=by
 obtain⟨t,h1,h2⟩:=h
 refine⟨_,Yp Wo h1,λC M H n ρ σ P Q R w q=>?_⟩
 refine h2 C M H n ρ σ _ _ R w λv H1 d n1 e1 f1 r1 p=>?_
 obtain⟨i,rfl,p⟩:=p
 exact⟨i,PM r1,q _ H1 (.int (-i)) n1 e1 f1 rfl p⟩
noncomputable def Got(P:Program)(w:World)(K:Frag)(mg:Str->Option Value)(base:Heap)(x:Str)(k:Nat)(ps:List Str)(κ:Kd)(W:W2):Prop :=
 ∃f fd,BG P w K mg base CW k f fd ps (C7 K κ W ps.length)/\mg x=some (.ref f)/\keepIn K (.ref f)=true/\Binds K fd ps []/\∀ss n P,W ss n P->ss.length=ps.length
theorem AJ{e:Expr}{es:List Expr}{k:Nat}{ps:List Str}{κ:Kd}{W:W2}{x:Str}{p pos:Pos}{was:YC}(G:Got X.prog X.w X.K X.mg X.base x k ps κ W)
  (hr:Room k X.A) (hg:Gl X x) (ha:ZR X (e::es) was)
  (hdb:autoParam ((x==("__debug__" : Str))=false) zau1._auto_1) (he:autoParam (starEach (e::es) X.env=(false,eval e X.env)::starEach es X.env) zau3._auto_1) (hpl:autoParam ((backTo pos (starEach es X.env)).any (·.1)=false) zau3._auto_1) :
  DE X (.Call (.Name x p) (e::es) [] pos) κ (Ad W was):=by
 obtain⟨f,fd,G,hm,hk,hb,hW⟩:=G
 exact V0 G hW hr hg hm hk hb ha hdb he hpl
noncomputable def WP(np:Nat)(g:List D->D):W2:=λss n P=>∃ds:List D,ds.length=np/\ss=ds.map .sh/\P (g ds) n
theorem RC{np:Nat}{g:List D->D}{ss:List Slot}{n:Nat}{P:D->Nat->Prop}(h:WP np g ss n P):ss.length=np:=by
 obtain⟨ds,e,rfl,_⟩:=h
 rw [Db]; exact e
theorem JN:Ul K "int":=⟨λt ht=>by
 simp only [aq,a9,or_false] at ht
 rcases ht with rfl | rfl | rfl | rfl | rfl | rfl | rfl <;> kernel_rfl⟩
theorem Cm:Ul K "bool":=⟨λt ht=>by
 simp only [aq,a9,or_false] at ht
 rcases ht with rfl | rfl | rfl | rfl | rfl | rfl | rfl <;> kernel_rfl⟩
theorem QI:Ul K "str":=⟨λt ht=>by
 simp only [aq,a9,or_false] at ht
 rcases ht with rfl | rfl | rfl | rfl | rfl | rfl | rfl <;> kernel_rfl⟩
theorem kit_tuple:Ul K "tuple":=⟨λt ht=>by
 simp only [aq,a9,or_false] at ht
 rcases ht with rfl | rfl | rfl | rfl | rfl | rfl | rfl <;> kernel_rfl⟩
end
theorem OV{α:Type}(p:α->Bool):∀l:List α,allB (l.map λc=>.bl (p c))=some (l.map p)
 | []=>rfl
 | a::l=>by
  rw [av,av]
  unfold allB
  rw [OV p l]
  rfl
theorem US{b1 b2:Bool}{P:D->Nat->Prop}{n:Nat}{k:(D->Nat->Prop)->Prop}(hk:b1=true->P (.bl b2) n->k P)(h:P (.bl (b1&&b2)) n):(match (.bl b1:D) with | .bl true=>k P | .bl false=>P (.bl false) n | _=>False):=by
 cases b1 with
 | false=>exact h
 | true=>exact hk rfl h
theorem Cd{P:Program}{w:World}{K:Frag}{mg:Str->Option Value}{base:Heap}{x:Str}{st:Stmt}{f:Addr}{fd:FuncData}{k:Nat}{ps:List Str}{κ:Kd}{W:W2}(F:Fun K x x st f fd)(m:mg x=some (.ref f))(b:Binds K fd ps [])
  (hW:∀ss n P,W ss n P->ss.length=ps.length) (ok:BG P w K mg base CW k f fd ps (C7 K κ W ps.length)):Got P w K mg base x k ps κ W:=⟨f,fd,ok,m,F.kp,b,hW⟩
noncomputable def NS(K:Frag):Sp:=λvs H Q _=>∃a ns,vs=[V.ref a]/\(eS (α:=Int) ns<=63/\SqL K H a (ns.map V.int))/\∀H',Q (.bl true) H'
noncomputable def L4(K:Frag):Sp:=λvs H Q _=>∃a ns,vs=[V.ref a]/\(eS (α:=Int) ns<=63/\SqL K H a (ns.map V.int)) /\
 ∀(c f:Addr) (H':Hp),c≠f->H' c=some (.lst (ns.map V.int))->H' f=some (.lst [.ref c,.int 0,.int 0])->Q (.ref f) H'
theorem ZC{ns:List Int}(h:ns.length<=63):LA (ns.map V.int) none (some 63)=ns.map V.int:=by
 have e:HT.sIx (ns.map V.int).length (ns.map V.int).length (some 63)=ns.length:=by
  rw [show (63:Int)=((63:Nat):Int) from rfl,HT.sIx_nat,Db,Nat.min_eq_right h]
 unfold LA
 rw [e,HT.sIx_none,eK,eE]
 exact cx (by rw [Db]; exact No _)
theorem Y1{P:Program}{w:World}{K:Frag}{mg:Str->Option Value}{base:Heap}{st s1:Stmt}{rest:List Stmt}{f:Addr}{fd:FuncData}{Nr:List Str}{k n0:Nat}{wb:Aj}(F:Fun K "law" "law" st f fd)
  (S:Ar ("_law_script" :: "_law_feed_here"::Nr) ["_law_script"] (AV st)) (hbd:CQ st=s1::rest) (hn0:n0<=2 ^ 60)
  (h1:∀(cdv:Value) (A:Around) (outer:List Env) (s:Shared) (H:Hp) (E:XK),Room k (A.deeper (envOfC "law" (AV st) s.heap.objs.size f cdv)) ->
   PS (Ms CW P w K mg base ("_law_script" :: "_law_feed_here"::Nr) "law" (AV st) f cdv A outer s H E).nox s1 (NQ (Ps (L4 K) [] E0 (NP (BU 0) Qu)) (Ij 1)))
  (h2:∀(cdv:Value) (A:Around) (outer:List Env) (s:Shared) (H:Hp) (E:XK),Room k (A.deeper (envOfC "law" (AV st) s.heap.objs.size f cdv)) ->
   Ry (Ms CW P w K mg base ("_law_script" :: "_law_feed_here"::Nr) "law" (AV st) f cdv A outer s H E).nox .sh rest wb)
  (hW:wb { nx:=λ_ _=>False,rt:=λd _=>d=.bl true } n0 (.no::.fd::Re Nr.length .no)):BG P w K mg base CW (k+1) f fd ["_law_script"] (NS K):=by
 refine F.ok S (λvs H Q E h=>?_) (λcdv A outer s H vs Q E hr h=>?_)
 ·obtain⟨a,ns,rfl,_⟩:=h
  rfl
 ·obtain⟨a,ns,rfl,⟨hl,hS⟩,q⟩:=h
  obtain⟨t,t1,t2⟩:=h2 cdv A outer s H E hr
  refine⟨Oi (NQ (Ps (L4 K) [] E0 (NP (BU 0) Qu)) (Ij 1)) t,by rw [hbd]; exact BI (h1 cdv A outer s H E hr) t1,?_⟩
  refine⟨_,rfl,a,ns,rfl,⟨hl,hS⟩,λc g H' hcg hc hg=>?_⟩
  have at_:∀(i:Nat) (sl:Slot),(Slot.no::Slot.fd::Re Nr.length Slot.no)[i]?=some sl->Slot.no=sl\/(Slot.fd=sl/\i=1):=by
   intro i sl hs
   match i,hs with
   | 0,hs=>exact .inl (Uf hs)
   | 1,hs=>exact .inr ⟨Uf hs,rfl⟩
   | i+2,hs =>
    rw [gK,gK,eM] at hs
    split at hs
    ·exact .inl (Uf hs)
    ·cases hs
  have R:Rel K ⟨λb=>b=g,some ⟨g,c,none⟩,λb=>b=g,λb=>b=g,H',[],[]⟩ (λb=>b=g) H' n0 (.no::.fd::Re Nr.length .no) ((start ("_law_script" :: "_law_feed_here"::Nr) [V.ref a]).set 1 (some (.ref g))):=by
   refine⟨by simp [L2.start],λ_ z=>z,λb z=>⟨_,(congrArg H' z).trans hg⟩,Ext.refl _ _,λb z=>by rw [← Uf z],λ_ z=>z,λ_ z=>z,λb z=>?_,λi sl hs=>?_,λp hp=>absurd hp (by simp),λi d b hs _=>?_,λi sl b hs o _=>?_,λi j sl t b hs o _ _ _ _=>?_,λp hp=>absurd hp (by simp)⟩
   ·have e:(⟨g,c,none⟩:Fd)=b:=Uf z
    subst e
    exact .inl ⟨rfl,0,0,ns,hg,hcg,⟨hcg,hc⟩,hl,by decide,by omega⟩
   ·rcases at_ i sl hs with e | ⟨e,rfl⟩
    ·rw [← e]; trivial
    ·rw [← e]
     exact⟨⟨g,c,none⟩,by simp [L2.start],rfl,rfl⟩
   ·rcases at_ i _ hs with e | ⟨e,_⟩ <;> cases e
   ·rcases at_ i sl hs with e | ⟨e,_⟩ <;> (rw [← e] at o; cases o)
   ·rcases at_ i sl hs with e | ⟨e,_⟩ <;> (rw [← e] at o; cases o)
  refine t2 _ _ H' n0 _ _ { nx:=λ_ _=>False,rt:=λd _=>d=.bl true } _ R ⟨λ_ _ _ _ _ _ z=>z.elim,λv H2 d n' _ _ r p=>?_,λ_ _ _ _ _ _ z=>z.elim,λ_ _ _ _ _ _ z=>z.elim⟩ hW
  have e:d=.bl true:=p
  subst e
  have e2:v=.bl true:=r
  subst e2
  exact q H2
end Dp
namespace L2
open PySem PySem.Spec PyProof.Rows
section
variable {X:Cx}
theorem HD:∀{us:List Value} {ys:List Str},StrsAre us ys->Vals (ys.map V.str) us
 | _,_,.nil=>.nil
 | _,_,.cons x t r=>.cons ⟨t,rfl⟩ (HD r)
noncomputable def Sy(K:Frag):List V->Hp->VK->Prop:=λxs H Q=>∃(p:Addr) (ss:List Str),xs=[.ref p]/\SqL K H p (ss.map V.str)/\ss.length<64/\∀(ss':List Str) (l:Addr),ss'.Perm ss->sortedS ss'=true->H l=none->Q (.ref l) (BN H l (.lst (ss'.map V.str)))
theorem Pc:CV X (.builtin "sorted") (Sy X.K):=by
 intro pins s σ H xs us Q I r h
 obtain⟨p,ss,rfl,hq,h64,q⟩:=h
 obtain⟨u,rfl,rx⟩:=vals1 r
 cases rx
 obtain⟨its,r',pl,hz⟩:=I.list hq
 have hlen:=r'.length
 rw [Db] at hlen
 refine sorted_strs pl.isList (Om r') (by omega) λout ss' a1 a2 a3=>?_
 obtain⟨e,he⟩:=sortedAll_at s.heap its out
 have hl':ss'.length=ss.length:=a2.length_eq
 have hn:H (s.heap.objs.size+1)=none:=I.hok.fresh (dD _)
 refine⟨.ref (s.heap.objs.size+1),_,I.laid (t':=s.toks) (λb o z=>sortedAll_old z) (dD _) (show ObjOk X.prog X.w _ _ _ (.lst (ss'.map V.str)) from⟨?_,out.toList,e,HD a1,?_⟩),rfl,q ss' _ a2 a3 hn⟩
 ·rw [Db,bu]; omega
 ·exact he
noncomputable def WJ:R2:=λx y H Q=>∃z k,x=.str z/\y=.int k/\MulOk z k/\Q (.str (Txt.mul z k)) H
theorem VO:OpR X (binaryOp .Mult) WJ:=by
 intro pins s σ H x y v u Q I rx ry h
 obtain⟨z,k,rfl,rfl,hm,q⟩:=h
 obtain⟨t,rfl⟩:=rx
 obtain⟨t',rfl⟩:=ry
 exact SB.mul hm λt' k=>⟨.str _,H,I.tok _,⟨_,rfl⟩,q⟩
end
end L2
namespace Dp
open PySem PySem.Spec PyProof.Rows L2
section
variable {K:Frag}
noncomputable def DA(ds:List D)(P:D->Prop):Prop:=match ds with
 | [.lst xs]=>P (.tup xs)
 | [.tup xs]=>P (.tup xs)
 | _=>False
theorem Dh:C6 K .sh (λxs H Q=>∃p ys,xs=[.ref p]/\((SqL K H p ys/\∀l,H l=none->Q (.ref l) (BN H l (.tup ys)))\/(SqT K H p ys/\Q (.ref p) H))) DA:=by
 intro U M H ds vs P Q dom vM hp w q
 unfold DA at w
 split at w
 ·obtain⟨v,rfl,hx⟩:=DV hp
  obtain⟨a,us,rfl,_,ha,hs⟩:=hx
  exact⟨a,us,rfl,.inl ⟨.inl ha,λl hl=>q _ _ (.tup _) (BD hl) (Hg dom hl hs) w⟩⟩
 ·obtain⟨v,rfl,hx⟩:=DV hp
  obtain⟨a,us,rfl,ha,hs⟩:=hx.tup
  exact⟨a,us,rfl,.inr ⟨ha.sq,q _ H (.tup _) .refl ⟨a,us,rfl,ha,hs⟩ w⟩⟩
 ·exact w.elim
theorem Ats.strs{M:Addr->Prop}{H:Hp}:∀{ss:List Str},(∀x∈ss,x.length<=sizeLine)->Ats K M H (ss.map D.str) (ss.map V.str)
 | [],_=>rfl
 | x::r,h=>⟨.str x,r.map V.str,rfl,⟨rfl,h x On⟩,Ats.strs λy hy=>h y (TM _ hy)⟩
theorem Ats.strs_le{M:Addr->Prop}{H:Hp}:∀{ss:List Str} {vs:List V},Ats K M H (ss.map D.str) vs->∀x∈ss,x.length<=sizeLine
 | [],_,_=>λx hx=>by cases hx
 | y::r,vs,h=>λx hx=>by
  obtain⟨v,t,e,h1,h2⟩:=h
  rcases aq.mp hx with rfl | hx
  ·exact h1.2
  ·exact Ats.strs_le h2 x hx
noncomputable def Tx(ds:List D)(P:D->Prop):Prop:=∃(xs:List D) (ss:List Str),ds=[.lst xs]/\DF xs=some ss/\ss.length<64/\∀ss':List Str,ss'.Perm ss->sortedS ss'=true->P (.lst (ss'.map .str))
theorem Qe:∀{xs:List D} {ss:List Str},DF xs=some ss->xs=ss.map .str
 | [],ss,h=>by cases h; rfl
 | .str b::r,ss,h=>by
  unfold DF at h
  obtain⟨t,e,rfl⟩:=a_.mp h
  rw [av,← Qe e]
 | .non::r,ss,h=>by unfold DF at h; cases h
 | .int _::r,ss,h=>by unfold DF at h; cases h
 | .bl _::r,ss,h=>by unfold DF at h; cases h
 | .tup _::r,ss,h=>by unfold DF at h; cases h
 | .lst _::r,ss,h=>by unfold DF at h; cases h
 | .dic _ _::r,ss,h=>by unfold DF at h; cases h
 | .fdi _ _::r,ss,h=>by unfold DF at h; cases h
 | .dit _ _::r,ss,h=>by unfold DF at h; cases h
theorem V5:C6 K .fr (Sy K) Tx:=by
 intro U M H ds vs P Q dom vM hp w q
 obtain⟨xs,ss,rfl,e,h64,w⟩:=w
 obtain⟨v,rfl,hx⟩:=DV hp
 obtain⟨a,us,rfl,_,ha,hs⟩:=hx
 have:=Qd e hs
 subst this
 have e2:=Qe e
 subst e2
 refine⟨a,ss,rfl,.inl ha,h64,λss' l h1 h2 hl=>?_⟩
 exact q _ _ _ (BD hl) (Co hl (Ats.strs λx hx=>hs.strs_le x (h1.mem_iff.mp hx))) (w ss' h1 h2)
noncomputable def Dt(d e:D)(P:D->Prop):Prop:=match d,e with
 | .int i,.int j=>CMul i j/\P (.int (i*j))
 | .str z,.int k=>MulOk z k/\(Txt.mul z k).length<=sizeLine/\P (.str (Txt.mul z k))
 | _,_=>False
noncomputable def WK:R2:=λx y H Q=>(rI CMul λi j=>.int (i*j)) x y H Q\/WJ x y H Q
theorem B_{X:Cx}:OpR X (binaryOp .Mult) WK:=op_mul.or VO
theorem C0:HB K .sh WK Dt:=λU M H d e x y P Q dom vM hx hy w q=>by
 unfold Dt at w
 split at w
 ·exact .inl (CG (K:=K) (C:=CMul) (g:=λi j=>i*j) U M H (.int _) (.int _) x y P Q dom vM hx hy w q)
 ·rename_i z k
  exact .inr ⟨z,k,hx.1,hy,w.1,q _ H (.str _) .refl ⟨rfl,w.2.1⟩ w.2.2⟩
 ·exact w.elim
end
section
variable {X:Cx}{tg e e2:Expr}{es:List Expr}{ws:FP}{p pos:Pos}
noncomputable def NF(ws:FP):FP:=λn ρ P=>ws n ρ λds n1=>∃i j:Int,ds=[.int i,.int j]/\(-(2 ^ 62)<=i/\i<2 ^ 62/\-(2 ^ 62)<=j/\j<2 ^ 62)/\P (By i (j - i).toNat) n1
theorem IV(hg:Gl X "range")(hm:X.mg "range"=none)(ha:V7 X [e,e2] ws)(hs:autoParam (starEach [e,e2] X.env=[(false,eval e X.env),(false,eval e2 X.env)]) zau3._auto_1)(hs2:autoParam (starEach [e2] X.env=[(false,eval e2 X.env)]) zau3._auto_1):DI X tg (.Call (.Name "range" p) [e,e2] [] pos) (NF ws):=by
 obtain⟨t,a1,a2⟩:=ha
 refine⟨_,RF hg hm a1 hs hs2,λC M H n ρ σ P Rr R w q=>?_⟩
 refine a2 C M H n ρ σ _ _ R w λvs H1 ds n1 e1 f1 r1 p=>?_
 obtain⟨i,j,rfl,hj,p⟩:=p
 cases r1 with
 | cons r rr =>
  cases rr with
  | cons r' rr =>
   cases rr
   have hv:_=V.int i:=r
   have hv':_=V.int j:=r'
   exact⟨i,j,by rw [hv,hv'],hj,q _ H1 _ n1 e1 f1 HC p⟩
noncomputable def Zg(X:Cx)(ts:List Expr)(b:List D->List Slot->(List Slot->Prop)->Prop):Prop:=∃g,ZL X ts g/\∀(C:Fm) (M:Addr->Prop) (H:Hp) (n:Nat) (ρ:List Slot) (σ:L2.St) (ds:List D) (vs:List V) (P:List Slot->Prop) (Q:L2.St->Hp->Prop),Rel X.K C M H n ρ σ->Ats X.K M H ds vs->b ds ρ P ->
 (∀ρ' σ',Rel X.K C M H n ρ' σ'->P ρ'->Q σ' H)->g vs σ H Q
noncomputable def Ll:List D->List Slot->(List Slot->Prop)->Prop:=λds ρ P=>ds=[]/\P ρ
noncomputable def CF(b:BW)(bs:List D->List Slot->(List Slot->Prop)->Prop):List D->List Slot->(List Slot->Prop)->Prop:=λds ρ P=>match ds with
 | d::r=>b d ρ λρ1=>bs r ρ1 P
 | []=>False
theorem JU:Zg X [] Ll:=⟨_,QA,λC M H n ρ σ ds vs P Q R h w q=>by
 obtain⟨rfl,w⟩:=w
 exact⟨h,q ρ σ R w⟩⟩
theorem Bx{b:BW}{bs:List D->List Slot->(List Slot->Prop)->Prop}(h1:DG X e b)(h2:Zg X es bs)(hs:autoParam ((assignEach (e::es) X.env).map (·.2)=assign e X.env::(assignEach es X.env).map (·.2)) zau3._auto_1):Zg X (e::es) (CF b bs):=by
 obtain⟨g,a1,a2⟩:=h1
 obtain⟨g',b1,b2⟩:=h2
 refine⟨_,HS a1 b1 hs,λC M H n ρ σ ds vs P Q R h w q=>?_⟩
 cases ds with
 | nil=>exact w.elim
 | cons d r =>
  obtain⟨v,vr,e,hv,hr⟩:=h
  exact⟨v,vr,e,a2 C M H n ρ σ d v _ _ R hv w λρ' σ' R' w'=>b2 C M H n ρ' σ' r vr _ _ R' hr w' q⟩
noncomputable def Rq(k:Nat)(bs:List D->List Slot->(List Slot->Prop)->Prop):BW:=λd ρ P=>match d with
 | .tup ds=>ds.length=k/\bs ds ρ P
 | _=>False
theorem Mp{bs:List D->List Slot->(List Slot->Prop)->Prop}{k:Nat}{j:Nat}(hc:X.calm=true)(h:Zg X es bs)(hn:autoParam ((assignEach es X.env).length=k) zau3._auto_1)(hst:autoParam ((assignEach es X.env).findIdx? (·.1)=none) zau3._auto_1):DG X (.Tuple es j pos) (Rq k bs):=by
 obtain⟨g,a1,a2⟩:=h
 refine⟨_,S_ hc a1 hn hst,λC M H n ρ σ d v P Q R h w q=>?_⟩
 cases d with
 | tup ds =>
  obtain⟨a,vs,rfl,hq,hs⟩:=h
  exact⟨a,vs,rfl,hq.sq,by rw [hs.length]; exact w.1,a2 C M H n ρ σ ds vs P Q R hs w.2 q⟩
 | _=>exact w.elim
noncomputable def YJ(wa:DW)(b:BW):Aj:=λD2 n ρ=>wa n ρ λd n1=>b d ρ λρ1=>D2.nx n1 ρ1
theorem Xo{κ κe:Kd}{wa:DW}{b:BW}(he:DE X e κe wa)(hg:DG X tg b)(hk:autoParam (κe≠.tp) zau6._auto_1)(hs:autoParam (swapsWithSole [tg] e pos.line X.env=pure false) zau3._auto_1)(hw:autoParam (swappedStores [tg] e X.env=pure none) zau3._auto_1)
  (h1:autoParam ((assignEach [tg] X.env).map (·.2)=[assign tg X.env]) zau3._auto_1):DS X κ (.Assign [tg] e pos) (YJ wa b):=by
 obtain⟨t,a1,a2⟩:=he
 obtain⟨g,g1,g2⟩:=hg
 refine⟨_,Fl a1 g1 hs hw h1,λC M H n ρ σ D2 E R L w=>?_⟩
 refine a2 C M H n ρ σ _ _ R w λv H' d n' e1 f1 r1 p=>?_
 exact g2 C M H' n' ρ σ d v _ _ (R.step e1 f1) (r1.shOf R.dom hk) p λρ' σ' R' w'=>L.nx M H' n' ρ' σ' R' w'
end
end Dp
namespace L2
open PySem PySem.Spec PyProof.Rows
mutual
noncomputable def RV(H:Hp):PyData->V->Prop
 | .none,v=>v=.non
 | .bool b,v=>v=.bl b
 | .int i,v=>v=.int i
 | .str x,v=>v=.str x
 | .tuple xs,v=>∃a vs,v=.ref a/\H a=some (.tup vs)/\RVs H xs vs
 | .list xs,v=>∃a vs,v=.ref a/\Rd H a (.lst vs)/\RVs H xs vs
 | .dict _,_=>False
noncomputable def RVs(H:Hp):List PyData->List V->Prop
 | [],vs=>vs=[]
 | x::xs,vs=>∃v r,vs=v::r/\RV H x v/\RVs H xs r
end
section
variable {X:Cx}{pins:List (Addr×Obj)}{σ:L2.St}{H:Hp}{s:Shared}
mutual
theorem RV.reads(I:Inv X pins σ H s):∀{d:PyData} {v:V} {u:Value},RV H d v->RelV v u->∃as,Reads s.heap u d as
 | .none,v,u,h,r=>by
  cases (show v=.non from h)
  cases (show u=bQ from r)
  exact⟨_,.none⟩
 | .bool b,v,u,h,r=>by
  cases (show v=.bl b from h)
  cases (show u=dA b from r)
  exact⟨_,.bool b⟩
 | .int i,v,u,h,r=>by
  cases (show v=.int i from h)
  obtain⟨t,rfl⟩:=r
  exact⟨_,.int i t⟩
 | .str x,v,u,h,r=>by
  cases (show v=.str x from h)
  obtain⟨t,rfl⟩:=r
  exact⟨_,.str x t⟩
 | .tuple xs,v,u,h,r=>by
  obtain⟨a,vs,rfl,hq,hs⟩:=h
  cases r
  obtain⟨its,rv,⟨o,e,c,n,d⟩,_⟩:=I.tuple (X:=X) (xs:=vs) (.inl (.inl hq))
  obtain⟨as,ra⟩:=RVs.reads I hs rv
  exact⟨_,.tuple e c d ra⟩
 | .list xs,v,u,h,r=>by
  obtain⟨a,vs,rfl,hq,hs⟩:=h
  cases r
  obtain⟨its,rv,pl,_⟩:=I.list (X:=X) (xs:=vs) (.inl hq)
  obtain⟨o,e,c,n,d⟩:=pl.isList
  obtain⟨as,ra⟩:=RVs.reads I hs rv
  exact⟨_,.list e c d ra⟩
 | .dict _,v,u,h,r=>h.elim
theorem RVs.reads(I:Inv X pins σ H s):∀{ds:List PyData} {vs:List V} {us:List Value},RVs H ds vs->Vals vs us->∃as,ReadsAll s.heap us ds as
 | [],vs,us,h,r=>by
  cases (show vs=[] from h)
  cases r
  exact⟨_,.nil⟩
 | d::ds,vs,us,h,r=>by
  obtain⟨v,w,rfl,h1,h2⟩:=h
  cases r with
  | cons r1 r2 =>
   obtain⟨as,a1⟩:=RV.reads I h1 r1
   obtain⟨bs,a2⟩:=RVs.reads I h2 r2
   exact⟨_,.cons a1 a2⟩
end
end
theorem RV.noDict{H:Hp}:∀(d:PyData) (v:V),RV H d v->d.hasDict=false
 | d,v,h=>by
  have go:∀(n:Nat),(∀(d:PyData) (v:V),sizeOf d<=n->RV H d v->d.hasDict=false)/\∀(ds:List PyData) (vs:List V),sizeOf ds<=n->RVs H ds vs->f6 ds=false:=by
   intro n
   induction n with
   | zero =>
    refine⟨λd v h _=>?_,λds vs h _=>?_⟩
    ·cases d <;> simp at h
    ·cases ds <;> simp at h
   | succ n ih =>
    refine⟨λd v h hr=>?_,λds vs h hr=>?_⟩
    ·cases d with
     | tuple xs =>
      obtain⟨a,vs,_,_,hs⟩:=hr
      simp only [dh]
      exact ih.2 xs vs (by simp at h; omega) hs
     | list xs =>
      obtain⟨a,vs,_,_,hs⟩:=hr
      simp only [dh]
      exact ih.2 xs vs (by simp at h; omega) hs
     | dict kvs=>exact(show False from hr).elim
     | none=>simp only [dh]
     | bool b=>simp only [dh]
     | int i=>simp only [dh]
     | str x=>simp only [dh]
    ·cases ds with
     | nil=>simp only [f6]
     | cons x xs =>
      obtain⟨v,w,_,h1,h2⟩:=hr
      simp only [f6,ih.1 x v (by simp at h; omega) h1,ih.2 xs w (by simp at h; omega) h2,fj]
  exact(go (sizeOf d)).1 d v (No _) h
section
variable {X:Cx}
noncomputable def WH:List V->Hp->VK->Prop:=λxs H Q=>∃x d,xs=[x]/\RV H d x/\d.showable=true/\d.depth<=100/\d.shown.length<=sizeLine/\Q (.str d.shown) H
theorem Lj{k:Nat}(hr:Room k X.A):CV X (.builtin "repr") WH:=by
 intro pins s σ H xs us Q I r h
 obtain⟨x,d,rfl,hx,hs,hd,hz,q⟩:=h
 obtain⟨u,rfl,rx⟩:=vals1 r
 have hu:=hr.un
 cases d with
 | none =>
  cases (show x=.non from hx)
  cases (show u=bQ from rx)
  exact PySem.P.repr_of_none ⟨.str _,H,I.tok _,⟨_,rfl⟩,q⟩
 | bool b =>
  cases (show x=.bl b from hx)
  cases (show u=dA b from rx)
  refine PySem.P.repr_of_bool ⟨.str _,H,I.tok _,⟨_,rfl⟩,?_⟩
  have e:PyData.shown (.bool b)=if b then ("True" : Str) else "False":=by cases b <;> rfl
  rw [e] at q
  exact q
 | int i =>
  cases (show x=.int i from hx)
  obtain⟨t,rfl⟩:=rx
  refine PySem.P.repr_of_int (by simpa [PyData.showable] using hs) ⟨.str _,H,I.tok _,⟨_,rfl⟩,q⟩
 | str z =>
  cases (show x=.str z from hx)
  obtain⟨t,rfl⟩:=rx
  exact PySem.P.repr_of_str ⟨.str _,H,I.tok _,⟨_,rfl⟩,q⟩ hz
 | tuple ds =>
  obtain⟨as,ra⟩:=RV.reads I hx rx
  obtain⟨a,vs,rfl,_⟩:=id hx
  cases rx
  refine repr_of_reads' ra hs (PyData.noDict_hsm (RV.noDict _ _ hx)) hr.gd (by omega) (λ_ _ e=>e) (λh' u tk hk=>⟨.str _,H,I.kept (t':=tk) hk,⟨_,rfl⟩,q⟩) hz
 | list ds =>
  obtain⟨as,ra⟩:=RV.reads I hx rx
  obtain⟨a,vs,rfl,_⟩:=id hx
  cases rx
  refine repr_of_reads' ra hs (PyData.noDict_hsm (RV.noDict _ _ hx)) hr.gd (by omega) (λ_ _ e=>e) (λh' u tk hk=>⟨.str _,H,I.kept (t':=tk) hk,⟨_,rfl⟩,q⟩) hz
 | dict _=>exact(show False from hx).elim
noncomputable def Yo:R2:=λx y H Q=>∃d e,RV H d x/\RV H e y/\d.canLay0=true/\e.canLay0=true/\d.depth<=100/\Q (.bl (b_ d e)) H
theorem Cs{k:Nat}(hr:Room k X.A):OpR X (compareOp .Eq) Yo:=by
 intro pins s σ H x y v u Q I rx ry h
 obtain⟨d,e,hx,hy,h1,h2,hd,q⟩:=h
 obtain⟨as,ra⟩:=RV.reads I hx rx
 obtain⟨bs,rb⟩:=RV.reads I hy ry
 have hu:=hr.un
 have hm:min d.depth e.depth<=d.depth:=Nat.min_le_left _ _
 exact PySem.SeqAt.compareEq_reads ra rb h1 h2 (by omega) ⟨.bl _,H,I,rfl,q⟩
noncomputable def W5(neg:Bool):R2:=λx y H Q=>∃d es,RV H d x/\(RV H (.list es) y\/RV H (.tuple es) y)/\d.canLay0=true/\cS es=true/\d.depth<=100/\Q (.bl (if neg then !(es.any λy=>b_ y d) else es.any λy=>b_ y d)) H
theorem Fo{k:Nat}(hr:Room k X.A):OpR X (compareOp .In) (W5 false):=by
 intro pins s σ H x y v u Q I rx ry h
 obtain⟨d,es,hx,hy,h1,h2,hd,q⟩:=h
 obtain⟨as,ra⟩:=RV.reads I hx rx
 have hu:=hr.un
 have hm:min (bn es) d.depth<=d.depth:=eU _ _
 rcases hy with hy | hy
 ·obtain⟨bs,rb⟩:=RV.reads I hy ry
  exact PySem.SeqAt.in_list_reads rb ra h2 h1 (by omega) ⟨.bl _,H,I,rfl,q⟩
 ·obtain⟨bs,rb⟩:=RV.reads I hy ry
  exact PySem.SeqAt.in_tuple_reads rb ra h2 h1 (by omega) ⟨.bl _,H,I,rfl,q⟩
theorem DL{k:Nat}(hr:Room k X.A):OpR X (compareOp .NotIn) (W5 true):=by
 intro pins s σ H x y v u Q I rx ry h
 obtain⟨d,es,hx,hy,h1,h2,hd,q⟩:=h
 obtain⟨as,ra⟩:=RV.reads I hx rx
 have hu:=hr.un
 have hm:min (bn es) d.depth<=d.depth:=eU _ _
 rcases hy with hy | hy
 ·obtain⟨bs,rb⟩:=RV.reads I hy ry
  exact PySem.SeqAt.notIn_list_reads rb ra h2 h1 (by omega) ⟨.bl _,H,I,rfl,q⟩
 ·obtain⟨bs,rb⟩:=RV.reads I hy ry
  exact PySem.SeqAt.notIn_tuple_reads rb ra h2 h1 (by omega) ⟨.bl _,H,I,rfl,q⟩
end
end L2
namespace Dp
open PySem PySem.Spec PyProof.Rows L2
mutual
noncomputable def toPy:D->PyData
 | .non=>.none
 | .bl b=>.bool b
 | .int i=>.int i
 | .str x=>.str x
 | .tup ds=>.tuple (BC ds)
 | .lst ds=>.list (BC ds)
 | .dic _ _=>.dict []
 | .fdi _ _=>.dict []
 | .dit _ _=>.dict []
noncomputable def BC:List D->List PyData
 | []=>[]
 | d::ds=>toPy d::BC ds
end
theorem DJ(ds:List D):BC ds=ds.map toPy:=by
 induction ds with
 | nil=>rfl
 | cons d r ih=>rw [BC,ih,av]
section
variable {K:Frag}{M:Addr->Prop}{H:Hp}
mutual
theorem At.rv:∀{d:D} {v:V},At K M H d v->E9 d=true->RV H (toPy d) v
 | .non,v,h,_=>h
 | .bl b,v,h,_=>h
 | .int i,v,h,_=>h
 | .str x,v,h,_=>h.1
 | .tup ds,v,h,n=>by
  obtain⟨a,vs,e,hn,hs⟩:=h
  exact⟨a,vs,e,hn,Ats.rv hs n⟩
 | .lst ds,v,h,n=>by
  obtain⟨a,vs,e,hn,hs⟩:=h
  exact⟨a,vs,e,.inl hn.2,Ats.rv hs n⟩
 | .dic ks ds,v,h,n=>by cases n
 | .fdi ks ds,v,h,n=>by cases n
 | .dit ks ds,v,h,n=>by cases n
theorem Ats.rv:∀{ds:List D} {vs:List V},Ats K M H ds vs->CD ds=true->RVs H (BC ds) vs
 | [],vs,h,_=>h
 | d::ds,vs,h,n=>by
  obtain⟨v,r,e,h1,h2⟩:=h
  have n':(E9 d&&CD ds)=true:=n
  rw [az] at n'
  exact⟨v,r,e,At.rv h1 n'.1,Ats.rv h2 n'.2⟩
end
theorem AtT.rv{U:Addr->Prop}{d:D}{v:V}(h:AtT K U M H d v)(n:E9 d=true):RV H (toPy d) v:=by
 cases d with
 | lst ds =>
  obtain⟨a,vs,e,_,hq,hs⟩:=h
  exact⟨a,vs,e,hq,Ats.rv hs n⟩
 | dic ks ds=>cases n
 | fdi ks ds=>cases n
 | dit ks ds=>cases n
 | non=>exact h
 | bl b=>exact h
 | int i=>exact h
 | str x=>exact h.1
 | tup ds=>exact At.rv (K:=K) (M:=M) (d:=.tup ds) h n
noncomputable def Sh(d:D):Prop:=E9 d=true/\(toPy d).showable=true/\(toPy d).depth<=100/\(toPy d).shown.length<=sizeLine
noncomputable def Oq(d:D):Str:=(toPy d).shown
noncomputable def Tz(ds:List D)(P:D->Prop):Prop:=∃d,ds=[d]/\Sh d/\P (.str (Oq d))
theorem UY:C6 K .sh WH Tz:=by
 intro U M H ds vs P Q dom vM hp w q
 obtain⟨d,rfl,hd,w⟩:=w
 obtain⟨v,rfl,hx⟩:=DV hp
 exact⟨v,toPy d,rfl,hx.rv hd.1,hd.2.1,hd.2.2.1,hd.2.2.2,q _ H (.str (Oq d)) .refl ⟨rfl,hd.2.2.2⟩ w⟩
noncomputable def B9(d:D):Prop:=E9 d=true/\(toPy d).canLay0=true/\(toPy d).depth<=100
noncomputable def Bw(d e:D):Bool:=b_ (toPy d) (toPy e)
noncomputable def PP(d e:D)(P:D->Prop):Prop:=B9 d/\B9 e/\P (.bl (Bw d e))
theorem FI:HB K .sh Yo PP:=λU M H d e x y P Q dom vM hx hy w q =>
 ⟨toPy d,toPy e,hx.rv w.1.1,hy.rv w.2.1.1,w.1.2.1,w.2.1.2.1,w.1.2.2,q _ H (.bl (Bw d e)) .refl rfl w.2.2⟩
noncomputable def Qw:D->Option (List D)
 | .lst ds=>some ds
 | .tup ds=>some ds
 | _=>none
noncomputable def JI(neg:Bool)(d e:D)(P:D->Prop):Prop:=B9 d/\B9 e/\∃es,Qw e=some es/\P (.bl (if neg then !(es.any λy=>Bw y d) else es.any λy=>Bw y d))
theorem Dz{neg:Bool}:HB K .sh (W5 neg) (JI neg):=λU M H d e x y P Q dom vM hx hy w q=>by
 obtain⟨h1,h2,es,he,w⟩:=w
 have any_eq:∀es:List D,(es.map toPy).any (λy=>b_ y (toPy d))=es.any λy=>Bw y d:=λes=>by rw [List.any_map]; rfl
 cases e with
 | lst ds =>
  cases he
  refine⟨toPy d,BC es,hx.rv h1.1,.inl (hy.rv h2.1),h1.2.1,by simpa [toPy,PyData.canLay0] using h2.2.1,h1.2.2,?_⟩
  rw [DJ,any_eq]
  exact q _ H (.bl _) .refl rfl w
 | tup ds =>
  cases he
  refine⟨toPy d,BC es,hx.rv h1.1,.inr (hy.rv h2.1),h1.2.1,by simpa [toPy,PyData.canLay0] using h2.2.1,h1.2.2,?_⟩
  rw [DJ,any_eq]
  exact q _ H (.bl _) .refl rfl w
 | _=>cases he
noncomputable def Mi(d e:D)(P:D->Prop):Prop:=B9 d/\B9 e/\P (.bl (!Bw d e))
end
end Dp
namespace L2
open PySem PySem.Spec PyProof.Rows
noncomputable def Yg:R2:=λx y H Q=>∃d e,RV H d x/\RV H e y/\d.canLay0=true/\e.canLay0=true/\d.depth<=100/\Q (.bl (!PyData.eqv d e)) H
theorem EG{X:Cx}{k:Nat}(hr:Room k X.A):OpR X (compareOp .NotEq) Yg:=by
 intro pins s σ H x y v u Q I rx ry h
 obtain⟨d,e,hx,hy,h1,h2,hd,q⟩:=h
 obtain⟨as,ra⟩:=RV.reads I hx rx
 obtain⟨bs,rb⟩:=RV.reads I hy ry
 have hu:=hr.un
 have hm:min d.depth e.depth<=d.depth:=Nat.min_le_left _ _
 exact PySem.SeqAt.compareNe_reads ra rb h1 h2 (by omega) ⟨.bl _,H,I,rfl,q⟩
end L2
namespace Dp
open PySem PySem.Spec PyProof.Rows L2
theorem Gm{K:Frag}:HB K .sh Yg Mi:=λU M H d e x y P Q dom vM hx hy w q =>
 ⟨toPy d,toPy e,hx.rv w.1.1,hy.rv w.2.1.1,w.1.2.1,w.2.1.2.1,w.1.2.2,q _ H (.bl (!Bw d e)) .refl rfl w.2.2⟩
end Dp
namespace L2
open PySem PySem.Spec PyProof.Rows
noncomputable def kOf:Key->V
 | .inl i=>.int i
 | .inr x=>.str x
noncomputable def ZY:Key->Key->Bool
 | .inl i,.inl j=>decide (i<j)
 | .inr x,.inr y=>decide (x.cps.toList<y.cps.toList)
 | _,_=>false
noncomputable def LO:Key->Key->Bool
 | .inl _,.inl _=>true
 | .inr _,.inr _=>true
 | _,_=>false
noncomputable def IN:List Key->List Key->Bool
 | [],[]=>false
 | [],_::_=>true
 | _::_,[]=>false
 | x::xs,y::ys=>if x=y then IN xs ys else ZY x y
noncomputable def B3:List Key->List Key->Bool
 | x::xs,y::ys=>LO x y&&B3 xs ys
 | _,_=>true
theorem T_{A:Around}{s:Shared}{x y:Key}{u v:Value}(rx:RelV (kOf x) u)(ry:RelV (kOf y) v):∃e,SeqAt.EqAt A s u v e/\(e=true↔x=y):=by
 cases x with
 | inl i =>
  cases y with
  | inl j=>exact⟨_,Mm rx ry rfl rfl,by simp [kOf,Y8]⟩
  | inr z=>exact⟨_,Mm rx ry rfl rfl,by simp [kOf,Y8]⟩
 | inr z =>
  cases y with
  | inl j=>exact⟨_,Mm rx ry rfl rfl,by simp [kOf,Y8]⟩
  | inr z'=>exact⟨_,Mm rx ry rfl rfl,by simp [kOf,Y8]⟩
theorem Ss(A:Around)(s:Shared){x y:Key}{u v:Value}(rx:RelV (kOf x) u)(ry:RelV (kOf y) v)(hs:LO x y=true)(prog:Program)(w:World)(E:Value->Shared->Prop)(Q:Value->Shared->Prop)(h:Q (.bool (ZY x y)) s) :
  wpAny (model prog w) A (richCompare .Lt u v) Q E s:=by
 cases x with
 | inl i =>
  cases y with
  | inl j =>
   obtain⟨t,rfl⟩:=rx
   obtain⟨t',rfl⟩:=ry
   exact(gZ h:wpAny (model prog w) A (compareOp .Lt (.int i t) (.int j t')) Q E s)
  | inr z=>cases hs
 | inr z =>
  cases y with
  | inl j=>cases hs
  | inr z' =>
   obtain⟨t,rfl⟩:=rx
   obtain⟨t',rfl⟩:=ry
   exact(PySem.P.lt_str h:wpAny (model prog w) A (compareOp .Lt (.str z t) (.str z' t')) Q E s)
section
open PySem.SeqAt
open PySem.AutoSeq1 (wpAny_loadPart')
open PySem.MeetsSeq PySem.MeetsSeq2 PySem.MeetsSeq3
theorem Kv(l b:Addr)(items items2:Array Value)(n n2:Nat)(dd dd2:Option Addr)(sl sl2:Array (Option Value))(ns ms:List Key)(hi:Vals (ns.map kOf) items.toList)(hj:Vals (ms.map kOf) items2.toList)(hsame:B3 ns ms=true) :
  Meets (Builtin.«tuple.__lt__» ⟨[.ref l,.ref b],[]⟩)
   (λ_ R s=>s.heap.get? l=some { cls:=.type "tuple",dict:=dd,data:=.seq items n,slots:=sl }/\s.heap.get? b=some { cls:=.type "tuple",dict:=dd2,data:=.seq items2 n2,slots:=sl2 } /\
    R (.ok (.ret (.bool (IN ns ms)))) s) :=
 .of_wp λprog w A R s h=>by
  obtain⟨hp,g,d,tk,os⟩:=s; obtain⟨hl,hb,h⟩:=h
  have f2:=AutoSeq1.sub_tuple_tuple
  have z1:items.size=ns.length:=by have:=hi.length; rw [Db] at this; rw [this]; simp
  have z2:items2.size=ms.length:=by have:=hj.length; rw [Db] at this; rw [this]; simp
  wp_walk using gR hl,gR hb,wpAny_forIn_list _ (λrest b s'=>b.1=none/\s'=⟨hp,g,d,tk,os⟩/\∃(vs ws:List Value) (ns' ms':List Key),rest=vs.zip ws /\
   Vals (ns'.map kOf) vs/\Vals (ms'.map kOf) ws/\B3 ns' ms'=true/\ns'.length+items2.size=ms'.length+items.size/\R (.ok (.ret (.bool (IN ns' ms')))) ⟨hp,g,d,tk,os⟩) _
  case turn =>
   rintro ⟨y,x⟩ rest b s' ⟨hb',rfl,vs,ws,ns',ms',hz,hvi,hwi,hsm,hlen,hR⟩
   cases ns' with
   | nil=>cases hvi; rw [List.zip_nil_left] at hz; cases hz
   | cons a ns' =>
    cases ms' with
    | nil=>cases hwi; rw [List.zip_nil_right] at hz; cases hz
    | cons c ms' =>
     rw [av] at hvi hwi
     cases hvi with
     | cons ra hvi' =>
      cases hwi with
      | cons rc hwi' =>
       rw [fZ] at hz
       injection hz with hyx hrest
       injection hyx with hy hx
       subst hy hx
       have hR':R (.ok (.ret (.bool (if a=c then IN ns' ms' else ZY a c)))) ⟨hp,g,d,tk,os⟩:=hR
       have hsm':(LO a c&&B3 ns' ms')=true:=hsm
       rw [az] at hsm'
       simp only [Tk] at hlen
       obtain⟨e,he,hiff⟩:=T_ (A:=A.in1) (s:=⟨hp,g,d,tk,os⟩) ra rc
       refine Ch (he prog w _ _ ?_)
       cases e with
       | true =>
        rw [if_pos (hiff.mp rfl)] at hR'
        wp_walk
        exact⟨rfl,rfl,_,_,_,_,hrest,hvi',hwi',hsm'.2,by omega,hR'⟩
       | false =>
        rw [if_neg (λq=>absurd (hiff.mpr q) ar)] at hR'
        have hri:=Ss A.in1 ⟨hp,g,d,tk,os⟩ ra rc hsm'.1 prog w
        wp_walk using hri
        exact⟨_,rfl,by simpa using hR'⟩
  case fin =>
   rintro ⟨b1,b2⟩ s' ⟨hb',rfl,vs,ws,ns',ms',hz,hvi,hwi,hsm,hlen,hR⟩
   simp only at hb'
   subst hb'
   have hv:IN ns' ms'=decide (items.size<items2.size):=by
    cases ns' with
    | nil =>
     cases ms' with
     | nil =>
      simp only [cG] at hlen
      exact(decide_eq_false (by omega)).symm
     | cons c u =>
      simp only [cG,Tk] at hlen
      exact(decide_eq_true (by omega)).symm
    | cons a t =>
     cases ms' with
     | nil =>
      simp only [cG,Tk] at hlen
      exact(decide_eq_false (by omega)).symm
     | cons c u =>
      rw [av] at hvi hwi
      cases hvi
      cases hwi
      rw [fZ] at hz
      cases hz
   rw [hv] at hR
   wp_walk
   exact⟨_,rfl,by simpa [Builtin.Tuple.tupleCompareSizes] using hR⟩
  case h =>
   exact⟨rfl,rfl,items.toList,items2.toList,ns,ms,rfl,hi,hj,hsame,by omega,h⟩
end
section
variable {X:Cx}
noncomputable def Yh(K:Frag):R2:=λx y H Q=>∃a b ns ms,x=.ref a/\y=.ref b/\SqT K H a (ns.map kOf)/\SqT K H b (ms.map kOf)/\B3 ns ms=true/\Q (.bl (IN ns ms)) H
theorem XM(hu:X.A.units<cLine):OpR X (compareOp .Lt) (Yh X.K):=by
 intro pins s σ H x y v u Q I rx ry h
 obtain⟨a,b,ns,ms,rfl,rfl,ha,hb,hsm,q⟩:=h
 cases rx
 cases ry
 obtain⟨its,r1,p1,_⟩:=I.tuple ha
 obtain⟨its2,r2,p2,_⟩:=I.tuple hb
 obtain⟨⟨cls,dd,data,sl⟩,ho,hc,n,hd⟩:=id p1
 obtain⟨⟨cls2,dd2,data2,sl2⟩,ho2,hc2,n2,hd2⟩:=id p2
 simp only at hc hd hc2 hd2
 subst hc hd hc2 hd2
 exact richCompare_meets_room (op:=.Lt) ⟨_,ho,rfl⟩ ⟨_,ho2,rfl⟩ PySem.F.slot_tuple_lt PySem.F.entry_tuple_lt (PySem.F.args_tuple_lt_2 _ _) (Kv a b its.toArray its2.toArray n n2 dd dd2 sl sl2 ns ms r1 r2 hsm)
  ⟨ho,ho2,show dA (IN ns ms)≠Value.notImplemented/\EP X pins σ Q (.bool (IN ns ms)) s from⟨(λx=>nomatch x),⟨.bl _,H,I,rfl,q⟩⟩⟩ hu
end
noncomputable def ItAt(κ:Bool)(h:Heap)(it l:Addr)(k:Nat):Prop:=match κ with
 | true=>h.IsListIter it l k
 | false=>h.IsTupleIter it l k
noncomputable def SqAt(κ:Bool)(h:Heap)(l:Addr)(items:Array Value):Prop:=match κ with
 | true=>h.IsList l items
 | false=>h.IsTuple l items
section
variable {κ:Bool}{h h':Heap}{it l b:Addr}{k:Nat}{items:Array Value}
theorem ItAt.mv(x:ItAt κ h it l k)(e:∀o,h.get? it=some o->h'.get? it=some o):ItAt κ h' it l k:=by
 cases κ with
 | true=>obtain⟨o,ho,r⟩:=x; exact⟨o,e o ho,r⟩
 | false=>obtain⟨o,ho,r⟩:=x; exact⟨o,e o ho,r⟩
theorem SqAt.mv(x:SqAt κ h l items)(e:∀o,h.get? l=some o->h'.get? l=some o):SqAt κ h' l items:=by
 cases κ with
 | true=>obtain⟨o,ho,r⟩:=x; exact⟨o,e o ho,r⟩
 | false=>obtain⟨o,ho,r⟩:=x; exact⟨o,e o ho,r⟩
theorem ItAt.eb(x:ItAt κ h it l k)(hs:ge b h h')(n:it≠b):ItAt κ h' it l k:=x.mv λo e=>hs it o n e
theorem SqAt.eb(x:SqAt κ h l items)(hs:ge b h h')(n:l≠b):SqAt κ h' l items:=x.mv λo e=>hs l o n e
theorem ItAt.lies(x:ItAt κ h it l k):∃o,h.get? it=some o/\∀v,o.data≠.cell v:=by
 cases κ with
 | true=>obtain⟨o,ho,_,d⟩:=x; exact⟨o,ho,λv z=>by rw [d] at z; cases z⟩
 | false=>obtain⟨o,ho,_,d⟩:=x; exact⟨o,ho,λv z=>by rw [d] at z; cases z⟩
theorem SqAt.lies(x:SqAt κ h l items):∃o,h.get? l=some o:=by
 cases κ with
 | true=>obtain⟨o,ho,_⟩:=x; exact⟨o,ho⟩
 | false=>obtain⟨o,ho,_⟩:=x; exact⟨o,ho⟩
end
section
variable {prog:Program}{w:World}{A:Around}{E:Value->Shared->Prop}{s:Shared}
theorem ET{κ:Bool}{it l:Addr}{i:Nat}{items:Array Value}{x:Value}{Q:Value->Shared->Prop}(hit:ItAt κ s.heap it l i)(hl:SqAt κ s.heap l items)(hx:items[i]?=some x)
  (hQ:∀h',ItAt κ h' it l (i+1)->cz it s.heap h'->Q x { s with heap:=h' }):wpAny (model prog w) A (bN (.ref it)) Q E s:=by
 cases κ with
 | true=>exact wpAny_nextOf_list_item hit hl hx hQ
 | false =>
  have hit':s.heap.IsTupleIter it l i:=hit
  have hl':s.heap.IsTuple l items:=hl
  obtain⟨o,ho,hc,hd⟩:=id hit'; obtain⟨ol,hol,_,nl,hdl⟩:=hl'
  unfold bN
  refine Ch (bR (name:=bo "__next__") hit'.typeIs c8 (bp c8 hit'.typeIs fb ?_ (fQ _)))
  show wpAny (model prog w) _ (field (.ref it) 0 >>= _) _ _ s; refine Ch (bP ho hd (x:=.ref l) rfl ?_)
  show wpAny (model prog w) _ (if (bT l==bQ)=true then _ else _) _ _ s; rw [if_neg (show ¬((bT l==bQ)=true) from ar)]
  show wpAny (model prog w) _ (field (.ref it) 1 >>= _) _ _ s; refine Ch (bP ho hd (x:=.int i 0) rfl ?_)
  show wpAny (model prog w) _ (seqItems? (.ref l) >>= _) _ _ s; refine Ch (cK hol hdl ?_); simp only [bv,hx]
  refine Ch (fR ho hd (by simp) (Go ⟨x,rfl,Go (hQ _ (show Heap.IsTupleIter _ it l (i+1) from ?_) (d9 ..))⟩))
  exact⟨_,e7 _ ho (Obj.isFreed_of_fields (eF hd _)),(Obj.cls_mapFields ..).trans hc,by(rw [eF hd]; simp [rawInt])⟩
theorem Kf{κ:Bool}{it l:Addr}{i:Nat}{items:Array Value}{Q:Value->Shared->Prop}(hh:A.handled=none)(hit:ItAt κ s.heap it l i)(hl:SqAt κ s.heap l items)(hx:items[i]?=none)
  (hE:∀h' e,ge it s.heap h'->(∃o,h'.get? e=some o/\o.cls=.type "StopIteration")->E (.ref e) { s with heap:=h' }):wpAny (model prog w) A (bN (.ref it)) Q E s:=by
 cases κ with
 | true=>exact wpAny_nextOf_list_end hh hit hl hx hE
 | false =>
  have hit':s.heap.IsTupleIter it l i:=hit
  have hl':s.heap.IsTuple l items:=hl
  obtain⟨o,ho,hc,hd⟩:=id hit'; obtain⟨ol,hol,_,nl,hdl⟩:=hl'
  unfold bN
  refine Ch (bR (name:=bo "__next__") hit'.typeIs c8 (bp c8 hit'.typeIs fb ?_ (fQ _)))
  show wpAny (model prog w) _ (field (.ref it) 0 >>= _) _ _ s; refine Ch (bP ho hd (x:=.ref l) rfl ?_)
  show wpAny (model prog w) _ (if (bT l==bQ)=true then _ else _) _ _ s; rw [if_neg (show ¬((bT l==bQ)=true) from ar)]
  show wpAny (model prog w) _ (field (.ref it) 1 >>= _) _ _ s; refine Ch (bP ho hd (x:=.int i 0) rfl ?_)
  show wpAny (model prog w) _ (seqItems? (.ref l) >>= _) _ _ s; refine Ch (cK hol hdl ?_); simp only [bv,hx]
  refine Ch (dk (Ch (fR ho hd (by simp) ?_))); show wpAny (model prog w) _ (newExc (.type "StopIteration") [] >>= _) _ _ _
  refine Ch ?_; simp only [newExc,newTuple]; refine Ch (bO ?_ (by size_fits))
  refine Ch (m:=firstArgMember _ _) (wpAny_of_eq (a:=bQ) (by first | rfl | (simp only [firstArgMember]; rfl)) ?_); refine bO ?_ (by size_fits)
  simp only [raiseNew]; refine Ch (wpAny_handled ?_); first | rw [show A.in1.handled=none from hh] | rw [hh]
  refine Ch (Go (wpAny_throw ?_)); exact hE _ _ (((d9 ..).extBut.push _).push _) ⟨_,XV _ rfl,rfl⟩
structure Ug (z TI TO i1 i2 l1 l2:Addr):Prop where
 TIz:TI≠z
 TOz:TO≠z
 i1z:i1≠z
 i2z:i2≠z
 TOi1:TO≠i1
 TOi2:TO≠i2
 i12:i1≠i2
 l1z:l1≠z
 l1TO:l1≠TO
 l1i1:l1≠i1
 l1i2:l1≠i2
 l2z:l2≠z
 l2TO:l2≠TO
 l2i1:l2≠i1
 l2i2:l2≠i2
theorem R7{κ1 κ2:Bool}{z TI TO i1 i2 l1 l2:Addr}{k:Nat}{xs ys:Array Value}{x y a b:Value}{Q:Value->Shared->Prop}(D:Ug z TI TO i1 i2 l1 l2)
  (hz:IsZip s.heap z TI TO .none) (hTI:IsPair s.heap TI (.ref i1) (.ref i2)) (hTO:IsPair s.heap TO a b) (h1:ItAt κ1 s.heap i1 l1 k) (h2:ItAt κ2 s.heap i2 l2 k) (hl1:SqAt κ1 s.heap l1 xs) (hl2:SqAt κ2 s.heap l2 ys) (hx:xs[k]?=some x) (hy:ys[k]?=some y)
  (hQ:∀h',IsZip h' z TI TO (rawInt s.heap.objs.size)->IsPair h' TO x y->ItAt κ1 h' i1 l1 (k+1)->ItAt κ2 h' i2 l2 (k+1)->IsPair h' s.heap.objs.size x y->h'.objs.size=s.heap.objs.size+1->(∀c o,c≠z->c≠TO->c≠i1->c≠i2->s.heap.get? c=some o->h'.get? c=some o)->Q (.ref s.heap.objs.size) { s with heap:=h' }) :
  wpAny (model prog w) A (Builtin.«zip.__next__» ⟨[.ref z],[]⟩) (λfin s'=>∃v,fin=.done (.ret v)/\Q v s') E s:=by
 show wpAny (model prog w) A (field (.ref z) 2 >>= _) _ _ _; refine Ch (bP hz rfl (x:=.bool false) rfl ?_)
 show wpAny (model prog w) A (field (.ref z) 3 >>= _) _ _ _; refine Ch (bP hz rfl (x:=.ref TI) rfl ?_); refine Ch (cK hTI rfl ?_)
 show wpAny (model prog w) A (bM (.ref z) >>= _) _ _ _; refine Ch ?_; unfold bM
 refine Ch (bP hz rfl (x:=.none) rfl (Go ?_)); simp only [if_true]; refine Ch (dk ?_); refine Ch (bP hz rfl (x:=.ref TO) rfl ?_)
 refine Ch (cZ hz (by simp) λha hza hsa=>?_)
 replace hza:IsZip ha z TI TO .ellipsis:=hza
 refine Ch ?_; simp only [List.zipIdx_cons,List.zipIdx_nil,c5,fS]
 refine Ch (Ch (fo ?_)); show wpAny (model prog w) _ (bN (.ref i1) >>= _) _ _ _
 refine Ch (ET (h1.eb hsa.extBut D.i1z) (hl1.eb hsa.extBut D.l1z) hx λhb h1b hsb=>Go ?_)
 have hTOb:IsPair hb TO a b:=hsb.extBut _ _ D.TOi1 (hsa.extBut _ _ D.TOz hTO)
 refine Ch (cK hTOb rfl ?_); refine Ch (fF hTOb λhc hTOc hsc=>?_)
 replace hTOc:IsPair hc TO x b:=hTOc
 refine Ch (wpAny_letGo (Go ?_)); refine Ch (Ch (fo ?_)); show wpAny (model prog w) _ (bN (.ref i2) >>= _) _ _ _
 refine Ch (ET (((h2.eb hsa.extBut D.i2z).eb hsb.extBut D.i12.symm).eb hsc.extBut D.TOi2.symm) (((hl2.eb hsa.extBut D.l2z).eb hsb.extBut D.l2i1).eb hsc.extBut D.l2TO) hy λhd h2d hsd=>Go ?_)
 have hTOd:IsPair hd TO x b:=hsd.extBut _ _ D.TOi2 hTOc
 refine Ch (cK hTOd rfl ?_); refine Ch (fF hTOd λhe hTOe hse=>?_)
 replace hTOe:IsPair he TO x y:=hTOe
 refine Ch (wpAny_letGo (Go (Go ?_))); refine Ch (cK hTOe rfl ?_); refine Ch (wpAny_newTuple ?_)
 have hsz:he.objs.size=s.heap.objs.size:=by rw [hse.1,hsd.1,hsc.1,hsb.1,hsa.1]
 have hze:IsZip he z TI TO .ellipsis:=hse.extBut _ _ D.TOz.symm (hsd.extBut _ _ D.i2z.symm (hsc.extBut _ _ D.TOz.symm (hsb.extBut _ _ D.i1z.symm hza)))
 have hke:∀c o,c≠z->c≠TO->c≠i1->c≠i2->s.heap.get? c=some o->he.get? c=some o:=λc o c1 c2 c3 c4 e=>hse.extBut _ _ c2 (hsd.extBut _ _ c4 (hsc.extBut _ _ c2 (hsb.extBut _ _ c3 (hsa.extBut _ _ c1 e))))
 have h1e:ItAt κ1 he i1 l1 (k+1):=((h1b.eb hsc.extBut D.TOi1.symm).eb hsd.extBut D.i12).eb hse.extBut D.TOi1.symm
 have h2e:ItAt κ2 he i2 l2 (k+1):=h2d.eb hse.extBut D.TOi2.symm
 have hzlt:z<he.objs.size:=ZB hze
 show wpAny (model prog w) _ (eG (.ref z) (.ref he.objs.size) >>= _) _ _ _; refine Ch ?_; unfold eG
 have hzf:IsZip (he.push { cls:=.type "tuple",data:=.seq #[x,y] }) z TI TO .ellipsis:=Ev _ hze
 refine Ch (cZ hzf (by simp) λhg hzg hsg=>?_)
 replace hzg:IsZip hg z TI TO (rawInt he.objs.size):=hzg
 refine cZ hzg (by simp) λhi hzi hsi=>?_
 replace hzi:IsZip hi z TI TO (rawInt he.objs.size):=hzi
 have up:∀c o,c≠z->he.get? c=some o->hi.get? c=some o:=λc o c1 e=>hsi.extBut _ _ c1 (hsg.extBut _ _ c1 (Ev _ e))
 have hTi:IsPair hi he.objs.size x y:=hsi.extBut _ _ (fC hzlt) (hsg.extBut _ _ (fC hzlt) (XV _ rfl))
 have hzs:hi.objs.size=he.objs.size+1:=by rw [hsi.1,hsg.1,dE]
 rw [hsz] at hzi hTi hzs
 refine Go ⟨_,rfl,?_⟩
 show Q (.ref he.objs.size) _; rw [hsz]
 exact hQ hi hzi (up _ _ D.TOz hTOe) (h1e.mv λo e=>up _ o D.i1z e) (h2e.mv λo e=>up _ o D.i2z e) hTi hzs λc o c1 c2 c3 c4 e=>up c o c1 (hke c o c1 c2 c3 c4 e)
theorem GK{κ1 κ2:Bool}{z TI TO i1 i2 l1 l2:Addr}{k:Nat}{xs ys:Array Value}{a b:Value}{Q:Fin->Shared->Prop}(hh:A.handled=none)(D:Ug z TI TO i1 i2 l1 l2)
  (hz:IsZip s.heap z TI TO .none) (hTI:IsPair s.heap TI (.ref i1) (.ref i2)) (hTO:IsPair s.heap TO a b) (h1:ItAt κ1 s.heap i1 l1 k) (h2:ItAt κ2 s.heap i2 l2 k) (hl1:SqAt κ1 s.heap l1 xs) (hl2:SqAt κ2 s.heap l2 ys) (hend:xs[k]?=none\/ys[k]?=none)
  (hE:∀h' e,(∀c o,c≠z->c≠TO->c≠i1->c≠i2->s.heap.get? c=some o->h'.get? c=some o)->(∃o,h'.get? e=some o/\o.cls=.type "StopIteration")->E (.ref e) { s with heap:=h' }) :
  wpAny (model prog w) A (Builtin.«zip.__next__» ⟨[.ref z],[]⟩) Q E s:=by
 show wpAny (model prog w) A (field (.ref z) 2 >>= _) _ _ _; refine Ch (bP hz rfl (x:=.bool false) rfl ?_)
 show wpAny (model prog w) A (field (.ref z) 3 >>= _) _ _ _; refine Ch (bP hz rfl (x:=.ref TI) rfl ?_); refine Ch (cK hTI rfl ?_)
 show wpAny (model prog w) A (bM (.ref z) >>= _) _ _ _; refine Ch ?_; unfold bM
 refine Ch (bP hz rfl (x:=.none) rfl (Go ?_)); simp only [if_true]; refine Ch (dk ?_); refine Ch (bP hz rfl (x:=.ref TO) rfl ?_)
 refine Ch (cZ hz (by simp) λha hza hsa=>?_)
 replace hza:IsZip ha z TI TO .ellipsis:=hza
 refine Ch ?_; simp only [List.zipIdx_cons,List.zipIdx_nil,c5,fS]
 refine Ch (Ch (fo ?_)); show wpAny (model prog w) _ (bN (.ref i1) >>= _) _ _ _
 cases hx:xs[k]? with
 | none =>
  refine Ch (Kf hh (h1.eb hsa.extBut D.i1z) (hl1.eb hsa.extBut D.l1z) hx λhb e hsb he=>?_)
  obtain⟨oe,hoe,hce⟩:=he
  have hzb:IsZip hb z TI TO .ellipsis:=hsb _ _ D.i1z.symm hza
  have hez:e≠z:=λx=>by subst x; rw [hzb] at hoe; cases hoe; simp at hce
  exact cZ hzb (by simp) λhc _ hsc=>hE hc e (λc o c1 _ c3 _ x=>hsc.extBut _ _ c1 (hsb _ _ c3 (hsa.extBut _ _ c1 x))) ⟨oe,hsc.extBut _ _ hez hoe,hce⟩
 | some x =>
  have hy:ys[k]?=none:=by
   rcases hend with h | h
   ·rw [hx] at h; cases h
   ·exact h
  refine Ch (ET (h1.eb hsa.extBut D.i1z) (hl1.eb hsa.extBut D.l1z) hx λhb h1b hsb=>Go ?_)
  have hTOb:IsPair hb TO a b:=hsb.extBut _ _ D.TOi1 (hsa.extBut _ _ D.TOz hTO)
  refine Ch (cK hTOb rfl ?_); refine Ch (fF hTOb λhc hTOc hsc=>?_)
  refine Ch (wpAny_letGo (Go ?_)); refine Ch (Ch (fo ?_)); show wpAny (model prog w) _ (bN (.ref i2) >>= _) _ _ _
  refine Ch (Kf hh (((h2.eb hsa.extBut D.i2z).eb hsb.extBut D.i12.symm).eb hsc.extBut D.TOi2.symm) (((hl2.eb hsa.extBut D.l2z).eb hsb.extBut D.l2i1).eb hsc.extBut D.l2TO) hy λhd e hsd he=>?_)
  obtain⟨oe,hoe,hce⟩:=he
  have hzd:IsZip hd z TI TO .ellipsis:=hsd _ _ D.i2z.symm (hsc.extBut _ _ D.TOz.symm (hsb.extBut _ _ D.i1z.symm hza))
  have hez:e≠z:=λx=>by subst x; rw [hzd] at hoe; cases hoe; simp at hce
  exact cZ hzd (by simp) λhf _ hsf=>hE hf e (λc o c1 c2 c3 c4 x=>hsf.extBut _ _ c1 (hsd _ _ c4 (hsc.extBut _ _ c2 (hsb.extBut _ _ c3 (hsa.extBut _ _ c1 x))))) ⟨oe,hsf.extBut _ _ hez hoe,hce⟩
end
noncomputable def Xe(κ:Bool):String:=match κ with
 | true => "list_iterator"
 | false => "tuple_iterator"
noncomputable def Tf(κ:Bool)(l:Addr):Obj:={ cls:=.type (Xe κ),data:=.fields #[.ref l,.int 0 0] }
noncomputable abbrev zA(κ1:Bool)(h:Heap)(l1:Addr):Heap:=h.push (Tf κ1 l1)
noncomputable abbrev zB(κ1 κ2:Bool)(h:Heap)(l1 l2:Addr):Heap:=(zA κ1 h l1).push (Tf κ2 l2)
noncomputable abbrev zC(κ1 κ2:Bool)(h:Heap)(l1 l2:Addr):Heap:=(zB κ1 κ2 h l1 l2).push { cls:=.type "tuple",data:=.seq #[.ref h.objs.size,.ref (zA κ1 h l1).objs.size] }
noncomputable abbrev zD(κ1 κ2:Bool)(h:Heap)(l1 l2:Addr):Heap:=(zC κ1 κ2 h l1 l2).push { cls:=.type "tuple",data:=.seq #[.none,.none] }
noncomputable abbrev zE(κ1 κ2:Bool)(h:Heap)(l1 l2:Addr):Heap:=(zD κ1 κ2 h l1 l2).push { cls:=.type "zip",data:=.fields #[.none,.bool false,.bool false,.ref (zB κ1 κ2 h l1 l2).objs.size,.ref (zC κ1 κ2 h l1 l2).objs.size] }
theorem VU(κ1 κ2:Bool)(l1 l2:Addr)(xs ys:Array Value):Meets (Builtin.«zip.__new__» ⟨[.type "zip",.ref l1,.ref l2],[]⟩)
  (λ_ R s=>SqAt κ1 s.heap l1 xs/\SqAt κ2 s.heap l2 ys/\R (.ok (.ret (.ref (zD κ1 κ2 s.heap l1 l2).objs.size))) { s with heap:=zE κ1 κ2 s.heap l1 l2 }) :=
 .of_wp λprog w A R s h=>by
  obtain⟨hp,g,d,tk,os⟩:=s; obtain⟨hl1,hl2,h⟩:=h
  have hsub:=sub_zip
  have hL2:SqAt κ2 (zA κ1 hp l1) l2 ys:=hl2.mv λo e=>Ev _ e
  cases κ1 with
  | true =>
   have g1:Heap.IsList (eT ⟨hp,g,d,tk,os⟩) l1 xs:=hl1
   cases κ2 with
   | true =>
    have g2:Heap.IsList (eT ⟨hp.push { cls:=.type "list_iterator",data:=.fields #[.ref l1,.int 0 0] },g,d,tk,os⟩) l2 ys:=hL2
    wp_walk using c9 g1,c9 g2
    exact⟨_,rfl,h⟩
   | false =>
    have g2:hV (eT ⟨hp.push { cls:=.type "list_iterator",data:=.fields #[.ref l1,.int 0 0] },g,d,tk,os⟩) l2 ys:=hL2
    wp_walk using c9 g1,dS g2
    exact⟨_,rfl,h⟩
  | false =>
   have g1:hV (eT ⟨hp,g,d,tk,os⟩) l1 xs:=hl1
   cases κ2 with
   | true =>
    have g2:Heap.IsList (eT ⟨hp.push { cls:=.type "tuple_iterator",data:=.fields #[.ref l1,.int 0 0] },g,d,tk,os⟩) l2 ys:=hL2
    wp_walk using dS g1,c9 g2
    exact⟨_,rfl,h⟩
   | false =>
    have g2:hV (eT ⟨hp.push { cls:=.type "tuple_iterator",data:=.fields #[.ref l1,.int 0 0] },g,d,tk,os⟩) l2 ys:=hL2
    wp_walk using dS g1,dS g2
    exact⟨_,rfl,h⟩
theorem N5(κ:Bool)(h:Heap)(l:Addr):ItAt κ (h.push (Tf κ l)) h.objs.size l 0:=by
 cases κ with
 | true=>exact⟨_,XV _ rfl,rfl,rfl⟩
 | false=>exact⟨_,XV _ rfl,rfl,rfl⟩
section
variable {prog:Program}{w:World}{A:Around}{E:Value->Shared->Prop}{s:Shared}
theorem Mv{κ1 κ2:Bool}{l1 l2:Addr}{xs ys:Array Value}{Q:Value->Shared->Prop}(hl1:SqAt κ1 s.heap l1 xs)(hl2:SqAt κ2 s.heap l2 ys)
  (h:∀h',IsZip h' (s.heap.objs.size+4) (s.heap.objs.size+2) (s.heap.objs.size+3) .none->IsPair h' (s.heap.objs.size+2) (.ref s.heap.objs.size) (.ref (s.heap.objs.size+1))->IsPair h' (s.heap.objs.size+3) .none .none ->
   ItAt κ1 h' s.heap.objs.size l1 0->ItAt κ2 h' (s.heap.objs.size+1) l2 0->(∀c o,s.heap.get? c=some o->h'.get? c=some o)->Q (.ref (s.heap.objs.size+4)) { s with heap:=h' }) :
  wpAny (model prog w) A (call (.type "zip") [.ref l1,.ref l2]) Q E s:=by
 refine callType_new F.called_zip (by decide) (F.typeCall_zip_2 _ _) (F.newCall_zip_2 _ _) (λobj=>F.args_object_init_3 obj _ _) F.entry_zip_new (VU κ1 κ2 l1 l2 xs ys) ⟨hl1,hl2,?_⟩
 have z1:(zA κ1 s.heap l1).objs.size=s.heap.objs.size+1:=dE ..
 have z2:(zB κ1 κ2 s.heap l1 l2).objs.size=s.heap.objs.size+2:=by rw [dE,z1]
 have z3:(zC κ1 κ2 s.heap l1 l2).objs.size=s.heap.objs.size+3:=by rw [dE,z2]
 have z4:(zD κ1 κ2 s.heap l1 l2).objs.size=s.heap.objs.size+4:=by rw [dE,z3]
 have g5:(zE κ1 κ2 s.heap l1 l2).get? (zD κ1 κ2 s.heap l1 l2).objs.size=some _:=XV _ rfl
 have g4:(zE κ1 κ2 s.heap l1 l2).get? (zC κ1 κ2 s.heap l1 l2).objs.size=some _:=Ev _ (XV _ rfl)
 have g3:(zE κ1 κ2 s.heap l1 l2).get? (zB κ1 κ2 s.heap l1 l2).objs.size=some _:=Ev _ (Ev _ (XV _ rfl))
 have i2:ItAt κ2 (zE κ1 κ2 s.heap l1 l2) (zA κ1 s.heap l1).objs.size l2 0:=(N5 κ2 (zA κ1 s.heap l1) l2).mv λo e=>Ev _ (Ev _ (Ev _ e))
 have i1:ItAt κ1 (zE κ1 κ2 s.heap l1 l2) s.heap.objs.size l1 0:=(N5 κ1 s.heap l1).mv λo e=>Ev _ (Ev _ (Ev _ (Ev _ e)))
 rw [z4] at g5
 rw [z3] at g4
 rw [z2] at g3
 rw [z1] at i2
 have fin:=h (zE κ1 κ2 s.heap l1 l2) (by rw [IsZip,g5,z2,z3]) (by rw [IsPair,g3,z1]) g4 i1 i2 (λc o e=>Ev _ (Ev _ (Ev _ (Ev _ (Ev _ e)))))
 refine⟨⟨_,by rw [z4]; exact g5,rfl⟩,?_⟩
 rw [z4]
 exact fin
theorem K8{κ1 κ2:Bool}{z TI TO i1 i2 l1 l2:Addr}{k:Nat}{xs ys:Array Value}{x y a b:Value}{Q:Option Value->Shared->Prop}(D:Ug z TI TO i1 i2 l1 l2)
  (hz:IsZip s.heap z TI TO .none) (hTI:IsPair s.heap TI (.ref i1) (.ref i2)) (hTO:IsPair s.heap TO a b) (h1:ItAt κ1 s.heap i1 l1 k) (h2:ItAt κ2 s.heap i2 l2 k) (hl1:SqAt κ1 s.heap l1 xs) (hl2:SqAt κ2 s.heap l2 ys) (hx:xs[k]?=some x) (hy:ys[k]?=some y)
  (hQ:∀h',IsZip h' z TI TO (rawInt s.heap.objs.size)->IsPair h' TO x y->ItAt κ1 h' i1 l1 (k+1)->ItAt κ2 h' i2 l2 (k+1)->IsPair h' s.heap.objs.size x y->h'.objs.size=s.heap.objs.size+1->(∀c o,c≠z->c≠TO->c≠i1->c≠i2->s.heap.get? c=some o->h'.get? c=some o)->Q (some (.ref s.heap.objs.size)) { s with heap:=h' }) :
  wpAny (model prog w) A (pyNext (.ref z)) Q E s:=by
 have hT:s.TypeIs (.ref z) "zip":=⟨_,hz,rfl⟩
 unfold pyNext
 exact Ch (d7 (bR (name:=bo "__next__") hT ci (bp ci hT eW
  (R7 D hz hTI hTO h1 h2 hl1 hl2 hx hy λh' a1 a2 a3 a4 a5 a6 a7=>Go (hQ h' a1 a2 a3 a4 a5 a6 a7)) (eQ _))))
theorem Mb{κ1 κ2:Bool}{z TI TO i1 i2 l1 l2:Addr}{k:Nat}{xs ys:Array Value}{a b:Value}{Q:Option Value->Shared->Prop}(hh:A.handled=none)(D:Ug z TI TO i1 i2 l1 l2)
  (hz:IsZip s.heap z TI TO .none) (hTI:IsPair s.heap TI (.ref i1) (.ref i2)) (hTO:IsPair s.heap TO a b) (h1:ItAt κ1 s.heap i1 l1 k) (h2:ItAt κ2 s.heap i2 l2 k) (hl1:SqAt κ1 s.heap l1 xs) (hl2:SqAt κ2 s.heap l2 ys) (hend:xs[k]?=none\/ys[k]?=none)
  (hQ:∀h',(∀c o,c≠z->c≠TO->c≠i1->c≠i2->s.heap.get? c=some o->h'.get? c=some o)->Q none { s with heap:=h' }):wpAny (model prog w) A (pyNext (.ref z)) Q E s:=by
 have hT:s.TypeIs (.ref z) "zip":=⟨_,hz,rfl⟩
 unfold pyNext
 refine Ch (d7 (bR (name:=bo "__next__") hT ci (bp ci hT eW (GK hh D hz hTI hTO h1 h2 hl1 hl2 hend λh' e hk he=>?_) (eQ _))))
 obtain⟨o,ho,hc⟩:=he
 exact Ch (gG (T := "StopIteration") (b:=true) ⟨o,ho,hc⟩ isSubtype_stop (Go (hQ _ hk)))
end
section
variable {X:Cx}{pins:List (Addr×Obj)}{σ:L2.St}{H:Hp}{s:Shared}{h':Heap}
end
noncomputable def SqK(κ:Bool)(K:Frag)(H:Hp)(a:Addr)(xs:List V):Prop:=match κ with
 | true=>SqL K H a xs
 | false=>SqT K H a xs
theorem SqK.at{κ:Bool}{X:Cx}{pins:List (Addr×Obj)}{σ:L2.St}{H:Hp}{s:Shared}{a:Addr}{xs:List V}(I:Inv X pins σ H s)(h:SqK κ X.K H a xs):∃its:List Value,Vals xs its/\SqAt κ s.heap a its.toArray:=by
 cases κ with
 | true=>obtain⟨its,r,pl,_⟩:=I.list h; exact⟨its,r,pl.isList⟩
 | false=>obtain⟨its,r,p,_⟩:=I.tuple h; exact⟨its,r,p⟩
structure aI (κ1 κ2:Bool) (z TI TO i1 i2 a b:Addr) (k:Nat) (h:Heap):Prop where
 z:IsZip h z TI TO .none
 ti:IsPair h TI (.ref i1) (.ref i2)
 to:∃a b,IsPair h TO a b
 i1:ItAt κ1 h i1 a k
 i2:ItAt κ2 h i2 b k
section
variable {X:Cx}
theorem Wj(n a b:Nat)(h1:a<n)(h2:b<n):Ug (n+4) (n+2) (n+3) n (n+1) a b:=by
 constructor <;> (show (_:Nat)≠(_:Nat); omega)
end
end L2
namespace Dp
open PySem PySem.Spec PyProof.Rows L2
section
variable {K:Frag}
theorem Ot{U V' M:Addr->Prop}{H:Hp}{d:D}{v:V}{ds:List D}(h:AtT K V' M H d v)(e:Qw d=some ds)(uV:∀a,U a->V' a)(vM:∀a,V' a->M a):∃κ a vs,v=.ref a/\Ats K M H ds vs/\∀M' H',Pres M H M' H'->Ext U H H'->SqK κ K H' a vs:=by
 cases d with
 | lst xs =>
  cases e
  obtain⟨a,vs,e1,n1,hq,hs⟩:=h
  refine⟨true,a,vs,e1,hs,λM' H' _ ex=>?_⟩
  rcases hq with hq | ⟨o,hq⟩
  ·exact .inl (.inl (ex.keep hq λz=>n1 (uV a z)))
  ·exact .inl (.inr ⟨o,ex.keep hq λz=>n1 (uV a z)⟩)
 | tup xs =>
  cases e
  obtain⟨a,vs,e1,hq,hs⟩:=h
  exact⟨false,a,vs,e1,hs,λM' H' pr _=>(hq.pres pr).sq⟩
 | _=>cases e
end
section
variable {X:Cx}{e1 e2:Expr}{es:List Expr}{j:Nat}{tpos p pos:Pos}{ws:FP}
noncomputable def Zx:D->Option Key
 | .int i=>some (.inl i)
 | .str x=>some (.inr x)
 | _=>none
noncomputable def KQ:List D->Option (List Key)
 | []=>some []
 | d::ds=>match Zx d,KQ ds with
  | some k,some ks=>some (k::ks)
  | _,_=>none
theorem Hd{K:Frag}{M:Addr->Prop}{H:Hp}:∀{ds:List D} {vs:List V} {ks:List Key},KQ ds=some ks->Ats K M H ds vs->vs=ks.map kOf
 | [],vs,ks,e,h=>by cases e; exact h
 | d::ds,vs,ks,e,h=>by
  obtain⟨v,r,e1,h1,h2⟩:=h
  unfold KQ at e
  split at e
  ·rename_i k ks' hk hks
   cases e
   rw [e1,Hd hks h2,av]
   congr 1
   cases d with
   | int i=>cases hk; exact h1
   | str x=>cases hk; exact h1.1
   | _=>cases hk
  ·cases e
noncomputable def Ri(d e:D)(P:D->Prop):Prop:=match d,e with
 | .int i,.int j=>P (.bl (decide (i<j)))
 | .str i,.str j=>P (.bl (decide (i.cps.toList<j.cps.toList)))
 | .tup xs,.tup ys=>∃ks ls,KQ xs=some ks/\KQ ys=some ls/\B3 ks ls=true/\P (.bl (IN ks ls))
 | _,_=>False
noncomputable def Yi(K:Frag):R2:=λx y H Q=>W4 x y H Q\/Yh K x y H Q
theorem J9{k:Nat}(hr:Room k X.A):OpR X (compareOp .Lt) (Yi X.K):=op_ltU.or (XM hr.units0)
theorem OW:HB X.K .sh (Yi X.K) Ri:=λU M H d e x y P Q dom vM hx hy w q=>by
 unfold Ri at w
 split at w
 ·exact .inl (Wc (X:=X) U M H (.int _) (.int _) x y P Q dom vM hx hy w q)
 ·exact .inl (Wc (X:=X) U M H (.str _) (.str _) x y P Q dom vM hx hy w q)
 ·obtain⟨ks,ls,h1,h2,h3,w⟩:=w
  obtain⟨a,vs,rfl,ha,hs⟩:=hx.tup
  obtain⟨b,us,rfl,hb,ht⟩:=hy.tup
  have e1:=Hd h1 hs
  have e2:=Hd h2 ht
  subst e1 e2
  exact .inr ⟨a,b,ks,ls,rfl,rfl,ha.sq,hb.sq,h3,q _ H (.bl _) .refl rfl w⟩
 ·exact w.elim
end
end Dp
namespace L2
open PySem PySem.Spec PyProof.Rows
section
variable {prog:Program}{w:World}{A:Around}{E:Value->Shared->Prop}{s:Shared}
theorem NN{t sl:Addr}{items:Array Value}{vl vu:Value}{lo hi:Option Int}{Q:Value->Shared->Prop}(ht:IsTup s.heap t items)(hs:s.heap.IsSliceOf sl vl vu .none)(pl:IsPart vl lo)(pu:IsPart vu hi)
  (hw:HT.sIx items.size 0 lo=0/\HT.sIx items.size items.size hi=items.size) (h:Q (.ref t) s):wpAny (model prog w) A (getItem (.ref t) (.ref sl)) Q E s:=by
 obtain⟨os,hos,hcs,hds⟩:=id hs
 have hTs:s.TypeIs (.ref sl) "slice":=⟨os,hos,hcs⟩
 unfold getItem
 (try with_reducible refine b9 ?_); (first | refine Ch (Go ?_) | skip)
 refine Ch (fv ht.typeIs (by decide) (Ch (bR (name:=bo "__getitem__") ht.typeIs bL (bp bL ht.typeIs fO ?_ (fY _ _)))))
 show wpAny (model prog w) _ (dw (.ref t) >>= _) _ _ s
 refine Ch (tupleItemsOf_ ht (Ch (da hTs ?_))); rw [if_pos (by decide)]
 refine Ch (HT.sliceApplied_gen hs pl pu ?_)
 have hyes:(((HT.sIx items.size 0 lo:Nat):Int)==0&&(1:Int)==1&&(HT.sIx items.size items.size hi - HT.sIx items.size 0 lo)==items.size)=true:=by rw [hw.1,hw.2]; simp
 show wpAny (model prog w) _ (if (((HT.sIx items.size 0 lo:Nat):Int)==0&&(1:Int)==1&&(HT.sIx items.size items.size hi - HT.sIx items.size 0 lo)==items.size)=true then _ else _) _ _ s
 rw [if_pos hyes]
 refine Ch (m:=fq _) ?_
 unfold fq
 refine Ch (da ht.typeIs (Go ?_))
 show wpAny (model prog w) _ (if ((f_ "tuple"==f_ "tuple")=true) then _ else _) _ _ s
 rw [if_pos (by decide)]
 first
  | exact Ch (dk (Ch (Go (Go ⟨_,rfl,Go h⟩))))
  | exact Ch (dk (Go ⟨_,rfl,Go h⟩))
  | exact Ch (Ch (dk (Go (Go ⟨_,rfl,Go h⟩))))
theorem KZ{α β:Type}{f g:α->Option β}:∀{l:List α},(∀a∈l,f a=g a)->l.filterMap f=l.filterMap g
 | [],_=>rfl
 | a::l,h=>by
  have ih:=KZ (f:=f) (g:=g) (l:=l) λx hx=>h x (TM _ hx)
  rw [cn,cn,h a On,ih]
theorem Sm(l:List Value):∀(n:Nat),n<=l.length->((bB n).filterMap fun(k:Nat)=>l[n - 1 - k]?)=(l.take n).reverse:=by
 intro n
 induction n with
 | zero=>intro _; simp
 | succ n ih =>
  intro h
  have hlt:n<l.length:=h
  rw [dW,cn]
  have e0:l[n+1 - 1 - 0]?=some l[n]:=by rw [show n+1 - 1 - 0=n by omega,FM hlt]
  simp only [e0]
  rw [fX]
  have e1:((fun(k:Nat)=>l[n+1 - 1 - k]?)∘Nat.succ)=fun(k:Nat)=>l[n - 1 - k]?:=by
   funext k
   show l[n+1 - 1 - (k+1)]?=l[n - 1 - k]?
   rw [show n+1 - 1 - (k+1)=n - 1 - k by omega]
  rw [e1,ih (by omega),List.take_add_one,FM hlt,List.reverse_append]
  rfl
theorem HP(xs:Array Value):((bB xs.size).filterMap fun(k:Nat)=>xs[(((xs.size:Int) - 1)+(k:Int)*(-1)).toNat]?).toArray=xs.toList.reverse.toArray:=by
 have h:=Sm xs.toList xs.toList.length (No _)
 rw [gH] at h
 have e:(bB xs.size).filterMap (fun(k:Nat)=>xs[(((xs.size:Int) - 1)+(k:Int)*(-1)).toNat]?)=(bB xs.toList.length).filterMap fun(k:Nat)=>xs.toList[xs.toList.length - 1 - k]?:=by
  rw [show xs.toList.length=xs.size from bW]
  refine KZ λk hk=>?_
  have hk:=bU.mp hk
  rw [show (((xs.size:Int) - 1)+(k:Int)*(-1)).toNat=xs.size - 1 - k by omega]
  simp
 rw [e,h]
theorem OU{sl:Addr}{t:Tok}{n:Nat}{Q:Int×Int×Nat->Shared->Prop}(hs:s.heap.IsSliceOf sl .none .none (.int (-1) t))(h:Q ((n:Int) - 1,-1,n) s):wpAny (model prog w) A (c7 (.ref sl) (pure (n:Int))) Q E s:=by
 obtain⟨os,hos,hcs,hds⟩:=id hs
 unfold c7 gA
 refine Ch (Ch (bP hos hds (x:=.none) rfl (Ch (bP hos hds (x:=.none) rfl (Ch (bP hos hds (x:=.int (-1) t) rfl (Go ?_)))))))
 refine Ch (HT.slicePart_ (IsPart.int (-1) t) ?_)
 show wpAny (model prog w) _ (if ((-1:Int)==0)=true then _ else _) _ _ s
 rw [if_neg (by decide)]
 refine Ch (HT.slicePart_ IsPart.none (Ch (HT.slicePart_ IsPart.none (Ch (Go ?_)))))
 show wpAny (model prog w) _ (match cf none none (-1) (n:Int) with | (lo,hi)=>pure (lo,(-1:Int),bg lo hi (-1))) _ _ s
 have e1:cf none none (-1) (n:Int)=((n:Int) - 1,-1):=rfl
 rw [e1]
 have e2:bg ((n:Int) - 1) (-1) (-1)=n:=by
  unfold bg
  rw [if_neg (by decide)]
  by_cases hn:(n:Int) - 1 > -1
  ·rw [if_pos hn]
   simp
  ·rw [if_neg hn]
   omega
 show wpAny (model prog w) _ (pure ((n:Int) - 1,(-1:Int),bg ((n:Int) - 1) (-1) (-1))) _ _ s
 rw [e2]
 exact Go h
theorem Qr{t sl:Addr}{items:Array Value}{tk:Tok}{Q:Value->Shared->Prop}(ht:IsTup s.heap t items)(hs:s.heap.IsSliceOf sl .none .none (.int (-1) tk))(hsz:items.size<=sizeLine)
  (h:Q (.ref s.heap.objs.size) { s with heap:=s.heap.push { cls:=.type "tuple",data:=.seq items.toList.reverse.toArray } }):wpAny (model prog w) A (getItem (.ref t) (.ref sl)) Q E s:=by
 obtain⟨os,hos,hcs,hds⟩:=id hs
 have hTs:s.TypeIs (.ref sl) "slice":=⟨os,hos,hcs⟩
 have htake:sizeOk (.seq items.toList.reverse.toArray):=by
  show items.toList.reverse.toArray.size<=sizeLine
  simpa using hsz
 unfold getItem
 (try with_reducible refine b9 ?_); (first | refine Ch (Go ?_) | skip)
 refine Ch (fv ht.typeIs (by decide) (Ch (bR (name:=bo "__getitem__") ht.typeIs bL (bp bL ht.typeIs fO ?_ (fY _ _)))))
 show wpAny (model prog w) _ (dw (.ref t) >>= _) _ _ s
 refine Ch (tupleItemsOf_ ht (Ch (da hTs ?_))); rw [if_pos (by decide)]
 refine Ch (OU hs ?_)
 have hno:¬(((items.size:Int) - 1==0&&(-1:Int)==1&&items.size==items.size)=true):=by simp
 show wpAny (model prog w) _ (if ((items.size:Int) - 1==0&&(-1:Int)==1&&items.size==items.size)=true then _ else _) _ _ s
 rw [if_neg hno,HP]
 first
  | exact Ch (m:=bq _) (bO (Go ⟨_,rfl,Go h⟩) htake)
  | exact Ch (m:=bq _) (bO (Ch (Go (Go ⟨_,rfl,Go h⟩))) htake)
  | exact Ch (Ch (m:=bq _) (bO (Go (Go ⟨_,rfl,Go h⟩)) htake))
  | exact Ch (Ch (m:=bq _) (bO (Go ⟨_,rfl,Go h⟩) htake))
theorem K9(items:Array Value):slicePick items none none (some (-1))=items.toList.reverse.toArray:=by
 unfold slicePick
 have e1:sliceBounds none none (some (-1)) items.size=((items.size:Int) - 1,-1,-1):=rfl
 rw [e1]
 simp only [sliceRange]
 rw [← HP,fX]
 congr 1
 have e2:(if (-1:Int) > 0 then if (items.size:Int) - 1 < -1 then (-1 - ((items.size:Int) - 1)+-1 - 1) / -1 else 0 else if (items.size:Int) - 1 > -1 then ((items.size:Int) - 1 - -1 - -1 - 1) / - -1 else 0).toNat=items.size:=by
  rw [if_neg (by decide)]
  by_cases hn:(items.size:Int) - 1 > -1
  ·rw [if_pos hn]
   have:- -1=(1:Int):=rfl
   rw [this,Int.ediv_one]
   omega
  ·rw [if_neg hn]
   omega
 rw [e2]
 refine KZ λk _=>?_
 show items[((items.size:Int) - 1+-1*(k:Int)).toNat]?=items[((items.size:Int) - 1+(k:Int)*(-1)).toNat]?
 rw [Int.mul_comm]
end
section
variable {X:Cx}{e st:Expr}{te tst:TE}{pos p2:Pos}
noncomputable def Zp(K:Frag):V->Hp->VK->Prop:=λx H Q=>(∃a xs,x=.ref a/\SqL K H a xs/\∀p,H p=none->Q (.ref p) (BN H p (.lst xs.reverse)))\/∃a xs,x=.ref a/\SqT K H a xs/\∀p,H p=none->Q (.ref p) (BN H p (.tup xs.reverse))
noncomputable def Zk(K:Frag)(te tst:TE):TE:=λσ H Q=>te σ H λx H1=>tst σ H1 λi H2=>i=.int (-1)/\Zp K x H2 Q
theorem XB(he:PE X e te)(hst:PE X st tst):PE X (.Subscript e (.Slice none none (some st) p2) pos) (Zk X.K te tst):=by
 intro pins s σ H Q I h
 refine Subscript_ (Bs (he pins s σ H _ I h) λv s1 ⟨x,H1,I1,r1,q1⟩=>?_)
 refine wpAny_Slice ?_
 rw [evalPart_none,evalPart_some]
 refine Go (Go (Bs (hst pins s1 σ H1 _ I1 q1) λvs s3 ⟨i,H3,I3,r3,q3⟩=>?_))
 obtain⟨rfl,q3⟩:=q3
 obtain⟨t,rfl⟩:=r3
 have I4:Inv X pins σ H3 { s3 with heap:=s3.heap.push { cls:=.type "slice",data:=.fields #[.none,.none,.int (-1) t] } }:=I3.kept (t':=s3.toks) λb ob q=>Ev _ q
 have hs:({ s3 with heap:=s3.heap.push { cls:=.type "slice",data:=.fields #[.none,.none,.int (-1) t] } }:Shared).heap.IsSliceOf s3.heap.objs.size .none .none (.int (-1) t):=hU ..
 show wpAny (model X.prog X.w) X.A (subscriptTail e (.Slice none none (some st) p2) v (.ref s3.heap.objs.size)) (EP X pins σ Q) X.xe { s3 with heap:=s3.heap.push { cls:=.type "slice",data:=.fields #[.none,.none,.int (-1) t] } }
 rcases q3 with ⟨a,xs,rfl,hq,q⟩ | ⟨a,xs,rfl,hq,q⟩
 ·cases r1
  obtain⟨its,r,ht,hz⟩:=I4.list hq
  have hlen:=r.length
  refine tail_any (ops:=[.ref a,.ref s3.heap.objs.size]) ht.isList.typeIs fw.lookup ?_ (by with_unfolding_all rfl)
  refine wpAny_getItem_list_slice ht.isList hs .none .none (.int (-1) t) (by decide) ?_ (by rw [T0]; omega)
  rw [K9]
  refine⟨.ref _,_,I4.laid (t':=s3.toks) (o:=.lst xs.reverse) (λb ob q=>Ev _ q) (No _) ?_,rfl,q _ (I4.hok.fresh (No _))⟩
  exact⟨by rw [List.length_reverse]; exact hz,_,0,r.reverse,XV _ rfl⟩
 ·cases r1
  obtain⟨its,r,ht,hz⟩:=I4.tuple hq
  have hlen:=r.length
  refine tail_any (ops:=[.ref a,.ref s3.heap.objs.size]) ht.typeIs bL.lookup ?_ (by with_unfolding_all rfl)
  refine Qr ht hs (by rw [T0]; omega) ?_
  refine⟨.ref _,_,I4.laid (t':=s3.toks) (o:=.tup xs.reverse) (λb ob q=>Ev _ q) (No _) ?_,rfl,q _ (I4.hok.fresh (No _))⟩
  exact⟨by rw [List.length_reverse]; exact hz,_,r.reverse,IsTupN.new _ _⟩
noncomputable def WG(K:Frag):V->Option Int->Option Int->Hp->VK->Prop:=λx lo hi H Q=>∃a xs,x=.ref a/\SqT K H a xs/\(HT.sIx xs.length 0 lo=0/\HT.sIx xs.length xs.length hi=xs.length)/\Q (.ref a) H
theorem U4:SlR X (WG X.K):=by
 intro pins s σ H x v vl vu lo hi sl Q I rx hs pl pu h
 obtain⟨a,xs,rfl,hx,hw,q⟩:=h
 cases rx
 obtain⟨its,r,ht,hz⟩:=I.tuple hx
 have hlen:its.toArray.size=xs.length:=by rw [T0]; exact r.length.symm
 exact⟨"tuple",_,bL.lookup,ht.typeIs,NN ht hs pl pu (by rw [hlen]; exact hw) ⟨.ref a,H,I,rfl,q⟩⟩
end
section
variable {X:Cx}
noncomputable def S0(K:Frag):R2:=λx y H Q=>∃a b ys,x=.ref a/\y=.ref b/\SqT K H a []/\SqT K H b ys/\Q (.ref b) H
theorem TL:OpR X (binaryOp .Add) (S0 X.K):=by
 intro pins s σ H x y v u Q I rx ry h
 obtain⟨a,b,ys,rfl,rfl,ha,hb,q⟩:=h
 cases rx
 cases ry
 obtain⟨its,r1,p1,_⟩:=I.tuple ha
 obtain⟨its2,r2,p2,_⟩:=I.tuple hb
 cases r1
 obtain⟨⟨cls,dd,data,sl⟩,ho,hc,n,hd⟩:=id p1
 obtain⟨⟨cls2,dd2,data2,sl2⟩,ho2,hc2,n2,hd2⟩:=id p2
 simp only at hc hd hc2 hd2
 subst hc hd hc2 hd2
 exact concat_meets ⟨_,ho,rfl⟩ ⟨_,ho2,rfl⟩ gF seq_tuple_add PySem.F.slot_tuple_add PySem.F.entry_tuple_add (PySem.F.args_tuple_add_2 _ _) (tuple_addW0 a b _ its2.toArray n n2 dd dd2 sl sl2 (by simp)) ⟨ho,ho2,⟨.ref b,H,I,rfl,q⟩⟩
noncomputable def bI(b:Bool):Int:=if b=true then 1 else 0
noncomputable def ZX(g:Int->Int->Int):R2:=λx y H Q=>∃k j,x=.bl k/\y=.int j/\Q (.int (g (bI k) j)) H
noncomputable def aE(g:Int->Int->Int):R2:=λx y H Q=>∃i k,x=.int i/\y=.bl k/\Q (.int (g i (bI k))) H
theorem op_add_bi:OpR X (binaryOp .Add) (ZX λi j=>i+j):=by
 intro pins s σ H x y v u Q I rx ry h
 obtain⟨k,j,rfl,rfl,q⟩:=h
 cases rx
 obtain⟨t,rfl⟩:=ry
 exact PySem.IntBool.add_bool_int ⟨.int _,H,I.tok _,⟨_,rfl⟩,q⟩
theorem op_sub_bi:OpR X (binaryOp .Sub) (ZX λi j=>i - j):=by
 intro pins s σ H x y v u Q I rx ry h
 obtain⟨k,j,rfl,rfl,q⟩:=h
 cases rx
 obtain⟨t,rfl⟩:=ry
 exact PySem.IntBool.sub_bool_int ⟨.int _,H,I.tok _,⟨_,rfl⟩,q⟩
theorem RH:OpR X (binaryOp .Sub) (aE λi j=>i - j):=by
 intro pins s σ H x y v u Q I rx ry h
 obtain⟨i,k,rfl,rfl,q⟩:=h
 obtain⟨t,rfl⟩:=rx
 cases ry
 exact PySem.IntBool.sub_int_bool ⟨.int _,H,I.tok _,⟨_,rfl⟩,q⟩
noncomputable def WF:List V->Hp->VK->Prop:=λxs H Q=>(∃i,xs=[.int i]/\i.natAbs.log2<1920/\Q (.str (toString i)) H)\/∃b,xs=[.bl b]/\Q (.str (if b then "True" else "False")) H
theorem Li:CV X (.type "str") WF:=by
 intro pins s σ H xs us Q I r h
 rcases h with h | ⟨b,rfl,q⟩
 ·exact Mw pins s σ H xs us Q I r h
 ·obtain⟨u,rfl,rx⟩:=vals1 r
  cases rx
  exact PySem.P.str_of_bool ⟨.str _,H,I.tok _,⟨_,rfl⟩,q⟩
end
end L2
namespace Dp
open PySem PySem.Spec PyProof.Rows L2
section
variable {K:Frag}{X:Cx}
noncomputable def A4(d e:D)(P:D->Prop):Prop:=match d,e with
 | .int i,.int j=>P (.int (i+j))
 | .bl k,.int j=>P (.int (bI k+j))
 | .str i,.str j=>i.length+j.length<=sizeLine/\P (.str (i++j))
 | .tup i,.tup j=>i.length+j.length<=sizeLine/\P (.tup (i++j))
 | .lst i,.lst j=>i.length+j.length<=sizeLine/\P (.lst (i++j))
 | _,_=>False
noncomputable def WN(K:Frag):R2:=λx y H Q=>S2 K x y H Q\/(ZX λi j=>i+j) x y H Q\/S0 K x y H Q
theorem Aa:OpR X (binaryOp .Add) (WN X.K):=op_addU.or (op_add_bi.or TL)
theorem An:HB X.K .sh (WN X.K) A4:=λU M H d e x y P Q dom vM hx hy w q=>by
 unfold A4 at w
 split at w
 ·exact .inl (M8 (X:=X) U M H (.int _) (.int _) x y P Q dom vM hx hy w q)
 ·rename_i k j
  exact .inr (.inl ⟨k,j,hx,hy,q _ H (.int _) .refl rfl w⟩)
 ·exact .inl (M8 (X:=X) U M H (.str _) (.str _) x y P Q dom vM hx hy w q)
 ·rename_i i j
  cases i with
  | nil =>
   obtain⟨a,vs,rfl,ha,hs⟩:=hx.tup
   obtain⟨b,us,rfl,hb,ht⟩:=hy.tup
   cases (show vs=[] from hs)
   exact .inr (.inr ⟨a,b,us,rfl,rfl,ha.sq,hb.sq,q _ H (.tup j) .refl ⟨b,us,rfl,hb,ht⟩ (by have:=w.2; rw [bE] at this; exact this)⟩)
  | cons i0 i=>exact .inl (M8 (X:=X) U M H (.tup (i0::i)) (.tup j) x y P Q dom vM hx hy ⟨(by intro z; cases z),w⟩ q)
 ·exact .inl (M8 (X:=X) U M H (.lst _) (.lst _) x y P Q dom vM hx hy w q)
 ·exact w.elim
noncomputable def CP(d e:D)(P:D->Prop):Prop:=match d,e with
 | .int i,.int j=>P (.int (i - j))
 | .bl k,.int j=>P (.int (bI k - j))
 | .int i,.bl k=>P (.int (i - bI k))
 | _,_=>False
noncomputable def WD:R2:=λx y H Q=>(Ic λi j=>.int (i - j)) x y H Q\/(ZX λi j=>i - j) x y H Q\/(aE λi j=>i - j) x y H Q
theorem A8:OpR X (binaryOp .Sub) WD:=op_sub.or (op_sub_bi.or RH)
theorem BL:HB K .sh WD CP:=λU M H d e x y P Q dom vM hx hy w q=>by
 unfold CP at w
 split at w
 ·exact .inl (Uc (K:=K) (g:=λi j=>i - j) U M H (.int _) (.int _) x y P Q dom vM hx hy w q)
 ·rename_i k j
  exact .inr (.inl ⟨k,j,hx,hy,q _ H (.int _) .refl rfl w⟩)
 ·rename_i i k
  exact .inr (.inr ⟨i,k,hx,hy,q _ H (.int _) .refl rfl w⟩)
 ·exact w.elim
noncomputable def Tu(ds:List D)(P:D->Prop):Prop:=match ds with
 | [.int i]=>i.natAbs.log2<1920/\(bo (toString i)).length<=sizeLine/\P (.str (toString i))
 | [.bl b]=>P (.str (if b then "True" else "False"))
 | _=>False
theorem UX:C6 K .sh WF Tu:=by
 intro U M H ds vs P Q dom vM hp w q
 unfold Tu at w
 split at w
 ·rename_i i
  obtain⟨v,rfl,hx⟩:=DV hp
  rw [hx.int]
  exact .inl ⟨i,rfl,w.1,q _ H (.str _) .refl ⟨rfl,w.2.1⟩ w.2.2⟩
 ·rename_i b
  obtain⟨v,rfl,hx⟩:=DV hp
  rw [hx.bl]
  refine .inr ⟨b,rfl,q _ H (.str _) .refl ⟨rfl,?_⟩ w⟩
  cases b <;> (rw [bu]; decide)
 ·exact w.elim
noncomputable def Fu(d:D)(lo hi:Option Int)(P:D->Prop):Prop:=match d with
 | .str z=>P (.str (Txt.slice z lo hi))
 | .lst xs=>P (.lst (cutD xs lo hi))
 | .tup xs=>P (.tup (cutD xs lo hi))
 | _=>False
noncomputable def Yf(K:Frag):V->Option Int->Option Int->Hp->VK->Prop:=λx lo hi H Q=>Yc x lo hi H Q\/Ye K x lo hi H Q\/Yd K x lo hi H Q\/WG K x lo hi H Q
theorem Ck:SlR X (Yf X.K):=sl_U.or (sl_list.or (sl_tup.or U4))
theorem Qa{M:Addr->Prop}{H:Hp}{ds:List D}{vs:List V}(lo hi:Option Int)(h:Ats K M H ds vs):Ats K M H (cutD ds lo hi) (LA vs lo hi):=by
 unfold cutD LA
 rw [h.length]
 exact(h.drop _).take _
theorem Bq:aJ K .sh (Yf K) Fu:=by
 intro U M H d x lo hi P Q dom vM hx w q
 unfold Fu at w
 split at w
 ·rename_i z
  exact .inl ⟨z,hx.str.1,hx.str.2,q _ H (.str (Txt.slice z lo hi)) .refl ⟨rfl,bF (Txt.slice_le z lo hi) hx.str.2⟩ w⟩
 ·rename_i xs
  obtain⟨a,vs,rfl,_,ha,hs⟩:=hx
  exact .inr (.inl ⟨a,vs,rfl,.inl ha,λp hp=>q _ _ (.lst _) (BD hp) ((Co (U:=U) hp (Qa lo hi hs)).shOf dom (by intro z; cases z)) w⟩)
 ·rename_i xs
  obtain⟨a,vs,rfl,ha,hs⟩:=hx.tup
  by_cases hw:HT.sIx vs.length 0 lo=0/\HT.sIx vs.length vs.length hi=vs.length
  ·refine .inr (.inr (.inr ⟨a,vs,rfl,ha.sq,hw,?_⟩))
   have e:cutD xs lo hi=xs:=by
    unfold cutD
    rw [← hs.length,hw.1,hw.2,eK,eE,hs.length,gH]
   rw [e] at w
   exact q _ H (.tup xs) .refl ⟨a,vs,rfl,ha,hs⟩ w
  ·exact .inr (.inr (.inl ⟨a,vs,rfl,ha.sq,hw,λp hp=>q _ _ (.tup _) (BD hp) (Hg dom hp (Qa lo hi hs)) w⟩))
 ·exact w.elim
noncomputable def Wm(wa wst:DW):DW:=λn ρ P=>wa n ρ λd n1=>wst n1 ρ λi n2=>i=.int (-1)/\match d with
 | .lst xs=>P (.lst xs.reverse) n2
 | .tup xs=>P (.tup xs.reverse) n2
 | _=>False
theorem PU{a st:Expr}{κa κs:Kd}{wa wst:DW}{pos p2:Pos}(ha:DE X a κa wa)(hst:DE X st κs wst):DE X (.Subscript a (.Slice none none (some st) p2) pos) .sh (Wm wa wst):=by
 obtain⟨t,h1,h2⟩:=ha
 obtain⟨u,g1,g2⟩:=hst
 refine⟨_,XB h1 g1,λC M H n ρ σ P Q R w q=>?_⟩
 refine h2 C M H n ρ σ _ _ R w λv H1 d n1 e1 f1 r1 p=>?_
 have R1:=R.step e1 f1
 have tv:=r1.tpOf R.dom R.vM
 refine g2 C M H1 n1 ρ σ _ _ R1 p λi H2 z n2 e2 f2 r2 p2=>?_
 have R2':=R1.step e2 f2
 have tv2:=tv.pres (R1.pres e2) e2 R.uV
 obtain⟨rfl,p2⟩:=p2
 refine⟨PM r2,?_⟩
 cases d with
 | lst xs =>
  obtain⟨a,vs,rfl,_,ha,hs⟩:=tv2
  refine .inl ⟨a,vs,rfl,.inl ha,λp hp=>?_⟩
  have g:Grow H2 (BN H2 p (.lst vs.reverse)):=BD hp
  exact q _ _ (.lst xs.reverse) n2 ((e1.trans e2).trans g.ext) (f2.grow g) ((Co (U:=C.V) hp hs.reverse).shOf R2'.dom (by intro z; cases z)) p2
 | tup xs =>
  obtain⟨a,vs,rfl,ha,hs⟩:=tv2.tup
  refine .inr ⟨a,vs,rfl,ha.sq,λp hp=>?_⟩
  have g:Grow H2 (BN H2 p (.tup vs.reverse)):=BD hp
  exact q _ _ (.tup xs.reverse) n2 ((e1.trans e2).trans g.ext) (f2.grow g) (Hg R2'.dom hp hs.reverse) p2
 | _=>exact p2.elim
noncomputable def Y5:D->D->(D->Prop)->Prop:=Za λi j P=>i.length+j.length<=sizeLine/\P (.lst (i++j))
end
end Dp
namespace Nt
open PySem PySem.Spec PyProof.Rows L2 Dp
noncomputable def Bj:W2:=λss n P=>∃m:Int,ss=[.fd,.sh (.int m)]/\1<=m/\m<1073741824/\1<=n/\∀r:Int,0<=r->r<m->P (.int r) (n - 1)
noncomputable def cs(x:Str):List Nat:=x.cps.toList
theorem Xv{x y:Str}(h:cs x=cs y):x=y:=by
 obtain⟨a⟩:=x
 obtain⟨b⟩:=y
 unfold cs at h
 exact congrArg Str.mk (Array.ext' h)
noncomputable def Ur(x:Str):Prop:=1<=x.length/\x.length<=8/\∀c∈cs x,97<=c/\c<=122
noncomputable def rising(xs:List Str):Prop:=xs.Pairwise λx y=>cs x<cs y
theorem TV(a b:List Nat):ltCps a b=decide (a<b):=ltCps_eq a b
theorem Ih:∀(l:List Str) (p:Str),risingS p l=true->(p::l).Pairwise λa b=>¬cs b<cs a
 | [],p,_=>gL _ _
 | x::r,p,h=>by
  have h':(!ltCps x.cps.toList p.cps.toList&&risingS x r)=true:=h
  rw [az,Bool.not_eq_true',TV,decide_eq_false_iff_not] at h'
  have ih:=Ih r x h'.2
  refine bj.mpr ⟨λy hy=>?_,ih⟩
  rcases aq.mp hy with rfl | hy
  ·exact h'.1
  ·have h2:=(bj.mp ih).1 y hy
   exact List.le_trans (l₁:=cs p) (l₂:=cs x) (l₃:=cs y) h'.1 h2
theorem Kw{l:List Str}(h:sortedS l=true)(nd:l.Nodup):rising l:=by
 have hp:l.Pairwise λa b=>¬cs b<cs a:=by
  cases l with
  | nil=>exact dZ
  | cons x r=>exact Ih r x h
 refine(hp.and nd).imp λ{a b} ⟨h1,h2⟩=>?_
 exact Classical.byContradiction λh3=>h2 (Xv (List.le_antisymm (as:=cs a) (bs:=cs b) h1 h3))
theorem B7(lo:Int)(n:Nat):(By lo n).length=n:=by unfold By; rw [Db,bz]
theorem EN{lo:Int}{n:Nat}{d:D}(h:d∈By lo n):∃k:Nat,k<n/\d=.int (lo+k):=by
 unfold By at h
 obtain⟨k,hk,rfl⟩:=UF.mp h
 exact⟨k,bU.mp hk,rfl⟩
end Nt
namespace Dp
open PySem PySem.Spec PyProof.Rows L2
section
variable {X:Cx}
theorem Rl{k:Nat}{ps:List Str}{κ:Kd}{W:W2}{x:Str}{p pos:Pos}(G:Got X.prog X.w X.K X.mg X.base x k ps κ W)
  (hr:Room k X.A) (hg:Gl X x) (hdb:autoParam ((x==("__debug__" : Str))=false) zau1._auto_1):DE X (.Call (.Name x p) [] [] pos) κ (Ad W Af):=by
 obtain⟨f,fd,G,hm,hk,hb,hW⟩:=G
 refine⟨_,TC G hr hg hm hk hb .nil QD hdb,λC M H n ρ σ P Q R w q=>?_⟩
 show C7 X.K κ W ps.length ([]++[]) H Q E0
 rw [cL]
 refine⟨hW _ _ _ w,C.F,C.U,C.V,M,n,[],P,⟨R.dom,R.fU,R.uV,R.vM,R.feed,.nil⟩,w,λv H2 d n2 e2 f2 r2 p2=>?_⟩
 exact q v H2 d n2 e2 f2 r2 p2
end
end Dp
namespace K62
open PySem PySem.Spec PyProof.Rows L2 Dp Nt
noncomputable def top(i:Nat):Stmt:=PySem.Challenge.pw_thinnet_k62_cases_bent.main.body.getD i (.Pass ⟨0,0,0,0⟩)
noncomputable abbrev Gv:Stmt:=top 1
noncomputable abbrev D7:Stmt:=top 2
noncomputable abbrev Ow:Stmt:=top 3
noncomputable abbrev FZ:Stmt:=top 4
noncomputable abbrev II:Stmt:=top 5
noncomputable abbrev Ej:Stmt:=top 7
noncomputable abbrev FX:Stmt:=top 8
noncomputable abbrev IJ:Stmt:=top 9
noncomputable abbrev FY:Stmt:=top 11
noncomputable abbrev DQ:Stmt:=top 13
noncomputable abbrev FW:Stmt:=top 17
noncomputable abbrev Gu:Stmt:=top 18
noncomputable abbrev Gw:Stmt:=top 19
noncomputable abbrev MD:Stmt:=top 20
noncomputable abbrev Fg:Stmt:=top 22
noncomputable abbrev Ds:Stmt:=top 23
noncomputable abbrev En:Stmt:=top 24
noncomputable abbrev D9:Stmt:=top 25
noncomputable abbrev D_:Stmt:=top 26
noncomputable abbrev Fa:Stmt:=top 27
noncomputable abbrev Gx:Stmt:=top 28
noncomputable abbrev Ek:Stmt:=top 29
noncomputable abbrev Gy:Stmt:=top 30
noncomputable abbrev Ep:Stmt:=top 31
noncomputable abbrev DR:Stmt:=top 32
noncomputable abbrev Eo:Stmt:=top 33
noncomputable abbrev EA:Stmt:=top 34
noncomputable abbrev EB:Stmt:=top 35
noncomputable abbrev Em:Stmt:=top 36
noncomputable abbrev CZ:Stmt:=top 37
noncomputable abbrev D8:Stmt:=top 38
noncomputable abbrev Cq:Stmt:=top 39
noncomputable abbrev Fc:Stmt:=top 40
noncomputable abbrev Fh:Stmt:=top 41
noncomputable abbrev Fi:Stmt:=top 42
noncomputable abbrev Fb:Stmt:=top 43
noncomputable abbrev Fe:Stmt:=top 44
noncomputable abbrev CC:Stmt:=top 45
noncomputable abbrev B4:Stmt:=top 46
noncomputable abbrev CK:Stmt:=top 47
noncomputable abbrev El:Stmt:=top 48
noncomputable abbrev CJ:Stmt:=top 49
noncomputable abbrev Jt:Stmt:=top 50
structure Txt (K:Frag) (mg:Str->Option Value):Prop where
 n_abs:mg "abs"=none
 n_all:mg "all"=none
 n_bool:mg "bool"=none
 n_dict:mg "dict"=none
 n_int:mg "int"=none
 n_isinstance:mg "isinstance"=none
 n_len:mg "len"=none
 n_list:mg "list"=none
 n_max:mg "max"=none
 n_min:mg "min"=none
 n_range:mg "range"=none
 n_repr:mg "repr"=none
 n_sorted:mg "sorted"=none
 n_str:mg "str"=none
 n_tuple:mg "tuple"=none
 n_zip:mg "zip"=none
 g_MOST_DEEP:∃t,mg "MOST_DEEP"=some (.int 15 t)
 g_MOST_CASES:∃t,mg "MOST_CASES"=some (.int 4000 t)
section
variable {P:Program}{w:World}{K:Frag}{mg:Str->Option Value}{base:Heap}
theorem sc__law_next:Ar ["_law_feed_here","_law_many","_law_digit","_law_at","_law_cell","_law_first"] ["_law_feed_here","_law_many"] (AV Ds):=⟨rfl,rfl,rfl,by decide +kernel,rfl,by decide +kernel,by decide +kernel⟩
theorem VS{f:Addr}{fd:FuncData}(F:Fun K "_law_next" "_law_next" Ds f fd)(ml:mg "len"=none):BG P w K mg base CW 1 f fd ["_law_feed_here","_law_many"] (C7 K .sh Bj 2):=by
 refine F.ok sc__law_next (λvs H Q E h=>h.1) (λcdv A outer s H vs Q E hr h=>?_)
 obtain⟨hl,F0,U,V',M,n,ss,Pd,ra,⟨m,rfl,hm1,hm2,hn,hP⟩,q⟩:=h
 obtain⟨dom,fU,uV,vM,fd0,pa⟩:=ra
 cases pa with
 | cons r1 pa =>
 cases pa with
 | cons r2 pa =>
 cases pa
 obtain⟨⟨f0,c,tg⟩,e0,hF,ht⟩:=r1.1
 cases (show tg=none from ht)
 cases e0
 obtain⟨v2,e2,h2⟩:=r2.1
 cases e2
 cases (show _=V.int m from h2)
 obtain⟨_,a,r,cells,hf,hcf,hc,hcl,ha0,han⟩:=(fd0 ⟨f0,c,none⟩ hF).resolve_right fun⟨_,_,_,z,_⟩=>by cases z
 have fin:∀(a' r' z:Int) (H':Hp),(∀b o,H b=some o->b≠f0->H' b=some o)->H' f0=some (.lst [.ref c,.int a',.int r'])->0<=a'->a'<=a+1->0<=z->z<m->Q (.int z) H':=by
  intro a' r' z H' hk hf' h0 h1 hz0 hz1
  refine q (.int z) H' (.int z) (n - 1) (λb o e=>?_) (λg hg=>?_) rfl (hP z hz0 hz1)
  ·by_cases hb:b=f0
   ·subst hb
    exact⟨_,hf',λnu=>absurd (fU ⟨b,c,none⟩ hF) nu,λvs z=>by rw [z,hf] at e; cases e⟩
   ·exact⟨o,hk b o e hb,λ_=>rfl,λ_ _=>rfl⟩
  ·have:g=⟨f0,c,none⟩:=Uf (hg.symm.trans hF)
   subst this
   exact .inl ⟨rfl,a',r',cells,hf',hcf,⟨hc.1,hk c _ hc.2 hcf⟩,hcl,h0,by omega⟩
 have hu:(A.deeper (envOfC "_law_next" (AV Ds) s.heap.objs.size f cdv)).units<cLine:=hr.units0
 have hsq:∀{H':Hp} {xs:List V},H' f0=some (.lst xs)->SqL K H' f0 xs:=λh=>SqL.of h
 have ed:∀z:Int,0<=z % m/\z % m<m:=λz=>⟨gS _ (by omega),fc _ (by omega)⟩
 refine⟨_,BI (Nd (C8 WR (Bo ix_list (pv 0) A6 (λ_ _=>rfl)) A6 (AZ _))
   (BI (Er (i:=2) sc__law_next.nd rfl (Rs rfl) (Bt DX (Bo ix_list (pv 0) A6 (λ_ _=>rfl)) (pv 1)))
   (BI (Fl (Bt HU (Bo ix_list (pv 0) A6 (λ_ _=>rfl)) (pv 1)) (G2 (pv 0) A6 set_list))
   (Bz (G0 (pv 2))))) HR)
  (BI (Er (i:=3) sc__law_next.nd rfl (Rs rfl) (Bo ix_list (pv 0) A6 (λ_ _=>rfl)))
  (BI (Fl (Bt op_add (pv 3) A6) (G2 (pv 0) A6 set_list))
  (BI (Er (i:=4) sc__law_next.nd rfl (Rs rfl) (Nh (C8 (RI hu) (Bo ix_list (pv 0) A6 (λ_ _=>rfl)) (IK BV) (AZ _))
   (Bo ix_list (Bo ix_list (pv 0) A6 (λ_ _=>rfl)) (Bt DX (pv 3) (Fn Au rfl ml PySem.boot_len (A3 (Bo ix_list (pv 0) A6 (λ_ _=>rfl)) BV))) (λ_ _=>rfl)) A6))
  (BI (Nd (PW.pt (O5 (C8 WS (pv 4) (Bt G3 A6 A6) (AZ _)) (MK (C8 op_lt (pv 3) (Fn Au rfl ml PySem.boot_len (A3 (Bo ix_list (pv 0) A6 (λ_ _=>rfl)) BV)) (AZ _)))))
   (BI (Fl (Bt HU (pv 4) (pv 1)) (G2 (pv 0) A6 set_list))
   (Bz (G0 (Bt DX (pv 4) (pv 1))))) HR)
  (BI (Er (i:=5) sc__law_next.nd rfl (Rs rfl) (Bt DX (Bt op_mul (Bt op_add (Bt op_add (Bt op_add (Bt DX (pv 4) A6) (Bt op_mul (Bt op_mul A6 (pv 3)) (pv 3))) (Bt op_mul A6 (pv 3))) A6) A6) A6))
  (Bz (G0 (Bt DX (Bt HU (Bt DX (Bt op_mul (Bt op_add (pv 5) (Bt op_mul A6 (pv 3))) A6) A6) A6) (pv 1))))))))),?_⟩
 refine⟨_,rfl,f0,_,2,_,rfl,rfl,hsq hf,rfl,_,_,rfl,rfl,_,rfl,?_⟩
 refine Dq (λc1=>?_) (λc1=>?_)
 ·refine⟨_,rfl,f0,_,2,_,rfl,rfl,hsq hf,rfl,_,rfl,_,_,rfl,rfl,(by show (0:Int)<m; omega),?_⟩
  refine⟨_,rfl,f0,_,2,_,rfl,rfl,hsq hf,rfl,_,rfl,_,_,rfl,rfl,⟨(by show (0:Int)<m; omega),hm2⟩,_,rfl,f0,_,2,2,rfl,rfl,hf,rfl,?_⟩
  refine⟨_,rfl,?_⟩
  exact fin a _ _ _ (λb o e hb=>by rw [Ac hb]; exact e) Ak ha0 (by omega) (ed _).1 (ed _).2
 ·-- at=feed[1]; feed[1]=at+1
  refine⟨_,rfl,f0,_,1,_,rfl,rfl,hsq hf,rfl,?_⟩
  refine⟨_,rfl,_,_,rfl,rfl,_,rfl,f0,_,1,1,rfl,rfl,hf,rfl,?_⟩
  generalize hH1:BN H f0 (.lst ([V.ref c,V.int a,V.int r].set 1 (V.int (a+1))))=H1
  have f1:H1 f0=some (.lst [.ref c,.int (a+1),.int r]):=by rw [← hH1]; exact Ak
  have k1:∀b o,H b=some o->b≠f0->H1 b=some o:=λb o e hb=>by rw [← hH1,Ac hb]; exact e
  have c1':H1 c=some (.lst (cells.map V.int)):=k1 c _ hc.2 hcf
  have rest:∀(z:Int) (H2:Hp),(∀b o,H1 b=some o->H2 b=some o) ->
    (Oi (YS (YY (SV (Dl (Ic λi j=>V.bl (decide (j<=i))) (BU 4) (Dl (rI LD λi j=>V.int (i ^ j.toNat)) (tC (V.int 10)) (tC (V.int 18))))) (SV (Dl (Ic λi j=>V.bl (decide (i<j))) (BU 3) (ZW (λxs H Q=>∃x n,xs=[x]/\YB K x H n/\Q (V.int n) H) (NP (Dl (Q_ K) (BU 0) (tC (V.int 0))) Qu))))) (Oi (NQ (Dl (rI Rz λi j=>V.int (i / j)) (BU 4) (BU 1)) (Xh (BU 0) (tC (V.int 2)) Sz)) (Uy (Dl (rI (λ_ j=>0<j) λi j=>V.int (i % j)) (BU 4) (BU 1)))) WA) (Oi (NQ (Dl (rI (λ_ j=>0<j) λi j=>V.int (i % j)) (Dl (rI CMul λi j=>V.int (i*j)) (Dl (Ic λi j=>V.int (i+j)) (Dl (Ic λi j=>V.int (i+j)) (Dl (Ic λi j=>V.int (i+j)) (Dl (rI (λ_ j=>0<j) λi j=>V.int (i % j)) (BU 4) (tC (V.int 1000003))) (Dl (rI CMul λi j=>V.int (i*j)) (Dl (rI CMul λi j=>V.int (i*j)) (tC (V.int 41)) (BU 3)) (BU 3))) (Dl (rI CMul λi j=>V.int (i*j)) (tC (V.int 17)) (BU 3))) (tC (V.int 3))) (tC (V.int 51749))) (tC (V.int 999917))) (Ij 5)) (Uy (Dl (rI (λ_ j=>0<j) λi j=>V.int (i % j)) (Dl (rI Rz λi j=>V.int (i / j)) (Dl (rI (λ_ j=>0<j) λi j=>V.int (i % j)) (Dl (rI CMul λi j=>V.int (i*j)) (Dl (Ic λi j=>V.int (i+j)) (BU 5) (Dl (rI CMul λi j=>V.int (i*j)) (tC (V.int 8111)) (BU 3))) (tC (V.int 39373))) (tC (V.int 2097143))) (tC (V.int 3))) (BU 1)))))
     { nx:=λ_ H'=>Q .non H',rt:=Q } [some (.ref f0),some (.int m),none,some (.int a),some (.int z),none] H2:=by
   intro z H2 k2
   have f2:=k2 _ _ f1
   have c2:=k2 _ _ c1'
   have lastWay:∀H3:Hp,H3=H2->(Oi (NQ (Dl (rI (λ_ j=>0<j) λi j=>V.int (i % j)) (Dl (rI CMul λi j=>V.int (i*j)) (Dl (Ic λi j=>V.int (i+j)) (Dl (Ic λi j=>V.int (i+j)) (Dl (Ic λi j=>V.int (i+j)) (Dl (rI (λ_ j=>0<j) λi j=>V.int (i % j)) (BU 4) (tC (V.int 1000003))) (Dl (rI CMul λi j=>V.int (i*j)) (Dl (rI CMul λi j=>V.int (i*j)) (tC (V.int 41)) (BU 3)) (BU 3))) (Dl (rI CMul λi j=>V.int (i*j)) (tC (V.int 17)) (BU 3))) (tC (V.int 3))) (tC (V.int 51749))) (tC (V.int 999917))) (Ij 5)) (Uy (Dl (rI (λ_ j=>0<j) λi j=>V.int (i % j)) (Dl (rI Rz λi j=>V.int (i / j)) (Dl (rI (λ_ j=>0<j) λi j=>V.int (i % j)) (Dl (rI CMul λi j=>V.int (i*j)) (Dl (Ic λi j=>V.int (i+j)) (BU 5) (Dl (rI CMul λi j=>V.int (i*j)) (tC (V.int 8111)) (BU 3))) (tC (V.int 39373))) (tC (V.int 2097143))) (tC (V.int 3))) (BU 1))))
     { nx:=λ_ H'=>Q .non H',rt:=Q } [some (.ref f0),some (.int m),none,some (.int a),some (.int z),none] H3:=by
    intro H3 e3
    subst e3
    have hb:CMul (41*a) a:=.inr ⟨by omega,by omega⟩
    refine⟨_,rfl,_,_,rfl,rfl,(by show (0:Int)<1000003; decide),_,rfl,_,_,rfl,rfl,.inl ⟨by decide,by decide⟩,_,rfl,_,_,rfl,rfl,hb,_,_,rfl,rfl,_,rfl,_,_,rfl,rfl,.inl ⟨by decide,by decide⟩,_,_,rfl,rfl,_,_,rfl,rfl,_,_,rfl,rfl,.inr ⟨by decide,by decide⟩,_,_,rfl,rfl,(by show (0:Int)<999917; decide),?_⟩
    refine⟨_,rfl,_,rfl,_,_,rfl,rfl,.inl ⟨by decide,by decide⟩,_,_,rfl,rfl,_,_,rfl,rfl,.inr ⟨by decide,by decide⟩,_,_,rfl,rfl,(by show (0:Int)<2097143; decide),_,_,rfl,rfl,⟨by decide,by decide⟩,_,rfl,_,_,rfl,rfl,(by show (0:Int)<m; omega),?_⟩
    exact fin (a+1) r _ _ (λb o e hb=>k2 b o (k1 b o e hb)) f2 (by omega) (by omega) (ed _).1 (ed _).2
   refine⟨_,rfl,_,_,rfl,rfl,⟨by decide,by decide,by decide⟩,_,_,rfl,rfl,_,rfl,?_⟩
   refine Dq (λc3=>?_) (λc3=>?_)
   ·refine⟨_,rfl,_,rfl,f0,_,0,_,rfl,rfl,hsq f2,rfl,_,_,rfl,.inl ⟨_,SqL.of c2,rfl⟩,_,_,rfl,rfl,_,rfl,?_⟩
    refine Dq (λc4=>?_) (λc4=>lastWay H2 rfl)
    refine⟨_,rfl,_,rfl,_,_,rfl,rfl,⟨(by show (0:Int)<m; omega),hm2⟩,_,rfl,f0,_,2,2,rfl,rfl,f2,rfl,?_⟩
    refine⟨_,rfl,_,rfl,_,_,rfl,rfl,(by show (0:Int)<m; omega),?_⟩
    exact fin (a+1) _ _ _ (λb o e hb=>by rw [Ac hb]; exact k2 b o (k1 b o e hb)) Ak (by omega) (by omega) (ed _).1 (ed _).2
   ·refine Dq (λc4=>absurd c4 (by simp)) (λ_=>lastWay H2 rfl)
  refine⟨_,rfl,f0,_,0,_,rfl,rfl,hsq f1,rfl,(by show 0<=sizeLine; decide),λp hp=>?_⟩
  have kp:∀b o,H1 b=some o->BN H1 p (.lst []) b=some o:=λb o e=>by rw [Ac (BE e hp)]; exact e
  refine⟨c,p,_,rfl,rfl,SqL.of (kp _ _ c1'),SqL.of Ak,_,rfl,?_⟩
  cases cells with
  | nil=>exact BJ (rest 0 _ kp)
  | cons z0 cs =>
   refine BX ?_
   have hlen:(((z0::cs).map V.int).length:Int)=(cs.length:Int)+1:=by simp
   have hpos:(0:Int)<(((z0::cs).map V.int).length:Int):=by omega
   obtain⟨z,hz⟩:∃z,atI ((z0::cs).map V.int) (a % (((z0::cs).map V.int).length:Int))=some (.int z):=by
    have h1:=gS a (show (((z0::cs).map V.int).length:Int)≠0 by omega)
    have h2:=fc a hpos
    generalize a % (((z0::cs).map V.int).length:Int)=j at h1 h2
    obtain⟨k,rfl⟩:∃k:Nat,j=(k:Int):=⟨j.toNat,by omega⟩
    have hk:k<(z0::cs).length:=by rw [Db] at h2; omega
    refine⟨(z0::cs)[k],AR ?_⟩
    rw [Op,FM hk]
    rfl
   refine⟨_,rfl,f0,_,0,_,rfl,rfl,hsq (kp _ _ f1),rfl,_,rfl,_,rfl,f0,_,0,_,rfl,rfl,hsq (kp _ _ f1),rfl,_,_,rfl,.inl ⟨_,SqL.of (kp _ _ c1'),rfl⟩,_,_,rfl,rfl,hpos,c,_,_,_,rfl,rfl,SqL.of (kp _ _ c1'),hz,?_⟩
   exact rest z _ kp
end
end K62
namespace Nt
open PySem PySem.Spec PyProof.Rows L2 Dp
theorem LU{α β:Type}{f:α->β}:∀{l:List α},l.Nodup->(∀a∈l,∀b∈l,f a=f b->a=b)->(l.map f).Nodup
 | [],_,_=>cq
 | a::l,h,hf=>by
  rw [bZ] at h
  rw [av,bZ]
  refine⟨λhm=>?_,LU h.2 λx hx y hy=>hf x (TM _ hx) y (TM _ hy)⟩
  obtain⟨b,hb,e⟩:=UF.mp hm
  exact h.1 (hf a On b (TM _ hb) e.symm▸hb)
theorem UV(ss:List Str):DF (ss.map .str)=some ss:=by
 induction ss with
 | nil=>rfl
 | cons y r ih =>
  rw [av]
  unfold DF
  rw [ih]
  rfl
theorem B0{b:BW}{body:Aj}{D2:E2}{all:List D}(I:List D->Nat->List Slot->Prop)(hend:∀n ρ,I all n ρ->D2.nx n ρ)
  (hstep:∀(pre:List D) (d:D) (post:List D) (n:Nat) (ρ:List Slot) (nx:Nat->List Slot->Prop),all=pre++d::post->I pre n ρ->(∀n' ρ',I (pre++[d]) n' ρ'->nx n' ρ')->b d ρ λρ1=>body { D2 with nx:=nx,ct:=nx,bk:=D2.nx } n ρ1) :
  ∀(ds pre:List D) (n:Nat) (ρ:List Slot),all=pre++ds->I pre n ρ->B8 b body D2 ds n ρ
 | [],pre,n,ρ,e,h=>by
  rw [cL] at e
  subst e
  exact hend n ρ h
 | d::ds,pre,n,ρ,e,h=>hstep pre d ds n ρ (B8 b body D2 ds) e h λn' ρ' h'=>B0 I hend hstep ds (pre++[d]) n' ρ' (by rw [e,bw]; rfl) h'
theorem HM{lo:Int}{n:Nat}{pre post:List D}{d:D}(h:By lo n=pre++d::post):d=.int (lo+(pre.length:Int))/\pre.length<n:=by
 have hl:=congrArg eS h
 rw [B7,Sc,Tk] at hl
 have e:(By lo n)[pre.length]?=some d:=by rw [h,c6 (No _),fG]; rfl
 unfold By at e
 rw [Op,d8 (by omega)] at e
 exact⟨(Uf e).symm,by omega⟩
structure A0 where
 a:Str
 b:Str
 len:Int
structure Net where
 ps:List Str
 ts:List A0
noncomputable def Ag(t:A0):D:=.tup [.str t.a,.str t.b,.int t.len]
noncomputable def C3(N:Net):D:=.tup [.tup (N.ps.map .str),.tup (N.ts.map Ag)]
noncomputable def Fv(s t:A0):Prop:=cs s.a<cs t.a\/(s.a=t.a/\cs s.b<cs t.b)
structure Net.Ok (N:Net):Prop where
 names:∀x∈N.ps,Ur x
 rise:rising N.ps
 tin:∀t∈N.ts,t.a∈N.ps/\t.b∈N.ps/\cs t.a<cs t.b/\1<=t.len/\t.len<=1000000
 trise:N.ts.Pairwise Fv
structure Ix where
 i:Nat
 j:Nat
 len:Int
noncomputable abbrev EE(Pd:D->Nat->Prop):E2:={ nx:=λn _=>Kd.sh=.sh/\Pd .non n,rt:=Pd }
theorem Bc{b:BW}{te:DW}{P:List D->Nat->Prop}(g:D->D)(I:List Slot->Prop):∀(ds acc:List D) (n:Nat) (ρ:List Slot),
  (∀d∈ds,∀(ρ:List Slot) (n:Nat) (nx:D->Nat->List Slot->Prop),I ρ->(∀ρ',I ρ'->nx (g d) n ρ')->b d ρ λρ1=>te n ρ1 λy n2=>nx y n2 ρ1)->I ρ->P (acc++ds.map g) n->ER b FK te P ds acc n ρ
 | [],acc,n,ρ,_,_,h=>by rw [de,cL] at h; exact h
 | d::ds,acc,n,ρ,ht,hρ,h=>ht d On ρ n (λy n2 ρ1=>ER b FK te P ds (acc++[y]) n2 ρ1) hρ λρ' hρ' =>
  Bc g I ds (acc++[g d]) n ρ' (λd hd=>ht d (TM _ hd)) hρ' (by rw [bw]; exact h)
theorem OC{α:Type}{l:List α}{p:α->Bool}{P:D->Prop}(h:P (.bl (l.all p))):Vl [.lst (l.map λa=>.bl (p a))] P :=
 ⟨_,_,rfl,OV p l,by rw [List.all_map]; exact h⟩
theorem X3{b1 b2:Bool}{P:D->Nat->Prop}{n:Nat}{k:(D->Nat->Prop)->Prop}(hk:b1=true->P (.bl b2) n->k P)(h:P (.bl (b1&&b2)) n):(match (.bl b1:D) with | .bl true=>k P | .bl false=>P (.bl false) n | _=>False):=US hk h
noncomputable abbrev Wb(g:D->Bool):W2:=WP 1 λds=>.bl (g (ds.getD 0 .non))
theorem Wb.out{g:D->Bool}{ss:List Slot}{n:Nat}{P:D->Nat->Prop}(h:Wb g ss n P):∃d,ss=[.sh d]/\P (.bl (g d)) n:=by
 obtain⟨ds,hl,rfl,h⟩:=h
 match ds,hl with
 | [d],_=>exact⟨d,rfl,h⟩
noncomputable def R_:D->Bool
 | .int _=>true
 | _=>false
noncomputable def tupleOfB(k:Int):D->Bool
 | .tup xs=>((xs.length:Int)==k)
 | _=>false
noncomputable abbrev Kr:W2:=Wb R_
noncomputable abbrev Dk:W2:=λss n P=>∃k d,ss=[.sh (.int k),.sh d]/\P (.bl (tupleOfB k d)) n
noncomputable def Pf:Aj:=(A2 (I_ (FL "int" (AG 0)) (YI (FL "bool" (AG 0)))))
noncomputable def LC:Aj:=(A2 (I_ (FL "tuple" (AG 1)) (Am (Ku false) (Cj DB (AE (AG 1) AW)) (AG 0))))
section
variable {ss:List Slot}{n:Nat}{Pd:D->Nat->Prop}
theorem NY(h:Kr ss n Pd):Pf (EE Pd) n (ss++Re 0 .no):=by
 obtain⟨d,rfl,q⟩:=h.out
 cases d <;> exact q
theorem J0(h:Dk ss n Pd):LC (EE Pd) n (ss++Re 0 .no):=by
 obtain⟨k,d,rfl,h⟩:=h
 cases d with
 | tup xs=>exact⟨_,_,rfl,rfl,h⟩
 | _=>exact h
end
theorem NR{x:Str}(h:∀c∈cs x,c<1114112):PyData.strOk x=true:=by
 unfold PyData.strOk
 rw [← Array.all_toList,cO]
 intro c hc
 exact decide_eq_true (h c hc)
theorem KP{x:Str}(h:Ur x):B9 (.str x):=⟨rfl,NR λc hc=>by have:=h.2.2 c hc; omega,TW _⟩
theorem Ny{ps:List Str}(h:∀p∈ps,Ur p):CD (ps.map .str)=true/\cS (BC (ps.map .str))=true/\bn (BC (ps.map .str))=0:=by
 induction ps with
 | nil=>exact⟨rfl,rfl,rfl⟩
 | cons p r ih =>
  obtain⟨h1,h2,h3⟩:=ih λq hq=>h q (TM _ hq)
  have hp:=KP (h p On)
  refine⟨by rw [av,CD,h1]; rfl,?_,?_⟩
  ·rw [av,BC,cS,h2,dN]
   exact hp.2.1
  ·rw [av,BC,bn,h3]
   rfl
theorem IR{ps:List Str}(h:∀p∈ps,Ur p):B9 (.tup (ps.map .str)):=by
 obtain⟨h1,h2,h3⟩:=Ny h
 refine⟨h1,h2,?_⟩
 show bn (BC (ps.map .str))+1<=100
 rw [h3]; decide
theorem GP(x y:Str):Bw (.str x) (.str y)=(x==y):=rfl
section
variable {ss:List Slot}{n:Nat}{Pd:D->Nat->Prop}
end
mutual
noncomputable def fine(B:Nat):D->Prop
 | .int i=>i.natAbs<=B
 | .str x=>∀c∈cs x,c<1114112
 | .tup ds=>Ik B ds
 | .lst ds=>Ik B ds
 | .dic _ _=>False
 | .fdi _ _=>False
 | .dit _ _=>False
 | _=>True
noncomputable def Ik(B:Nat):List D->Prop
 | []=>True
 | d::ds=>fine B d/\Ik B ds
end
mutual
noncomputable def GW:D->Nat
 | .int _=>200
 | .str x=>x.length
 | .tup ds=>Dn ds
 | .lst ds=>Dn ds
 | _=>0
noncomputable def Dn:List D->Nat
 | []=>0
 | d::ds=>GW d+1+Dn ds
end
mutual
noncomputable def Cw:D->Nat
 | .tup ds=>Fx ds+1
 | .lst ds=>Fx ds+1
 | _=>0
noncomputable def Fx:List D->Nat
 | []=>0
 | d::ds=>max (Cw d) (Fx ds)
end
theorem fines_iff{B:Nat}:∀{ds:List D},Ik B ds↔∀d∈ds,fine B d
 | []=>⟨(λ_ d h=>by cases h),λ_=>trivial⟩
 | d::ds=>by
  have ih:=@fines_iff B ds
  constructor
  ·rintro ⟨h1,h2⟩ e he
   rcases aq.mp he with rfl | he
   ·exact h1
   ·exact ih.mp h2 e he
  ·exact λh=>⟨h d On,ih.mpr λe he=>h e (TM _ he)⟩
theorem dps_le{k:Nat}:∀{ds:List D},Fx ds<=k↔∀d∈ds,Cw d<=k
 | []=>⟨(λ_ d h=>by cases h),λ_=>TW _⟩
 | d::ds=>by
  have ih:=@dps_le k ds
  show max (Cw d) (Fx ds)<=k↔_
  rw [Nat.max_le,ih]
  constructor
  ·rintro ⟨h1,h2⟩ e he
   rcases aq.mp he with rfl | he
   ·exact h1
   ·exact h2 e he
  ·exact λh=>⟨h d On,λe he=>h e (TM _ he)⟩
theorem CI:∀(xs ys:List D),Dn (xs++ys)=Dn xs+Dn ys
 | [],ys=>by simp [Dn]
 | d::xs,ys=>by
  rw [dn]
  show GW d+1+Dn (xs++ys)=GW d+1+Dn xs+Dn ys
  rw [CI xs ys]; omega
theorem Pt:∀(xs:List D),Dn xs.reverse=Dn xs
 | []=>rfl
 | d::xs=>by
  rw [dY,CI,Pt xs]
  show Dn xs+(GW d+1+0)=GW d+1+Dn xs
  omega
theorem SY(xs:List D)(k:Nat):Dn (xs.take k)<=Dn xs:=by
 have:=CI (xs.take k) (xs.drop k)
 rw [cb] at this
 omega
theorem Sa(xs:List D)(k:Nat):Dn (xs.drop k)<=Dn xs:=by
 have:=CI (xs.take k) (xs.drop k)
 rw [cb] at this
 omega
theorem U1{xs:List D}{d:D}(h:d∈xs):GW d+1<=Dn xs:=by
 obtain⟨a,b,rfl⟩:=List.append_of_mem h
 rw [CI]
 show _<=_+(GW d+1+Dn b)
 omega
theorem Ei:∀(xs:List D),xs.length<=Dn xs
 | []=>TW _
 | d::xs=>by
  have:=Ei xs
  show xs.length+1<=GW d+1+Dn xs
  omega
theorem HE(xs:List D)(lo hi:Option Int):Dn (Dp.cutD xs lo hi)<=Dn xs:=bF (SY _ _) (Sa _ _)
theorem E1{xs:List D}{lo hi:Option Int}{d:D}(h:d∈Dp.cutD xs lo hi):d∈xs:=List.mem_of_mem_drop (fH h)
theorem IU{B C:Nat}(h:B<=C):∀(n:Nat),(∀d:D,sizeOf d<=n->fine B d->fine C d)/\∀ds:List D,sizeOf ds<=n->Ik B ds->Ik C ds:=by
 intro n
 induction n with
 | zero =>
  refine⟨λd hd _=>?_,λds hd _=>?_⟩
  ·cases d <;> simp at hd
  ·cases ds <;> simp at hd
 | succ n ih =>
  refine⟨λd hd hf=>?_,λds hd hf=>?_⟩
  ·cases d with
   | int i=>exact bF (show i.natAbs<=B from hf) h
   | str x=>exact hf
   | tup ds=>exact ih.2 ds (by simp at hd; omega) hf
   | lst ds=>exact ih.2 ds (by simp at hd; omega) hf
   | dic ks ds=>exact(show False from hf).elim
   | fdi ks ds=>exact(show False from hf).elim
   | dit ks ds=>exact(show False from hf).elim
   | non=>trivial
   | bl b=>trivial
  ·cases ds with
   | nil=>trivial
   | cons d ds=>exact⟨ih.1 d (by simp at hd; omega) hf.1,ih.2 ds (by simp at hd; omega) hf.2⟩
theorem fine.mono{B C:Nat}{d:D}(hf:fine B d)(h:B<=C):fine C d:=(IU h _).1 d (No _) hf
mutual
theorem JP{B:Nat}(hB:B<10 ^ 45):∀{d:D},fine B d->E9 d=true/\(toPy d).showable=true/\(toPy d).canLay0=true/\(toPy d).depth=Cw d/\(toPy d).leavesShort 60=true/\(toPy d).weight<=GW d
 | .non,_=>⟨rfl,rfl,rfl,rfl,rfl,No _⟩
 | .bl b,_=>⟨rfl,rfl,rfl,rfl,rfl,No _⟩
 | .int i,h=>by
  have h':i.natAbs<=B:=h
  have hlt:i.natAbs<10 ^ 45:=dQ h' hB
  have h2:i.natAbs<2 ^ 150:=fD hlt (by decide)
  have hl:i.natAbs.log2<150:=by
   by_cases h0:i.natAbs=0
   ·rw [h0]; decide
   ·exact(Nat.log2_lt h0).mpr h2
  refine⟨rfl,?_,rfl,rfl,?_,?_⟩
  ·show decide (i.natAbs.log2<1920)=true
   exact decide_eq_true (by omega)
  ·show decide ((PyData.shown (.int i)).length<=60)=true
   refine decide_eq_true ?_
   have:=int_text_length_le10 (a:=i) (k:=45) (by decide) hlt
   show (bo (toString i)).length<=60
   rw [PySem.ofString_length]
   omega
  ·show (if i==0 then 0 else i.natAbs.log2+1)<=200
   split <;> omega
 | .str x,h=>by
  have h':∀c∈cs x,c<1114112:=h
  refine⟨rfl,rfl,NR h',rfl,?_,No _⟩
  show (x.cps.toList.all λc=>decide (c<16 ^ 8))=true
  rw [cO]
  intro c hc
  exact decide_eq_true (fD (h' c hc) (by decide))
 | .tup ds,h=>by
  obtain⟨h1,h2,h3,h4,h5,h6⟩:=Ka hB (ds:=ds) h
  refine⟨h1,h2,h3,?_,h5,h6⟩
  show bn (BC ds)+1=Fx ds+1
  rw [h4]
 | .lst ds,h=>by
  obtain⟨h1,h2,h3,h4,h5,h6⟩:=Ka hB (ds:=ds) h
  refine⟨h1,h2,h3,?_,h5,h6⟩
  show bn (BC ds)+1=Fx ds+1
  rw [h4]
 | .dic ks ds,h=>(show False from h).elim
 | .fdi ks ds,h=>(show False from h).elim
 | .dit ks ds,h=>(show False from h).elim
theorem Ka{B:Nat}(hB:B<10 ^ 45):∀{ds:List D},Ik B ds->CD ds=true/\PyData.showableAll (BC ds)=true/\cS (BC ds)=true/\bn (BC ds)=Fx ds/\gk 60 (BC ds)=true/\PyData.weightAll (BC ds)<=Dn ds
 | [],_=>⟨rfl,rfl,rfl,rfl,rfl,No _⟩
 | d::ds,h=>by
  obtain⟨h1,h2,h3,h4,h5,h6⟩:=JP hB (d:=d) h.1
  obtain⟨g1,g2,g3,g4,g5,g6⟩:=Ka hB (ds:=ds) h.2
  refine⟨?_,?_,?_,?_,?_,?_⟩
  ·show (E9 d&&CD ds)=true
   rw [h1,g1]; rfl
  ·show ((toPy d).showable&&PyData.showableAll (BC ds))=true
   rw [h2,g2]; rfl
  ·show ((toPy d).canLay0&&cS (BC ds))=true
   rw [h3,g3]; rfl
  ·show max (toPy d).depth (bn (BC ds))=max (Cw d) (Fx ds)
   rw [h4,g4]
  ·show ((toPy d).leavesShort 60&&gk 60 (BC ds))=true
   rw [h5,g5]; rfl
  ·show (toPy d).weight+1+PyData.weightAll (BC ds)<=GW d+1+Dn ds
   omega
end
theorem U5{B:Nat}{d:D}(hB:B<10 ^ 45)(h:fine B d)(hd:Cw d<=100)(hs:GW d<=200000):Sh d:=by
 obtain⟨h1,h2,h3,h4,h5,h6⟩:=JP hB h
 refine⟨h1,h2,by rw [h4]; exact hd,?_⟩
 have:=PyData.shown_le 60 (by decide) (toPy d) h5
 rw [PySem.sizeLine_eq]
 have:62*(toPy d).weight<=62*200000:=Nat.mul_le_mul_left _ (by omega)
 omega
theorem IP{B:Nat}{d:D}(hB:B<10 ^ 45)(h:fine B d)(hd:Cw d<=100):B9 d:=by
 obtain⟨h1,h2,h3,h4,h5,h6⟩:=JP hB h
 exact⟨h1,h3,by rw [h4]; exact hd⟩
theorem Rb(i:Int):∀c∈cs (bo (toString i)),c<1114112:=by
 intro c hc
 by_cases h:c=45\/(48<=c/\c<=57)
 ·omega
 ·exact absurd hc (int_text_free' c (by omega) i)
section
variable {ss:List Slot}{n:Nat}{Pd:D->Nat->Prop}
end
theorem PV(xs:List D)(a:Nat):Dp.cutD xs none (some (a:Int))=xs.take (min a xs.length):=by
 unfold Dp.cutD
 rw [HT.sIx_none,HT.sIx_nat,eK,eE]
theorem OK(xs:List D)(a:Nat):Dp.cutD xs (some (a:Int)) none=xs.drop (min a xs.length):=by
 unfold Dp.cutD
 rw [HT.sIx_none,HT.sIx_nat]
 exact cx (by rw [cY]; exact No _)
theorem W6{xs:List D}{a:Nat}(h:a<xs.length)(e:D):Dn (Dp.cutD xs none (some (a:Int))++[e]++Dp.cutD xs (some ((a:Int)+1)) none)+GW xs[a]=Dn xs+GW e:=by
 have e1:=PV xs a
 have e2:Dp.cutD xs (some ((a:Int)+1)) none=xs.drop (a+1):=by
  rw [show ((a:Int)+1)=((a+1:Nat):Int) by omega,OK,cj (by omega)]
 rw [e1,e2,cj (by omega),CI,CI]
 have h1:=CI (xs.take a) (xs.drop a)
 rw [cb,cC h] at h1
 have h2:Dn (xs[a]::xs.drop (a+1))=GW xs[a]+1+Dn (xs.drop (a+1)):=rfl
 have h3:Dn [e]=GW e+1+0:=rfl
 omega
section
variable {ss:List Slot}{n:Nat}{Pd:D->Nat->Prop}
end
theorem RS{α:Type}(p:α->Bool)(l:List α):CD (l.map λa=>D.bl (p a))=true/\cS (BC (l.map λa=>D.bl (p a)))=true/\bn (BC (l.map λa=>D.bl (p a)))=0:=by
 induction l with
 | nil=>exact⟨rfl,rfl,rfl⟩
 | cons a r ih =>
  obtain⟨h1,h2,h3⟩:=ih
  refine⟨by rw [av,CD,h1]; rfl,by rw [av,BC,cS,h2,dN]; rfl,?_⟩
  rw [av,BC,bn,h3]
  rfl
section
variable {ss:List Slot}{n:Nat}{Pd:D->Nat->Prop}
end
noncomputable def item(d:D):Prop:=fine 1000001 d/\GW d<=450/\Cw d<=1
theorem Ol{k:Nat}:∀{ds:List D},(∀d∈ds,GW d+1<=k)->Dn ds<=k*ds.length
 | [],_=>TW _
 | d::ds,h=>by
  have h1:=h d On
  have h2:=Ol (ds:=ds) λe he=>h e (TM _ he)
  show GW d+1+Dn ds<=k*(ds.length+1)
  rw [Nat.mul_succ]; omega
theorem DZ{B:Nat}{xs:List D}(h:∀d∈xs,fine B d):fine B (.tup xs):=fines_iff.mpr h
theorem item_str{x:Str}(h1:x.length<=8)(h2:∀c∈cs x,c<1114112):item (.str x):=⟨h2,by show x.length<=450; omega,TW _⟩
theorem IT{x:Str}(h:Ur x):item (.str x):=item_str h.2.1 λc hc=>by have:=h.2.2 c hc; omega
theorem Te{a b:Str}{l:Int}(ha:item (.str a))(hb:item (.str b))(la:a.length<=8)(lb:b.length<=8)(hl:l.natAbs<=1000001):item (.tup [.str a,.str b,.int l]):=by
 refine⟨DZ λd hd=>?_,?_,?_⟩
 ·simp only [aq,a9,or_false] at hd
  rcases hd with rfl | rfl | rfl
  ·exact ha.1
  ·exact hb.1
  ·exact hl
 ·show a.length+1+(b.length+1+(200+1+0))<=450
  omega
 ·show max 0 (max 0 (max 0 0))+1<=1
  decide
theorem DY{N:Net}(ok:N.Ok):∀d∈N.ts.map Ag,item d:=λd hd=>by
 obtain⟨t,ht,rfl⟩:=UF.mp hd
 obtain⟨h1,h2,_,h3,h4⟩:=ok.tin t ht
 have n1:=ok.names _ h1
 have n2:=ok.names _ h2
 exact Te (IT n1) (IT n2) n1.2.1 n2.2.1 (by omega)
theorem QL{N:Net}(ok:N.Ok):∀d∈N.ps.map D.str,item d:=λd hd=>by
 obtain⟨x,hx,rfl⟩:=UF.mp hd
 exact IT (ok.names x hx)
theorem SK{xs ys:List D}(hx:∀d∈xs,item d)(hy:∀d∈ys,item d)(lx:xs.length<=26)(ly:ys.length<=80):fine 1000001 (.tup [.tup xs,.tup ys])/\GW (.tup [.tup xs,.tup ys])<=48000/\Cw (.tup [.tup xs,.tup ys])<=3:=by
 have s1:=Ol (k:=451) λd hd=>eX (hx d hd).2.1
 have s2:=Ol (k:=451) λd hd=>eX (hy d hd).2.1
 have d1:Fx xs<=1:=dps_le.mpr λd hd=>(hx d hd).2.2
 have d2:Fx ys<=1:=dps_le.mpr λd hd=>(hy d hd).2.2
 refine⟨DZ λd hd=>?_,?_,?_⟩
 ·simp only [aq,a9,or_false] at hd
  rcases hd with rfl | rfl
  ·exact DZ λd hd=>(hx d hd).1
  ·exact DZ λd hd=>(hy d hd).1
 ·show Dn xs+1+(Dn ys+1+0)<=48000
  omega
 ·show max (Fx xs+1) (max (Fx ys+1) 0)+1<=3
  omega
theorem EV(x:Str):¬cs x<cs x:=di _
theorem z1:1<=sizeLine:=by decide
theorem z2:2<=sizeLine:=by decide
theorem z3:3<=sizeLine:=by decide
theorem z0:0<=sizeLine:=TW _
theorem aU:LD 10 6:=⟨by decide,by decide,by decide⟩
section
variable {ss:List Slot}{n:Nat}{Pd:D->Nat->Prop}
end
end Nt
namespace L2
open PySem PySem.Spec PyProof.Rows
section
variable {X:Cx}{tg elt iter:Expr}{ifs:List Expr}{sc:Scope}{pos spos pos':Pos}{N':List Str}{js:List (Option Nat)}{wi:TI}{i:Nat}{x:Str}
theorem P4(hc:X.calm=true)(N':List Str)(js:List (Option Nat))(hi:PI X tg iter wi)
  (hB:Kg sc X.env.scope X.N N' js=true) (hN:X.N.Nodup) (hix:X.N[i]?=some x) (hx:Loc X.env.scope x)
  (hsw:swapsWith (.ListComp elt [⟨tg,iter,ifs,0⟩] sc pos) (some (.Name x pos')) spos.line X.env=pure true)
  (hs:autoParam (∀x,foldedSetIterable iter X.env x=pure x) zau2._auto_1)
  (hf:autoParam (X.fn x=true\/X.env.scope.names.lookup x=some .local) zau0._auto_1) :
  PS X (.Assign [.Name x pos'] (.ListComp elt [⟨tg,iter,ifs,0⟩] sc pos) spos) (NQ (SX X sc N' js tg elt ifs wi) (Ij i)):=by
 intro pins s σ H D I h
 have O:CompOk X sc N' js:=CompOk.of hB
 obtain⟨cl,hclos,hcl,hcl2⟩:=Kh (scope:=sc) (env:=X.env) λx hx=>I.ok.has x (O.free x hx)
 rw [exec_Assign_Name_used _ _ _ _ hsw]
 refine Ch (fi (Ch ?_))
 show wpAny _ _ (do let _ ← comprehension (.ListComp elt [⟨tg,iter,ifs,0⟩] sc pos) sc X.env _ (newList []) false (eval iter X.env) (some (assign (.Name x pos') X.env))) _ _ s
 refine Ch (cD (wpAny_comprehension_free (Q:=λ_ s'=>SP X pins D .next s') (use:=some (assign (.Name x pos') X.env)) rfl hs hclos O.kind O.names (Bs (hi pins s σ H _ I h) λv s1 h1=>Bs h1 λitv s2 h2=>?_))
  (λ_ s' hq=>Go (Go hq)) λ_ _ e=>e)
 obtain⟨it,fp,tn,J,H2,e,I2,T,st2,f2,hq⟩:=h2
 subst e
 have kfree:X.K.lookup s2.heap.objs.size=none:=by
  cases q:X.K.lookup s2.heap.objs.size with
  | none=>rfl
  | some o=>exact absurd (ZB (I2.kIn _ _ q)) (cP _)
 obtain⟨g,tt,te,W,hg,ht,he,⟨m0,w0⟩,hW⟩:=hq s2.heap.objs.size (I2.hok.fresh (No _)) kfree cl (s2.heap.objs.size+1) s2 H2 fp
 refine bO (wpAny_newFunctionEnv O.cell (by intro y hy; simp at hy) (λh₁ hns₁ hsb₁=>?_) O.kind)
 dsimp only at hns₁ hsb₁ ⊢
 generalize hH2:s2.heap.push { cls:=.type "list",dict:=none,data:=.seq ([]:List Value).toArray }=Hh at hns₁ hsb₁ ⊢
 have hCe:Hh.objs.size=s2.heap.objs.size+1:=by rw [← hH2,dE]
 have hlt:∀b∈fp,b<s2.heap.objs.size:=λb hb=>by
  obtain⟨o,e,_⟩:=T.obj _ _ st2 b hb
  exact ZB e
 have old:∀b o,s2.heap.get? b=some o->h₁.get? b=some o:=λb o e=>hsb₁.extBut b o (by rw [hCe]; exact bG (fz (ZB e))) (Ev _ (hH2▸Ev _ e))
 have hD:∃n,h₁.get? s2.heap.objs.size=some { cls:=.type "list",data:=.seq #[] n }:=⟨_,hsb₁.extBut _ _ (by rw [hCe]; exact bG (Nat.lt_succ_self _)) (Ev _ (hH2▸XV _ rfl))⟩
 have I3:∀tk,Inv (BF X sc N' cl (s2.heap.objs.size+1) s2 H2 fp) [] (Cc js σ) (BN H2 s2.heap.objs.size (.lst [])) { s2 with heap:=h₁,toks:=tk }:=λtk =>
  N8 I2 hc O hcl hcl2 f2 (λb hb=>let ⟨o,e,_⟩:=T.obj _ _ st2 b hb; ⟨o,e⟩) (by rw [← hCe]; exact hns₁) old hD
 have st3:tn 0 h₁:=T.keep _ _ _ st2 λb hb o e=>old b o e
 have fr3:∀b∈fp,BN H2 s2.heap.objs.size (.lst []) b=none:=λb hb=>by
  rw [Ac (bG (hlt b hb))]
  exact(f2 b hb).1
 have loop:∀tk,codeAny (model X.prog X.w) X.A (.compLoop (.ListComp elt [⟨tg,iter,ifs,0⟩] sc pos) 0 (.ref it) (.ref s2.heap.objs.size) (compEnvC sc cl (s2.heap.objs.size+1) X.env))
   (compPost (model X.prog X.w) X.A X.xe (some (assign (.Name x pos') X.env)) (λ_ s'=>SP X pins D .next s') (.ref s2.heap.objs.size) (s2.heap.objs.size+1)) { s2 with heap:=h₁,toks:=tk }:=λtk=>by
  refine Lh (W:=W) (m0:=m0) (Q:=λv H1=>Ij i v σ H1 λσ2 H2=>D.nx σ2 H2) I2 f2 hlt (dD _) T hg ht he hW (λσ' H' s' J' q'=>?_) (I3 tk) st3 fr3 w0
  obtain⟨m,hn,_⟩:=J'.loc
  have hCn:H' (s2.heap.objs.size+1)=none:=J'.free
  have I4:Inv X pins σ H' s':=KW (h':=s'.heap) I2 f2 (dD _) J' λb _=>rfl
  obtain⟨g1,g2,g3,g4,g5,g6⟩:=I2.fpOk (b:=s2.heap.objs.size+1) (dD _) hCn
  show wpAny (model X.prog X.w) X.A (assign (.Name x pos') X.env (.ref s2.heap.objs.size)) (λ_ s''=>∃m,s''.heap.Ns (s2.heap.objs.size+1) m/\∀h',cz (s2.heap.objs.size+1) s''.heap h'->SP X pins D .next { s'' with heap:=h' }) X.xe s'
  refine wpAny_assign_Name (LL (v:=.ref s2.heap.objs.size) I4 hN hix hx rfl (λs5 I5 ⟨a,hsame,ha⟩=>?_) hf)
  have na:s2.heap.objs.size+1≠a:=by
   rcases ha with rfl | ha
   ·exact g2
   ·exact λz=>g5 _ _ ha z.symm
  refine⟨m,hn.sameBut hsame na,λh' hs'=>?_⟩
  exact⟨_,H',I5.turned (t':=s5.toks) (it:=s2.heap.objs.size+1) (λb o hb e=>hs'.extBut b o hb e) hCn g2 g4 g5 g6,q'⟩
 rw [show (newEnv sc Hh.objs.size X.env.globals cl X.env.qual none .none (some X.env) builtinsNs).locals=s2.heap.objs.size+1 from hCe]
 show codeAny (model X.prog X.w) X.A (.compStart (.ListComp elt [⟨tg,iter,ifs,0⟩] sc pos) 0 (.ref it) (.ref s2.heap.objs.size) (compEnvC sc cl (s2.heap.objs.size+1) X.env)) _ _
 exact codeAny_compStart_list (loop _) (T.self _ 0 _ _ _ st3 (loop _))
end
end L2
namespace Dp
open PySem PySem.Spec PyProof.Rows L2
section
variable {X:Cx}{κe:Kd}{tg elt iter:Expr}{ifs:List Expr}{sc:Scope}{pos:Pos}{src:FP}{b:BW}{tt:Jk}{te:DW}
theorem UP(hc:X.calm=true)(N':List Str)(js:List (Option Nat))(hi:ZQ X tg iter src)(hg:∀cl C s H fp,DG (BF X sc N' cl C s H fp) tg b)(ht:∀cl C s H fp,ZP (BF X sc N' cl C s H fp) ifs tt)(he:∀cl C s H fp,DE (BF X sc N' cl C s H fp) elt κe te)
  (hB:Kg sc X.env.scope X.N N' js=true) (hk:autoParam (κe≠.tp) zau6._auto_1)
  (hs:autoParam (∀x,foldedSetIterable iter X.env x=pure x) zau2._auto_1):∃wi,PI X tg iter wi/\∀(C:Fm) (M:Addr->Prop) (H:Hp) (n:Nat) (ρ:List Slot) (σ:L2.St) (P:D->Nat->Prop) (Q:VK),Rel X.K C M H n ρ σ->B6 js src b tt te n ρ P ->
   (∀v H' d n',Ext C.U H H'->FeedC X.K C.F M H' n'->VR X.K C.V M H H' .fr v d->P d n'->Q v H')->SX X sc N' js tg elt ifs wi σ H Q:=by
 obtain⟨wi,a1,a2⟩:=hi
 refine⟨wi,a1,λC M H n ρ σ P Q R w q=>?_⟩
 refine a2 C M H n ρ σ _ _ R w λJ H1 ds n1 e1 f1 y w1=>?_
 obtain⟨hlen,w1⟩:=w1
 have R1:=R.step e1 f1
 intro l hl hkl cl Ca s0 H0 fp
 obtain⟨g,g1,g2⟩:=hg cl Ca s0 H0 fp
 obtain⟨tc,c1,c2⟩:=ht cl Ca s0 H0 fp
 obtain⟨tx,x1,x2⟩:=he cl Ca s0 H0 fp
 have noU:¬C.U l:=λz=>by
  obtain⟨o,z⟩:=R1.udom l z
  rw [hl] at z; cases z
 generalize hM':(λb=>M b\/b=l)=M'
 have M'l:M' l:=by rw [← hM']; exact .inr rfl
 have M'of:∀b,M b->M' b:=λb z=>by rw [← hM']; exact .inl z
 have ofM':∀b,M' b->M b\/b=l:=λb z=>by rw [← hM'] at z; exact z
 have inV:∀b,C.V b\/b=l->M' b:=λb z=>z.elim (λz=>M'of b (R1.vM b z)) λz=>by rw [z]; exact M'l
 have lenj:js.length=N'.length:=F1 (CompOk.of hB).cap
 refine⟨g,tc,tx,λi m σ' H'=>m=ds.length - i/\i<=ds.length/\∃n' ρ' acc vs,Rel X.K ⟨M',C.F,C.U,λb=>C.V b\/b=l,H1,[],[]⟩ M' H' n' ρ' σ'/\H' l=some (.lst vs)/\Ats X.K M' H' acc vs/\acc.length<=i/\Pres M H1 M' H' /\
   ER b tt te (λacc n2=>P (.lst acc) n2) (ds.drop i) acc n' ρ',g1,c1,x1,⟨ds.length,by simp,TW _,n1,Hb js ρ,[],[],?_⟩,?_⟩
 ·have gr:Grow H1 (BN H1 l (.lst [])):=BD hl
  have pr:Pres M H1 M' (BN H1 l (.lst [])):=⟨λb o e _=>gr.all b o e,λb z=>(ofM' b z).elim .inl λz=>.inr (by rw [z]; exact hl),λb vs e=>gr.all b _ e⟩
  refine⟨⟨?_,λa z=>z,λa z=>?_,gr.ext,R1.fU,λa z=>.inl (R1.uV a z),inV,f1.pres pr λf o _ e=>gr.all f.1 o e,?_,λp hp=>absurd hp (by simp),λi d a q z=>QG R1.sl q z,λi s a q o _=>absurd o (by rw [Ew q]; decide),λi j s t a q o _ _ _ _=>absurd o (by rw [Ew q]; decide),λp hp=>absurd hp (by simp)⟩,Ak,rfl,TW _,pr,w1⟩
  ·unfold Hb Cc
   rw [Db,Db]
  ·rcases ofM' a z with z | z
   ·obtain⟨o,z⟩:=R1.dom a z
    exact⟨o,gr.all a o z⟩
   ·subst z
    exact⟨_,Ak⟩
  ·refine Nx R1.sl pr λd v h=>h.same pr (λa o _ e=>gr.all a o e) λa e n1 z=>z.elim n1 λz=>?_
   subst e
   obtain⟨o,w⟩:=h.lies
   rw [z,hl] at w
   cases w
 ·rintro i m σ' H' ⟨rfl,hi,n',ρ',acc,vs,R',hlv,hac,hal,pr,w'⟩
  by_cases hlt:i<ds.length
  ·have ed:ds.drop i=ds[i]::ds.drop (i+1):=cC hlt
   rw [ed] at w'
   obtain⟨go,yl⟩:=(y i M' H' pr R'.ext R'.dom).1 ds[i] (FM hlt)
   refine .inr ⟨go,λx H2 hy=>?_⟩
   obtain⟨gr,hx⟩:=yl x H2 hy
   have R2':=R'.step gr.ext (R'.feed.grow gr)
   refine g2 _ M' H2 n' ρ' σ' ds[i] x _ _ R2' hx w' λρ3 σ3 R3 w3=>?_
   refine c2 _ M' H2 n' ρ3 σ3 _ _ R3 w3 λc H4 n4 e4 f4 w4=>?_
   have R4:=R3.step e4 f4
   have p4:Pres M' H' M' H4:=gr.pres.trans (R3.pres e4)
   have l4:H4 l=some (.lst vs):=e4.keep (gr.all _ _ hlv) noU
   cases c with
   | false=>exact⟨ds.length - (i+1),by omega,rfl,hlt,n4,ρ3,acc,vs,R4,l4,hac.pres p4,by omega,pr.trans p4,w4⟩
   | true =>
    refine x2 _ M' H4 n4 ρ3 σ3 _ _ R4 w4 λyv H5 d5 n5 e5 f5 r5 w5=>?_
    have R5:=R4.step e5 f5
    have p5:Pres M' H4 M' H5:=R4.pres e5
    have l5:H5 l=some (.lst vs):=e5.keep l4 noU
    have hy5:=r5.shOf R4.dom hk
    have a5:=(hac.pres p4).pres p5
    have pu:Pres M' H5 M' (BN H5 l (.lst (vs++[yv]))):=GN M'l l5
    have hvl:vs.length=acc.length:=hac.length
    refine⟨vs,l5,by rw [bu]; omega,ds.length - (i+1),by omega,rfl,hlt,n5,ρ3,acc++[d5],vs++[yv],?_,Ak,(a5.append (Ats.one hy5)).pres pu,by rw [Sc,aw]; omega,(pr.trans p4).trans (p5.trans pu),w5⟩
    refine⟨R5.len,R5.sub,λa z=>?_,λb o e=>?_,R5.fU,R5.uV,R5.vM,?_,λj s hs=>?_,λp hp=>absurd hp (by simp),R5.br0,R5.new,R5.two,λp hp=>absurd hp (by simp)⟩
    ·by_cases ha:a=l
     ·subst ha; exact⟨_,Ak⟩
     ·rw [Ac ha]; exact R5.dom a z
    ·obtain⟨o',q1,q2⟩:=R5.ext b o e
     by_cases hb:b=l
     ·subst hb
      have e':H1 b=some o:=e
      rw [hl] at e'; cases e'
     ·exact⟨o',by rw [Ac hb]; exact q1,q2⟩
    ·refine f5.pres pu λf o hf e=>?_
     rw [Ac (λz=>noU (by rw [← z]; exact R1.fU f hf))]
     exact e
    ·have hs5:=R5.sl j s hs
     cases s with
     | no=>trivial
     | sh d=>obtain⟨v,e1,h2⟩:=hs5; exact⟨v,e1,h2.pres pu⟩
     | ex a nm ks ds=>obtain⟨e1,h2⟩:=hs5; exact⟨e1,h2.pres pu⟩
     | br d =>
      obtain⟨v,e1,h2⟩:=hs5
      refine⟨v,e1,h2.same pu (λa o z e=>?_) λ_ _ z=>z⟩
      subst z
      obtain⟨o3,w⟩:=R5.br0 j d a hs e1
      have hal:a≠l:=λz=>by
       have w':H1 a=some o3:=w
       rw [z,hl] at w'; cases w'
      rw [Ac hal]; exact e
     | ow d =>
      obtain⟨a,e1,h2,_⟩:=hs5
      exact absurd h2 (R5.new j _ a hs rfl e1).1
     | lt a d =>
      obtain⟨e1,h2,_⟩:=hs5
      exact absurd h2 (R5.new j _ a hs rfl e1).1
     | fd=>exact hs5
     | wd ks ds=>exact hs5
  ·have e:i=ds.length:=by omega
   subst e
   rw [eV] at w'
   refine .inl ⟨(y _ M' H' pr R'.ext R'.dom).2 (No _),?_⟩
   have eb:Ext C.U H1 H':=R'.ext
   have less:Pres M' H' M H':=Pres.less M'of
   refine q _ H' (.lst acc) n' (e1.trans eb) (R'.feed.pres less λ_ _ _ z=>z) (VR.back e1 ?_) w'
   exact⟨l,rfl,hl,vs,hlv,by rw [hM']; exact hac⟩
theorem JS{κ:Kd}{i:Nat}{x:Str}{pos' spos:Pos}(hN:X.N.Nodup)(hix:X.N[i]?=some x)(hx:Loc X.env.scope x)(hc:X.calm=true)(N':List Str)(js:List (Option Nat))(hi:ZQ X tg iter src)(hg:∀cl C s H fp,DG (BF X sc N' cl C s H fp) tg b)(ht:∀cl C s H fp,ZP (BF X sc N' cl C s H fp) ifs tt)(he:∀cl C s H fp,DE (BF X sc N' cl C s H fp) elt κe te)
  (hB:Kg sc X.env.scope X.N N' js=true) (hsw:autoParam (swapsWith (.ListComp elt [⟨tg,iter,ifs,0⟩] sc pos) (some (.Name x pos')) spos.line X.env=pure true) zau3._auto_1) (hk:autoParam (κe≠.tp) zau6._auto_1)
  (hs:autoParam (∀x,foldedSetIterable iter X.env x=pure x) zau2._auto_1)
  (hf:autoParam (X.fn x=true\/X.env.scope.names.lookup x=some .local) zau0._auto_1):DS X κ (.Assign [.Name x pos'] (.ListComp elt [⟨tg,iter,ifs,0⟩] sc pos) spos) (A5 i (B6 js src b tt te)):=by
 obtain⟨wi,a1,a2⟩:=UP hc N' js hi hg ht he hB hk hs
 refine⟨_,P4 hc N' js a1 hB hN hix hx hsw hs hf,λC M H n ρ σ D2 E R L w=>?_⟩
 refine a2 C M H n ρ σ _ _ R w λv H' d n' e1 f1 r1 p=>?_
 exact L.nx M H' n' _ _ ((R.step e1 f1).set (r1.shOf R.dom (by intro z; cases z))) p
end
end Dp
namespace L2
open PySem PySem.Spec PyProof.Rows
noncomputable def P1:R2:=λx y H Q=>∃a v,x=.ref a/\DGet H a y (some v)/\Q v H
end L2
namespace Dp
open PySem PySem.Spec PyProof.Rows L2
noncomputable def D5:List Key->List D->Key->Option D
 | k0::ks,d::ds,k=>if k0=k then some d else D5 ks ds k
 | _,_,_=>none
section
variable {K:Frag}{X:Cx}
theorem Ly{M:Addr->Prop}{H:Hp}{k:Key}:∀{ks:List Key} {ds:List D} {vs:List V},Ats K M H ds vs ->
  match D5 ks ds k with
  | some z=>∃v,CY (ks.zip vs) k=some v/\At K M H z v
  | none=>CY (ks.zip vs) k=none
 | [],ds,vs,h=>by unfold D5; exact rfl
 | k0::ks,[],vs,h=>by cases h; exact rfl
 | k0::ks,d::ds,vs,h=>by
  obtain⟨v,r,rfl,h1,h2⟩:=h
  have ih:=Ly (k:=k) (ks:=ks) h2
  unfold D5
  by_cases e:k0=k
  ·rw [if_pos e]
   refine⟨v,?_,h1⟩
   show CY ((k0,v)::ks.zip r) k=some v
   rw [FQ e]
  ·rw [if_neg e]
   have:CY ((k0,v)::ks.zip r) k=CY (ks.zip r) k:=FR e
   rw [show (k0::ks).zip (v::r)=(k0,v)::ks.zip r from rfl,this]
   exact ih
noncomputable def keyOf:D->Option Key
 | .int i=>some (.inl i)
 | .str x=>some (.inr x)
 | _=>none
theorem KS{U M:Addr->Prop}{H:Hp}{d:D}{v:V}{k:Key}(e:keyOf d=some k)(h:AtT K U M H d v):v=kV k:=by
 cases d with
 | int i=>cases e; exact h
 | str x=>cases e; exact h.str.1
 | _=>cases e
noncomputable def WZ:D->Option (List Key×List D)
 | .dic ks ds=>some (ks,ds)
 | .fdi ks ds=>some (ks,ds)
 | _=>none
theorem Xq{U M:Addr->Prop}{H:Hp}{d:D}{x:V}{ks:List Key}{ds:List D}(e:WZ d=some (ks,ds))(h:AtT K U M H d x):∃a vs,x=.ref a/\Rd H a (.dK (ks.zip vs))/\Ats K M H ds vs:=by
 cases d with
 | dic k2 d2=>cases e; obtain⟨a,vs,rfl,_,ha,_,hs⟩:=h; exact⟨a,vs,rfl,.inl ha,hs⟩
 | fdi k2 d2=>cases e; obtain⟨a,vs,rfl,⟨o,_,ha⟩,_,hs⟩:=h; exact⟨a,vs,rfl,.inr ⟨o,ha⟩,hs⟩
 | _=>cases e
theorem Vw{H:Hp}{a:Addr}{kvs:List (Key×V)}{k:Key}(e:Rd H a (.dK kvs)):DGet H a (kV k) (CY kvs k):=.inl ⟨kvs,k,e,rfl,rfl⟩
noncomputable def FA(d e:D)(P:D->Prop):Prop:=∃ks ds k z,WZ d=some (ks,ds)/\keyOf e=some k/\D5 ks ds k=some z/\P z
theorem X6:HB K .sh P1 FA:=λU M H d e x y P Q dom vM hx hy w q=>by
 obtain⟨ks,ds,k,z,hd,he,hz,w⟩:=w
 obtain⟨a,vs,rfl,ha,hs⟩:=Xq hd hx
 have h:=Ly (k:=k) (ks:=ks) hs
 rw [hz] at h
 obtain⟨v,h1,h2⟩:=h
 exact⟨a,v,rfl,by rw [KS he hy,← h1]; exact Vw ha,q v H z .refl h2 w⟩
variable {a b:Expr}{κa κb:Kd}{wa wb:DW}{pos:Pos}
theorem CS{k:Nat}(hr:Room k X.A)(ha:DE X a κa wa)(hb:DE X b κb wb)(hs:autoParam (Rw b) zau5._auto_1):DE X (.Subscript a b pos) .sh (Am FA wa wb):=by
 obtain⟨ta,ha1,ha2⟩:=ha
 obtain⟨tb,hb1,hb2⟩:=hb
 exact⟨Dl P1 ta tb,JM (Ld hr) ha1 hb1 hs,λC M H n ρ σ P Q R w q=>E3 X6 ha2 hb2 C M H n ρ σ P Q R w q⟩
end
end Dp
namespace So
open PySem PySem.W PyProof.Rows
section
variable {O:KeyOrd}{key:Nat->O.α}{N:Nat}{cmp:Nat->Nat->(Bool->Shared->Prop)->Shared->Prop}{s:Shared}{p p0:Array Nat}
noncomputable def KN(O:KeyOrd)(key:Nat->O.α)(p:Array Nat)(i:Nat):O.α:=key (p.getD i 0)
noncomputable def Srt(O:KeyOrd)(key:Nat->O.α)(p:Array Nat)(k:Nat):Prop:=∀i j,i<=j->j<k->O.kle (KN O key p i) (KN O key p j)
noncomputable def ZM(O:KeyOrd)(key:Nat->O.α)(p:Array Nat)(k:Nat):Prop:=∀i j,i<=j->j<k->O.kle (KN O key p j) (KN O key p i)
noncomputable def Wi(O:KeyOrd)(key:Nat->O.α)(N:Nat)(cmp:Nat->Nat->(Bool->Shared->Prop)->Shared->Prop)(s:Shared):Prop:=∀(i j:Nat) (C:Bool->Shared->Prop),i<N->j<N->C (O.blt (key i) (key j)) s->cmp i j C s
noncomputable def Bd(N:Nat)(p:Array Nat):Prop:=0<N/\∀x∈p,x<N
theorem Mh(p:Array Nat)(i:Nat):p.getD i 0=(p[i]?).getD 0:=by
 simp
theorem Bd.get(h:Bd N p)(i:Nat):p.getD i 0<N:=by
 rw [Mh]
 cases e:p[i]? with
 | none=>exact h.1
 | some x=>exact h.2 x (Array.mem_of_getElem? e)
theorem Bd.perm{p':Array Nat}(h:Bd N p)(hp:p'.Perm p):Bd N p':=⟨h.1,λx hx=>h.2 x (hp.mem_iff.mp hx)⟩
theorem GJ{p q:Array Nat}{i j:Nat}(h:p[i]?=q[j]?):KN O key p i=KN O key q j:=by
 unfold KN
 rw [Mh,Mh,h]
theorem Lw{src d:Nat}(hs:src<p.size)(hd:d<=src)(k:Nat) :
  KN O key (bubble p src d) k=if k=src - d then KN O key p src else if src - d<k/\k<=src then KN O key p (k - 1) else KN O key p k:=by
 have e:=getElem?_bubble hs d hd k
 by_cases h1:k=src - d
 ·rw [if_pos h1] at e ⊢; exact GJ e
 ·rw [if_neg h1] at e ⊢
  by_cases h2:src - d<k/\k<=src
  ·rw [if_pos h2] at e ⊢; exact GJ e
  ·rw [if_neg h2] at e ⊢; exact GJ e
theorem IX{i j:Nat}(hj:j<=p.size)(k:Nat):KN O key (kas_rev p i j) k=if i<=k/\k<j then KN O key p (i+j - 1 - k) else KN O key p k:=by
 have e:=getElem?_mirror_all (i:=i) hj k
 unfold kas_rev
 by_cases h1:i<=k/\k<j
 ·rw [if_pos h1] at e ⊢; exact GJ e
 ·rw [if_neg h1] at e ⊢; exact GJ e
theorem Bu{i j:Nat}(hj:j<=p.size)(heq:∀k,i<=k->k<j->KN O key p k=KN O key p (j - 1))(k:Nat):KN O key (kas_rev p i j) k=KN O key p k:=by
 rw [IX hj]
 split
 ·rw [heq _ (by omega) (by omega),heq k (by omega) (by omega)]
 ·rfl
theorem CL(p:Array Nat)(i j:Nat):(kas_rev p i j).Perm p:=mirror_perm _ _ _ _
theorem yes{α:Type}{T₁ T₂:KasT α}{Q:α->Shared->Prop}(h:T₁.kasWp cmp Q s):(if true=true then T₁ else T₂).kasWp cmp Q s:=by rw [if_pos rfl]; exact h
theorem no{α:Type}{T₁ T₂:KasT α}{Q:α->Shared->Prop}(h:T₂.kasWp cmp Q s):(if false=true then T₁ else T₂).kasWp cmp Q s:=by rw [if_neg (by simp)]; exact h
theorem Ph(hC:Wi O key N cmp s)(hb:Bd N p){nrem:Nat}{G:Nat->Shared->Prop}:∀(f n:Nat),1<=n->n+f=nrem->Srt O key p n ->
  (∀m,n<=m->m<=nrem->Srt O key p m->(m=nrem\/O.klt (KN O key p m) (KN O key p (m - 1)))->G m s)->(kas_asc p f n).kasWp cmp G s
 | 0,n,_,e,hs,h=>h n (No _) (by omega) hs (.inl (by omega))
 | f+1,n,h1,e,hs,h=>by
  show cmp (p.getD n 0) (p.getD (n - 1) 0) (λc s'=>(if c=true then KasT.ret n else kas_asc p f (n+1)).kasWp cmp G s') s
  refine hC _ _ _ (hb.get n) (hb.get _) ?_
  cases hless:O.blt (key (p.getD n 0)) (key (p.getD (n - 1) 0)) with
  | true=>exact yes (h n (No _) (by omega) hs (.inr hless))
  | false =>
   refine no (Ph hC hb f (n+1) (by omega) (by omega) (λi j hij hj=>?_) λm m1 m2 m3 m4=>h m (by omega) m2 m3 m4)
   by_cases hjx:j<n
   ·exact hs i j hij hjx
   ·have hj':j=n:=by omega
    subst hj'
    by_cases hi':i=j
    ·subst hi'; exact cU _
    ·exact eY (hs i (j - 1) (by omega) (by omega)) hless
theorem JV(hC:Wi O key N cmp s){nrem:Nat}{G:Array Nat×Nat×Nat->Shared->Prop}:∀(f:Nat) (p:Array Nat) (n q:Nat),p.Perm p0->Bd N p->nrem<=p.size->1<=n->n+f=nrem->ZM O key p n->q+1<=n ->
  (∀i,n - (q+1)<=i->i<n->KN O key p i=KN O key p (n - 1)) ->
  (∀p' m q',p'.Perm p0->Bd N p'->p'.size=p.size->n<=m->m<=nrem->ZM O key p' m->q'+1<=m->(∀i,m - (q'+1)<=i->i<m->KN O key p' i=KN O key p' (m - 1))->G (p',m,q') s)->(kas_desc f p n q).kasWp cmp G s
 | 0,p,n,q,hp,hb,hz,h1,e,hs,hq,he,h=>h p n q hp hb rfl (No _) (by omega) hs hq he
 | f+1,p,n,q,hp,hb,hz,h1,e,hs,hq,he,h=>by
  show cmp (p.getD n 0) (p.getD (n - 1) 0) (λc s'=>(if c=true then (if q > 0 then kas_desc f (kas_rev p (n - (q+1)) n) (n+1) 0 else kas_desc f p (n+1) 0)
   else .ask (p.getD (n - 1) 0) (p.getD n 0) λd=>if d=true then .ret (p,n,q) else kas_desc f p (n+1) (q+1)).kasWp cmp G s') s
  refine hC _ _ _ (hb.get n) (hb.get _) ?_
  cases hless:O.blt (key (p.getD n 0)) (key (p.getD (n - 1) 0)) with
  | true =>
   have hl:O.klt (KN O key p n) (KN O key p (n - 1)):=hless
   have step1:∀xs:Array Nat,(∀k,KN O key xs k=KN O key p k)->ZM O key xs (n+1):=by
    intro xs hk i j hij hj
    rw [hk,hk]
    by_cases hjx:j<n
    ·exact hs i j hij hjx
    ·have hj':j=n:=by omega
     subst hj'
     by_cases hi':i=j
     ·subst hi'; exact cU _
     ·exact eY (eR hl) (hs i (j - 1) (by omega) (by omega))
   refine yes ?_
   have hsz:n<=p.size:=by omega
   by_cases hq0:q > 0
   ·rw [if_pos hq0]
    refine JV hC f _ (n+1) 0 ((CL _ _ _).trans hp) (hb.perm (CL _ _ _)) (by rw [kas_rev_size]; exact hz) (by omega) (by omega) (step1 _ (Bu hsz he)) (by omega) (λi a b=>by congr 1; omega) λp' m q' a1 a2 a3 a4 a5 a6 a7 a8=>h p' m q' a1 a2 (a3.trans (kas_rev_size _ _)) (by omega) a5 a6 a7 a8
   ·rw [if_neg hq0]
    exact JV hC f _ (n+1) 0 hp hb hz (by omega) (by omega) (step1 _ λ_=>rfl) (by omega) (λi a b=>by congr 1; omega) λp' m q' a1 a2 a3 a4 a5 a6 a7 a8=>h p' m q' a1 a2 a3 (by omega) a5 a6 a7 a8
  | false =>
   refine no ?_
   show cmp (p.getD (n - 1) 0) (p.getD n 0) (λd s'=>(if d=true then KasT.ret (p,n,q) else kas_desc f p (n+1) (q+1)).kasWp cmp G s') s
   refine hC _ _ _ (hb.get _) (hb.get n) ?_
   cases hlarger:O.blt (key (p.getD (n - 1) 0)) (key (p.getD n 0)) with
   | true=>exact yes (h p n q hp hb rfl (No _) (by omega) hs hq he)
   | false =>
    have heqx:KN O key p n=KN O key p (n - 1):=gx (O:=O) hlarger hless
    refine no (JV hC f p (n+1) (q+1) hp hb hz (by omega) (by omega) (λi j hij hj=>?_) (by omega) (λi a b=>?_) λp' m q' a1 a2 a3 a4 a5 a6 a7 a8=>h p' m q' a1 a2 a3 (by omega) a5 a6 a7 a8)
    ·by_cases hjx:j<n
     ·exact hs i j hij hjx
     ·have hj':j=n:=by omega
      subst hj'
      by_cases hi':i=j
      ·subst hi'; exact cU _
      ·rw [heqx]; exact hs i (j - 1) (by omega) (by omega)
    ·rw [show n+1 - 1=n by omega]
     by_cases hix:i=n
     ·subst hix; rfl
     ·rw [heqx]; exact he i (by omega) (by omega)
theorem NO(hC:Wi O key N cmp s){n nrem:Nat}{G:Nat×Array Nat->Shared->Prop}(hp:p.Perm p0)(hb:Bd N p)(hz:nrem<=p.size)(h1:1<=n)(hn:n<=nrem)(hs:ZM O key p n)
  (h:∀m p',p'.Perm p0->Bd N p'->p'.size=p.size->1<=m->m<=nrem->Srt O key p' m->G (m,p') s):(kas_tail3 n nrem p).kasWp cmp G s:=by
 unfold kas_tail3
 rw [KasT.kasWp_bind]
 have hsz:n<=p.size:=by omega
 refine Ph hC (hb.perm (CL _ _ _)) (nrem - n) n h1 (by omega) (λi j hij hj=>?_) λm m1 m2 m3 _=>h m _ ((CL _ _ _).trans hp) (hb.perm (CL _ _ _)) (kas_rev_size _ _) (by omega) m2 m3
 rw [IX hsz,IX hsz,if_pos (by omega),if_pos (by omega)]
 exact hs _ _ (by omega) (by omega)
theorem Im(hC:Wi O key N cmp s){n nrem:Nat}{G:Nat×Array Nat->Shared->Prop}(hp:p.Perm p0)(hb:Bd N p)(hz:nrem<=p.size)(hn:n+1<=nrem)(hs:ZM O key p (n+1))
  (h:∀m p',p'.Perm p0->Bd N p'->p'.size=p.size->1<=m->m<=nrem->Srt O key p' m->G (m,p') s):(kas_descPart n nrem p).kasWp cmp G s:=by
 unfold kas_descPart
 rw [KasT.kasWp_bind]
 refine JV (p0:=p0) hC (nrem - (n+1)) p (n+1) 0 hp hb hz (by omega) (by omega) hs (by omega) (λi a b=>by congr 1; omega) λp' m q' a1 a2 a3 a4 a5 a6 a7 a8=>?_
 have hsz:m<=p'.size:=by omega
 show (if q' > 0 then kas_tail3 m nrem (kas_rev p' (m - (q'+1)) m) else kas_tail3 m nrem p').kasWp cmp G s
 by_cases hq0:q' > 0
 ·rw [if_pos hq0]
  refine NO hC ((CL _ _ _).trans a1) (a2.perm (CL _ _ _)) (by rw [kas_rev_size]; omega) (by omega) a5 (λi j hij hj=>?_) λm' p'' b1 b2 b3 b4 b5 b6=>h m' p'' b1 b2 (b3.trans ((kas_rev_size _ _).trans a3)) b4 b5 b6
  rw [Bu hsz a8,Bu hsz a8]
  exact a6 i j hij hj
 ·rw [if_neg hq0]
  exact NO hC a1 a2 (by omega) (by omega) a5 a6 λm' p'' b1 b2 b3 b4 b5 b6=>h m' p'' b1 b2 (b3.trans a3) b4 b5 b6
theorem UO(hC:Wi O key N cmp s){nrem:Nat}{G:Nat×Array Nat->Shared->Prop}(hp:p.Perm p0)(hb:Bd N p)(hz:nrem<=p.size)(h1:1<=nrem)
  (h:∀m p',p'.Perm p0->Bd N p'->p'.size=p.size->1<=m->m<=nrem->Srt O key p' m->G (m,p') s):(kas_count nrem p).kasWp cmp G s:=by
 unfold kas_count
 rw [KasT.kasWp_bind]
 refine Ph (nrem:=nrem) hC hb (nrem - 1) 1 (No _) (by omega) (λi j hij hj=>by have:i=j:=(by omega); subst this; exact cU _) λn hn1 hn2 hsn hor=>?_
 by_cases hnn:n=nrem
 ·rw [if_pos (by simpa using hnn)]
  exact h n p hp hb rfl hn1 hn2 hsn
 ·rw [if_neg (by simpa using hnn)]
  have hlt:O.klt (KN O key p n) (KN O key p (n - 1)):=hor.resolve_left hnn
  by_cases hgt:n > 1
  ·rw [if_pos hgt]
   show cmp (p.getD 0 0) (p.getD (n - 1) 0) (λc s'=>(if c=true then KasT.ret (n,p) else kas_descPart n nrem (kas_rev p 0 n)).kasWp cmp G s') s
   refine hC _ _ _ (hb.get _) (hb.get _) ?_
   cases hrose:O.blt (key (p.getD 0 0)) (key (p.getD (n - 1) 0)) with
   | true=>exact yes (h n p hp hb rfl hn1 hn2 hsn)
   | false =>
    have hrose':O.kle (KN O key p (n - 1)) (KN O key p 0):=hrose
    have hsz:n<=p.size:=by omega
    have hall:∀k,0<=k->k<n->KN O key p k=KN O key p (n - 1):=by
     intro k _ hk
     have a1:=hsn 0 k (by omega) hk
     have a2:=hsn k (n - 1) (by omega) (by omega)
     exact gx a2 (eY hrose' a1)
    refine no (Im hC ((CL _ _ _).trans hp) (hb.perm (CL _ _ _)) (by rw [kas_rev_size]; exact hz) (by omega) (λi j hij hj=>?_) λm' p'' b1 b2 b3 b4 b5 b6=>h m' p'' b1 b2 (b3.trans (kas_rev_size _ _)) b4 b5 b6)
    rw [Bu hsz hall,Bu hsz hall]
    by_cases hjn:j<n
    ·rw [hall i (by omega) (by omega),hall j (by omega) hjn]; exact cU _
    ·have hj':j=n:=by omega
     subst hj'
     by_cases hi':i=j
     ·subst hi'; exact cU _
     ·rw [hall i (by omega) (by omega)]; exact eR hlt
  ·rw [if_neg hgt]
   have hn1':n=1:=by omega
   subst hn1'
   refine Im hC hp hb hz (by omega) (λi j hij hj=>?_) h
   by_cases hi':i=j
   ·subst hi'; exact cU _
   ·have hi0:i=0:=by omega
    have hj1:j=1:=by omega
    subst hi0; subst hj1
    exact eR hlt
theorem J3(hC:Wi O key N cmp s)(hb:Bd N p){k:Nat}(hs:Srt O key p k){G:Nat->Shared->Prop}
  (h:∀l,l<=k->(∀i,i<l->O.kle (KN O key p i) (KN O key p k))->(∀i,l<=i->i<k->O.klt (KN O key p k) (KN O key p i))->G l s):∀(f l r:Nat),l<=r->r<=k->r - l<=f ->
  (∀i,i<l->O.kle (KN O key p i) (KN O key p k))->(∀i,r<=i->i<k->O.klt (KN O key p k) (KN O key p i))->(kas_place p k f l r).kasWp cmp G s
 | 0,l,r,hlr,hrk,hm,hlo,hhi=>by
  have:l=r:=by omega
  subst this
  exact h l hrk hlo hhi
 | f+1,l,r,hlr,hrk,hm,hlo,hhi=>by
  unfold kas_place
  by_cases hge:l≥r
  ·rw [if_pos hge]
   have:l=r:=by omega
   subst this
   exact h l hrk hlo hhi
  ·rw [if_neg hge]
   show cmp (p.getD k 0) (p.getD ((l+r) / 2) 0) (λc s'=>(if c=true then kas_place p k f l ((l+r) / 2) else kas_place p k f ((l+r) / 2+1) r).kasWp cmp G s') s
   refine hC _ _ _ (hb.get _) (hb.get _) ?_
   cases hless:O.blt (key (p.getD k 0)) (key (p.getD ((l+r) / 2) 0)) with
   | true =>
    have hl:O.klt (KN O key p k) (KN O key p ((l+r) / 2)):=hless
    exact yes (J3 hC hb hs h f l ((l+r) / 2) (by omega) (by omega) (by omega) hlo λi h1 h2=>KeyOrd.klt_of_klt_of_kle hl (hs _ _ h1 h2))
   | false =>
    have hl:O.kle (KN O key p ((l+r) / 2)) (KN O key p k):=hless
    exact no (J3 hC hb hs h f ((l+r) / 2+1) r (by omega) (by omega) (by omega) (λi h1=>eY (hs i ((l+r) / 2) (by omega) (by omega)) hl) hhi)
theorem E3(hC:Wi O key N cmp s){n:Nat}{G:Array Nat->Shared->Prop}(h:∀p',p'.Perm p0->Srt O key p' n->G p' s):∀(f:Nat) (p:Array Nat) (k:Nat),p.Perm p0->Bd N p->n<=p.size->k+f=n->Srt O key p k->(kas_bin f p k).kasWp cmp G s
 | 0,p,k,hp,hb,hz,e,hs=>h p hp (by rw [← e]; exact hs)
 | f+1,p,k,hp,hb,hz,e,hs=>by
  rw [show kas_bin (f+1) p k=(kas_place p k k 0 k).bind λl=>kas_bin f (bubble p k (k - l)) (k+1) from rfl,KasT.kasWp_bind]
  refine J3 hC hb hs (λl hlk hlo hhi=>?_) k 0 k (TW _) (No _) (by omega) (λi hi=>by omega) λi a b=>by omega
  have hks:k<p.size:=by omega
  refine E3 hC h f _ (k+1) ((bubble_perm _ _ _).trans hp) (hb.perm (bubble_perm _ _ _)) (by rw [bubble_size]; exact hz) (by omega) λi j hij hj=>?_
  rw [Lw hks (by omega),Lw hks (by omega),show k - (k - l)=l by omega]
  by_cases hi1:i=l
  ·rw [if_pos hi1]
   by_cases hj1:j=l
   ·rw [if_pos hj1]; exact cU _
   ·rw [if_neg hj1,if_pos (by omega)]
    exact eR (hhi (j - 1) (by omega) (by omega))
  ·rw [if_neg hi1]
   by_cases hi2:l<i/\i<=k
   ·rw [if_pos hi2,if_neg (by omega),if_pos (by omega)]
    exact hs (i - 1) (j - 1) (by omega) (by omega)
   ·rw [if_neg hi2]
    by_cases hj1:j=l
    ·rw [if_pos hj1]; exact hlo i (by omega)
    ·rw [if_neg hj1]
     by_cases hj2:l<j/\j<=k
     ·rw [if_pos hj2]
      exact hs i (j - 1) (by omega) (by omega)
     ·rw [if_neg hj2]
      exact hs i j hij (by omega)
theorem sort_ok{n:Nat}(h1:1<=n)(hC:Wi O key n cmp s){G:Array Nat->Shared->Prop}(h:∀p,p.Perm (bc (bB n))->Srt O key p n->G p s):(kas_sort n).kasWp cmp G s:=by
 unfold kas_sort
 rw [KasT.kasWp_bind]
 have hb:Bd n (bc (bB n)):=⟨h1,λx hx=>by simpa using hx⟩
 have hsz:(bc (bB n)).size=n:=by simp
 refine UO hC (iA _) hb (by omega) h1 λm p' a1 a2 a3 a4 a5 a6=>?_
 show (if m<n then kas_bin (n - max m 1) p' (max m 1) else KasT.ret p').kasWp cmp G s
 by_cases hlt:m<n
 ·rw [if_pos hlt,show max m 1=m by omega]
  exact E3 (p0:=bc (bB n)) hC h (n - m) p' m a1 a2 (by omega) (by omega) a6
 ·rw [if_neg hlt]
  exact h p' a1 (by rw [show n=m by omega]; exact a6)
end
end So
namespace L2
open PySem PySem.Spec PyProof.Rows PySem.W
noncomputable def XW:Key->Key->Bool
 | .inl i,.inl j=>decide (i<j)
 | .inr x,.inr y=>decide (x.cps.toList<y.cps.toList)
 | .inl _,.inr _=>true
 | .inr _,.inl _=>false
noncomputable def Cv:List Key->List Key->Bool
 | [],[]=>false
 | [],_::_=>true
 | _::_,[]=>false
 | x::xs,y::ys=>if x=y then Cv xs ys else XW x y
theorem PJ:∀x:Key,XW x x=false
 | .inl i=>decide_eq_false (Int.lt_irrefl i)
 | .inr x=>decide_eq_false (di _)
theorem RM:∀x y z:Key,XW x y=true->XW y z=true->XW x z=true
 | .inl i,.inl j,.inl k,h1,h2=>decide_eq_true (Int.lt_trans (of_decide_eq_true h1) (of_decide_eq_true h2))
 | .inr i,.inr j,.inr k,h1,h2=>decide_eq_true (List.lt_trans (of_decide_eq_true h1) (of_decide_eq_true h2))
 | .inl i,.inl j,.inr k,_,_=>rfl
 | .inl i,.inr j,.inr k,_,_=>rfl
 | .inl i,.inr j,.inl k,_,h=>by cases h
 | .inr i,.inl j,_,h,_=>by cases h
 | .inr i,.inr j,.inl k,_,h=>by cases h
theorem LV:∀x y:Key,XW x y=false->XW y x=false->x=y
 | .inl i,.inl j,h1,h2=>congrArg eh (by have a:=of_decide_eq_false h1; have b:=of_decide_eq_false h2; omega)
 | .inr x,.inr y,h1,h2=>by
  have a:=of_decide_eq_false h1
  have b:=of_decide_eq_false h2
  have e:x.cps.toList=y.cps.toList:=List.le_antisymm (as:=x.cps.toList) (bs:=y.cps.toList) b a
  obtain⟨u⟩:=x
  obtain⟨v⟩:=y
  exact congrArg bJ (congrArg Str.mk (Array.ext' e))
 | .inl i,.inr j,h,_=>by cases h
 | .inr i,.inl j,_,h=>by cases h
theorem Fs:∀x:List Key,Cv x x=false
 | []=>rfl
 | x::xs=>by unfold Cv; rw [if_pos rfl]; exact Fs xs
theorem Ex:∀x y z:List Key,Cv x y=true->Cv y z=true->Cv x z=true
 | [],[],_,h,_=>by cases h
 | [],_::_,[],_,h=>by cases h
 | [],_::_,_::_,_,_=>rfl
 | _::_,[],_,h,_=>by cases h
 | _::_,_::_,[],_,h=>by cases h
 | x::xs,y::ys,z::zs,h1,h2=>by
  unfold Cv at h1 h2 ⊢
  by_cases e1:x=y
  ·subst e1
   rw [if_pos rfl] at h1
   by_cases e2:x=z
   ·subst e2
    rw [if_pos rfl] at h2 ⊢
    exact Ex xs ys zs h1 h2
   ·rw [if_neg e2] at h2 ⊢
    exact h2
  ·rw [if_neg e1] at h1
   by_cases e2:y=z
   ·subst e2
    rw [if_neg e1]
    exact h1
   ·rw [if_neg e2] at h2
    have h3:=RM x y z h1 h2
    by_cases e3:x=z
    ·subst e3
     rw [PJ] at h3
     cases h3
    ·rw [if_neg e3]
     exact h3
theorem Ey:∀x y:List Key,Cv x y=false->Cv y x=false->x=y
 | [],[],_,_=>rfl
 | [],_::_,h,_=>by cases h
 | _::_,[],_,h=>by cases h
 | x::xs,y::ys,h1,h2=>by
  unfold Cv at h1 h2
  by_cases e:x=y
  ·subst e
   rw [if_pos rfl] at h1 h2
   rw [Ey xs ys h1 h2]
  ·rw [if_neg e] at h1
   rw [if_neg (λz=>e z.symm)] at h2
   exact absurd (LV x y h1 h2) e
noncomputable def VN:KeyOrd:=⟨List Key,Cv,Fs,Ex,λa b c h=>by
 cases h1:Cv a b with
 | true=>exact .inl rfl
 | false =>
  cases h2:Cv b a with
  | true=>exact .inr (Ex b a c h2 h)
  | false=>rw [← Ey a b h1 h2]; exact .inr h,Ey⟩
theorem QH:∀x y:List Key,B3 x y=true->IN x y=Cv x y
 | [],[],_=>rfl
 | [],_::_,_=>rfl
 | _::_,[],_=>rfl
 | x::xs,y::ys,h=>by
  have h':(LO x y&&B3 xs ys)=true:=h
  rw [az] at h'
  unfold IN Cv
  by_cases e:x=y
  ·rw [if_pos e,if_pos e]; exact QH xs ys h'.2
  ·rw [if_neg e,if_neg e]
   cases x with
   | inl i=>cases y with
    | inl j=>rfl
    | inr z=>cases h'.1
   | inr i=>cases y with
    | inl j=>cases h'.1
    | inr z=>rfl
section
variable {prog:Program}{w:World}{A:Around}{E:Value->Shared->Prop}{s:Shared}
theorem TX{b:Bool}{Q:Bool->Shared->Prop}{nx ny:Nat}:∀(ns ms:List Key) (us ws:List Value) (i:Nat),Vals (ns.map kOf) us->Vals (ms.map kOf) ws->B3 ns ms=true->ns.length+ny=ms.length+nx->Q (IN ns ms) s ->
  KatLex prog w A b (decide (nx<ny)) Q (us.zip ws) i s
 | [],[],us,ws,i,h1,h2,_,hl,q=>by
  cases h1
  cases h2
  refine kat_nil ?_
  rw [show decide (nx<ny)=false from decide_eq_false (by simp only [cG] at hl; omega)]
  exact q
 | [],m::ms,us,ws,i,h1,h2,_,hl,q=>by
  cases h1
  rw [List.zip_nil_left]
  refine kat_nil ?_
  rw [show decide (nx<ny)=true from decide_eq_true (by simp only [cG,Tk] at hl; omega)]
  exact q
 | n::ns,[],us,ws,i,h1,h2,_,hl,q=>by
  cases h2
  rw [List.zip_nil_right]
  refine kat_nil ?_
  rw [show decide (nx<ny)=false from decide_eq_false (by simp only [cG,Tk] at hl; omega)]
  exact q
 | n::ns,m::ms,us,ws,i,h1,h2,hs,hl,q=>by
  have hs':(LO n m&&B3 ns ms)=true:=hs
  rw [az] at hs'
  have q':Q (if n=m then IN ns ms else ZY n m) s:=q
  cases h1 with
  | @cons _ u _ ur r1 t1 =>
   cases h2 with
   | @cons _ v _ vr r2 t2 =>
    rw [fZ]
    have ih:n=m->KatLex prog w A b (decide (nx<ny)) Q (ur.zip vr) (i+1) s:=λe=>TX ns ms ur vr (i+1) t1 t2 hs'.2 (by simp only [Tk] at hl; omega) (by rw [if_pos e] at q'; exact q')
    cases n with
    | inl x =>
     cases m with
     | inr y=>cases hs'.1
     | inl y =>
      obtain⟨tu,rfl⟩:=r1
      obtain⟨tv,rfl⟩:=r2
      refine kat_cons (wpAny_eqBool_int ?_)
      by_cases e:x=y
      ·rw [show (x==y)=true by simpa using e]
       exact kat_yes (ih (by rw [e]))
      ·rw [show (x==y)=false by simpa using e]
       refine kat_no ?_
       rw [if_neg (λz=>e (Sum.inl.inj z))] at q'
       cases hf:(b&&i==0) with
       | true=>exact oneLt_int q'
       | false=>exact kat_one _ _ (gZ (show PySem.W.BoolBack Q (.bool (decide (x<y))) s from q'))
    | inr x =>
     cases m with
     | inl y=>cases hs'.1
     | inr y =>
      obtain⟨tu,rfl⟩:=r1
      obtain⟨tv,rfl⟩:=r2
      refine kat_cons (wpAny_eqBool_str ?_)
      by_cases e:x=y
      ·rw [show decide (x=y)=true by simpa using e]
       exact kat_yes (ih (by rw [e]))
      ·rw [show decide (x=y)=false by simpa using e]
       refine kat_no ?_
       rw [if_neg (λz=>e (cJ z))] at q'
       cases hf:(b&&i==0) with
       | true=>exact oneLt_str q'
       | false=>exact kat_one _ _ (PySem.P.lt_str (show PySem.W.BoolBack Q (.bool (decide (x.cps.toList<y.cps.toList))) s from q'))
structure Ql (h:Heap) (ks:List Value) (keys:List (List Key)):Prop where
 at_:∀(i:Nat) (ns:List Key),keys[i]?=some ns->∃a o its n,ks[i]?=some (.ref a)/\h.get? a=some o/\o.cls=.type "tuple"/\o.data=.seq its n/\Vals (ns.map kOf) its.toList
 len:ks.length=keys.length
 same:∀x∈keys,∀y∈keys,B3 x y=true
 ne:∀x∈keys,x≠[]
noncomputable def ZU:Key->String
 | .inl _ => "int"
 | .inr _ => "str"
theorem firsts{h:Heap}:∀(ks:List Value) (keys:List (List Key)) (T:String),ks.length=keys.length->(∀(i:Nat) (ns:List Key),keys[i]?=some ns->∃a o its n,ks[i]?=some (.ref a)/\h.get? a=some o/\o.cls=.type "tuple"/\o.data=.seq its n/\Vals (ns.map kOf) its.toList) ->
  (∀x∈keys,∃k r,x=k::r/\ZU k=T)->∃fs:List Value,KatTups h ks fs/\fs.length=keys.length/\∀v∈fs,typeOf v=pure (.type T)
 | [],[],T,_,_,_=>⟨[],trivial,rfl,λv hv=>by cases hv⟩
 | [],_::_,T,hl,_,_=>by cases hl
 | _::_,[],T,hl,_,_=>by cases hl
 | k::ks,x::keys,T,hl,h1,h2=>by
  obtain⟨fs,g1,g2,g3⟩:=firsts ks keys T (by simpa using hl) (λi ns e=>by
   obtain⟨a,o,its,n,e1,r⟩:=h1 (i+1) ns (by simpa using e)
   exact⟨a,o,its,n,by simpa using e1,r⟩) λy hy=>h2 y (TM _ hy)
  obtain⟨a,o,its,n,e1,e2,e3,e4,e5⟩:=h1 0 x rfl
  have e1:k=.ref a:=by simpa using e1
  subst e1
  obtain⟨k,r,rfl,hk⟩:=h2 x On
  rw [av] at e5
  cases hits:its.toList with
  | nil=>rw [hits] at e5; cases e5
  | cons f tl =>
   rw [hits] at e5
   cases e5 with
   | cons r1 r2 =>
    refine⟨f::fs,KatTups.cons e2 e3 e4 (by rw [← e8,hits]; rfl) g1,by rw [Tk,Tk,g2],λv hv=>?_⟩
    rcases aq.mp hv with rfl | hv
    ·cases k with
     | inl i=>obtain⟨t,rfl⟩:=r1; subst hk; rfl
     | inr i=>obtain⟨t,rfl⟩:=r1; subst hk; rfl
    ·exact g3 v hv
theorem Qq{ks:List Value}{keys:List (List Key)}(K:Ql s.heap ks keys)(h2:2<=ks.length){G:Array Nat->Shared->Prop}(h:∀p,p.Perm (bc (bB ks.length))->So.Srt VN (λi=>keys.getD i []) p ks.length->G p s) :
  wpAny (model prog w) A (keyKind' ks.toArray) (λκ s'=>(kas_sort ks.length).kasWp (kas_ask prog w A κ ks) G s') (λ_ _=>False) s:=by
 obtain⟨x0,xr,hx⟩:∃x0 xr,keys=x0::xr:=by
  cases e:keys with
  | nil=>have:=K.len; rw [e] at this; simp only [cG] at this; omega
  | cons x r=>exact⟨x,r,rfl⟩
 have m0:x0∈keys:=by rw [hx]; exact On
 obtain⟨k0,r0,e0⟩:∃k r,x0=k::r:=by
  cases e:x0 with
  | nil=>exact absurd e (K.ne x0 m0)
  | cons k r=>exact⟨k,r,rfl⟩
 have hty:∀x∈keys,∃k r,x=k::r/\ZU k=ZU k0:=λx hm=>by
  cases e:x with
  | nil=>exact absurd e (K.ne x hm)
  | cons k r =>
   refine⟨k,r,rfl,?_⟩
   have hsm:=K.same x hm x0 m0
   rw [e,e0] at hsm
   have hsm:(LO k k0&&B3 r r0)=true:=hsm
   rw [az] at hsm
   cases k with
   | inl i=>cases k0 with
    | inl j=>rfl
    | inr j=>cases hsm.1
   | inr i=>cases k0 with
    | inl j=>cases hsm.1
    | inr j=>rfl
 obtain⟨fs,g1,g2,g3⟩:=firsts ks keys (ZU k0) K.len K.at_ hty
 refine kat_kind g1 (by rw [g2,← K.len]; omega) (λv hv=>by rw [g3 v hv]; exact Looks.now) (by simp) ?_
 refine So.sort_ok (O:=VN) (key:=λi=>keys.getD i []) (by omega) (λi j C hi hj hC=>?_) h
 have hi':i<keys.length:=by rw [← K.len]; exact hi
 have hj':j<keys.length:=by rw [← K.len]; exact hj
 obtain⟨a,o,its,n,e1,e2,e3,e4,e5⟩:=K.at_ i keys[i] (FM hi')
 obtain⟨a',o',its',n',e1',e2',e3',e4',e5'⟩:=K.at_ j keys[j] (FM hj')
 unfold kas_ask
 rw [show ks.getD i bQ=.ref a by rw [ax,e1]; rfl,show ks.getD j bQ=.ref a' by rw [ax,e1']; rfl]
 have hsm:=K.same _ (cB hi') _ (cB hj')
 refine kat_lt e2 e4 e2' e4' (TX keys[i] keys[j] _ _ 0 e5 e5' hsm ?_ ?_)
 ·have l1:=e5.length
  have l2:=e5'.length
  have l3:(keys[i].map kOf).length=keys[i].length:=Db ..
  have l4:(keys[j].map kOf).length=keys[j].length:=Db ..
  have l5:its.toList.length=its.size:=bW
  have l6:its'.toList.length=its'.size:=bW
  omega
 ·rw [QH _ _ hsm]
  have g1:keys.getD i []=keys[i]:=by rw [ax,FM hi']; rfl
  have g2:keys.getD j []=keys[j]:=by rw [ax,FM hj']; rfl
  have hC':C (Cv (keys.getD i []) (keys.getD j [])) s:=hC
  rw [g1,g2] at hC'
  exact hC'
theorem HG{v:Value}{kw:List (Str×Value)}{Q:Value->Shared->Prop}(ha1:argsOk "sorted" ⟨[v],kw⟩)(ha2:∀x,argsOk "list.sort" ⟨[.ref x],kw⟩)
  (hc:wpAny (model prog w) A.in1 (collect v) (λvs s1=>vs.length<=sizeLine/\wpAny (model prog w) A.in1.in1 (Builtin.«list.sort» ⟨[.ref s1.heap.objs.size],kw⟩) (λfin s'=>fin=.done (.ret .none)/\Q (.ref s1.heap.objs.size) s') E { s1 with heap:=s1.heap.push (seqObj "list" vs.toArray 0) }) E s) :
  wpAny (model prog w) A (call (.builtin "sorted") [v] kw) Q E s:=by
 refine call_function_entry_kw kind_sorted plain_sorted entry_sorted ha1 ?_
 unfold Builtin.«sorted»
 refine Ch (m:=checkCount "sorted" 1 1 _) (Go ?_)
 refine Ch (cD hc (λvs s1 h=>?_) λ_ _ x=>x)
 refine Ch (wpAny_newList ?_ h.1)
 have hoL:(s1.heap.push (seqObj "list" vs.toArray 0)).get? s1.heap.objs.size=some (seqObj "list" vs.toArray 0):=XV _ rfl
 refine Ch (b9 (wpAny_call_entry_kw PyProof.Rows.slot_list_sort ⟨_,hoL,rfl⟩ PyProof.Rows.entry_list_sort (cD h.2 (λfin s' hf=>?_) λ_ _ x=>x) (ha2 _)))
 exact⟨_,hf.1,Go ⟨_,rfl,hf.2⟩⟩
noncomputable def Ib(h:Heap)(D:Addr)(vs:List Value):Heap:=((h.update D (cX λ_=>(#[]:Array Value))).push (seqObj "tuple" vs.toArray 0)).push (seqObj "list" #[] 0)
theorem LN{h:Heap}{D:Addr}{vs:List Value}{b:Addr}{o:Obj}(hb:b≠D)(e:h.get? b=some o):(Ib h D vs).get? b=some o :=
 Ev _ (Ev _ ((cw _ _ (cE hb)).trans e))
theorem Sf{h:Heap}{D:Addr}{vs:List Value}{n:Nat}(ho:h.get? D=some (seqObj "list" vs.toArray n)):∃e1,(Ib h D vs).get? D=some (seqObj "list" #[] e1)/\(h.update D (cX λ_=>(#[]:Array Value))).get? D=some (seqObj "list" #[] e1):=by
 obtain⟨e1,ho1⟩:∃e1,(h.update D (cX λ_=>(#[]:Array Value))).get? D=some (seqObj "list" #[] e1):=⟨_,gT ho λ_=>#[]⟩
 exact⟨e1,Ev _ (Ev _ ho1),ho1⟩
theorem Nw{D:Addr}{vs:List Value}{n:Nat}{P:PySem.Fin->Shared->Prop}{G:Array Nat->Prop}(ho:s.heap.get? D=some (seqObj "list" vs.toArray n))(h64:vs.length<64)
  (hk:2<=vs.length->wpAny (model prog w) A (keyKind' vs.toArray) (λκ s'=>(kas_sort vs.length).kasWp (kas_ask prog w A κ vs) (λp s''=>s''={ s with heap:=Ib s.heap D vs }/\G p) s') (λ_ _=>False) { s with heap:=Ib s.heap D vs })
  (h1:vs.length<2->G (bc (bB vs.length))) (hfin:∀(p:Array Nat) (h':Heap) (c:Nat),p.size=vs.length->G p->(∀b o,b≠D->s.heap.get? b=some o->h'.get? b=some o)->h'.get? D=some (seqObj "list" (bc (p.toList.map λi=>vs.getD i bQ)) c)->P (.done (.ret .none)) { s with heap:=h' }) :
  wpAny (model prog w) A (Builtin.«list.sort» ⟨[.ref D],[]⟩) P E s:=by
 obtain⟨e1,ho6,ho1⟩:=Sf ho
 have fin:∀(p:Array Nat),p.size=vs.length->G p->P (.done (.ret .none)) { s with heap:=(Ib s.heap D vs).update D (cX λ_=>bc (p.toList.map λi=>vs.getD i bQ)) }:=λp hp hg=>by
  obtain⟨c2,hc2⟩:∃c2,((Ib s.heap D vs).update D (cX λ_=>bc (p.toList.map λi=>vs.getD i bQ))).get? D=some (seqObj "list" (bc (p.toList.map λi=>vs.getD i bQ)) c2):=⟨_,gT ho6 λ_=>bc (p.toList.map λi=>vs.getD i bQ)⟩
  exact hfin p _ c2 hp hg (λb o hb e=>(cw _ _ (cE hb)).trans (LN hb e)) hc2
 rw [list_sort_plain]
 refine Ch (listItems_at ho rfl ?_)
 refine Ch (ft ho rfl ?_ (by rw [T0,bu]; omega) (TW _))
 refine Ch (seqEpoch_at ho1 rfl ?_)
 refine Ch (wpAny_newTuple ?_ (by show vs.length<=_; rw [bu]; omega))
 refine Ch (wpAny_newList ?_ (TW _))
 refine b9 ?_
 show wpAny (model prog w) A _ P E { s with heap:=Ib s.heap D vs }
 dsimp only
 by_cases h2:vs.length<2
 ·have h2':vs.toArray.size<2:=by rw [T0]; exact h2
  rw [if_pos h2',if_pos h2']
  refine Ch (Go ?_)
  rw [StateT.run_pure]
  refine Ch (Go ?_)
  dsimp only
  refine Ch (seqEpoch_at ho6 rfl ?_)
  have hsz:(bc (bB vs.length)).size=vs.length:=by simp
  have hout:(arrOf (SortSt.mk' general' (vs.toArray.zip vs.toArray) #[] 7 none)).map (·.2)=bc ((bc (bB vs.length)).toList.map λi=>vs.getD i bQ):=by
   refine kat_snds rfl ?_
   have e:=kas_range (vs.toArray.zip vs.toArray)
   rw [show (vs.toArray.zip vs.toArray).size=vs.length by simp] at e
   exact e.symm
  rw [hout]
  refine Ch (ft ho6 rfl ?_ (TW _) (by rw [T0,Db,bW,hsz,bu]; omega))
  simp only [bne_self_eq_false,bi,if_false]
  exact Go (fin _ hsz (h1 h2))
 ·have h2':¬vs.toArray.size<2:=by rw [T0]; exact h2
  rw [if_neg h2',if_neg h2']
  refine Ch (cD (hk (by omega)) (λκ s0 hk=>?_) λ_ _ x=>x.elim)
  refine Ch (cD (kat_run (Q:=λst' s'=>∃p:Array Nat,p.size=vs.length/\arrOf st'=p.map (kas_item (vs.toArray.zip vs.toArray))/\failedOf st'=none/\s'={ s with heap:=Ib s.heap D vs }/\G p)
   rfl (by omega) h64 (λp' st' s' a1 a2 a3 a4=>⟨p',a1,a2,a3,a4⟩) hk) ?_ λ_ _ e=>e)
  rintro ⟨⟨⟩,st'⟩ s' ⟨p,hp,har,hf,rfl,hg⟩
  dsimp only
  have hout:=kat_snds rfl har
  have hsz:(bc (p.toList.map λi=>vs.getD i bQ)).size=vs.length:=by rw [T0,Db,bW,hp]
  rw [hout]
  refine Ch (seqEpoch_at ho6 rfl ?_)
  refine Ch (ft ho6 rfl ?_ (TW _) (bF (eD hsz) (by rw [bu]; omega)))
  rw [hf]
  simp only [bne_self_eq_false,bi,if_false]
  exact Go (fin p hp hg)
end
section
variable {X:Cx}{pins:List (Addr×Obj)}{σ:L2.St}{H:Hp}{s:Shared}{h':Heap}
structure ae (X:Cx) (pins:List (Addr×Obj)) (D:Addr):Prop where
 new:X.s₀.heap.objs.size<=D
 loc:D≠X.env.locals
 cell:∀x c,X.env.cells.lookup x=some c->c≠D
 pin:∀p∈X.pn++pins,p.1≠D
 fs:D∉X.fs
structure KeysAt (K:Frag) (H:Hp) (vs:List V) (keys:List (List Key)):Prop where
 len:vs.length=keys.length
 at_:∀(i:Nat) (ns:List Key),keys[i]?=some ns->∃a,vs[i]?=some (.ref a)/\SqT K H a (ns.map kOf)
 same:∀x∈keys,∀y∈keys,B3 x y=true
 ne:∀x∈keys,x≠[]
noncomputable def Lv(keys:List (List Key))(ix:List Nat):Prop:=ix.Perm (bB keys.length)/\∀i j,i<=j->j<keys.length->Cv (keys.getD (ix.getD j 0) []) (keys.getD (ix.getD i 0) [])=false
theorem KeysAt.tups{vs:List V}{us:List Value}{keys:List (List Key)}(I:Inv X pins σ H s)(r:Vals vs us)(k:KeysAt X.K H vs keys){h':Heap}(hk:∀b o,s.heap.get? b=some o->h'.get? b=some o):Ql h' us keys:=by
 refine⟨λi ns e=>?_,r.length.symm.trans k.len,k.same,k.ne⟩
 obtain⟨a,e1,h1⟩:=k.at_ i ns e
 obtain⟨u,e2,r2⟩:=r.get e1
 cases r2
 obtain⟨its,r3,⟨o,ho,hc,n,hd⟩,_⟩:=I.tuple h1
 exact⟨a,o,its.toArray,n,e2,hk a o ho,hc,hd,by rw [List.toList_toArray]; exact r3⟩
theorem LJ:∀{vs:List V} {us:List Value},Vals vs us->∀i:Nat,RelV (vs.getD i .non) (us.getD i bQ)
 | _,_,.nil,i=>by simp [RelV]
 | _,_,.cons r t,0=>by simpa using r
 | _,_,.cons r t,i+1=>by simpa using LJ t i
theorem NH{f:Nat->V}{g:Nat->Value}(h:∀i,RelV (f i) (g i)):∀ix:List Nat,Vals (ix.map f) (ix.map g)
 | []=>.nil
 | i::ix=>.cons (h i) (NH h ix)
theorem getD_list(p:Array Nat)(i:Nat):p.getD i 0=p.toList.getD i 0:=by simp
theorem XI{keys:List (List Key)}{n:Nat}{p:Array Nat}(hn:keys.length=n)(h1:p.Perm (bc (bB n)))(h2:So.Srt VN (λi=>keys.getD i []) p n):Lv keys p.toList:=by
 subst hn
 refine⟨Array.perm_iff_toList_perm.mp h1,λi j hij hj=>?_⟩
 have h:=h2 i j hij hj
 unfold So.KN at h
 rw [getD_list,getD_list] at h
 exact h
theorem LM{A':Around}{E':Value->Shared->Prop}{vs:List V}{us:List Value}{keys:List (List Key)}{Q:VK}(I:Inv X pins σ H s)(r:Vals vs us)(h64:vs.length<64)(k:KeysAt X.K H vs keys)
  (q:∀(ix:List Nat) (l:Addr),Lv keys ix->H l=none->Q (.ref l) (BN H l (.lst (ix.map λi=>vs.getD i .non)))) :
  wpAny (model X.prog X.w) A' (Builtin.«list.sort» ⟨[.ref s.heap.objs.size],[]⟩) (λfin s'=>fin=.done (.ret .none)/\EP X pins σ Q (.ref s.heap.objs.size) s') E' { s with heap:=s.heap.push (seqObj "list" us.toArray 0) }:=by
 have hl:=r.length
 have hkl:keys.length=us.length:=k.len.symm.trans hl
 refine Nw (G:=λp=>p.Perm (bc (bB us.length))/\So.Srt VN (λi=>keys.getD i []) p us.length) (n:=0) (XV _ rfl) (by omega) (λh2=>?_) (λh1=>⟨iA _,λi j hij hj=>?_⟩) (λp h' c hp hg hold hD=>⟨rfl,?_⟩)
 ·refine Qq (keys:=keys) (k.tups I r λb o e=>?_) h2 (λp a b=>⟨rfl,a,b⟩)
  exact LN (bG (ZB e)) (Ev _ e)
 ·have:i=j:=by omega
  subst this
  exact cU _
 ·have hf:H s.heap.objs.size=none:=I.fresh
  have hix:(p.toList.map λi=>vs.getD i .non).length=us.length:=by rw [Db,bW,hp]
  refine⟨.ref s.heap.objs.size,BN H s.heap.objs.size (.lst (p.toList.map λi=>vs.getD i .non)),I.laid (t':=s.toks) (λb o e=>hold b o (bG (ZB e)) (Ev _ e)) (No _) ⟨by rw [hix,← hl,bu]; omega,_,c,NH (LJ r) p.toList,hD⟩,rfl,q _ _ (XI hkl hg.1 hg.2) hf⟩
theorem OL{prog:Program}{w:World}{A:Around}{E:Value->Shared->Prop}{s:Shared}{l:Addr}{vs:List Value}{Q:List Value->Shared->Prop}(hl:IsTup s.heap l vs.toArray)
  (h:Q vs { s with heap:=(s.heap.push (seqObj "list" #[] 0)).update s.heap.objs.size (cX (·++vs.toArray)) }) (hsz:vs.length<=sizeLine) :
  wpAny (model prog w) A (collect (.ref l)) Q E s:=by
 obtain⟨o,ho,hc,n,hd⟩:=id hl
 unfold collect
 refine Ch (wpAny_runValue (eA entry_proto_collect' ?_))
 show wpAny _ _ (do again (.builtin "list.__iadd__" ⟨[← newList [],.ref l],[]⟩)) _ _ s
 refine Ch (wpAny_newList (Go ⟨Code.quiet_builtin _ (by decide +kernel),eA entry_list_iadd' ?_⟩))
 show wpAny _ _ (fe (.ref s.heap.objs.size) (.ref l) (.ref s.heap.objs.size)) _ _ { s with heap:=s.heap.push (seqObj "list" #[] 0) }
 unfold fe
 have ho':(s.heap.push (seqObj "list" #[] 0)).get? l=some o:=Ev _ ho
 refine Ch (da (T := "tuple") ⟨o,ho',hc⟩ ?_)
 have ht:(f_ "tuple"==f_ "tuple")=true:=by rfl
 rw [if_pos (by rw [ht]; simp)]
 refine Ch (listItems_at ho' hd ?_)
 refine Ch (listItems_at (xs:=#[]) (n:=0) (XV _ rfl) rfl ?_)
 rw [if_neg (by simp)]
 refine Ch (ft (xs:=#[]) (n:=0) (XV _ rfl) rfl ?_ (TW _) (by show (#[]++vs.toArray).size<=sizeLine+1; simp only [Array.size_append,T0,cG]; omega))
 refine Go ?_
 show wpAny (model prog w) A (do
   let o ← load s.heap.objs.size
   match o.data with
   | .seq xs _=>pure xs.toList
   | _=>unsupported "internal:collect") Q E { s with heap:=(s.heap.push (seqObj "list" #[] 0)).update s.heap.objs.size (cX (·++vs.toArray)) }
 refine Ch (wpAny_load (gT (XV _ rfl) _) ?_)
 show wpAny _ _ (pure ((#[]:Array Value)++vs.toArray).toList) Q E _
 rw [show ((#[]:Array Value)++vs.toArray).toList=vs by simp]
 exact Go h
theorem OM{h:Heap}{g:Array Value->Array Value}{b:Addr}{o:Obj}(e:h.get? b=some o):((h.push (seqObj "list" #[] 0)).update h.objs.size (cX g)).get? b=some o :=
 (cw _ _ (cE (bG (ZB e)))).trans (Ev _ e)
theorem UQ{κ:Bool}{A':Around}{E':Value->Shared->Prop}{p:Addr}{vs:List V}{Q:List Value->Shared->Prop}(I:Inv X pins σ H s)(h:SqK κ X.K H p vs)(q:∀us s1,Vals vs us->vs.length<=sizeLine->Inv X pins σ H s1->Q us s1) :
  wpAny (model X.prog X.w) A' (collect (.ref p)) Q E' s:=by
 cases κ with
 | true =>
  obtain⟨its,r,pl,hz⟩:=I.list h
  exact collect_list pl.isList (q its _ r hz (I.kept (t':=s.toks) λb o e=>OM e)) (by rw [← r.length]; exact hz)
 | false =>
  obtain⟨its,r,pl,hz⟩:=I.tuple h
  exact OL pl (q its _ r hz (I.kept (t':=s.toks) λb o e=>OM e)) (by rw [← r.length]; exact hz)
noncomputable def Sx(K:Frag):List V->Hp->VK->Prop:=λxs H Q=>∃(κ:Bool) (p:Addr) (vs:List V) (keys:List (List Key)),xs=[.ref p]/\SqK κ K H p vs/\vs.length<64/\KeysAt K H vs keys /\
 ∀(ix:List Nat) (l:Addr),Lv keys ix->H l=none->Q (.ref l) (BN H l (.lst (ix.map λi=>vs.getD i .non)))
theorem Pb:CV X (.builtin "sorted") (Sx X.K):=by
 intro pins s σ H xs us Q I r h
 obtain⟨κ,p,vs,keys,rfl,hq,h64,hk,q⟩:=h
 obtain⟨u,rfl,rx⟩:=vals1 r
 cases rx
 refine HG (kw:=[]) (args_sorted1 _) (λx=>args_list_sort _) (UQ I hq λus s1 r1 hz I1=>⟨by rw [← r1.length]; exact hz,?_⟩)
 exact LM I1 r1 h64 hk q
end
end L2
namespace L2
open PySem PySem.Spec PyProof.Rows
noncomputable def Vc(H:Hp)(L:List Addr)(f:Addr->Obj):Hp:=λb=>if b∈L then (H b).map (HO.frz (f b)) else H b
theorem N9{H:Hp}{L:List Addr}{f:Addr->Obj}{b:Addr}(h:b∉L):Vc H L f b=H b:=by unfold Vc; rw [if_neg h]
section
variable {X:Cx}{pins:List (Addr×Obj)}{σ:L2.St}{H:Hp}{s:Shared}
end
end L2
namespace Nt
open PySem PySem.Spec PyProof.Rows L2 Dp
noncomputable def Zu(ts:List A0)(p:Str):List (Str×Int):=ts.flatMap λt=>(if t.a=p then [(t.b,t.len)] else [])++(if t.b=p then [(t.a,t.len)] else [])
structure ai (H:Hp) (d:Addr) (as:List (Str×Addr)) (tb:Str->List (Key×V)) (H':Hp):Prop where
 old:∀b o,H b=some o->H' b=some o
 new:H d=none
 top:H' d=some (.dK (as.map λx=>(.inr x.1,.ref x.2)))
 inn:∀x∈as,H x.2=none/\x.2≠d/\H' x.2=some (.dK (tb x.1))
 ads:(as.map (·.2)).Nodup
 nms:(as.map (·.1)).Nodup
theorem HN{xs:List Str}(h:rising xs):xs.Nodup:=h.imp λ{a b} hlt e=>by rw [e] at hlt; exact di _ hlt
end Nt
namespace L2
open PySem PySem.Spec PyProof.Rows PySem.W
section
variable {X:Cx}{pins:List (Addr×Obj)}{σ:L2.St}{H:Hp}{s:Shared}{h':Heap}
theorem Ni{α β:Type}{F:α->β->Prop}:∀{l₁:List α} {l₂:List β} {j:Nat} {a:α} {b:β},Paired F l₁ l₂->l₁[j]?=some a->l₂[j]?=some b->F a b
 | _,_,_,_,_,.nil,h,_=>by simp at h
 | _,_,0,_,_,.cons r t,h1,h2=>by
  have h1:=Uf (by simpa using h1)
  have h2:=Uf (by simpa using h2)
  subst h1 h2
  exact r
 | _,_,j+1,_,_,.cons r t,h1,h2=>Ni (j:=j) t (by simpa using h1) (by simpa using h2)
theorem LH:∀as:List Addr,Vals (as.map V.ref) (as.map bT)
 | []=>.nil
 | a::as=>.cons rfl (LH as)
end
end L2
namespace Dp
open PySem PySem.Spec PyProof.Rows L2
section
variable {X:Cx}{K:Frag}
noncomputable def QP(ds:List D)(P:D->Prop):Prop:=match ds with
 | [.int i,.int j]=>P (.int (if j > i then j else i))
 | _=>False
noncomputable def OA(ds:List D)(P:D->Prop):Prop:=match ds with
 | [.int i,.int j]=>P (.int (if j<i then j else i))
 | _=>False
noncomputable def T7(ds:List D)(P:D->Prop):Prop:=match ds with
 | [.int i]=>P (.int (if i<0 then -i else i))
 | _=>False
theorem UZ:C6 K .sh (λxs H Q=>∃i j,xs=[.int i,.int j]/\Q (.int (if j > i then j else i)) H) QP:=by
 intro U M H ds vs P Q dom vM hp w q
 unfold QP at w
 split at w
 ·rename_i i j
  cases hp with
  | cons r1 r2=>cases r2 with
   | cons r3 r4 =>
    cases r4
    cases r1.int
    cases r3.int
    exact⟨i,j,rfl,q _ H (.int _) .refl rfl w⟩
 ·exact w.elim
theorem M6:C6 K .sh (λxs H Q=>∃i j,xs=[.int i,.int j]/\Q (.int (if j<i then j else i)) H) OA:=by
 intro U M H ds vs P Q dom vM hp w q
 unfold OA at w
 split at w
 ·rename_i i j
  cases hp with
  | cons r1 r2=>cases r2 with
   | cons r3 r4 =>
    cases r4
    cases r1.int
    cases r3.int
    exact⟨i,j,rfl,q _ H (.int _) .refl rfl w⟩
 ·exact w.elim
theorem Ue:C6 K .sh (λxs H Q=>∃i,xs=[.int i]/\Q (.int (if i<0 then -i else i)) H) T7:=by
 intro U M H ds vs P Q dom vM hp w q
 unfold T7 at w
 split at w
 ·rename_i i
  cases hp with
  | cons r1 r2 =>
   cases r2
   cases r1.int
   exact⟨i,rfl,q _ H (.int _) .refl rfl w⟩
 ·exact w.elim
end
noncomputable def KR:D->Option (List Key)
 | .tup xs=>KQ xs
 | _=>none
noncomputable def OY(kf:D->Option (List Key))(xs:List D):Prop:=xs.Pairwise λa b=>∀ka kb,kf a=some ka->kf b=some kb->Cv kb ka=false
noncomputable def Keyed(kf:D->Option (List Key))(xs:List D):Prop:=(∀x∈xs,∃k,kf x=some k/\k≠[])/\∀x∈xs,∀y∈xs,∀ka kb,kf x=some ka->kf y=some kb->B3 ka kb=true
theorem range_getD(xs:List D):(bB xs.length).map (λi=>xs.getD i .non)=xs:=by
 apply List.ext_getElem
 ·simp
 ·intro i h1 h2
  simp [h2]
theorem VM{kf:D->Option (List Key)}{xs:List D}{keys:List (List Key)}{ix:List Nat}(hl:keys.length=xs.length)(hk:∀(i:Nat) (x:D),xs[i]?=some x->∃k,keys[i]?=some k/\kf x=some k)(h:Lv keys ix) :
  (ix.map λi=>xs.getD i .non).Perm xs/\OY kf (ix.map λi=>xs.getD i .non):=by
 obtain⟨hp,hs⟩:=h
 constructor
 ·have:=hp.map λi=>xs.getD i D.non
  rw [hl,range_getD] at this
  exact this
 ·unfold OY
  rw [dC]
  intro i j hi hj hij ka kb ea eb
  rw [gI] at ea eb
  rw [Db] at hi hj
  have il:ix.length=keys.length:=by rw [hp.length_eq,bz]
  have g:∀i (h:i<ix.length) k,kf (xs.getD ix[i] .non)=some k->keys.getD (ix.getD i 0) []=k:=λi h k e=>by
   have hm:ix[i]<keys.length:=bU.mp (hp.mem_iff.mp (cB h))
   have hx:ix[i]<xs.length:=by rw [← hl]; exact hm
   obtain⟨k',e1,e2⟩:=hk ix[i] xs[ix[i]] (FM hx)
   have e3:xs.getD ix[i] .non=xs[ix[i]]:=by rw [ax,FM hx]; rfl
   rw [e3,e2] at e
   have e4:ix.getD i 0=ix[i]:=by rw [ax,FM h]; rfl
   rw [e4,ax,e1]
   exact Uf e
  have:=hs i j (eC hij) (by rw [← il]; exact hj)
  rw [g i hi ka ea,g j hj kb eb] at this
  exact this
theorem LY{kf:D->Option (List Key)}:∀{xs:List D},(∀x∈xs,∃k,kf x=some k/\k≠[])->∃keys:List (List Key),keys.length=xs.length/\(∀(i:Nat) (x:D),xs[i]?=some x->∃k,keys[i]?=some k/\kf x=some k/\k≠[])
 | [],_=>⟨[],rfl,λi x e=>by simp at e⟩
 | x::xs,h=>by
  obtain⟨k,e1,e2⟩:=h x On
  obtain⟨keys,l,g⟩:=LY (xs:=xs) λy hy=>h y (TM _ hy)
  refine⟨k::keys,by rw [Tk,Tk,l],λi y e=>?_⟩
  cases i with
  | zero =>
   have e:x=y:=by simpa using e
   subst e
   exact⟨k,rfl,e1,e2⟩
  | succ i =>
   obtain⟨k',a,b⟩:=g i y (by simpa using e)
   exact⟨k',by simpa using a,b⟩
section
variable {K:Frag}{M:Addr->Prop}{H:Hp}
theorem Ats.getD:∀{ds:List D} {vs:List V},Ats K M H ds vs->∀i:Nat,At K M H (ds.getD i .non) (vs.getD i .non)
 | [],vs,h,i=>by cases (show vs=[] from h); simp [At]
 | d::ds,vs,h,0=>by
  obtain⟨v,r,e,h1,h2⟩:=h
  subst e
  simpa using h1
 | d::ds,vs,h,i+1=>by
  obtain⟨v,r,e,h1,h2⟩:=h
  subst e
  simpa using Ats.getD h2 i
theorem Ats.pick{ds:List D}{vs:List V}(h:Ats K M H ds vs):∀ix:List Nat,Ats K M H (ix.map λi=>ds.getD i .non) (ix.map λi=>vs.getD i .non)
 | []=>rfl
 | i::ix=>⟨_,_,rfl,h.getD i,Ats.pick h ix⟩
theorem RT{kf:D->Option (List Key)}{ds:List D}{vs:List V}{keys:List (List Key)}(hkf:∀d k v,d∈ds->kf d=some k->At K M H d v->∃a,v=.ref a/\SqT K H a (k.map kOf))(hs:Ats K M H ds vs)(hK:Keyed kf ds)(hl:keys.length=ds.length)(hk:∀(i:Nat) (x:D),ds[i]?=some x->∃k,keys[i]?=some k/\kf x=some k/\k≠[]):KeysAt K H vs keys:=by
 have from_:∀(i:Nat) (ns:List Key),keys[i]?=some ns->∃x,ds[i]?=some x/\kf x=some ns/\ns≠[]:=λi ns e=>by
  have hi:i<ds.length:=by rw [← hl]; exact(au.mp e).1
  obtain⟨k,e1,e2,e3⟩:=hk i ds[i] (FM hi)
  rw [e] at e1
  cases e1
  exact⟨ds[i],FM hi,e2,e3⟩
 refine⟨hs.length.trans hl.symm,λi ns e=>?_,λx hx y hy=>?_,λx hx=>?_⟩
 ·obtain⟨d,e1,e2,_⟩:=from_ i ns e
  obtain⟨v,e3,h3⟩:=hs.get e1
  obtain⟨a,rfl,h4⟩:=hkf d ns v (bY e1) e2 h3
  exact⟨a,e3,h4⟩
 ·obtain⟨i,hi⟩:=ce.mp hx
  obtain⟨j,hj⟩:=ce.mp hy
  obtain⟨d,e1,e2,_⟩:=from_ i x hi
  obtain⟨d',e1',e2',_⟩:=from_ j y hj
  exact hK.2 d (bY e1) d' (bY e1') x y e2 e2'
 ·obtain⟨i,hi⟩:=ce.mp hx
  obtain⟨d,e1,e2,e3⟩:=from_ i x hi
  exact e3
theorem RU{d:D}{k:List Key}{v:V}(e:KR d=some k)(h:At K M H d v):∃a,v=.ref a/\SqT K H a (k.map kOf):=by
 cases d with
 | tup xs =>
  obtain⟨a,vs,e1,hn,hs⟩:=h
  have:=Hd (show KQ xs=some k from e) hs
  subst this
  exact⟨a,e1,hn.sq⟩
 | _=>cases e
noncomputable def Tw(ds:List D)(P:D->Prop):Prop:=∃d xs,ds=[d]/\Qw d=some xs/\xs.length<64/\Keyed KR xs/\∀xs':List D,xs'.Perm xs->OY KR xs'->P (.lst xs')
theorem V4:C6 K .fr (Sx K) Tw:=by
 intro U M H ds vs P Q dom vM hp w q
 obtain⟨d,xs,rfl,e,h64,hK,w⟩:=w
 obtain⟨v,rfl,hx⟩:=DV hp
 obtain⟨κ,a,us,rfl,hs,sq⟩:=Ot (U:=U) hx e (λ_ z=>z) vM
 obtain⟨keys,hl,hk⟩:=LY hK.1
 refine⟨κ,a,us,keys,rfl,sq M H (Pres.refl _ _) (Ext.refl _ _),by rw [hs.length]; exact h64,RT (λd k v _=>RU) hs hK hl hk,λix l ho hn=>?_⟩
 obtain⟨o1,o2⟩:=VM (kf:=KR) hl (λi x e=>by obtain⟨k,a,b,_⟩:=hk i x e; exact⟨k,a,b⟩) ho
 exact q _ _ (.lst (ix.map λi=>xs.getD i .non)) (BD hn) (Co hn (hs.pick ix)) (w _ o1 o2)
end
section
variable {X:Cx}{a e:Expr}{κa:Kd}{wa:DW}{pos p fp kp apos cpos:Pos}
noncomputable def Z4:Key->D
 | .inl i=>.int i
 | .inr x=>.str x
noncomputable def He:Key->Prop
 | .inl _=>True
 | .inr x=>x.length<=sizeLine
theorem Xs{K:Frag}{M:Addr->Prop}{H:Hp}{k:Key}(h:He k):At K M H (Z4 k) (kOf k):=by
 cases k with
 | inl i=>exact rfl
 | inr x=>exact⟨rfl,h⟩
end
end Dp
namespace L2
open PySem PySem.Spec PyProof.Rows
section
open PySem.MeetsSeq
open PySem.AutoSeq1 (wpAny_loadPart')
end
section
variable {X:Cx}
end
end L2
namespace Dp
open PySem PySem.Spec PyProof.Rows L2
noncomputable def SA(c:Jk)(wb:Aj):Aj:=λD2 n ρ=>∃W:Nat->Nat->List Slot->Prop,(∃m,W m n ρ)/\∀m n ρ,W m n ρ ->
 c n ρ λb n1=>if b=true then ∃N:Nat->List Slot->Prop,(∀n' ρ',N n' ρ'->∃m',m'<m/\W m' n' ρ')/\wb { D2 with nx:=N,ct:=N,bk:=D2.nx } n1 ρ else D2.nx n1 ρ
section
variable {X:Cx}{κ:Kd}{c:Expr}{body:List Stmt}{wc:Jk}{wb:Aj}{pos:Pos}
theorem UG(hp:PassesOwn (model X.prog X.w) X.A X.env X.xe)(hc:DT X c wc)(hb:Ry X κ body wb):DS X κ (.While c body [] pos) (SA wc wb):=by
 obtain⟨tc,c1,c2⟩:=hc
 obtain⟨tb,b1,b2⟩:=hb
 refine⟨_,S6 hp c1 b1,λC M H n ρ σ D2 E R L w=>?_⟩
 obtain⟨W,⟨m0,w0⟩,turn⟩:=w
 refine⟨λm σ' H'=>∃M' n' ρ',Rel X.K C M' H' n' ρ' σ'/\W m n' ρ',⟨m0,M,n,ρ,R,w0⟩,?_⟩
 rintro m σ' H' ⟨M',n',ρ',R',w'⟩
 refine c2 C M' H' n' ρ' σ' _ _ R' (turn m n' ρ' w') λb H2 n2 e f p=>?_
 have R2:=R'.step e f
 cases b with
 | true =>
  rw [if_pos rfl] at p ⊢
  obtain⟨N,hN,p⟩:=p
  refine⟨λσ3 H3=>∃M3 n3 ρ3,Rel X.K C M3 H3 n3 ρ3 σ3/\N n3 ρ3,λσ3 H3 ⟨M3,n3,ρ3,R3,w3⟩=>?_,?_⟩
  ·obtain⟨m',hm,w4⟩:=hN n3 ρ3 w3
   exact⟨m',hm,M3,n3,ρ3,R3,w4⟩
  ·exact b2 C M' H2 n2 ρ' σ' { D2 with nx:=N,ct:=N,bk:=D2.nx } _ R2 ⟨λM4 H4 n4 ρ4 σ4 R4 w4=>⟨M4,n4,ρ4,R4,w4⟩,L.rt,λM4 H4 n4 ρ4 σ4 R4 w4=>L.nx M4 H4 n4 ρ4 σ4 R4 w4,λM4 H4 n4 ρ4 σ4 R4 w4=>⟨M4,n4,ρ4,R4,w4⟩⟩ p
 | false =>
  rw [if_neg (by decide)] at p ⊢
  exact L.nx M' H2 n2 ρ' σ' R2 p
end
noncomputable def V_(i:Nat)(b:BW)(body:Aj):Aj:=λD2 n ρ=>∃ds,ρ[i]?=some (.ow (.lst ds))/\∀a,B8 b body { D2 with nx:=λn ρ=>ρ[i]?=some (.lt a (.lst ds))/\D2.nx n (ρ.set i (.ow (.lst ds))) } ds n (ρ.set i (.lt a (.lst ds)))
section
variable {X:Cx}{κ:Kd}{tg:Expr}{body:List Stmt}{b:BW}{wb:Aj}{pos p:Pos}{x:Str}{i:Nat}
theorem Vs(hp:PassesOwn (model X.prog X.w) X.A X.env X.xe)(hc:X.calm=true)(h:PE X (.Name x p) (BU i))(hg:DG X tg b)(hb:Ry X κ body wb)
  (hs:autoParam (∀y,foldedSetIterable (.Name x p) X.env y=pure y) zau2._auto_1):DS X κ (.For tg (.Name x p) body [] pos) (V_ i b wb):=by
 obtain⟨g,g1,g2⟩:=hg
 obtain⟨tb,b1,b2⟩:=hb
 refine⟨_,G1 hp hc (MM h) g1 b1 hs,λC M H n ρ σ D2 E R L w=>?_⟩
 obtain⟨ds,hi,w⟩:=w
 obtain⟨a,e1,hm,nv,vs,hH,hat⟩:=R.sl i _ hi
 have hk:∀q∈C.kp,q.1≠a:=λq hq z=>(R.kept q hq).2.2.2 i _ hi (by rw [e1,z])
 have R1:=(R.lend hi e1 hH).pinned
 refine⟨.ref a,getD_some e1,.inl ⟨a,rfl,⟨vs,.inl (.inl hH)⟩,?_⟩⟩
 have w1:=w a
 generalize hD3:({ D2 with nx:=λn ρ=>ρ[i]?=some (.lt a (.lst ds))/\D2.nx n (ρ.set i (.ow (.lst ds))) }:E2)=D3 at w1
 have L3:∀M H n ρ σ,Rel X.K { C with kp:=(a,.lst vs)::C.kp } M H n ρ σ->D3.nx n ρ->E.nx σ H:=λM H n ρ σ R w=>by
  rw [← hD3] at w
  exact L.nx M H n _ σ (R.unlend w.1 hk) w.2
 have Lrt:D3.rt=D2.rt:=by rw [← hD3]
 refine⟨λk m σ' H'=>m=ds.length - k/\k<=ds.length/\∃M' n' ρ',Rel X.K { C with kp:=(a,.lst vs)::C.kp,pins:=(M,H)::C.pins } M' H' n' ρ' σ'/\B8 b wb D3 (ds.drop k) n' ρ',⟨ds.length,by simp,TW _,M,n,_,R1,w1⟩,?_⟩
 rintro k m σ' H' ⟨rfl,hkl,M',n',ρ',R',w'⟩
 have pr:Pres M H M' H':=R'.pin (M,H) On
 have ha':H' a=some (.lst vs):=(R'.kept (a,.lst vs) On).1
 have hq:SqL X.K H' a vs:=.inl (.inl ha')
 by_cases hlt:k<ds.length
 ·have ed:ds.drop k=ds[k]::ds.drop (k+1):=cC hlt
  rw [ed] at w'
  obtain⟨v,ev,hv⟩:=(hat.pres pr).get (FM hlt)
  refine .inr ⟨⟨vs,v,hq,ev⟩,λσ2 H2=>∃M2 n2 ρ2,Rel X.K { C with kp:=(a,.lst vs)::C.kp,pins:=(M,H)::C.pins } M2 H2 n2 ρ2 σ2/\B8 b wb D3 (ds.drop (k+1)) n2 ρ2,λσ2 H2 ⟨M2,n2,ρ2,R2',w2⟩=>⟨ds.length - (k+1),by omega,rfl,hlt,M2,n2,ρ2,R2',w2⟩,λy H2 hy=>?_⟩
  obtain⟨e2,hy⟩:=hy
  subst e2
  have:some v=some y:=ev.symm.trans (hy vs hq)
  cases this
  refine g2 _ M' H2 n' ρ' σ' ds[k] v _ _ R' hv w' λρ3 σ3 R3 w3=>?_
  refine b2 _ M' H2 n' ρ3 σ3 { D3 with nx:=B8 b wb D3 (ds.drop (k+1)),ct:=B8 b wb D3 (ds.drop (k+1)),bk:=D3.nx } _ R3 ⟨λM4 H4 n4 ρ4 σ4 R4 w4=>⟨M4,n4,ρ4,R4,w4⟩,λv H d n e f r p=>L.rt v H d n e f r (by rw [← Lrt]; exact p),λM4 H4 n4 ρ4 σ4 R4 w4=>L3 M4 H4 n4 ρ4 σ4 R4.unpin w4,λM4 H4 n4 ρ4 σ4 R4 w4=>⟨M4,n4,ρ4,R4,w4⟩⟩ w3
 ·have e:k=ds.length:=by omega
  subst e
  rw [eV] at w'
  exact .inl ⟨⟨vs,hq,by rw [hat.length]; exact No _⟩,L3 M' H' n' ρ' σ' R'.unpin w'⟩
end
end Dp
namespace Nt
open PySem PySem.Spec PyProof.Rows L2 Dp
noncomputable def YN(s t:A0):Decidable (s=t) :=
 if h:s.a=t.a/\s.b=t.b/\s.len=t.len then .isTrue (by obtain⟨a,b,l⟩:=s; obtain⟨a',b',l'⟩:=t; obtain⟨h1,h2,h3⟩:=h; simp only at h1 h2 h3; subst h1 h2 h3; rfl) else .isFalse λe=>h (by rw [e]; exact⟨rfl,rfl,rfl⟩)
noncomputable instance:DecidableEq A0:=YN
noncomputable abbrev EF(Pd:D->Nat->Prop):E2:={ nx:=λn _=>Kd.fr=.sh/\Pd .non n,rt:=Pd }
noncomputable def Yb(t:A0):List Key:=[.inl t.len,.inr t.a,.inr t.b]
noncomputable def Xx(ts:List A0):Prop:=ts.Pairwise λs t=>Cv (Yb t) (Yb s)=false
theorem QB{α:Type}{R:α->α->Prop}(anti:∀a b,R a b->R b a->a=b):∀{l1 l2:List α},l1.Perm l2->l1.Pairwise R->l2.Pairwise R->l1=l2
 | [],l2,p,_,_=>(List.nil_perm.mp p).symm
 | a::l1,[],p,_,_=>absurd (List.perm_nil.mp p) (List.cons_ne_nil _ _)
 | a::l1,b::l2,p,h1,h2=>by
  have e:a=b:=by
   rcases aq.mp (p.mem_iff.mp On) with e | h
   ·exact e
   ·rcases aq.mp (p.mem_iff.mpr (On (a:=b) (l:=l2))) with e | h'
    ·exact e.symm
    ·exact anti a b ((bj.mp h1).1 b h') ((bj.mp h2).1 a h)
  subst e
  rw [QB anti ((List.perm_cons a).mp p) (bj.mp h1).2 (bj.mp h2).2]
theorem YK{α:Type}{f:α->D}{g:D->α}(hg:∀x,g (f x)=x){xs:List D}{ts:List α}(h:xs.Perm (ts.map f)):∃ts':List α,ts'.Perm ts/\xs=ts'.map f:=by
 refine⟨xs.map g,?_,?_⟩
 ·have:=h.map g
  rw [bS,show g∘f=id from funext hg,fV] at this
  exact this
 ·rw [bS]
  have:∀x∈xs,(f∘g) x=x:=λx hx=>by
   obtain⟨t,_,rfl⟩:=UF.mp (h.mem_iff.mp hx)
   show f (g (f t))=f t
   rw [hg]
  rw [bX this,List.map_id']
noncomputable def Z3:D->A0
 | .tup [.str a,.str b,.int l]=>⟨a,b,l⟩
 | _=>⟨"","",0⟩
section
variable {ss:List Slot}{n:Nat}{Pd:D->Nat->Prop}
theorem PF{N:Net}(ok:N.Ok){x:Str}{p:Str×Int}(h:p∈Zu N.ts x):p.1∈N.ps/\1<=p.2/\p.2<=1000000/\∃t∈N.ts,t.len=p.2/\((t.a=x/\t.b=p.1)\/(t.b=x/\t.a=p.1)):=by
 unfold Zu at h
 obtain⟨t,ht,h⟩:=eZ.mp h
 obtain⟨m1,m2,m3,m4,m5⟩:=ok.tin t ht
 rcases bD.mp h with h | h
 ·split at h
  ·rename_i e
   rw [ay.mp h]
   exact⟨m2,m4,m5,t,ht,rfl,.inl ⟨e,rfl⟩⟩
  ·cases h
 ·split at h
  ·rename_i e
   rw [ay.mp h]
   exact⟨m1,m4,m5,t,ht,rfl,.inr ⟨e,rfl⟩⟩
  ·cases h
theorem JQ(s t:A0):Bw (Ag s) (Ag t)=true↔s=t:=by
 obtain⟨a,b,l⟩:=s
 obtain⟨a',b',l'⟩:=t
 show (a==a'&&(b==b'&&(l==l'&&true)))=true↔_
 rw [dN,az,az,beq_iff_eq,beq_iff_eq,beq_iff_eq]
 constructor
 ·rintro ⟨rfl,rfl,rfl⟩; rfl
 ·rintro h; cases h; exact⟨rfl,rfl,rfl⟩
theorem RR{xs:List D}(h:∀d∈xs,item d):B9 (.lst xs):=by
 have d1:Fx xs<=1:=dps_le.mpr λd hd=>(h d hd).2.2
 exact IP (B:=1000001) (by decide) (fines_iff.mpr λd hd=>(h d hd).1) (by show Fx xs+1<=100; omega)
end
noncomputable def JA(t:A0):List Key:=[.inr t.a,.inr t.b,.inl t.len]
noncomputable def OQ(ts:List A0):Prop:=ts.Pairwise λs t=>Cv (JA t) (JA s)=false
noncomputable def YM(N:Net)(d:D):Prop:=∃s∈N.ts,d=Ag s
noncomputable def GV(N:Net)(d:D):Bool:=@decide (YM N d) (dL _)
theorem tofB_iff{N:Net}{d:D}:GV N d=true↔YM N d:=by
 unfold GV
 exact @decide_eq_true_iff _ (dL _)
theorem WX{a:Str}{x:D}(h:Bw (.str a) x=true):x=.str a:=by
 cases x with
 | str b =>
  have h:(a==b)=true:=h
  rw [eq_of_beq h]
 | _=>cases h
theorem QR{a:Str}{x:D}(h:Bw x (.str a)=true):x=.str a:=by
 cases x with
 | str b =>
  have h:(b==a)=true:=h
  rw [eq_of_beq h]
 | _=>cases h
theorem Il:∀{xs:List D} {ps:List Str},fu (BC xs) (BC (ps.map .str))=true->xs=ps.map .str
 | [],[],_=>rfl
 | [],_::_,h=>by cases h
 | _::_,[],h=>by cases h
 | x::xs,p::ps,h=>by
  have h:(b_ (toPy x) (toPy (.str p))&&fu (BC xs) (BC (ps.map .str)))=true:=h
  rw [az] at h
  rw [QR (a:=p) (x:=x) h.1,Il h.2]
  rfl
theorem eqvAll_refl:∀ps:List Str,fu (BC (ps.map .str)) (BC (ps.map .str))=true
 | []=>rfl
 | p::ps=>by
  show ((p==p)&&fu (BC (ps.map .str)) (BC (ps.map .str)))=true
  rw [beq_self_eq_true,eqvAll_refl ps]
  rfl
theorem T9{p:D}{ps:List Str}:Bw p (.tup (ps.map .str))=true↔p=.tup (ps.map .str):=by
 constructor
 ·intro h
  cases p with
  | tup xs=>rw [Il (xs:=xs) (ps:=ps) h]
  | _=>cases h
 ·rintro rfl
  exact eqvAll_refl ps
theorem Lg{s:A0}{d:D}(h:Bw (Ag s) d=true):∃z,d=.tup [.str s.a,.str s.b,z]/\∀i,z=.int i->i=s.len:=by
 cases d with
 | tup xs =>
  match xs,h with
  | [x,y,z],h =>
   have h:(b_ (toPy (.str s.a)) (toPy x)&&(b_ (toPy (.str s.b)) (toPy y)&&(b_ (.int s.len) (toPy z)&&true)))=true:=h
   rw [dN,az,az] at h
   refine⟨z,by rw [WX (a:=s.a) (x:=x) h.1,WX (a:=s.b) (x:=y) h.2.1],λi e=>?_⟩
   subst e
   have h3:(s.len==i)=true:=h.2.2
   exact(eq_of_beq h3).symm
  | [],h=>cases h
  | [x],h=>exact absurd h (by show ¬((b_ (toPy (.str s.a)) (toPy x)&&false)=true); simp)
  | [x,y],h=>exact absurd h (by show ¬((b_ (toPy (.str s.a)) (toPy x)&&(b_ (toPy (.str s.b)) (toPy y)&&false))=true); simp)
  | x::y::z::u::r,h=>exact absurd h (by show ¬((b_ (toPy (.str s.a)) (toPy x)&&(b_ (toPy (.str s.b)) (toPy y)&&(b_ (.int s.len) (toPy z)&&false)))=true); simp)
 | _=>cases h
theorem Ml(s:A0):Bw (Ag s) (Ag s)=true:=(JQ s s).mpr rfl
theorem K_(s:A0):¬Fv s s:=by
 rintro (h | ⟨_,h⟩) <;> exact EV _ h
theorem Uw{s t:A0}(h:Fv s t):Cv (JA s) (JA t)=true:=by
 show (if (bJ s.a:Key)=.inr t.a then (if (bJ s.b:Key)=.inr t.b then (if (eh s.len:Key)=.inl t.len then false else decide (s.len<t.len)) else decide (cs s.b<cs t.b)) else decide (cs s.a<cs t.a))=true
 rcases h with h | ⟨h,h'⟩
 ·rw [if_neg (λe=>EV s.a (by rw [cJ e] at h ⊢; exact h)),decide_eq_true h]
 ·rw [if_pos (by rw [h]),if_neg (λe=>EV s.b (by rw [cJ e] at h' ⊢; exact h')),decide_eq_true h']
theorem Dd{ts:List A0}(h:ts.Pairwise Fv):ts.Nodup:=h.imp λ{s t} h e=>by rw [e] at h; exact K_ _ h
end Nt
namespace L2
open PySem PySem.Spec PyProof.Rows PySem.W
section
variable {X:Cx}
end
end L2
namespace Dp
open PySem PySem.Spec PyProof.Rows L2
section
variable {X:Cx}{K:Frag}
end
end Dp
namespace Nt
open PySem PySem.Spec PyProof.Rows L2 Dp
section
variable {ss:List Slot}{n:Nat}{Pd:D->Nat->Prop}
theorem Fq{b:BW}{tt:Jk}{te:DW}{P:List D->Nat->Prop}(c:D->Bool)(g:D->D)(I:List Slot->Prop):∀(ds acc:List D) (n:Nat) (ρ:List Slot),
  (∀d∈ds,∀(ρ:List Slot) (n:Nat) (nx:D->Nat->List Slot->Prop) (sk:Nat->List Slot->Prop),I ρ->(∀ρ',I ρ'->c d=true->nx (g d) n ρ')->(∀ρ',I ρ'->c d=false->sk n ρ')->b d ρ λρ1=>tt n ρ1 λc n1=>if c=true then te n1 ρ1 λy n2=>nx y n2 ρ1 else sk n1 ρ1)->I ρ->P (acc++(ds.filter c).map g) n->ER b tt te P ds acc n ρ
 | [],acc,n,ρ,_,_,h=>by rw [List.filter_nil,de,cL] at h; exact h
 | d::ds,acc,n,ρ,ht,hρ,h=>ht d On ρ n (λy n2 ρ1=>ER b tt te P ds (acc++[y]) n2 ρ1) (λn2 ρ1=>ER b tt te P ds acc n2 ρ1) hρ
  (λρ' hρ' hc=>Fq c g I ds (acc++[g d]) n ρ' (λd hd=>ht d (TM _ hd)) hρ' (by rw [gM hc] at h; rw [bw]; exact h))
  (λρ' hρ' hc=>Fq c g I ds acc n ρ' (λd hd=>ht d (TM _ hd)) hρ' (by rw [gN (by rw [hc]; decide)] at h; exact h))
end
noncomputable def Ui:W2:=λss n P=>∃(N:Net) (d:D),ss=[.sh (C3 N),.sh d]/\N.Ok/\B9 d/\P (.bl (GV N d)) n
noncomputable def Iq:Aj:=(A2 (I_ (Am (JI false) (AG 1) (Am BQ (AG 0) (wC (D.int 1)))) (Ad Kr (AD (AN (Am BQ (AG 1) (wC (D.int 2)))) Af))))
theorem VL{ts:List A0}(h:OY KR (ts.map Ag)):OQ ts:=by
 unfold OY at h
 rw [f7] at h
 exact h.imp λ{s t} z=>z _ _ rfl rfl
theorem Hc{N:Net}(ok:N.Ok){ts:List A0}(h:∀t∈ts,t∈N.ts):B9 (.tup (ts.map Ag))/\B9 (.lst (ts.map Ag)):=by
 have it:∀d∈ts.map Ag,item d:=λd hd=>by
  obtain⟨t,ht,rfl⟩:=UF.mp hd
  exact DY ok _ (UF.mpr ⟨t,h t ht,rfl⟩)
 have d1:Fx (ts.map Ag)<=1:=dps_le.mpr λd hd=>(it d hd).2.2
 exact⟨IP (B:=1000001) (by decide) (fines_iff.mpr λd hd=>(it d hd).1) (by show Fx (ts.map Ag)+1<=100; omega),RR it⟩
theorem Cf{N:Net}(ok:N.Ok){t:A0}(h:t∈N.ts):B9 (Ag t):=by
 have it:=DY ok _ (UF.mpr ⟨t,h,rfl⟩)
 exact IP (B:=1000001) (by decide) it.1 (by have:=it.2.2; omega)
theorem DD{ts:List A0}{t:A0}:((ts.map Ag).any λy=>Bw y (Ag t))=decide (t∈ts):=by
 rw [cF,cu,decide_eq_true_eq]
 constructor
 ·rintro ⟨d,hd,e⟩
  obtain⟨s,hs,rfl⟩:=UF.mp hd
  rw [← (JQ s t).mp e]
  exact hs
 ·intro h
  exact⟨Ag t,UF.mpr ⟨t,h,rfl⟩,(JQ t t).mpr rfl⟩
section
variable {ss:List Slot}{n:Nat}{Pd:D->Nat->Prop}
theorem MI(h:Ui ss n Pd):Iq (EE Pd) n (ss++Re 0 .no):=by
 obtain⟨N,d,rfl,ok,hl,p⟩:=h
 unfold Iq
 refine⟨_,AR (j:=1) rfl,hl,(Hc ok λ_ h=>h).1,_,rfl,?_⟩
 cases c:(N.ts.map Ag).any λy=>Bw y d with
 | false =>
  have:GV N d=false:=by
   rw [b8]
   intro z
   obtain⟨s,hs,rfl⟩:=tofB_iff.mp z
   rw [DD,decide_eq_true hs] at c
   cases c
  rw [this] at p
  exact p
 | true =>
  obtain⟨e,he,q⟩:=cu.mp c
  obtain⟨s,hs,rfl⟩:=UF.mp he
  obtain⟨z,rfl,hz⟩:=Lg q
  refine⟨_,AR (j:=2) rfl,[z],rfl,rfl,?_⟩
  have:GV N (.tup [.str s.a,.str s.b,z])=R_ z:=by
   rw [cF,tofB_iff]
   constructor
   ·rintro ⟨t,_,e⟩
    have e:z=.int t.len:=by injection e with e; injection e with _ e; injection e with _ e; injection e
    rw [e]
    rfl
   ·intro hw
    cases z with
    | int i=>exact⟨s,hs,by rw [hz i rfl]; rfl⟩
    | _=>cases hw
  rw [this] at p
  exact p
end
section
variable {ss:List Slot}{n:Nat}{Pd:D->Nat->Prop}
end
theorem SR{s t:A0}(h:JA s=JA t):s=t:=by
 obtain⟨a,b,l⟩:=s
 obtain⟨a',b',l'⟩:=t
 unfold JA at h
 simp only [List.cons.injEq,Sum.inl.injEq,Sum.inr.injEq,and_true] at h
 obtain⟨rfl,rfl,rfl⟩:=h
 rfl
theorem Oh{l1 l2:List A0}(p:l1.Perm l2)(h1:OQ l1)(h2:OQ l2):l1=l2:=QB (λa b x y=>SR (Ey _ _ y x)) p h1 h2
theorem Pe{ts:List A0}(h:ts.Pairwise Fv):OQ ts:=h.imp λ{s t} z=>by
 cases e:Cv (JA t) (JA s) with
 | false=>rfl
 | true =>
  have:=Ex _ _ _ (Uw z) e
  rw [Fs] at this
  cases this
noncomputable def Je:W2:=λss n P=>∃l t b x:Int,ss=[.sh (.int l),.sh (.tup [.int t,.int b]),.sh (.int x)]/\1<=b/\b<=1000000/\1<=t/\t<=1000000/\P (.bl (decide (l*b<=x*t))) n
noncomputable def Ip:Aj:=(A2 (Am T3 (Am Dt (AG 0) (Am BQ (AG 1) (wC (D.int 1)))) (Am Dt (AG 2) (Am BQ (AG 1) (wC (D.int 0))))))
section
variable {ss:List Slot}{n:Nat}{Pd:D->Nat->Prop}
theorem Z5{i j:Int}(h0:0<=j)(h1:j<=1000000):CMul i j:=.inr ⟨by omega,by omega⟩
theorem MH(h:Je ss n Pd):Ip (EE Pd) n (ss++Re 0 .no):=by
 obtain⟨l,t,b,x,rfl,b0,b1,t0,t1,p⟩:=h
 unfold Ip
 exact⟨_,AR (j:=1) rfl,Z5 (by omega) b1,_,AR (j:=0) rfl,Z5 (by omega) t1,p⟩
end
end Nt
namespace L2
open PySem PySem.Spec PyProof.Rows PySem.W
section
variable {prog:Program}{w:World}{A:Around}{E:Value->Shared->Prop}{R:Result->Shared->Prop}{I:Addr}{fp wr:List Addr}{n:Nat}{P:Nat->Value->Prop}{St:Nat->Heap->Prop}
end
section
variable {X:Cx}
end
end L2
namespace Dp
open PySem PySem.Spec PyProof.Rows L2
end Dp
namespace L2
open PySem PySem.Spec PyProof.Rows
end L2
namespace Dp
open PySem PySem.Spec PyProof.Rows L2
section
variable {X:Cx}{a:Expr}{κa:Kd}{wa:DW}{els:List Expr}{j:Nat}{tpos apos cpos:Pos}
end
section
variable {K:Frag}{C:Fm}{M:Addr->Prop}{H H':Hp}{n n':Nat}{ρ:List Slot}{σ:L2.St}
end
theorem LK:∀{ks:List Key} {ds:List D} {k:Key},ks.length=ds.length->k∈ks->∃z,D5 ks ds k=some z
 | [],ds,k,_,h=>by cases h
 | a::ks,[],k,h,_=>by cases h
 | a::ks,d::ds,k,hl,h=>by
  unfold D5
  by_cases e:a=k
  ·exact⟨d,if_pos e⟩
  ·rw [if_neg e]
   exact LK (by simpa using hl) ((aq.mp h).resolve_left λz=>e z.symm)
section
variable {X:Cx}{a b e:Expr}{κ κa κb:Kd}{wa wb:DW}{pos pos':Pos}
noncomputable def OB(neg:Bool)(d e:D)(P:D->Prop):Prop:=e=.non/\P (.bl (if neg then !N7 d else N7 d))
theorem Ub{K:Frag}:HB K .sh (λx y H Q=>y=.non/\Q (.bl (decide (x=.non))) H) (OB false):=λU M H d e x y P Q dom vM hx hy w q=>by
 obtain⟨rfl,w⟩:=w
 exact⟨hy,q _ H (.bl (N7 d)) .refl (by rw [N6 hx]; rfl) w⟩
theorem M5{K:Frag}:HB K .sh (λx y H Q=>y=.non/\Q (.bl (!decide (x=.non))) H) (OB true):=λU M H d e x y P Q dom vM hx hy w q=>by
 obtain⟨rfl,w⟩:=w
 exact⟨hy,q _ H (.bl (!N7 d)) .refl (by rw [N6 hx]; rfl) w⟩
variable {apos cpos:Pos}{f:Expr}{κf:Kd}{wf:DW}
end
end Dp
namespace L2
open PySem PySem.Spec PyProof.Rows
open AutoSeq1 (wpAny_loadPart')
section
variable {prog:Program}{w:World}{A:Around}{E:Value->Shared->Prop}{s:Shared}{I:Addr}{fp wr:List Addr}{G:Array GenState->Array GenState->Prop}{n:Nat}{P:Nat->Value->Prop}{St:Nat->Shared->Prop}
end
section
variable {X:Cx}{e:Expr}{te:TE}{p1 p2 q1 q2:Pos}
end
end L2
namespace Dp
open PySem PySem.Spec PyProof.Rows L2
section
variable {X:Cx}{a:Expr}{κa:Kd}{wa:DW}{p1 p2 q1 q2:Pos}
end
end Dp
namespace Nt
open PySem PySem.Spec PyProof.Rows L2 Dp
noncomputable def Ed(N:Net)(x y:Str)(l:Int):Prop:=(y,l)∈Zu N.ts x
inductive Wk (N:Net) (s:Str):Str->Int->Prop
 | nil:Wk N s s 0
 | snoc {x y:Str} {d l:Int}:Wk N s x d->Ed N x y l->Wk N s y (d+l)
noncomputable def Qn(N:Net)(s x:Str)(d:Int):Prop:=Wk N s x d/\∀d',Wk N s x d'->d<=d'
theorem Ed.pos{N:Net}(ok:N.Ok){x y:Str}{l:Int}(h:Ed N x y l):1<=l/\l<=1000000:=by
 obtain⟨_,h1,h2,_⟩:=PF ok h
 exact⟨h1,h2⟩
theorem Ed.ins{N:Net}(ok:N.Ok){x y:Str}{l:Int}(h:Ed N x y l):y∈N.ps:=(PF ok h).1
theorem Wk.pos{N:Net}(ok:N.Ok){s x:Str}{d:Int}(h:Wk N s x d):0<=d:=by
 induction h with
 | nil=>exact cy _
 | snoc _ he ih=>have:=he.pos ok; omega
theorem Wk.ins{N:Net}(ok:N.Ok){s x:Str}{d:Int}(hs:s∈N.ps)(h:Wk N s x d):x∈N.ps:=by
 cases h with
 | nil=>exact hs
 | snoc _ he=>exact he.ins ok
theorem JR{N:Net}{t:A0}(ht:t∈N.ts):Ed N t.a t.b t.len/\Ed N t.b t.a t.len:=by
 constructor
 ·exact eZ.mpr ⟨t,ht,cH _ (by rw [if_pos rfl]; exact ay.mpr rfl)⟩
 ·exact eZ.mpr ⟨t,ht,bC _ (by rw [if_pos rfl]; exact ay.mpr rfl)⟩
theorem Ed.tie{N:Net}(ok:N.Ok){x y:Str}{l:Int}(h:Ed N x y l):∃t∈N.ts,t.len=l/\((t.a=x/\t.b=y)\/(t.b=x/\t.a=y)):=by
 obtain⟨_,_,_,t,ht,e,h⟩:=PF ok h
 exact⟨t,ht,e,h⟩
structure aA (ks:List Key) (ds:List D) (C3:α->D) (F:Str->Option α):Prop where
 len:ks.length=ds.length
 at_:∀x:Str,D5 ks ds (.inr x)=(F x).map C3
 dom:∀k∈ks,∃x:Str,k=.inr x
 nd:ks.Nodup
noncomputable abbrev Zf:=Str->Option (Int×Option Str)
structure Dj (N:Net) (s:Str) (F:Zf) (Wt:List Str):Prop where
 start:F s=some (0,none)
 ins:∀x,F x≠none->x∈N.ps
 wk:∀x d p,F x=some (d,p)->Wk N s x d
 prev:∀x d p,F x=some (d,p)->(p=none/\x=s)\/∃y dy q l,p=some y/\F y=some (dy,q)/\y∉Wt/\Ed N y x l/\d=dy+l
 wfound:∀x∈Wt,F x≠none
 nd:Wt.Nodup
 done:∀x d p y l,F x=some (d,p)->x∉Wt->Ed N x y l->∃dy q,F y=some (dy,q)/\dy<=d+l
 near:∀x d p y dy q,F x=some (d,p)->x∉Wt->F y=some (dy,q)->y∈Wt->d<=dy
structure Dm (N:Net) (s:Str) (F:Zf) (Wt:List Str) (v:Str) (dv:Int) (seen:List (Str×Int)):Prop where
 start:F s=some (0,none)
 ins:∀x,F x≠none->x∈N.ps
 wk:∀x d p,F x=some (d,p)->Wk N s x d
 prev:∀x d p,F x=some (d,p)->(p=none/\x=s)\/∃y dy q l,p=some y/\F y=some (dy,q)/\y∉Wt/\Ed N y x l/\d=dy+l
 wfound:∀x∈Wt,F x≠none
 nd:Wt.Nodup
 done:∀x d p y l,F x=some (d,p)->x∉Wt->x≠v->Ed N x y l->∃dy q,F y=some (dy,q)/\dy<=d+l
 near:∀x d p y dy q,F x=some (d,p)->x∉Wt->F y=some (dy,q)->y∈Wt->d<=dy
 here:∃p,F v=some (dv,p)
 out:v∉Wt
 least:∀x d p,F x=some (d,p)->x∉Wt->d<=dv
 gone:∀y l,(y,l)∈seen->∃dy q,F y=some (dy,q)/\dy<=dv+l
structure Told (N:Net) (s:Str) (F:Zf):Prop where
 start:F s=some (0,none)
 ins:∀x,F x≠none->x∈N.ps
 least:∀x d p,F x=some (d,p)->Qn N s x d
 all:∀x d,Wk N s x d->F x≠none
 prev:∀x d p,F x=some (d,p)->(p=none/\x=s)\/∃y dy q l,p=some y/\F y=some (dy,q)/\Ed N y x l/\d=dy+l
noncomputable abbrev Kn:=Str->Option Int
structure Bf (N:Net) (s:Str) (c:Nat) (K:Kn):Prop where
 start:∃d,K s=some d/\d<=0
 ins:∀x,K x≠none->x∈N.ps
 wk:∀x d,K x=some d->Wk N s x d
 top:∀x d,K x=some d->d<=1000000*(c:Int)
structure aN (N:Net) (s:Str) (K:Kn):Prop where
 ins:∀x,K x≠none->x∈N.ps
 least:∀x d,K x=some d->Qn N s x d
 all:∀x d,Wk N s x d->K x≠none
 top:∀x d,K x=some d->d<=30000000
noncomputable def walk(N:Net):List Str->Int->Prop
 | [],_=>False
 | [_],d=>d=0
 | x::y::r,d=>∃l e,Ed N x y l/\walk N (y::r) e/\d=l+e
noncomputable def okN(N:Net):Prop:=N.Ok/\N.ps.length<=25/\N.ts.length<=60
section
variable {ss:List Slot}{n:Nat}{Pd:D->Nat->Prop}
end
structure aZ (N:Net) (F:Zf) (b:Str) (db:Int) (acc:List Str) (pl:Option Str):Prop where
 st:(acc=[]/\pl=some b)\/∃z r dz,acc.reverse=z::r/\F z=some (dz,pl)/\walk N acc.reverse (db - dz)/\acc.reverse.getLast?=some b
 nd:acc.Nodup
 ins:∀x∈acc,x∈N.ps
 less:∀y dy q,pl=some y->F y=some (dy,q)->∀x∈acc,∃dx qx,F x=some (dx,qx)/\dy<dx
 fnd:∀y,pl=some y->F y≠none
section
variable {ss:List Slot}{n:Nat}{Pd:D->Nat->Prop}
end
section
variable {ss:List Slot}{n:Nat}{Pd:D->Nat->Prop}
end
theorem Dv{α β:Type}(f:α->β)(xs:List α)(lo hi:Option Int):Dp.cutD (xs.map f) lo hi=(Dp.cutD xs lo hi).map f:=by
 unfold Dp.cutD
 rw [Db,← List.map_drop,← gw]
section
variable {ss:List Slot}{n:Nat}{Pd:D->Nat->Prop}
end
end Nt
namespace Dp
open PySem PySem.Spec PyProof.Rows L2
section
variable {X:Cx}{κ:Kd}{tg:Expr}{body:List Stmt}{b:BW}{wb:Aj}{pos p:Pos}{x:Str}{i:Nat}
end
end Dp
namespace Nt
open PySem PySem.Spec PyProof.Rows L2 Dp
noncomputable def sub(N:Net)(kept:List A0):Net:=⟨N.ps,N.ts.filter λu=>decide (u∈kept)⟩
noncomputable def Yu(N:Net)(t b:Int)(u:A0):Prop:=∃d,Qn N u.a u.b d/\d*b<=u.len*t
noncomputable def M_:W2:=λss n P=>∃(N:Net) (z:D) (ts:List A0),ss=[.sh (C3 N),.br z]/\Qw z=some (ts.map Ag)/\ts.length<64/\∀ts':List A0,ts'.Perm ts->OQ ts'->P (C3 ⟨N.ps,ts'⟩) n
noncomputable def OS:Aj:=(A2 (BH (AE (Am BQ (AG 0) (wC (D.int 0))) (AE (Cj DA (AE (Cj Tw (AE (IY 1) AW)) AW)) AW))))
section
variable {ss:List Slot}{n:Nat}{Pd:D->Nat->Prop}
theorem Q4(h:M_ ss n Pd):OS (EE Pd) n (ss++Re 0 .no):=by
 obtain⟨N,z,ts,rfl,hz,h64,p⟩:=h
 unfold OS
 refine⟨_,AR (j:=0) rfl,z,_,rfl,hz,by rw [Db]; exact h64,⟨λx hx=>?_,λx hx y hy ka kb ea eb=>?_⟩,λxs' hp ho=>?_⟩
 ·obtain⟨t,_,rfl⟩:=UF.mp hx
  exact⟨JA t,rfl,List.cons_ne_nil _ _⟩
 ·obtain⟨t,_,rfl⟩:=UF.mp hx
  obtain⟨u,_,rfl⟩:=UF.mp hy
  cases (show some (JA t)=some ka from ea)
  cases (show some (JA u)=some kb from eb)
  rfl
 ·obtain⟨ts',h1,rfl⟩:=YK (g:=Z3) (λ_=>rfl) hp
  exact⟨z2,p ts' h1 (VL ho)⟩
end
section
variable {ss:List Slot}{n:Nat}{Pd:D->Nat->Prop}
end
section
variable {ss:List Slot}{n:Nat}{Pd:D->Nat->Prop}
end
end Nt
namespace L2
open PySem PySem.Spec PyProof.Rows
open PySem.AutoSeq1 (wpAny_loadPart')
theorem Ux{prog:Program}{w:World}{A:Around}{R:Result->Shared->Prop}{s:Shared}(t:Addr)(items:Array Value)(n:Nat)(x:Value)(e:Value->Bool)(j:Nat)(hj:j<items.size)(hit:e items[j]=true)(hno:∀m (hm:m<items.size),m<j->e items[m]=false)
  (hl:s.heap.get? t=some { cls:=.type "tuple",dict:=none,data:=.seq items n,slots:=#[] }) (he:∀y,y∈items->PySem.SeqAt.EqAt A.in1 s y x (e y))
  (h:R (.ok (.ret (.int (j:Int) s.toks))) { s with toks:=s.toks+1 }) :
  wpAny (model prog w) A.in1 (Builtin.«tuple.index» ⟨[.ref t,x],[]⟩) (λfin s'=>match fin with | .done f=>R (.ok f) s' | .again c'=>c'.quiet=true/\codeAny (model prog w) A c' R s') (λe s'=>R (.error e) s') s:=by
 obtain⟨hp,g,d,tk,os⟩:=s
 wp_walk using gR hl
 have go:∀(Q:Option _×Unit->Shared->Prop) (E:Value->Shared->Prop),(∀r,Q (some r,()) ⟨hp,g,d,tk+1,os⟩\/True)->∀(k i:Nat),i<=j->i+k=items.size ->
   (∀r:Fin,r=.done (.ret (.int (j:Int) tk))->Q (some r,()) ⟨hp,g,d,tk+1,os⟩) ->
   wpAny (model prog w) A.in1 (forIn (List.range' i k 1) ((none:Option Fin),()) (fun(i:Nat) __s=>match items[i]? with
      | some y=>do
       let __do_lift ← eqBool y x
       if __do_lift=true then do
         let __do_lift ← retInt (i:Int)
         pure (ForInStep.done (some __do_lift,()))
        else pure (cg (none,()))
      | x=>pure (cg (none,())))) Q E ⟨hp,g,d,tk,os⟩:=by
  intro Q E _ k
  induction k with
  | zero=>intro i h1 h2; omega
  | succ k ih =>
   intro i h1 h2 hQ
   have hlt:i<items.size:=by omega
   rw [List.range'_succ,c5]
   have hi:items[i]?=some items[i]:=eB hlt
   simp only [hi]
   refine Ch (Ch (he _ (Array.getElem_mem hlt) prog w _ _ ?_))
   by_cases c:i=j
   ·subst c
    rw [hit]
    wp_walk
    exact hQ _ rfl
   ·rw [hno i hlt (by omega)]
    wp_walk
    exact ih (i+1) (by omega) (by omega) hQ
 show wpAny (model prog w) A.in1 (forIn [:min items.size items.size] ((none:Option Fin),()) _) _ _ _
 rw [Std.Legacy.Range.forIn_eq_forIn_range']
 have er:List.range' (Std.Legacy.Range.start [:min items.size items.size]) (gm [:min items.size items.size]) (Std.Legacy.Range.step [:min items.size items.size])=List.range' 0 items.size 1:=by
  simp [gm]
 rw [er]
 refine go _ _ (λ_=>.inr trivial) items.size 0 (TW _) (Nat.zero_add _) λr er=>?_
 subst er
 exact Go h
section
variable {X:Cx}
noncomputable def VA:V->List V->Hp->VK->Prop:=λx vs H Q=>∃(a:Addr) (xs:List V) (y:V) (ds:List PyData) (d:PyData) (j:Nat),x=.ref a/\vs=[y]/\H a=some (.tup xs)/\RVs H ds xs/\RV H d y/\cS ds=true/\d.canLay0=true/\d.depth<=100 /\
 (∃dj,ds[j]?=some dj/\b_ dj d=true)/\(∀m dm,m<j->ds[m]?=some dm->b_ dm d=false)/\Q (.int (j:Int)) H
theorem KL{k:Nat}(hr:Room k X.A):Zd X "tuple.index" VA:=by
 intro pins s σ H x vs v us Q I rx rv h
 obtain⟨l,xs,y,ds,d,j,rfl,rfl,hH,hds,hd,c1,c2,dd,⟨dj,hj,hit⟩,hno,q⟩:=h
 cases rx
 obtain⟨u,rfl,ru⟩:=rv.one
 obtain⟨z,its,r,⟨⟨cls,dt,data,sl⟩,e,e2,n,e3,e4,e5⟩⟩:=(show ObjOk X.prog X.w H s.heap l (.tup xs) from I.hok l _ hH)
 simp only at e2 e3 e4 e5
 subst e2 e3 e4 e5
 obtain⟨as,ra⟩:=RVs.reads I hds r
 obtain⟨bs,rb⟩:=RV.reads I hd ru
 have hm:=PySem.SeqAt.readsAll_map ds its as c1 ra
 have hlen:ds.length=its.length:=by rw [← hm,Db]
 have hu:=hr.un
 have hmin:min (bn ds) d.depth<=d.depth:=eU _ _
 have at_:∀m dm,ds[m]?=some dm->∀(h:m<its.toArray.size),PySem.SeqAt.readOf s.heap its.toArray[m]=dm:=λm dm e h=>by
  rw [← hm,Op] at e
  have h':m<its.length:=by simpa using h
  rw [FM h'] at e
  have e:=Uf e
  simpa using e
 have hjl:j<its.length:=by rw [← hlen]; exact(au.mp hj).1
 have key:=Ux (prog:=X.prog) (w:=X.w) (A:=X.A) (R:=wants (EP X pins σ Q) X.xe) l its.toArray n u (λy=>b_ (PySem.SeqAt.readOf s.heap y) d) j (by rw [T0]; exact hjl) (by rw [at_ j dj hj]; exact hit) (λm hm' hlt=>by
  have hml:m<ds.length:=by rw [hlen]; simpa using hm'
  rw [at_ m ds[m] (FM hml) hm']
  exact hno m ds[m] hlt (FM hml)) e (PySem.SeqAt.items_eqAt (vs:=its.toArray) (by rw [List.toList_toArray]; exact ra) rb c1 c2 (by omega)) ⟨.int j,H,I.tok _,⟨_,rfl⟩,q⟩
 exact wpAny_call (codeAny_call_builtin PySem.F.slot_tuple_index.plain PySem.F.entry_tuple_index (PySem.F.slot_tuple_index.check _ _ _ _ _ _ _ _ ⟨_,e,rfl⟩ (PySem.F.args_tuple_index_2 _ _) key))
noncomputable def YO(r:V->List V->Hp->VK->Prop)(to:TE)(t:TA):TE:=λσ H Q=>to σ H λx H1=>(∃a xs,x=.ref a/\H1 a=some (.tup xs))/\t σ H1 λxs H2=>r x xs H2 Q
theorem J7{o e:Expr}{es:List Expr}{to:TE}{t:TA}{name:Str}{apos cpos:Pos}{id:String}{r:V->List V->Hp->VK->Prop}(slot:Slot "tuple" name id)(hty:typeOf (.builtin id)=pure (.type "method_descriptor"))(hm:Zd X id r)(ho:PE X o to)(ha:PA X (e::es) t)
  (hbase:autoParam (attributeBase o name X.env (eval o X.env)=eval o X.env) zau3._auto_1)
  (hfew:autoParam (((backTo cpos (starEach (e::es) X.env)).all (λx=>!x.1)&&(backToKw cpos (keywordEach [] X.env)).all (λx=>x.1.isSome)
   && decide ((e::es).length+([]:List Keyword).length+(if ([]:List Keyword).isEmpty then 0 else 1)<30))=true) zau3._auto_1)
  (hline:autoParam ((apos.endLine==cpos.line)=true) zau3._auto_1) (hs:autoParam (starEach (e::es) X.env=(false,eval e X.env)::starEach es X.env) zau3._auto_1) (hplain:autoParam ((backTo cpos (starEach es X.env)).any (·.1)=false) zau3._auto_1) :
  PE X (.Call (.Attribute o name apos) (e::es) [] cpos) (YO r to t):=by
 intro pins s σ H Q I h
 refine wpAny_Call_method_late hbase hfew hline rfl (Bs (ho pins s σ H _ I h) λv s1 ⟨x,H1,I1,r1,⟨a,xs,ex,hx⟩,q1⟩=>?_)
 subst ex
 have ev:v=bT a:=r1
 subst ev
 obtain⟨z,its,_,o,e1,e2,n,e3,e4,e5⟩:=(show ObjOk X.prog X.w H1 s1.heap a (.tup xs) from I1.hok a _ hx)
 refine⟨"tuple",id,PySem.F.plainAttrs_tuple,slot,hty,⟨o,e1,e2⟩,λb eb=>by cases eb; exact⟨o,e1,e4⟩,?_⟩
 have hA:=ha cpos pins s1 σ H1 _ I1 q1
 rw [hs] at hA ⊢
 refine gc (by show (false||(backTo cpos (starEach es X.env)).any (·.1))=false; rw [hplain] <;> rfl) (gu ?_)
 exact Bs hA λus s2 ⟨vs,H2,I2,r2,q2⟩=>hm pins s2 σ H2 (.ref a) vs (.ref a) us Q I2 r1 r2 q2
end
end L2
namespace Dp
open PySem PySem.Spec PyProof.Rows L2
section
variable {X:Cx}{κa:Kd}{a e:Expr}{es:List Expr}{wa:DW}{ws:FP}
noncomputable def Y3(d:D)(ds:List D)(P:D->Prop):Prop:=∃(xs:List D) (y:D) (j:Nat),d=.tup xs/\ds=[y]/\B9 (.tup xs)/\B9 y/\(∃x,xs[j]?=some x/\Bw x y=true)/\(∀m x,m<j->xs[m]?=some x->Bw x y=false)/\P (.int (j:Int))
noncomputable def NE(wo:DW)(ws:FP):DW:=λn ρ P=>wo n ρ λd n1=>(∃xs,d=.tup xs)/\ws n1 ρ λds n2=>Y3 d ds λz=>P z n2
theorem ZG{K:Frag}:ac K .sh "tuple" VA Y3:=by
 intro U M H d ds x vs P Q dom vM hx hp w q
 obtain⟨xs,y,j,rfl,rfl,⟨n1,l1,_⟩,⟨n2,l2,d2⟩,⟨x0,hx0,hit⟩,hno,w⟩:=w
 obtain⟨v,rfl,hy⟩:=DV hp
 obtain⟨a,us,rfl,hn,hs⟩:=hx.tup
 have get:∀(m:Nat) (p:PyData),(BC xs)[m]?=some p->∃x,xs[m]?=some x/\p=toPy x:=λm p e=>by
  rw [DJ,Op] at e
  obtain⟨x,e1,rfl⟩:=a_.mp e
  exact⟨x,e1,rfl⟩
 refine⟨a,us,v,BC xs,toPy y,j,rfl,rfl,hn,hs.rv n1,hy.rv n2,l1,l2,d2,⟨toPy x0,by rw [DJ,Op,hx0]; rfl,hit⟩,λm p hm e=>?_,q _ H (.int (j:Int)) .refl rfl w⟩
 obtain⟨x',e1,rfl⟩:=get m p e
 exact hno m x' hm e1
theorem G8{k:Nat}{apos cpos:Pos}(hr:Room k X.A)(ho:DE X a κa wa)(ha:V7 X (e::es) ws)
  (hbase:autoParam (attributeBase a "index" X.env (eval a X.env)=eval a X.env) zau3._auto_1)
  (hfew:autoParam (((backTo cpos (starEach (e::es) X.env)).all (λx=>!x.1)&&(backToKw cpos (keywordEach [] X.env)).all (λx=>x.1.isSome)
   && decide ((e::es).length+([]:List Keyword).length+(if ([]:List Keyword).isEmpty then 0 else 1)<30))=true) zau3._auto_1)
  (hline:autoParam ((apos.endLine==cpos.line)=true) zau3._auto_1) (hs:autoParam (starEach (e::es) X.env=(false,eval e X.env)::starEach es X.env) zau3._auto_1) (hplain:autoParam ((backTo cpos (starEach es X.env)).any (·.1)=false) zau3._auto_1) :
  DE X (.Call (.Attribute a "index" apos) (e::es) [] cpos) .sh (NE wa ws):=by
 obtain⟨t,h1,h2⟩:=ho
 obtain⟨u,g1,g2⟩:=ha
 refine⟨_,J7 PySem.F.slot_tuple_index PySem.F.type_tuple_index (KL hr) h1 g1 hbase hfew hline hs hplain,λC M H n ρ σ P Q R w q=>?_⟩
 refine h2 C M H n ρ σ _ _ R w λx H1 d n1 e1 f1 r1 p=>?_
 have R1:=R.step e1 f1
 have tx:=r1.tpOf R.dom R.vM
 obtain⟨⟨xs,rfl⟩,p⟩:=p
 refine⟨by obtain⟨a,us,rfl,hn,hs⟩:=tx.tup; exact⟨a,us,rfl,hn⟩,?_⟩
 refine g2 C M H1 n1 ρ σ _ _ R1 p λvs H2 ds n2 e2 f2 r2 p2=>?_
 have R2':=R1.step e2 f2
 refine ZG C.V M H2 (.tup xs) ds x vs _ _ R2'.dom R2'.vM (tx.pres (R1.pres e2) e2 R.uV) r2 p2 λv H3 z g vr pz=>?_
 exact q v H3 z n2 ((e1.trans e2).trans g.ext) (f2.grow g) (VR.back (e1.trans e2) vr) pz
end
end Dp
namespace L2
open PySem PySem.Spec PyProof.Rows PySem.W
theorem PQ:mroOf (.type "dict")=pure [.type "dict",.type "object"]:=by rw [mroOf_type]; kernel_rfl
theorem Xp:typeLookup (.type "dict") "__new__"=pure (some (.builtin "dict.__new__")):=by rw [typeLookup_type,builtinLookup_eq_fast]; kernel_rfl
theorem dp_called:TypeCalled "dict" "dict.__new__" "dict.__init__" :=
 ⟨by decide +kernel,by decide +kernel,⟨_,_,PQ⟩,madeBy_type PQ Xp (by decide +kernel),by decide +kernel,by rw [isSubtype_type]; kernel_rfl,PySem.F.slot_dict_init⟩
theorem Vt(a:Value):checkTypeCall "dict" ⟨[a],[]⟩=pure ():=by kernel_rfl
theorem Vu(a:Value):checkBuiltinCall "dict.__new__" ⟨[.type "dict",a],[]⟩=pure ():=by kernel_rfl
theorem Mo:entryFor table "dict.__new__"=some Builtin.«dict.__new__»:=entryFor_of_tree (by kernel_rfl)
theorem Hj:plainId "dict.__new__"=true:=by decide +kernel
theorem Ge:entryFor table "dict.update.loop"=some Builtin.«dict.update.loop»:=entryFor_of_tree (by kernel_rfl)
theorem Cg:plainId "dict.update.loop"=true:=by decide +kernel
section
variable {prog:Program}{w:World}{A:Around}{E:Value->Shared->Prop}{s:Shared}
theorem OF(a:Value){Q₁:Value->Shared->Prop}(h:Q₁ (.ref s.heap.objs.size) { s with heap:=s.heap.push { cls:=.type "dict",data:=.dict #[] } }) :
  codeAny (model prog w) A (.call (.builtin "dict.__new__") ⟨[.type "dict",a],[]⟩) (wants Q₁ E) s:=by
 refine codeAny_of_tree ?_
 show wpAny _ A.in1 (do checkBuiltinCall "dict.__new__" ⟨[.type "dict",a],[]⟩; again (.builtin "dict.__new__" ⟨[.type "dict",a],[]⟩)) _ _ s
 refine Ch (wpAny_of_eq (Vu a) (Go ⟨plainId_quiet Hj _,eA Mo ?_⟩))
 rw [fI Hj _]
 unfold Builtin.«dict.__new__»
 have hsub:=dp_called.sub
 have hmro:=PQ
 obtain⟨hp,g,d,tk,os⟩:=s
 wp_walk
 exact h
end
section
variable {prog:Program}{w:World}{A:Around}{R:Result->Shared->Prop}{I:Addr}{fp wr:List Addr}{n:Nat}{P:Nat->Value->Prop}{St:Nat->Heap->Prop}{K:Type}[DecidableEq K]{knd:KeyKind prog w K}
theorem stored_new{kvs:List (K×Value)}{k:K}{v:Value}(h:k∉kvs.map (·.1)):stored kvs k v=kvs++[(k,v)]:=by
 unfold stored
 rw [if_neg]
 intro z
 obtain⟨p,hp,e⟩:=cu.mp z
 exact h (UF.mpr ⟨p,hp,of_decide_eq_true e⟩)
end
section
variable {X:Cx}
end
end L2
namespace Dp
open PySem PySem.Spec PyProof.Rows L2
end Dp
namespace Nt
open PySem PySem.Spec PyProof.Rows L2 Dp
noncomputable def Kt:D->Bool
 | .int i=>decide (0<=i)
 | _=>false
noncomputable def YF(N:Net):D->Bool
 | .tup xs=>((xs.length:Int)==(N.ps.length:Int))&&xs.all Kt
 | _=>false
noncomputable def XQ:D->Int
 | .int i=>i
 | _=>0
noncomputable def Cr(N:Net)(xs:List D)(a:Str):Int:=XQ ((D5 (N.ps.map .inr) xs (.inr a)).getD .non)
noncomputable def CU(i:Int):Int:=if i<0 then -i else i
noncomputable def E_(N:Net):D->Bool
 | .tup xs=>YF N (.tup xs)&&N.ts.all λt=>decide (CU (Cr N xs t.a - Cr N xs t.b)<=t.len)
 | _=>false
noncomputable def B5(m:Int):Option Int->Int
 | some d=>if d<m then d else m
 | none=>m
noncomputable def Jg:W2:=λss n P=>∃(N:Net) (d:D),ss=[.sh (C3 N),.sh d]/\okN N/\P (.bl (YF N d)) n
noncomputable def Uj:W2:=λss n P=>∃(N:Net) (xs:List D) (a b:Str),ss=[.sh (C3 N),.sh (.tup xs),.sh (.str a),.sh (.str b)]/\okN N/\xs.length=N.ps.length/\(∀x∈xs,Kt x=true)/\a∈N.ps/\b∈N.ps/\P (.int (CU (Cr N xs a - Cr N xs b))) n
noncomputable def Qk:W2:=λss n P=>∃(N:Net) (d:D),ss=[.sh (C3 N),.sh d]/\okN N/\P (.bl (E_ N d)) n
noncomputable def Gi:Aj:=(A2 (I_ (Ad Dk (AD (AN (Cj DB (AE (Am BQ (AG 0) (wC (D.int 0))) AW))) (AD (AN (AG 1)) Af))) (Cj Vl (AE (B6 [none] (BZ (AG 1)) (A1 0) FK (I_ (Ad Kr (AD (AN (AG 0)) Af)) (Am (f2 λi j=>D.bl (decide (j<=i))) (AG 0) (wC (D.int 0))))) AW))))
noncomputable def Hr:Aj:=(A2 (Cj T7 (AE (Am CP (Am BQ (AG 1) (NE (Am BQ (AG 0) (wC (D.int 0))) (AE (AG 2) AW))) (Am BQ (AG 1) (NE (Am BQ (AG 0) (wC (D.int 0))) (AE (AG 3) AW)))) AW)))
noncomputable def Kl:Aj:=(Ap (Bl (CH (As (Ad Jg (AD (AN (AG 0)) (AD (AN (AG 1)) Af))))) (A2 (wC (D.bl false))) BA)
 (A2 (Cj Vl (AE (B6 [some 0,some 1,none,none,none] (BZ (Am BQ (AG 0) (wC (D.int 1)))) (Rq 3 (CF (A1 2) (CF (A1 3) (CF (A1 4) Ll)))) FK (Am T3 (Ad Uj (AD (AN (AG 0)) (AD (AN (AG 1)) (AD (AN (AG 2)) (AD (AN (AG 3)) Af))))) (AG 4))) AW))))
theorem Pp:∀{ks:List Key} {ds:List D} {k:Key} {z:D},D5 ks ds k=some z->z∈ds
 | [],_,k,z,h=>by cases h
 | _::_,[],k,z,h=>by cases h
 | k0::ks,d::ds,k,z,h=>by
  have h':(if k0=k then some d else D5 ks ds k)=some z:=h
  split at h'
  ·cases h'; exact On
  ·exact TM _ (Pp h')
theorem Oe:∀{ps:List Str} {xs:List D} {j:Nat} {a:Str},ps.Nodup->ps[j]?=some a->D5 (ps.map .inr) xs (.inr a)=xs[j]?
 | [],xs,j,a,_,h=>by simp at h
 | p::ps,[],j,a,_,h=>by simp; rfl
 | p::ps,x::xs,j,a,nd,h=>by
  rw [bZ] at nd
  show (if (bJ p:Key)=.inr a then some x else D5 (ps.map .inr) xs (.inr a))=_
  cases j with
  | zero =>
   cases (show p=a by simpa using h)
   rw [if_pos rfl]
   rfl
  | succ j =>
   have h:ps[j]?=some a:=by simpa using h
   rw [if_neg λz=>nd.1 (by rw [cJ z]; exact bY h),Oe nd.2 h]
   simp
theorem ge_int{d:D}(h:Kt d=true):∃i,d=.int i/\0<=i:=by
 cases d with
 | int i=>exact⟨i,rfl,of_decide_eq_true h⟩
 | _=>cases h
theorem ME{ps:List Str}(h:rising ps):ps.Nodup:=List.Pairwise.imp (λ{a b} z e=>by rw [e] at z; exact EV _ z) h
theorem SJ{N:Net}{xs:List D}(hl:xs.length=N.ps.length)(hg:∀x∈xs,Kt x=true){a:Str}(ha:a∈N.ps):D5 (N.ps.map .inr) xs (.inr a)=some (.int (Cr N xs a)):=by
 obtain⟨z,hz⟩:=LK (ks:=N.ps.map .inr) (ds:=xs) (k:=.inr a) (by rw [Db]; exact hl.symm) (UF.mpr ⟨a,ha,rfl⟩)
 obtain⟨i,rfl,_⟩:=ge_int (hg z (Pp hz))
 unfold Cr
 rw [hz]
 rfl
section
variable {ss:List Slot}{n:Nat}{Pd:D->Nat->Prop}
theorem J1(h:Jg ss n Pd):Gi (EE Pd) n (ss++Re 0 .no):=by
 obtain⟨N,d,rfl,okn,p⟩:=h
 have l25:=okn.2.1
 unfold Gi
 refine⟨_,AR (j:=0) rfl,_,_,rfl,rfl,_,d,rfl,?_⟩
 cases d with
 | tup xs =>
  have p':Pd (.bl (((xs.length:Int)==(N.ps.length:Int))&&xs.all Kt)) n:=p
  rw [Db]
  refine X3 (b1:=((xs.length:Int)==(N.ps.length:Int))) (λhb p2=>?_) p'
  have hl:xs.length=N.ps.length:=by have:=beq_iff_eq.mp hb; omega
  refine⟨by show xs.length<=10000000; omega,?_⟩
  refine Bc (λd=>.bl (Kt d)) (λρ=>∃s,ρ=[s]) _ _ _ _ ?_ ⟨_,rfl⟩ ?_
  ·rintro d hd ρ m nx ⟨s,rfl⟩ hnx
   refine⟨[d],rfl,rfl,?_⟩
   cases d with
   | int i=>exact hnx _ ⟨_,rfl⟩
   | _=>exact hnx _ ⟨_,rfl⟩
  ·rw [bE]
   exact OC (p:=Kt) (P:=λz=>Pd z n) p2
 | _=>exact p
theorem Kz(h:Uj ss n Pd):Hr (EE Pd) n (ss++Re 0 .no):=by
 obtain⟨N,xs,a,b,rfl,okn,hl,hg,ha,hb,p⟩:=h
 have nd:=ME okn.1.rise
 have hlay:B9 (.tup (N.ps.map .str)):=IR okn.1.names
 have idx:∀{a:Str},a∈N.ps->∃j:Nat,N.ps[j]?=some a/\xs[j]?=some (.int (Cr N xs a))/\B9 (.str a)/\(∃x,(N.ps.map D.str)[j]?=some x/\Bw x (.str a)=true)/\∀(m:Nat) (x:D),m<j->(N.ps.map D.str)[m]?=some x->Bw x (.str a)=false:=λ{a} ha=>by
  obtain⟨j,hj⟩:=ce.mp ha
  refine⟨j,hj,by rw [← Oe nd hj,SJ hl hg ha],?_,⟨.str a,by rw [Op,hj]; rfl,by rw [GP,beq_self_eq_true]⟩,λm x hm hx=>?_⟩
  ·exact IP (B:=0) (by decide) (λc hc=>by have:=(okn.1.names a ha).2.2 c hc; omega) (TW _)
  ·rw [Op] at hx
   obtain⟨y,hy,rfl⟩:=a_.mp hx
   rw [GP,beq_eq_false_iff_ne]
   intro e
   subst e
   obtain⟨h1,e1⟩:=au.mp hy
   obtain⟨h2,e2⟩:=au.mp hj
   have:=(gE nd).mp (e1.trans e2.symm)
   omega
 obtain⟨i,i1,i2,i3,i4,i5⟩:=idx ha
 obtain⟨j,j1,j2,j3,j4,j5⟩:=idx hb
 unfold Hr
 exact⟨_,AR (j:=0) rfl,⟨_,rfl⟩,_,_,i,rfl,rfl,hlay,i3,i4,i5,_,AR i2,_,AR (j:=0) rfl,⟨_,rfl⟩,_,_,j,rfl,rfl,hlay,j3,j4,j5,_,AR j2,p⟩
theorem NZ(h:Qk ss n Pd):Kl (EE Pd) n (ss++Re 0 .no):=by
 obtain⟨N,d,rfl,okn,p⟩:=h
 have ok:=okn.1
 have l60:=okn.2.2
 unfold Kl
 refine⟨N,d,rfl,okn,?_⟩
 show if (!(YF N d))=true then _ else _
 cases hp:YF N d with
 | false =>
  have:E_ N d=false:=by
   cases d with
   | tup xs=>show (YF N (.tup xs)&&_)=false; rw [hp]; rfl
   | _=>rfl
  rw [this] at p
  exact BX p
 | true =>
  cases d with
  | tup xs =>
   have hp':(((xs.length:Int)==(N.ps.length:Int))&&xs.all Kt)=true:=hp
   rw [az] at hp'
   have hl:xs.length=N.ps.length:=by have:=beq_iff_eq.mp hp'.1; omega
   have hg:∀x∈xs,Kt x=true:=cO.mp hp'.2
   have p':Pd (.bl (YF N (.tup xs)&&N.ts.all λt=>decide (CU (Cr N xs t.a - Cr N xs t.b)<=t.len))) n:=p
   rw [hp,bA] at p'
   refine BJ ⟨_,AR (j:=1) rfl,by show (N.ts.map Ag).length<=10000000; rw [Db]; omega,?_⟩
   refine Bc (λd=>match d with | .tup [.str a,.str b,.int l]=>.bl (decide (CU (Cr N xs a - Cr N xs b)<=l)) | _=>.non) (λρ=>∃s2 s3 s4,ρ=[.sh (C3 N),.sh (.tup xs),s2,s3,s4]) _ _ _ _ ?_ ⟨_,_,_,rfl⟩ ?_
   ·rintro d hd ρ m nx ⟨s2,s3,s4,rfl⟩ hnx
    obtain⟨t,ht,rfl⟩:=UF.mp hd
    obtain⟨m1,m2,_⟩:=ok.tin t ht
    exact⟨rfl,rfl,N,xs,t.a,t.b,rfl,okn,hl,hg,m1,m2,hnx _ ⟨_,_,_,rfl⟩⟩
   ·rw [bE,bS]
    exact OC (p:=λt:A0=>decide (CU (Cr N xs t.a - Cr N xs t.b)<=t.len)) (P:=λz=>Pd z n) p'
  | _=>cases hp
end
theorem Xt{m:Int}(hm:0<=m){o:Option Int}(ho:∀d,o=some d->0<=d):0<=B5 m o/\B5 m o<=m:=by
 cases o with
 | none=>exact⟨hm,cy _⟩
 | some d =>
  have:=ho d rfl
  show 0<=(if d<m then d else m)/\(if d<m then d else m)<=m
  split <;> omega
end Nt
set_option maxHeartbeats 400000
namespace Nt
open PySem PySem.Spec PyProof.Rows L2 Dp
inductive Ca where
 | en
 | fa (u:A0) (p:List Int)
 | sp (u:A0) (c d:Ca)
noncomputable def Ca.cnt:Ca->Nat
 | .sp _ c d=>1+c.cnt+d.cnt
 | _=>1
noncomputable def Ca.dep:Ca->Nat
 | .sp _ c d=>1+max c.dep d.dep
 | _=>1
noncomputable def Ca.D:Ca->D
 | .en=>.tup [.str "enough"]
 | .fa u p=>.tup [.str "far",Ag u,.tup (p.map .int)]
 | .sp u c d=>.tup [.str "split",Ag u,c.D,d.D]
noncomputable def C_(N:Net)(gone:List A0):Net:=⟨N.ps,N.ts.filter λt=>decide (t∉gone)⟩
noncomputable def Rh(N:Net)(t b:Int)(gone:List A0)(u:A0)(p:List Int):Bool:=E_ (C_ N gone) (.tup (p.map .int))&&decide (u.len*t<CU (Cr N (p.map .int) u.a - Cr N (p.map .int) u.b)*b)
noncomputable def We(N:Net)(t b:Int)(S:List A0):Prop:=∀u∈N.ts,∃d,Wk ⟨N.ps,S⟩ u.a u.b d/\d*b<=u.len*t
theorem MO{N:Net}(ok:N.Ok)(gone:List A0):(C_ N gone).Ok:=⟨ok.names,ok.rise,λt ht=>ok.tin t (fA.mp ht).1,ok.trise.sublist List.filter_sublist⟩
inductive Made (N:Net) (t b:Int) (many:Nat):List A0->List A0->List A0->Ca->Prop
 | en {kept gone left:List A0}:many<=kept.length->Made N t b many kept gone left .en
 | fa {kept gone left:List A0} {u:A0} {p:List Int}:u∈gone->Rh N t b gone u p=true->Made N t b many kept gone left (.fa u p)
 | no {kept gone:List A0}:(∀u∈gone,∃d,Wk (C_ N gone) u.a u.b d/\d*b<=u.len*t)->Made N t b many kept gone [] .en
 | sp {kept gone left rest:List A0} {u:A0} {c d:Ca}:left.Perm (u::rest)->Made N t b many (kept++[u]) gone rest c->Made N t b many kept (gone++[u]) rest d->Made N t b many kept gone left (.sp u c d)
theorem Made.dep{N:Net}{t b:Int}{many:Nat}{kept gone left:List A0}{c:Ca}(h:Made N t b many kept gone left c):c.dep<=left.length+1/\c.cnt+1<=2 ^ (left.length+1):=by
 induction h with
 | @en _ _ left _=>exact⟨eX (TW _),by have:=cV left.length; show 1+1<=_; rw [be]; omega⟩
 | @fa _ _ left _ _ _ _=>exact⟨eX (TW _),by show 1+1<=_; rw [be]; have:=cV left.length; omega⟩
 | no _=>exact⟨No _,No _⟩
 | sp hp _ _ ih1 ih2 =>
  have e:=hp.length_eq
  rw [Tk] at e
  rw [e]
  obtain⟨a1,a2⟩:=ih1
  obtain⟨b1,b2⟩:=ih2
  refine⟨?_,?_⟩
  ·show 1+max _ _<=_
   omega
  ·show 1+_+_+1<=_
   rw [be]
   omega
end Nt
namespace Dp
open PySem PySem.Spec PyProof.Rows L2
theorem SI{l m:List (Key×V)}{k:Key}{v:V}(h:CY l k=some v):CY (l++m) k=some v:=by
 unfold CY at h ⊢
 rw [List.find?_append]
 cases e:l.find? λkv=>decide (kv.1=k) with
 | none=>rw [e] at h; cases h
 | some p=>rw [e] at h; exact h
theorem Vf{ks:List Key}{vs:List V}{k:Key}(h:k∉ks):((ks.zip vs).find? λkv=>decide (kv.1=k))=none:=List.find?_eq_none.mpr λp hp=>by
 rw [decide_eq_true_eq]
 exact λz=>h (z▸(dP (a:=p.1) (b:=p.2) hp).1)
theorem GK{ks:List Key}{vs:List V}{k:Key}{v:V}(hl:ks.length=vs.length):(ks++[k]).zip (vs++[v])=ks.zip vs++[(k,v)]:=List.zip_append hl
theorem SH{ks:List Key}{vs:List V}{k:Key}{v:V}(h:k∉ks):CY (ks.zip vs++[(k,v)]) k=some v:=by
 unfold CY
 rw [List.find?_append,Vf h]
 simp
theorem S5{ks:List Key}{vs:List V}{k:Key}{v0 v:V}(h:k∉ks):putK (ks.zip vs++[(k,v0)]) k v=ks.zip vs++[(k,v)]:=by
 unfold putK
 rw [if_pos (by simp),cA]
 congr 1
 ·have:∀p∈ks.zip vs,(if p.1=k then (p.1,v) else p)=p:=λp hp=>if_neg fun(z:p.1=k)=>h (z▸(dP (a:=p.1) (b:=p.2) hp).1)
  exact(bX this).trans (fV _)
 ·simp
theorem Rel.world{K:Frag}{C:Fm}{M:Addr->Prop}{H:Hp}{n:Nat}{ρ:List Slot}{σ:L2.St}(R:Rel K C M H n ρ σ){i:Nat}{ks:List Key}{ds:List D}(hd:ρ[i]?=some (.wd ks ds)):∃f vs,σ[i]?=some (some (.ref f.1))/\C.F=some f/\f.t=some (ks,ds,vs)/\Wh K M H f.1 ks ds vs n:=by
 obtain⟨f,vs,e1,hF,ht⟩:=R.sl i _ hd
 refine⟨f,vs,getD_some e1,hF,ht,?_⟩
 rcases R.feed f hF with ⟨t2,_⟩ | ⟨ks',ds',vs',t2,h⟩
 ·rw [ht] at t2; cases t2
 ·rw [ht] at t2; cases t2; exact h
section
variable {X:Cx}{x a b e:Expr}{κ κa κb:Kd}{wa wb:DW}{pos pos':Pos}{i k:Nat}
noncomputable def IH(i:Nat)(wb:DW):DW:=λn ρ P=>∃ks ds,ρ[i]?=some (.wd ks ds)/\wb n ρ λk n1=>∃key z,keyOf k=some key/\D5 ks ds key=some z/\P z n1
theorem De(hr:Room k X.A)(hx:PE X x (BU i))(hb:DE X b κb wb)(hs:autoParam (Rw b) zau5._auto_1):DE X (.Subscript x b pos) .sh (IH i wb):=by
 obtain⟨tb,hb1,hb2⟩:=hb
 refine⟨_,JM (Ld hr) hx hb1 hs,λC M H n ρ σ P Q R w q=>?_⟩
 obtain⟨ks,ds,hd,w⟩:=w
 obtain⟨f,vs,e1,hF,ht,_⟩:=R.world hd
 refine⟨.ref f.1,e1,?_⟩
 refine hb2 C M H n ρ σ _ _ R w λy H1 kk n1 ee ff rr p=>?_
 obtain⟨key,z,hk,hz,p⟩:=p
 have R1:=R.step ee ff
 obtain⟨f',vs',_,hF',ht',r,hH,hl,hs',_⟩:=R1.world hd
 rw [hF] at hF'
 cases hF'
 rw [ht] at ht'
 cases ht'
 have hv:=Ly (k:=key) (ks:=ks) hs'
 rw [hz] at hv
 obtain⟨v,hv,hat⟩:=hv
 rw [GK (by rw [hl,hs'.length])] at hH
 refine⟨f.1,v,rfl,?_,q v H1 z n1 ee ff hat p⟩
 rw [KS hk (rr.tpOf R.dom R.vM),← SI (m:=[((bJ "room" : Key),V.int r)]) hv]
 exact DGet.k hH
noncomputable def SE(i:Nat):DW:=λn ρ P=>∃ks ds,ρ[i]?=some (.wd ks ds)/\(bJ "room" : Key)∉ks/\∀r:Int,(n:Int)<=r->r<=100000->P (.int r) n
theorem JY{jc cp}(hr:Room k X.A)(hx:PE X x (BU i))(hs:autoParam (Rw (.Constant (.str "room") jc cp)) zau5._auto_1):DE X (.Subscript x (.Constant (.str "room") jc cp) pos) .sh (SE i):=by
 refine⟨_,JM (Ld hr) hx ED hs,λC M H n ρ σ P Q R w q=>?_⟩
 obtain⟨ks,ds,hd,hno,w⟩:=w
 obtain⟨f,vs,e1,hF,ht,r,hH,hl,hs',h1,h2,_⟩:=R.world hd
 rw [GK (by rw [hl,hs'.length])] at hH
 refine⟨.ref f.1,e1,f.1,.int r,rfl,?_,q _ H (.int r) n (Ext.refl _ _) R.feed rfl (w r h1 h2)⟩
 have:=DGet.k (k:=.inr "room") hH
 rw [SH hno] at this
 exact this
noncomputable def NG(i:Nat)(wb:DW):Aj:=λD2 n ρ=>∃ks ds,ρ[i]?=some (.wd ks ds)/\(bJ "room" : Key)∉ks/\ks.length<=10/\wb n ρ λd n1=>∃(r:Int) (n2:Nat),d=.int r/\(n2:Int)<=r/\r<=100000/\D2.nx n2 ρ
theorem QV{jc cp}(hr:Room k X.A)(hx:PE X x (BU i))(hb:DE X b κb wb)(hk:autoParam (κb≠.tp) zau6._auto_1)
  (hs:autoParam (swapsWith b (some (.Subscript x (.Constant (.str "room") jc cp) pos')) pos.line X.env=pure false) zau3._auto_1):DS X κ (.Assign [.Subscript x (.Constant (.str "room") jc cp) pos'] b pos) (NG i wb):=by
 obtain⟨u,g1,g2⟩:=hb
 refine⟨_,P5 (Ld hr) hx ED g1 hs,λC M H n ρ σ D2 E R L w=>?_⟩
 obtain⟨ks,ds,hd,hno,hk10,w⟩:=w
 refine g2 C M H n ρ σ _ _ R w λv H1 d n1 e1 f1 r1 p=>?_
 obtain⟨r,n2,rfl,h1,h2,p⟩:=p
 have R1:=R.step e1 f1
 obtain⟨f,vs,ea,hF,ht,r0,hH,hl,hs',_,_,hnd⟩:=R1.world hd
 have hv:v=.int r:=r1.shOf R.dom hk
 have hlen:ks.length=vs.length:=by rw [hl,hs'.length]
 rw [GK hlen] at hH
 have mf:M f.1:=R1.vM _ (R1.uV _ (R1.fU f hF))
 have szl:=PySem.sizeLine_eq
 refine⟨.ref f.1,ea,f.1,_,rfl,DPut.k (k:=.inr "room") hH (by rw [Sc,dU]; show _+1<_; omega),?_⟩
 rw [hv,S5 hno]
 have pr:Pres M H1 M (BN H1 f.1 (.dK (ks.zip vs++[((bJ "room" : Key),V.int r)]))):=GN mf hH
 refine L.nx M _ n2 _ σ (R1.step (λc o ec=>?_) λg hg=>?_) p
 ·by_cases hc:c=f.1
  ·rw [hc,hH] at ec
   cases ec
   exact⟨_,by rw [hc]; exact Ak,λnu=>absurd (hc▸R1.fU f hF) nu,λvs z=>by cases z⟩
  ·exact⟨o,by rw [Ac hc]; exact ec,λ_=>rfl,λ_ _=>rfl⟩
 ·have:g=f:=Uf (hg.symm.trans hF)
  subst this
  exact .inr ⟨ks,ds,vs,ht,r,by rw [GK hlen]; exact Ak,hl,hs'.pres pr,h1,h2,hnd⟩
noncomputable def Jn(i:Nat):Nat->List Slot->(Slot->Nat->Prop)->Prop:=λn ρ P=>match ρ[i]? with
 | some (.wd ks ds)=>P (.wd ks ds) n
 | _=>False
theorem EU(i:Nat){x:Str}{pos:Pos}(hN:autoParam (X.N[i]?=some x) zau3._auto_1)(hv:autoParam (X7 X.env.scope x) zau4._auto_1)(hd:autoParam ((x==("__debug__" : Str))=false) zau1._auto_1)
  (hcd:autoParam ((x==("__classdict__" : Str))=false) zau1._auto_1):ZT X (.Name x pos) (Jn i):=by
 refine⟨_,J6 hN hv hd hcd,λC M H n ρ σ P Q R w q=>?_⟩
 unfold Jn at w
 split at w
 ·rename_i ks ds hd
  obtain⟨f,vs,e1,h1⟩:=R.sl i _ hd
  exact⟨.ref f.1,getD_some e1,q _ H (.wd ks ds) n (Ext.refl _ _) R.feed ⟨⟨f,vs,rfl,h1⟩,rfl⟩ w⟩
 ·exact w.elim
noncomputable def SG(W:W2)(i1 i2 i3 j:Nat)(k1 k2 k3:Str)(r:Nat)(c:Int):DW:=λn ρ P=>∃d1 d2 d3 d4,ρ[i1]?=some (.sh d1)/\ρ[i2]?=some (.sh d2)/\ρ[i3]?=some (.sh d3)/\ρ[j]?=some (.sh d4)/\CD [d1,d2,d3]=true/\W [.wd [.inr k1,.inr k2,.inr k3] [d1,d2,d3],.sh (.lst []),.sh (.lst []),.sh d4,.sh (.int c)] r λd _=>P d n
theorem Nv{k1 k2 k3 k4:Key}{v1 v2 v3 v4:V}(h:[k1,k2,k3,k4].Nodup):Et [] [(k1,v1),(k2,v2),(k3,v3),(k4,v4)]=[(k1,v1),(k2,v2),(k3,v3),(k4,v4)]:=by
 simp only [bZ,aq,a9,or_false,not_or,not_false_eq_true,and_true] at h
 obtain⟨⟨h1,h2,h3⟩,⟨h4,h5⟩,h6,_⟩:=h
 simp only [Et,gQ,List.foldl_nil,putK,List.any_nil,dM,fj,bi,if_false,bE,dn,decide_eq_false h1,decide_eq_false h2,decide_eq_false h3,decide_eq_false h4,decide_eq_false h5,decide_eq_false h6]
theorem UM{ps:List Str}{W:W2}{fn:Str}{i1 i2 i3 j r:Nat}{c:Int}{k1 k2 k3:Str}{e1 e2 e3 e4:Expr}{p dp:Pos}{j1 j2 j3 j4 j5 j6 q1 q2 q3 q4 q5 q6 l1 l2}(G:Got X.prog X.w X.K X.mg X.base fn k ps .sh W)
  (hr:Room k X.A) (hg:Gl X fn) (h1:PE X e1 (BU i1)) (h2:PE X e2 (BU i2)) (h3:PE X e3 (BU i3)) (h4:PE X e4 (BU j)) (nd:[(bJ k1:Key),bJ k2,bJ k3,bJ "room"].Nodup) (h100:r<=100000) (hps:autoParam (ps.length=5) zau3._auto_1)
  (hdb:autoParam ((fn==("__debug__" : Str))=false) zau1._auto_1)
  (he:autoParam (starEach [.Dict [some (.Constant (.str k1) j1 q1),some (.Constant (.str k2) j2 q2),some (.Constant (.str k3) j3 q3),some (.Constant (.str "room") j4 q4)] [e1,e2,e3,.Constant (.int r) j5 q5] dp,.List [] l1,.List [] l2,e4,.Constant (.int c) j6 q6] X.env=(false,eval (.Dict [some (.Constant (.str k1) j1 q1),some (.Constant (.str k2) j2 q2),some (.Constant (.str k3) j3 q3),some (.Constant (.str "room") j4 q4)] [e1,e2,e3,.Constant (.int r) j5 q5] dp) X.env)::starEach [.List [] l1,.List [] l2,e4,.Constant (.int c) j6 q6] X.env) zau3._auto_1)
  (he2:autoParam (starEach [.List [] l1,.List [] l2,e4,.Constant (.int c) j6 q6] X.env=(false,eval (.List [] l1) X.env)::starEach [.List [] l2,e4,.Constant (.int c) j6 q6] X.env) zau3._auto_1) (he3:autoParam (starEach [.List [] l2,e4,.Constant (.int c) j6 q6] X.env=(false,eval (.List [] l2) X.env)::starEach [e4,.Constant (.int c) j6 q6] X.env) zau3._auto_1)
  (he4:autoParam (starEach [e4,.Constant (.int c) j6 q6] X.env=(false,eval e4 X.env)::starEach [.Constant (.int c) j6 q6] X.env) zau3._auto_1) (he5:autoParam (starEach [.Constant (.int c) j6 q6] X.env=[(false,eval (.Constant (.int c) j6 q6) X.env)]) zau3._auto_1)
  (hpl:autoParam ((backTo pos (starEach [.List [] l1,.List [] l2,e4,.Constant (.int c) j6 q6] X.env)).any (·.1)=false) zau3._auto_1) :
  DE X (.Call (.Name fn p) [.Dict [some (.Constant (.str k1) j1 q1),some (.Constant (.str k2) j2 q2),some (.Constant (.str k3) j3 q3),some (.Constant (.str "room") j4 q4)] [e1,e2,e3,.Constant (.int r) j5 q5] dp,.List [] l1,.List [] l2,e4,.Constant (.int c) j6 q6] [] pos) .sh (SG W i1 i2 i3 j k1 k2 k3 r c):=by
 obtain⟨f,fd,G,hm,hk,hb,hW⟩:=G
 refine⟨_,MN G hr hg hm hk hb .nil QD (A3 (QC (DU ED h1 (DU ED h2 (DU ED h3 (DU ED A6 P7)))) rfl rfl (by intro z; cases z) (show 4<=15 by decide)) (A3 (IK BV) (A3 (IK BV) (A3 h4 (A3 A6 BV he5) he4) he3) he2) he) hdb he hpl,λC M H n ρ σ P Q R w q=>?_⟩
 obtain⟨d1,d2,d3,d4,s1,s2,s3,s4,hnd,w⟩:=w
 obtain⟨v1,e1',a1⟩:=R.sl i1 _ s1
 obtain⟨v2,e2',a2⟩:=R.sl i2 _ s2
 obtain⟨v3,e3',a3⟩:=R.sl i3 _ s3
 obtain⟨v4,e4',a4⟩:=R.sl j _ s4
 refine λpa hpa=>⟨v1,getD_some e1',v2,getD_some e2',v3,getD_some e3',Ak,[(.inr k1,v1),(.inr k2,v2),(.inr k3,v3),(.inr "room",.int r)],rfl,(by decide:4<=15),?_⟩
 rw [Nv nd]
 refine⟨TW _,λb1 hb1=>⟨TW _,λb2 hb2=>⟨v4,getD_some e4',?_⟩⟩⟩
 have n1:b1≠pa:=λz=>by rw [z,Ak] at hb1; cases hb1
 have n2:b2≠pa:=λz=>by rw [z,Ac (cE n1),Ak] at hb2; cases hb2
 have n3:b2≠b1:=λz=>by rw [z,Ak] at hb2; cases hb2
 generalize hH7:BN (BN (BN (BN H pa (.dK [])) pa (.dK [((bJ k1:Key),v1),(.inr k2,v2),(.inr k3,v3),(.inr "room",.int r)])) b1 (.lst [])) b2 (.lst [])=H7
 have o1:H b1=none:=by rw [Ac n1,Ac n1] at hb1; exact hb1
 have o2:H b2=none:=by rw [Ac n3,Ac n2,Ac n2] at hb2; exact hb2
 have keep:∀b o,H b=some o->b≠pa/\H7 b=some o:=λb o e=>by
  have z1:b≠pa:=BE e hpa
  exact⟨z1,by rw [← hH7,Ac (BE e o2),Ac (BE e o1),Ac z1,Ac z1]; exact e⟩
 have x0:H7 pa=some (.dK [((bJ k1:Key),v1),(.inr k2,v2),(.inr k3,v3),(.inr "room",.int r)]):=by rw [← hH7,Ac (cE n2),Ac (cE n1),Ak]
 have x1:H7 b1=some (.lst []):=by rw [← hH7,Ac (cE n3),Ak]
 have x2:H7 b2=some (.lst []):=by rw [← hH7,Ak]
 have pr:Pres M H (λb=>M b\/b=pa) H7:=⟨λb o e _=>(keep b o e).2,λb z=>z.elim .inl λz=>.inr (by rw [z]; exact hpa),λb vs e=>(keep b _ e).2⟩
 have old:∀b,H b=none->¬M b:=λb e z=>by
  obtain⟨o,q⟩:=R.dom b z
  rw [e] at q; cases q
 show C7 X.K .sh W ps.length _ H7 Q E0
 refine⟨by rw [hps]; rfl,some ⟨pa,pa,some ([.inr k1,.inr k2,.inr k3],[d1,d2,d3],[v1,v2,v3])⟩,(λb=>b=pa),(λb=>C.V b\/b=pa),(λb=>M b\/b=pa),r,_,_,⟨λb z=>?_,λg hg=>?_,λb z=>.inr z,λb z=>z.elim (λz=>.inl (R.vM b z)) .inr,λg hg=>?_,?_⟩,w,λv H' d n' ex fx rx px=>?_⟩
 ·rcases z with z | z
  ·obtain⟨o,q⟩:=R.dom b z
   exact⟨o,(keep b o q).2⟩
  ·rw [z]; exact⟨_,x0⟩
 ·cases hg; rfl
 ·cases hg
  exact .inr ⟨_,_,_,rfl,r,x0,rfl,⟨v1,_,rfl,a1.pres pr,v2,_,rfl,a2.pres pr,v3,_,rfl,a3.pres pr,rfl⟩,cy _,by omega,hnd⟩
 ·refine .cons ⟨⟨_,_,rfl,rfl,rfl⟩,rfl⟩ (.cons ⟨⟨_,rfl,b1,[],rfl,⟨λz=>z.elim (old b1 o1) n1,x1⟩,rfl⟩,rfl⟩ (.cons ⟨⟨_,rfl,b2,[],rfl,⟨λz=>z.elim (old b2 o2) n2,x2⟩,rfl⟩,rfl⟩ (.cons ⟨⟨_,rfl,a4.pres pr⟩,rfl⟩ (.cons ⟨⟨_,rfl,rfl⟩,rfl⟩ .nil))))
 ·have stay:∀b o,H b=some o->H' b=some o:=λb o e=>ex.keep (keep b o e).2 (keep b o e).1
  refine q v H' d n (λb o e=>⟨o,stay b o e,λ_=>rfl,λ_ _=>rfl⟩) (R.feed.pres ⟨λb o e _=>stay b o e,λ_ z=>.inl z,λb vs e=>stay b _ e⟩ λf o _ e=>stay _ o e) ?_ px
  have hat:At X.K (λb=>M b\/b=pa) H' d v:=rx
  exact hat.pres ⟨λb o e _=>e,λb z=>.inl (.inl z),λb vs e=>e⟩
noncomputable def Od(i1 i2 i3:Nat)(k1 k2 k3:Str):DW:=λn ρ P=>∃d1 d2 d3,ρ[i1]?=some (.sh d1)/\ρ[i2]?=some (.sh d2)/\ρ[i3]?=some (.sh d3)/\P (.dic [.inr k1,.inr k2,.inr k3] [d1,d2,d3]) n
theorem Mc{k1 k2 k3:Key}{v1 v2 v3:V}(h:[k1,k2,k3].Nodup):Et [] [(k1,v1),(k2,v2),(k3,v3)]=[(k1,v1),(k2,v2),(k3,v3)]:=by
 simp only [bZ,aq,a9,or_false,not_or,not_false_eq_true,and_true] at h
 obtain⟨⟨h1,h2⟩,h4,_⟩:=h
 simp only [Et,gQ,List.foldl_nil,putK,List.any_nil,dM,fj,bi,if_false,bE,dn,decide_eq_false h1,decide_eq_false h2,decide_eq_false h4]
theorem OJ{i1 i2 i3:Nat}{k1 k2 k3:Str}{e1 e2 e3:Expr}{j1 j2 j3 q1 q2 q3}(h1:PE X e1 (BU i1))(h2:PE X e2 (BU i2))(h3:PE X e3 (BU i3))(nd:[(bJ k1:Key),bJ k2,bJ k3].Nodup) :
  DE X (.Dict [some (.Constant (.str k1) j1 q1),some (.Constant (.str k2) j2 q2),some (.Constant (.str k3) j3 q3)] [e1,e2,e3] pos) .fr (Od i1 i2 i3 k1 k2 k3):=by
 refine⟨_,QC (DU ED h1 (DU ED h2 (DU ED h3 P7))) rfl rfl (by intro z; cases z) (show 3<=15 by decide),λC M H n ρ σ P Q R w q=>?_⟩
 obtain⟨d1,d2,d3,s1,s2,s3,w⟩:=w
 obtain⟨v1,e1',a1⟩:=R.sl i1 _ s1
 obtain⟨v2,e2',a2⟩:=R.sl i2 _ s2
 obtain⟨v3,e3',a3⟩:=R.sl i3 _ s3
 refine λpa hpa=>⟨v1,getD_some e1',v2,getD_some e2',v3,getD_some e3',Ak,[(.inr k1,v1),(.inr k2,v2),(.inr k3,v3)],rfl,(by decide:3<=15),?_⟩
 rw [Mc nd]
 have keep:∀b o,H b=some o->BN (BN H pa (.dK [])) pa (.dK [((bJ k1:Key),v1),(.inr k2,v2),(.inr k3,v3)]) b=some o:=λb o e=>by
  have z1:b≠pa:=BE e hpa
  rw [Ac z1,Ac z1]; exact e
 have pr:Pres M H (λb=>M b\/b=pa) (BN (BN H pa (.dK [])) pa (.dK [((bJ k1:Key),v1),(.inr k2,v2),(.inr k3,v3)])):=⟨λb o e _=>keep b o e,λb z=>z.elim .inl λz=>.inr (by rw [z]; exact hpa),λb vs e=>keep b _ e⟩
 refine q _ _ (.dic [.inr k1,.inr k2,.inr k3] [d1,d2,d3]) n (λb o e=>⟨o,keep b o e,λ_=>rfl,λ_ _=>rfl⟩) (R.feed.pres ⟨λb o e _=>keep b o e,λ_ z=>.inl z,λb vs e=>keep b _ e⟩ λf o _ e=>keep _ o e) ⟨pa,rfl,hpa,[v1,v2,v3],Ak,rfl,?_⟩ w
 exact⟨v1,_,rfl,a1.pres pr,v2,_,rfl,a2.pres pr,v3,_,rfl,a3.pres pr,rfl⟩
end
end Dp
namespace Nt
open PySem PySem.Spec PyProof.Rows L2 Dp
noncomputable def RD(N:Net)(p:List Int):Prop:=p.length=N.ps.length/\∀x∈p,0<=x/\x<=10 ^ 14
noncomputable def LB(N:Net):Ca->Prop
 | .en=>True
 | .fa u p=>u∈N.ts/\RD N p
 | .sp u c d=>u∈N.ts/\LB N c/\LB N d
noncomputable def Cp(t b:Int):Prop:=1<=b/\b<=1000000/\1<=t/\t<=1000000
noncomputable def FN(N:Net)(l:List A0):Prop:=(∀u∈l,u∈N.ts)/\l.length<=100
noncomputable abbrev Bn(t b:Int):D:=.tup [.int t,.int b]
noncomputable abbrev D6(l:List A0):D:=.lst (l.map Ag)
noncomputable def Jd:W2:=λss n P=>∃(N:Net) (gone:List A0),ss=[.sh (C3 N),.sh (D6 gone)]/\okN N/\FN N gone/\P (C3 (C_ N gone)) n
noncomputable def Hq:Aj:=(A2 (Ad M_ (AD (AN (AG 0)) (AD (SD (B6 [some 1,none] (BZ (Am BQ (AG 0) (wC (D.int 1)))) (A1 1) (As (Am (JI true) (AG 1) (AG 0))) (AG 1))) Af))))
noncomputable def Dx:Aj:=(Ap (Bl (CH (As (Ad Qk (AD (AN (AG 0)) (AD (AN (AG 3)) Af))))) (A2 (wC (D.str "fair"))) BA)
 (A2 (YE (As (Ad Je (AD (AN (Ad Uj (AD (AN (AG 0)) (AD (AN (AG 3)) (AD (AN (Am BQ (AG 2) (wC (D.int 0)))) (AD (AN (Am BQ (AG 2) (wC (D.int 1)))) Af)))))) (AD (AN (AG 1)) (AD (AN (Am BQ (AG 2) (wC (D.int 2)))) Af))))) (wC (D.str "near")) (wC D.non))))
noncomputable def Gh(Wr:W2):Aj:=(Ap (Bl (CH (As (Ad Dk (AD (AN (wC (D.int 4))) (AD (AN (AG 0)) Af))))) (A2 (wC (D.int 1))) BA)
 (A2 (Am A4 (Am A4 (wC (D.int 1)) (Ad Wr (AD (AN (Am BQ (AG 0) (wC (D.int 2)))) Af))) (Ad Wr (AD (AN (Am BQ (AG 0) (wC (D.int 3)))) Af)))))
theorem EH{N:Net}(ok:N.Ok){l:List A0}(h:FN N l):B9 (D6 l):=(Hc ok h.1).2
theorem Nj{N:Net}(h:okN N)(gone:List A0):okN (C_ N gone):=⟨MO h.1 gone,h.2.1,bF (List.length_filter_le _ _) h.2.2⟩
theorem Vx:∀c:Ca,1<=c.dep
 | .en=>No _
 | .fa _ _=>No _
 | .sp _ _ _=>Nat.le_add_right _ _
theorem JZ{N:Net}(ok:N.Ok):∀c:Ca,LB N c->fine (10 ^ 14) c.D/\Cw c.D<=c.dep+1
 | .en,_=>⟨⟨(show ∀c∈cs "enough",c<1114112 by decide +kernel),trivial⟩,by show max 0 0+1<=2; decide⟩
 | .fa u p,⟨hu,hp⟩=>by
  have it:=DY ok _ (UF.mpr ⟨u,hu,rfl⟩)
  have hf:∀d∈p.map D.int,fine (10 ^ 14) d/\Cw d=0:=λd hd=>by
   obtain⟨x,hx,rfl⟩:=UF.mp hd
   exact⟨by show x.natAbs<=_; have:=hp.2 x hx; omega,rfl⟩
  refine⟨⟨(show ∀c∈cs "far",c<1114112 by decide +kernel),(IU (by decide) _).1 _ (No _) it.1,DZ λd hd=>(hf d hd).1,trivial⟩,?_⟩
  have h1:=it.2.2
  have h2:Fx (p.map D.int)<=0:=dps_le.mpr λd hd=>eD (hf d hd).2
  show max 0 (max (Cw (Ag u)) (max (Fx (p.map D.int)+1) 0))+1<=2
  omega
 | .sp u c d,⟨hu,hc,hd⟩=>by
  have it:=DY ok _ (UF.mpr ⟨u,hu,rfl⟩)
  obtain⟨c1,c2⟩:=JZ ok c hc
  obtain⟨d1,d2⟩:=JZ ok d hd
  refine⟨⟨(show ∀c∈cs "split",c<1114112 by decide +kernel),(IU (by decide) _).1 _ (No _) it.1,c1,d1,trivial⟩,?_⟩
  have h1:=it.2.2
  have h3:=Vx c
  show max 0 (max (Cw (Ag u)) (max (Cw c.D) (max (Cw d.D) 0)))+1<=1+max c.dep d.dep+1
  omega
section
variable {ss:List Slot}{n:Nat}{Pd:D->Nat->Prop}
theorem MF(h:Jd ss n Pd):Hq (EE Pd) n (ss++Re 0 .no):=by
 obtain⟨M,gone,rfl,okm,hg,p⟩:=h
 have ok:=okm.1
 have l60:=okm.2.2
 unfold Hq
 refine⟨_,AR (j:=1) rfl,by show (M.ts.map Ag).length<=10000000; rw [Db]; omega,?_⟩
 refine Fq (λd=>!((gone.map Ag).any λy=>Bw y d)) id (λρ=>∃s,ρ=[.sh (D6 gone),s]) _ _ _ _ ?_ ⟨_,rfl⟩ ?_
 ·rintro d hd ρ m nx sk ⟨s,rfl⟩ h1 h2
  obtain⟨t,ht,rfl⟩:=UF.mp hd
  refine⟨Cf ok ht,EH ok hg,_,rfl,?_⟩
  exact Dq (λc=>h1 _ ⟨_,rfl⟩ c) λc=>h2 _ ⟨_,rfl⟩ (b8.mpr c)
 ·rw [bE,fV]
  have e:(M.ts.map Ag).filter (λd=>!((gone.map Ag).any λy=>Bw y d))=(C_ M gone).ts.map Ag:=by
   rw [gU]
   congr 1
   refine f8 λt _=>?_
   show (!((gone.map Ag).any λy=>Bw y (Ag t)))=decide (¬t∈gone)
   rw [DD,decide_not]
  rw [e]
  have okd:=Nj okm gone
  refine⟨M,_,(C_ M gone).ts,rfl,rfl,by have:=okd.2.2; omega,λts' p1 p2=>?_⟩
  rw [Oh p1 p2 (Pe okd.1.trise)]
  exact p
end
noncomputable abbrev aB(N:Net)(t b:Int)(many:Nat):Slot:=.wd [.inr "net",.inr "times",.inr "many"] [C3 N,Bn t b,.int (many:Int)]
noncomputable def EX:Aj:=(Ap (Bl (EM (CH (As (FL "tuple" (AG 1)))) (EM (As (Am (Ku true) (Cj DB (AE (AG 1) AW)) (wC (D.int 3)))) (As (FL "bool" (Am BQ (AG 1) (wC (D.int 2))))))) (A2 (wC (D.bl false))) BA)
 (A2 (Am (JI false) (AG 1) (Am BQ (AG 0) (wC (D.int 1))))))
theorem IG(x y z:D):D5 [.inr "net",.inr "times",.inr "many"] [x,y,z] (.inr "net")=some x:=if_pos rfl
theorem Jm(x y z:D):D5 [.inr "net",.inr "times",.inr "many"] [x,y,z] (.inr "times")=some y:=by
 unfold D5
 rw [if_neg (λz=>absurd (cJ z) (by decide +kernel))]
 exact if_pos rfl
theorem Pk(x y z:D):D5 [.inr "net",.inr "times",.inr "many"] [x,y,z] (.inr "many")=some z:=by
 unfold D5
 rw [if_neg (λz=>absurd (cJ z) (by decide +kernel))]
 unfold D5
 rw [if_neg (λz=>absurd (cJ z) (by decide +kernel))]
 exact if_pos rfl
theorem key_ne{x y:Str}(h:x≠y):(bJ x:Key)≠bJ y:=λz=>h (cJ z)
theorem Ma:(bJ "room" : Key)∉[(bJ "net" : Key),.inr "times",.inr "many"]:=λz=>by
 simp only [aq,a9,or_false] at z
 rcases z with z | z | z <;> exact absurd z (key_ne (by decide +kernel))
theorem TU:[(bJ "net" : Key),bJ "times",bJ "many"].Nodup:=by
 simp only [bZ,aq,a9,or_false,not_or,not_false_eq_true,and_true,cq]
 exact⟨⟨key_ne (by decide +kernel),key_ne (by decide +kernel)⟩,key_ne (by decide +kernel)⟩
theorem XR:[(bJ "net" : Key),bJ "times",bJ "many",bJ "room"].Nodup:=by
 simp only [bZ,aq,a9,or_false,not_or,not_false_eq_true,and_true,cq]
 exact⟨⟨key_ne (by decide +kernel),key_ne (by decide +kernel),key_ne (by decide +kernel)⟩,⟨key_ne (by decide +kernel),key_ne (by decide +kernel)⟩,key_ne (by decide +kernel)⟩
section
variable {ss:List Slot}{n:Nat}{Pd:D->Nat->Prop}
end
noncomputable def Qt:D->Option A0
 | .tup [.str a,.str b,.int l]=>some ⟨a,b,l⟩
 | _=>none
noncomputable def Vg(M:Net)(t b:Int)(u:A0):D->Bool
 | .tup xs=>E_ M (.tup xs)&&decide (u.len*t<CU (Cr M xs u.a - Cr M xs u.b)*b)
 | _=>false
noncomputable def Uq(N:Net)(u:D)(f:A0->Bool):Bool:=match Qt u with
 | some v=>decide (v∈N.ts)&&f v
 | none=>false
noncomputable def PN(N:Net)(t b:Int)(gone:List A0)(u p:D):Bool:=Uq N u λv=>decide (v∈gone)&&Vg (C_ N gone) t b v p
noncomputable def Eh(N:Net)(t b:Int)(many:Nat):Nat->List A0->List A0->D->Bool
 | _+1,kept,_,.tup [w]=>Bw w (.str "enough")&&decide (many<=kept.length)
 | _+1,_,gone,.tup [w,u,p]=>Bw w (.str "far")&&PN N t b gone u p
 | k+1,kept,gone,.tup [w,u,c,d]=>Bw w (.str "split")&&Uq N u λv=>!decide (v∈kept)&&(!decide (v∈gone)&&(Eh N t b many k (kept++[v]) gone c&&Eh N t b many k kept (gone++[v]) d))
 | _,_,_,_=>false
noncomputable def DC:Nat->D->Nat
 | k+1,.tup [_,_,c,d]=>1+DC k c+DC k d
 | _,_=>1
noncomputable def dq:Nat->D->Prop
 | k+1,.tup [_,_,c,d]=>dq k c/\dq k d
 | _+1,_=>True
 | 0,x=>tupleOfB 4 x=false
inductive ZH:D->Prop
 | one (w:D):ZH (.tup [w])
 | three (w u p:D):ZH (.tup [w,u,p])
 | four (w u c d:D):ZH (.tup [w,u,c,d])
 | oth (x:D):(∀xs,x=.tup xs->xs.length≠1/\xs.length≠3/\xs.length≠4)->ZH x
theorem Zo:∀x:D,ZH x
 | .tup [w]=>.one w
 | .tup [w,u,p]=>.three w u p
 | .tup [w,u,c,d]=>.four w u c d
 | .tup []=>.oth _ λxs e=>by cases e; decide
 | .tup [_,_]=>.oth _ λxs e=>by cases e; refine⟨?_,?_,?_⟩ <;> intro z <;> cases z
 | .tup (_::_::_::_::_::r)=>.oth _ λxs e=>by cases e; simp only [Tk]; omega
 | .non=>.oth _ λxs e=>by cases e
 | .bl _=>.oth _ λxs e=>by cases e
 | .int _=>.oth _ λxs e=>by cases e
 | .str _=>.oth _ λxs e=>by cases e
 | .lst _=>.oth _ λxs e=>by cases e
 | .dic _ _=>.oth _ λxs e=>by cases e
 | .fdi _ _=>.oth _ λxs e=>by cases e
 | .dit _ _=>.oth _ λxs e=>by cases e
theorem TD{N:Net}{t b:Int}{many k:Nat}{kept gone:List A0}{x:D}(h:∀xs,x=.tup xs->xs.length≠1/\xs.length≠3/\xs.length≠4):Eh N t b many k kept gone x=false:=by
 unfold Eh
 split
 ·exact absurd rfl (h _ rfl).1
 ·exact absurd rfl (h _ rfl).2.1
 ·exact absurd rfl (h _ rfl).2.2
 ·rfl
theorem TF{x:D}(h:∀xs,x=.tup xs->xs.length≠1/\xs.length≠3/\xs.length≠4):Bw x (.tup [.str "enough"])=false/\tupleOfB 3 x=false/\tupleOfB 4 x=false:=by
 refine⟨b8.mpr λz=>absurd rfl (h _ (T9 (ps:=["enough"]) |>.mp z)).1,?_,?_⟩ <;> cases x with
 | tup xs=>exact beq_eq_false_iff_ne.mpr (by have:=h xs rfl; omega)
 | _=>rfl
theorem Qs{d:D}{v:A0}(h:Qt d=some v):d=Ag v:=by
 unfold Qt at h
 split at h
 ·cases h; rfl
 ·cases h
theorem SO{N:Net}{d:D}:GV N d=match Qt d with | some v=>decide (v∈N.ts) | none=>false:=by
 rw [cF,tofB_iff]
 constructor
 ·rintro ⟨v,hv,rfl⟩
  exact decide_eq_true hv
 ·cases e:Qt d with
  | none=>exact λz=>by cases z
  | some v=>exact λz=>⟨v,of_decide_eq_true z,Qs e⟩
theorem SQ{N:Net}{u:D}(h:GV N u=false)(f:A0->Bool):Uq N u f=false:=by
 rw [SO] at h
 unfold Uq
 cases e:Qt u with
 | none=>rfl
 | some v=>rw [e] at h; show (decide (v∈N.ts)&&f v)=false; rw [show decide (v∈N.ts)=false from h]; rfl
theorem Es{N:Net}{v:A0}(h:v∈N.ts)(f:A0->Bool):Uq N (Ag v) f=f v:=by
 show (decide (v∈N.ts)&&f v)=_
 rw [decide_eq_true h,bA]
theorem XN{N:Net}{u:D}{f:A0->Bool}(h:Uq N u f=true):∃v∈N.ts,u=Ag v/\f v=true:=by
 cases e:GV N u with
 | false=>rw [SQ e] at h; cases h
 | true =>
  obtain⟨v,hv,rfl⟩:=tofB_iff.mp e
  exact⟨v,hv,rfl,by rw [Es hv] at h; exact h⟩
theorem TR{N:Net}{t b:Int}{many:Nat}:∀{k:Nat} {kept gone:List A0} {x:D},Eh N t b many (k+1) kept gone x=true->dq k x
 | k,kept,gone,x,h=>by
  cases Zo x with
  | one w=>cases k <;> first | rfl | trivial
  | three w u p=>cases k <;> first | rfl | trivial
  | oth x hx=>rw [TD hx] at h; cases h
  | four w u c d =>
   have h:=(az _ _▸h:_/\_).2
   obtain⟨v,_,_,h⟩:=XN h
   simp only [az] at h
   obtain⟨_,_,h1,h2⟩:=h
   cases k with
   | zero=>cases h1
   | succ k=>exact⟨TR h1,TR h2⟩
theorem JT{xs:List D}{m:Nat}(h:Cw (.tup xs)<=m+1):∀y∈xs,Cw y<=m:=dps_le.mp (gf h)
theorem PX:∀(k m:Nat) (x:D),Cw x<=m->DC k x+1<=2 ^ (m+1)
 | 0,m,x,_=>by
  have:=cV m
  show 1+1<=_
  rw [be]
  omega
 | k+1,m,x,h=>by
  have p:=cV m
  have base:1+1<=2 ^ (m+1):=by rw [be]; omega
  unfold DC
  split
  ·rename_i k' w u c d e
   cases e
   cases m with
   | zero=>exact absurd h (by show ¬Fx _+1<=0; omega)
   | succ m =>
    have h1:=PX k m c (JT h c (by simp))
    have h2:=PX k m d (JT h d (by simp))
    rw [be]
    omega
  ·exact base
noncomputable def Pl(x:D):Prop:=fine (10 ^ 40) x/\Cw x<=90
theorem Pl.lay{x:D}(h:Pl x):B9 x:=IP (by decide) h.1 (bF h.2 (by decide))
theorem Pl.mem{xs:List D}(h:Pl (.tup xs)){y:D}(hy:y∈xs):Pl y:=⟨fines_iff.mp h.1 y hy,by have:=dps_le.mp (No (Fx xs)) y hy; have h2:Fx xs+1<=90:=h.2; omega⟩
theorem O8{s:Str}(h:∀c∈cs s,c<1114112):Pl (.str s):=⟨h,TW _⟩
theorem XX:B9 (.str "enough"):=(O8 (by decide +kernel)).lay
theorem TZ:B9 (.str "far"):=(O8 (by decide +kernel)).lay
theorem TY:B9 (.str "split"):=(O8 (by decide +kernel)).lay
theorem VX:B9 (.tup [.str "enough"]):=Pl.lay ⟨⟨(show ∀c∈cs "enough",c<1114112 by decide +kernel),trivial⟩,by show max 0 0+1<=90; decide⟩
noncomputable def GU:W2:=λss n P=>∃(N:Net) (t b:Int) (u:A0) (p:D),ss=[.sh (C3 N),.sh (Bn t b),.sh (Ag u),.sh p]/\okN N/\Cp t b/\u.a∈N.ps/\u.b∈N.ps/\(Vg N t b u p=true->P .non n)/\(Vg N t b u p=false->∀s,P (.str s) n)
noncomputable def Jf:W2:=λss n P=>∃(N:Net) (t b:Int) (gone:List A0) (w u p:D),ss=[.sh (C3 N),.sh (Bn t b),.sh (D6 gone),.sh (.tup [w,u,p])]/\okN N/\Cp t b/\FN N gone/\Pl u/\P (.bl (PN N t b gone u p)) n
noncomputable def IW(j:Nat):W2:=λss n P=>∃(N:Net) (t b:Int) (many:Nat) (kept gone:List A0) (k:Nat) (x:D),ss=[.sh (C3 N),.sh (Bn t b),.sh (.int (many:Int)),.sh (D6 kept),.sh (D6 gone),.sh (.int (k:Int)),.sh x]/\okN N/\Cp t b/\FN N kept/\FN N gone/\kept.length+k<=90/\gone.length+k<=90/\Pl x/\k<=j/\P (.bl (Eh N t b many k kept gone x)) n
noncomputable def Eg(j:Nat):W2:=λss n P=>∃x:D,ss=[.sh x]/\dq j x/\P (.int (DC j x:Int)) n
noncomputable def FT(N:Net)(t b:Int)(many:Nat)(x:D):Bool:=Eh N t b many 15 [] [] x&&decide (DC 14 x<=4000)
noncomputable def Ee:W2:=λss n P=>∃(N:Net) (t b:Int) (many:Nat) (x:D),ss=[.sh (C3 N),.sh (Bn t b),.sh (.int (many:Int)),.sh x]/\okN N/\Cp t b/\Pl x/\P (.bl (FT N t b many x)) n
noncomputable def Dw:Aj:=Dx
noncomputable def F2:Aj:=(Ap (Bl (EM (CH (As (Ad Ui (AD (AN (AG 0)) (AD (AN (Am BQ (AG 3) (wC (D.int 1)))) Af))))) (As (Am (JI true) (Am BQ (AG 3) (wC (D.int 1))) (AG 2)))) (A2 (wC (D.bl false))) BA)
 (A2 (Am (OB false) (Ad GU (AD (AN (Ad Jd (AD (AN (AG 0)) (AD (AN (AG 2)) Af)))) (AD (AN (AG 1)) (AD (AN (Am BQ (AG 3) (wC (D.int 1)))) (AD (AN (Am BQ (AG 3) (wC (D.int 2)))) Af))))) (wC D.non))))
noncomputable def Gg(Wr:W2):Aj:=(Ap (Bl (As (Am (Ku false) (AG 5) (wC (D.int 0)))) (A2 (wC (D.bl false))) BA)
 (Ap (Bl (As (Am PP (AG 6) (BH (AE (wC (D.str "enough")) AW)))) (A2 (Am (f2 λi j=>D.bl (decide (j<=i))) (Cj DB (AE (AG 3) AW)) (AG 2))) BA)
 (Ap (Bl (LG (As (Ad Dk (AD (AN (wC (D.int 3))) (AD (AN (AG 6)) Af)))) (As (Am PP (Am BQ (AG 6) (wC (D.int 0))) (wC (D.str "far"))))) (A2 (Ad Jf (AD (AN (AG 0)) (AD (AN (AG 1)) (AD (AN (AG 4)) (AD (AN (AG 6)) Af)))))) BA)
 (Ap (Bl (EM (CH (As (Ad Dk (AD (AN (wC (D.int 4))) (AD (AN (AG 6)) Af))))) (As (Am Mi (Am BQ (AG 6) (wC (D.int 0))) (wC (D.str "split"))))) (A2 (wC (D.bl false))) BA)
 (Ap (A5 7 (Am BQ (AG 6) (wC (D.int 1))))
 (Ap (Bl (EM (CH (As (Ad Ui (AD (AN (AG 0)) (AD (AN (AG 7)) Af))))) (EM (As (Am (JI false) (AG 7) (AG 3))) (As (Am (JI false) (AG 7) (AG 4))))) (A2 (wC (D.bl false))) BA)
 (Ap (Bl (CH (As (Ad Wr (AD (AN (AG 0)) (AD (AN (AG 1)) (AD (AN (AG 2)) (AD (AN (Am A4 (AG 3) (BM (AE (AG 7) AW)))) (AD (AN (AG 4)) (AD (AN (Am CP (AG 5) (wC (D.int 1)))) (AD (AN (Am BQ (AG 6) (wC (D.int 2)))) Af)))))))))) (A2 (wC (D.bl false))) BA)
 (A2 (Ad Wr (AD (AN (AG 0)) (AD (AN (AG 1)) (AD (AN (AG 2)) (AD (AN (AG 3)) (AD (AN (Am A4 (AG 4) (BM (AE (AG 7) AW)))) (AD (AN (Am CP (AG 5) (wC (D.int 1)))) (AD (AN (Am BQ (AG 6) (wC (D.int 3)))) Af))))))))))))))))
noncomputable def Kk:Aj:=(A2 (I_ (Ad (IW 15) (AD (AN (AG 0)) (AD (AN (AG 1)) (AD (AN (AG 2)) (AD (AN (BM AW)) (AD (AN (BM AW)) (AD (AN (wC (D.int 15))) (AD (AN (AG 3)) Af)))))))) (Am T3 (Ad (Eg 14) (AD (AN (AG 3)) Af)) (wC (D.int 4000)))))
theorem Ts{M:Net}{xs:List D}(h:E_ M (.tup xs)=true):xs.length=M.ps.length/\∀x∈xs,Kt x=true:=by
 have h:=(az _ _▸h:_/\_).1
 have h:=(az _ _▸h:_/\_)
 exact⟨by have:=eq_of_beq h.1; omega,cO.mp h.2⟩
theorem sub_snoc{N:Net}{l:List A0}{u:A0}(h:FN N l)(hu:u∈N.ts)(hl:l.length+1<=100):FN N (l++[u]):=⟨λv hv=>(bD.mp hv).elim (h.1 v) λz=>by rw [ay.mp z]; exact hu,by rw [Sc,aw]; exact hl⟩
theorem HH(l:List A0)(u:A0):l.map Ag++[Ag u]=(l++[u]).map Ag:=by rw [cA]; rfl
section
variable {ss:List Slot}{n:Nat}{Pd:D->Nat->Prop}
theorem HQ(h:GU ss n Pd):Dw (EE Pd) n (ss++Re 0 .no):=by
 obtain⟨N,t,b,u,p,rfl,okn,⟨b1,b2,t1,t2⟩,ha,hb,q1,q2⟩:=h
 unfold Dw Dx
 refine⟨N,_,rfl,okn,?_⟩
 cases e:E_ N p with
 | false=>exact BX (q2 (by
   cases p with
   | tup xs=>show (E_ N (.tup xs)&&_)=false; rw [e]; rfl
   | _=>rfl) _)
 | true =>
  cases p with
  | tup xs =>
   obtain⟨f1,f2⟩:=Ts e
   have ef:Vg N t b u (.tup xs)=decide (u.len*t<CU (Cr N xs u.a - Cr N xs u.b)*b):=by show (E_ N (.tup xs)&&_)=_; rw [e,bA]
   rw [ef] at q1 q2
   refine BJ ⟨_,AR (j:=0) rfl,_,AR (j:=1) rfl,N,_,u.a,u.b,rfl,okn,f1,f2,ha,hb,_,AR (j:=2) rfl,_,t,b,u.len,rfl,b1,b2,t1,t2,?_⟩
   generalize CU (Cr N xs u.a - Cr N xs u.b)*b=y at q1 q2
   show if decide (y<=u.len*t)=true then _ else _
   by_cases c:y<=u.len*t
   ·rw [decide_eq_true c]
    exact BX (q2 (decide_eq_false (by omega)) _)
   ·rw [decide_eq_false c]
    exact BJ (q1 (decide_eq_true (by omega)))
  | _=>cases e
theorem Jw(h:Jf ss n Pd):F2 (EE Pd) n (ss++Re 0 .no):=by
 obtain⟨N,t,b,gone,w,u,p,rfl,okn,tm,hg,hu,q⟩:=h
 unfold F2
 refine⟨_,AR (j:=1) rfl,N,_,rfl,okn.1,hu.lay,?_⟩
 unfold PN at q
 cases e:GV N u with
 | false=>rw [SQ e] at q; exact BX q
 | true =>
  obtain⟨v,hv,rfl⟩:=tofB_iff.mp e
  rw [Es hv] at q
  obtain⟨ha,hb,_⟩:=okn.1.tin v hv
  refine⟨_,AR (j:=1) rfl,Cf okn.1 hv,EH okn.1 hg,_,rfl,?_⟩
  rw [DD]
  show if (!decide (v∈gone))=true then _ else _
  cases e2:decide (v∈gone) with
  | false=>rw [e2] at q; exact BX q
  | true =>
   rw [e2,bA] at q
   refine BJ ⟨N,gone,rfl,okn,hg,_,AR (j:=1) rfl,_,AR (j:=2) rfl,C_ N gone,t,b,v,p,rfl,Nj okn gone,tm,ha,hb,λc=>?_,λc s=>?_⟩
   ·rw [c] at q; exact⟨rfl,q⟩
   ·rw [c] at q; exact⟨rfl,q⟩
theorem GY{Wr:W2}{j:Nat}(hrec:∀ss n P,j≠0->IW (j - 1) ss n P->Wr ss n P)(h:IW j ss n Pd):Gg Wr (EE Pd) n (ss++Re 1 .no):=by
 obtain⟨N,t,b,many,kept,gone,k,x,rfl,okn,tm,hk,hg,l1,l2,hx,hj,q⟩:=h
 have ok:=okn.1
 have szl:=PySem.sizeLine_eq
 unfold Gg
 show if ((k:Int)==0)=true then _ else _
 cases k with
 | zero=>exact BX q
 | succ k =>
 rw [show (((k+1:Nat):Int)==0)=false from beq_eq_false_iff_ne.mpr (by omega)]
 refine BJ ⟨z1,hx.lay,VX,?_⟩
 cases Zo x with
 | oth x ho =>
  obtain⟨o1,o2,o3⟩:=TF ho
  rw [TD ho] at q
  rw [o1]
  refine BJ ⟨3,_,rfl,?_⟩
  rw [o2]
  refine BJ (BJ ⟨4,_,rfl,?_⟩)
  rw [o3]
  exact BX (BX q)
 | one w =>
  have q:Pd (.bl (Bw w (.str "enough")&&decide (many<=kept.length))) n:=q
  rw [show Bw (.tup [w]) (.tup [.str "enough"])=Bw w (.str "enough") from dN _]
  cases e:Bw w (.str "enough") with
  | true =>
   rw [e,bA] at q
   refine BX ⟨_,_,rfl,rfl,?_⟩
   show Pd (.bl (decide ((many:Int)<=(((kept.map Ag).length:Nat):Int)))) n
   rw [show decide ((many:Int)<=(((kept.map Ag).length:Nat):Int))=decide (many<=kept.length) from decide_eq_decide.mpr (by rw [Db]; omega)]
   exact q
  | false =>
   rw [e] at q
   exact BJ ⟨3,_,rfl,BJ (BJ ⟨4,_,rfl,BX (BX q)⟩)⟩
 | three w u p =>
  have q:Pd (.bl (Bw w (.str "far")&&PN N t b gone u p)) n:=q
  have hw:B9 w:=(hx.mem (y:=w) (by simp)).lay
  rw [show Bw (.tup [w,u,p]) (.tup [.str "enough"])=false from fP _]
  refine BJ ⟨3,_,rfl,?_⟩
  refine BX ⟨_,AR (j:=0) rfl,hw,TZ,?_⟩
  show if Bw w (.str "far")=true then _ else _
  cases e:Bw w (.str "far") with
  | true =>
   rw [e,bA] at q
   exact BX ⟨N,t,b,gone,w,u,p,rfl,okn,tm,hg,hx.mem (by simp),q⟩
  | false =>
   rw [e] at q
   exact BJ ⟨4,_,rfl,BX (BX q)⟩
 | four w u c d =>
  have hw:B9 w:=(hx.mem (y:=w) (by simp)).lay
  have hu:Pl u:=hx.mem (by simp)
  rw [show Bw (.tup [w,u,c,d]) (.tup [.str "enough"])=false from fP _]
  refine BJ ⟨3,_,rfl,?_⟩
  refine BJ (BJ ⟨4,_,rfl,?_⟩)
  refine BJ ⟨_,AR (j:=0) rfl,hw,TY,?_⟩
  show if (!Bw w (.str "split"))=true then _ else _
  have q:Pd (.bl (Bw w (.str "split")&&Uq N u λv=>!decide (v∈kept)&&(!decide (v∈gone)&&(Eh N t b many k (kept++[v]) gone c&&Eh N t b many k kept (gone++[v]) d)))) n:=q
  cases e:Bw w (.str "split") with
  | false=>rw [e] at q; exact BX q
  | true =>
  rw [e,bA] at q
  refine BJ ⟨_,AR (j:=1) rfl,N,_,rfl,ok,hu.lay,?_⟩
  cases et:GV N u with
  | false=>rw [SQ et] at q; exact BX (BX q)
  | true =>
  obtain⟨v,hv,rfl⟩:=tofB_iff.mp et
  rw [Es hv] at q
  refine BJ ⟨Cf ok hv,EH ok hk,_,rfl,?_⟩
  rw [DD]
  show if decide (v∈kept)=true then _ else _
  cases e1:decide (v∈kept) with
  | true=>rw [e1] at q; exact BX (BX q)
  | false =>
  rw [e1] at q
  refine BJ ⟨Cf ok hv,EH ok hg,_,rfl,?_⟩
  rw [DD]
  show if decide (v∈gone)=true then _ else _
  cases e2:decide (v∈gone) with
  | true=>rw [e2] at q; exact BX q
  | false =>
  rw [e2] at q
  have hk':=sub_snoc hk hv (by omega)
  have hg':=sub_snoc hg hv (by omega)
  have ed:((k+1:Nat):Int) - 1=(k:Int):=by omega
  refine BJ ⟨z1,by show (kept.map Ag).length+1<=_; rw [Db]; omega,_,AR (j:=2) rfl,?_⟩
  rw [HH,ed]
  refine hrec _ _ _ (by omega) ⟨N,t,b,many,kept++[v],gone,k,c,rfl,okn,tm,hk',hg,by rw [Sc,aw]; omega,by omega,hx.mem (by simp),by omega,?_⟩
  show if (!Eh N t b many k (kept++[v]) gone c)=true then _ else _
  cases e3:Eh N t b many k (kept++[v]) gone c with
  | false=>rw [e3] at q; exact BX q
  | true =>
  rw [e3] at q
  refine BJ ⟨z1,by show (gone.map Ag).length+1<=_; rw [Db]; omega,_,AR (j:=3) rfl,?_⟩
  rw [HH,ed]
  exact hrec _ _ _ (by omega) ⟨N,t,b,many,kept,gone++[v],k,d,rfl,okn,tm,hk,hg',by omega,by rw [Sc,aw]; omega,hx.mem (by simp),by omega,q⟩
theorem GZ{Wr:W2}{j:Nat}(hrec:∀ss n P,j≠0->Eg (j - 1) ss n P->Wr ss n P)(h:Eg j ss n Pd):Gh Wr (EE Pd) n (ss++Re 0 .no):=by
 obtain⟨x,rfl,hd,q⟩:=h
 unfold Gh
 refine⟨4,_,rfl,?_⟩
 have fin:tupleOfB 4 x=false->DC j x=1->if (!tupleOfB 4 x)=true then Pd (.int 1) n else True:=λh1 h2=>by
  rw [h1]
  rw [h2] at q
  exact BX q
 cases Zo x with
 | one w=>cases j <;> exact q
 | three w u p=>cases j <;> exact q
 | oth x ho =>
  rw [(TF ho).2.2]
  rw [show DC j x=1 by
   unfold DC
   split
   ·exact absurd rfl (ho _ rfl).2.2
   ·rfl] at q
  exact BX q
 | four w u c d =>
  cases j with
  | zero=>cases hd
  | succ j =>
   refine BJ ⟨_,AR (j:=2) rfl,?_⟩
   refine hrec _ _ _ (by omega) ⟨c,rfl,hd.1,_,AR (j:=3) rfl,?_⟩
   refine hrec _ _ _ (by omega) ⟨d,rfl,hd.2,?_⟩
   exact q
theorem O0(h:Ee ss n Pd):Kk (EE Pd) n (ss++Re 0 .no):=by
 obtain⟨N,t,b,many,x,rfl,okn,tm,hx,q⟩:=h
 have no:FN N []:=⟨λ_ z=>absurd z a9,by decide⟩
 unfold Kk
 refine⟨z0,z0,N,t,b,many,[],[],15,x,rfl,okn,tm,no,no,by decide,by decide,hx,by decide,?_⟩
 unfold FT at q
 cases e:Eh N t b many 15 [] [] x with
 | false=>rw [e] at q; exact q
 | true =>
  rw [e,bA] at q
  refine⟨x,rfl,TR e,?_⟩
  show Pd (.bl (decide ((DC 14 x:Int)<=4000))) n
  rw [show decide ((DC 14 x:Int)<=4000)=decide (DC 14 x<=4000) from decide_eq_decide.mpr (by omega)]
  exact q
end
end Nt
set_option maxHeartbeats 4000000
namespace Dp
open PySem PySem.Spec PyProof.Rows L2
section
variable {X:Cx}{pos:Pos}
end
end Dp
namespace L2
open PySem PySem.Spec PyProof.Rows
section
variable {X:Cx}
end
end L2
namespace Dp
open PySem PySem.Spec PyProof.Rows L2
section
variable {X:Cx}{a tg:Expr}{κa:Kd}{wa:DW}
mutual
theorem At.frz{K:Frag}{M:Addr->Prop}{H:Hp}{a:Addr}{f:Addr->Obj}{kvs:List (Key×V)}(ha:H a=some (.dK kvs)):∀{d:D} {v:V},E9 d=true->At K M H d v->At K M (Vc H [a] f) d v
 | .non,v,_,h=>h
 | .bl b,v,_,h=>h
 | .int i,v,_,h=>h
 | .str x,v,_,h=>h
 | .tup ds,v,hn,h=>by
  obtain⟨b,vs,e,n2,hs⟩:=h
  refine⟨b,vs,e,?_,Ats.frz ha hn hs⟩
  unfold NdT at n2 ⊢
  rw [N9 λz=>by rw [ay.mp z,ha] at n2; cases n2]
  exact n2
 | .lst ds,v,hn,h=>by
  obtain⟨b,vs,e,⟨n1,n2⟩,hs⟩:=h
  refine⟨b,vs,e,⟨n1,?_⟩,Ats.frz ha hn hs⟩
  rw [N9 λz=>by rw [ay.mp z,ha] at n2; cases n2]
  exact n2
 | .dic _ _,v,hn,h=>by cases hn
 | .fdi _ _,v,hn,h=>by cases hn
 | .dit _ _,v,hn,h=>by cases hn
theorem Ats.frz{K:Frag}{M:Addr->Prop}{H:Hp}{a:Addr}{f:Addr->Obj}{kvs:List (Key×V)}(ha:H a=some (.dK kvs)):∀{ds:List D} {vs:List V},CD ds=true->Ats K M H ds vs->Ats K M (Vc H [a] f) ds vs
 | [],vs,_,h=>h
 | d::ds,vs,hn,h=>by
  obtain⟨v,r,e,h1,h2⟩:=h
  have hn:(E9 d&&CD ds)=true:=hn
  rw [az] at hn
  exact⟨v,r,e,At.frz ha hn.1 h1,Ats.frz ha hn.2 h2⟩
end
end
noncomputable def FS:List (List Key)->List D->List Key->Option D
 | k0::ks,d::ds,k=>if k0=k then some d else FS ks ds k
 | _,_,_=>none
noncomputable def N2:List D->Option (List Key)
 | []=>some []
 | d::ds=>match keyOf d,N2 ds with
  | some k,some ks=>some (k::ks)
  | _,_=>none
noncomputable def keysOf:D->Option (List Key)
 | .tup ds=>N2 ds
 | _=>none
section
variable {K:Frag}{X:Cx}
theorem NK{M:Addr->Prop}{H:Hp}{k:List Key}:∀{ks:List (List Key)} {ds:List D} {vs:List V},Ats K M H ds vs ->
  match FS ks ds k with
  | some z=>∃v,CY (ks.zip vs) k=some v/\At K M H z v
  | none=>CY (ks.zip vs) k=none
 | [],ds,vs,h=>by unfold FS; exact rfl
 | k0::ks,[],vs,h=>by cases h; exact rfl
 | k0::ks,d::ds,vs,h=>by
  obtain⟨v,r,rfl,h1,h2⟩:=h
  have ih:=NK (k:=k) (ks:=ks) h2
  unfold FS
  by_cases e:k0=k
  ·rw [if_pos e]
   refine⟨v,?_,h1⟩
   show CY ((k0,v)::ks.zip r) k=some v
   rw [FQ e]
  ·rw [if_neg e]
   have:CY ((k0,v)::ks.zip r) k=CY (ks.zip r) k:=FR e
   rw [show (k0::ks).zip (v::r)=(k0,v)::ks.zip r from rfl,this]
   exact ih
theorem Tc{M:Addr->Prop}{H:Hp}{d:D}{v:V}{k:Key}(e:keyOf d=some k)(h:At K M H d v):v=kV k:=by
 cases d with
 | int i=>cases e; exact h
 | str x=>cases e; exact h.1
 | _=>cases e
theorem N0{M:Addr->Prop}{H:Hp}:∀{ds:List D} {vs:List V} {ks:List Key},N2 ds=some ks->Ats K M H ds vs->vs=ks.map kV
 | [],vs,ks,e,h=>by cases e; exact h
 | d::ds,vs,ks,e,h=>by
  obtain⟨v,r,rfl,h1,h2⟩:=h
  unfold N2 at e
  cases c1:keyOf d with
  | none=>rw [c1] at e; cases e
  | some k =>
   cases c2:N2 ds with
   | none=>rw [c1,c2] at e; cases e
   | some k2 =>
    rw [c1,c2] at e
    cases e
    rw [N0 c2 h2,Tc c1 h1]
    rfl
theorem LZ{U M:Addr->Prop}{H:Hp}{d:D}{v:V}{k:List Key}(e:keysOf d=some k)(h:AtT K U M H d v):∃b,v=.ref b/\H b=some (.tup (k.map kV)):=by
 cases d with
 | tup ds =>
  obtain⟨a,vs,rfl,ha,hs⟩:=h.tup
  refine⟨a,rfl,?_⟩
  rw [← N0 e hs]
  exact ha
 | _=>cases e
theorem UJ{U M:Addr->Prop}{H:Hp}{x:V}{ks:List (List Key)}{ds:List D}(h:AtT K U M H (.dit ks ds) x):∃a vs,x=.ref a/\Rd H a (.dT (ks.zip vs))/\Ats K M H ds vs:=by
 obtain⟨a,vs,rfl,_,ha,_,hs⟩:=h
 exact⟨a,vs,rfl,.inl ha,hs⟩
theorem Vv{H:Hp}{a b:Addr}{kvs:List (List Key×V)}{k:List Key}(e:Rd H a (.dT kvs))(eb:H b=some (.tup (k.map kV))):DGet H a (.ref b) (CY kvs k):=.inr ⟨kvs,k,b,e,rfl,eb,rfl⟩
noncomputable def Tt(d e:D)(P:D->Prop):Prop:=∃ks ds k z,d=.dit ks ds/\keysOf e=some k/\FS ks ds k=some z/\P z
theorem X4:HB K .sh P1 Tt:=λU M H d e x y P Q dom vM hx hy w q=>by
 obtain⟨ks,ds,k,z,rfl,he,hz,w⟩:=w
 obtain⟨a,vs,rfl,ha,hs⟩:=UJ hx
 obtain⟨b,rfl,eb⟩:=LZ he hy
 have h:=NK (k:=k) (ks:=ks) hs
 rw [hz] at h
 obtain⟨v,h1,h2⟩:=h
 exact⟨a,v,rfl,by rw [← h1]; exact Vv ha eb,q v H z .refl h2 w⟩
variable {a b:Expr}{κa κb:Kd}{wa wb:DW}{pos:Pos}
theorem Vy{k:Nat}(hr:Room k X.A)(ha:DE X a κa wa)(hb:DE X b κb wb)(hs:autoParam (Rw b) zau5._auto_1):DE X (.Subscript a b pos) .sh (Am Tt wa wb):=by
 obtain⟨ta,ha1,ha2⟩:=ha
 obtain⟨tb,hb1,hb2⟩:=hb
 exact⟨Dl P1 ta tb,JM (Ld hr) ha1 hb1 hs,λC M H n ρ σ P Q R w q=>E3 X4 ha2 hb2 C M H n ρ σ P Q R w q⟩
end
noncomputable def Le(ks:List (List Key))(k:List Key):Bool:=ks.any λk0=>decide (k0=k)
theorem hasK_iffU{ks:List (List Key)}{k:List Key}:Le ks k=true↔k∈ks:=by
 unfold Le
 rw [cu]
 exact⟨fun⟨x,hx,e⟩=>by rw [← of_decide_eq_true e]; exact hx,λh=>⟨k,h,decide_eq_true rfl⟩⟩
noncomputable def CN(ks:List (List Key))(k:List Key):List (List Key):=if Le ks k=true then ks else ks++[k]
noncomputable def CM{α:Type}(ks:List (List Key))(ds:List α)(k:List Key)(d:α):List α:=if Le ks k=true then fJ (λk0 d0=>if k0=k then d else d0) ks ds else ds++[d]
theorem UU{ks:List (List Key)}{vs:List V}(hl:ks.length=vs.length)(k:List Key):((ks.zip vs).any λkv=>decide (kv.1=k))=Le ks k:=by
 rw [cF,cu,hasK_iffU]
 constructor
 ·rintro ⟨⟨a,b⟩,hm,e⟩
  have e:a=k:=of_decide_eq_true e
  rw [← e]
  exact(dP hm).1
 ·intro h
  obtain⟨i,hi,e⟩:=dr.mp h
  refine⟨(ks[i],vs[i]'(by omega)),?_,by rw [e]; exact decide_eq_true rfl⟩
  exact dr.mpr ⟨i,by rw [dU]; omega,by rw [List.getElem_zip]⟩
theorem RB{ks:List (List Key)}{vs:List V}(hl:ks.length=vs.length)(k:List Key)(v:V):putK (ks.zip vs) k v=(CN ks k).zip (CM ks vs k v):=by
 unfold putK CN CM
 rw [UU hl]
 by_cases h:Le ks k=true
 ·rw [if_pos h,if_pos h,if_pos h]
  have go:∀(ks:List (List Key)) (vs:List V),((ks.zip vs).map λkv=>if kv.1=k then (kv.1,v) else kv)=ks.zip (fJ (λk0 d0=>if k0=k then v else d0) ks vs):=by
   intro ks
   induction ks with
   | nil=>intro vs; rfl
   | cons a ks ih =>
    intro vs
    cases vs with
    | nil=>rfl
    | cons b vs =>
     show (if a=k then (a,v) else (a,b))::_=(a,if a=k then v else b)::_
     exact List.cons_eq_cons.mpr ⟨by split <;> rfl,ih vs⟩
  exact go ks vs
 ·rw [if_neg h,if_neg h,if_neg h,List.zip_append hl]
  rfl
theorem Ats.putU{K:Frag}{M:Addr->Prop}{H:Hp}{k:List Key}{d:D}{v:V}(hd:At K M H d v):∀{ks:List (List Key)} {ds:List D} {vs:List V},Ats K M H ds vs->Ats K M H (fJ (λk0 d0=>if k0=k then d else d0) ks ds) (fJ (λk0 d0=>if k0=k then v else d0) ks vs)
 | [],ds,vs,h=>rfl
 | a::ks,[],vs,h=>by cases (show vs=[] from h); rfl
 | a::ks,e::ds,vs,h=>by
  obtain⟨u,r,rfl,h1,h2⟩:=h
  refine⟨_,_,rfl,?_,Ats.putU hd h2⟩
  show At K M H (if a=k then d else e) (if a=k then v else u)
  by_cases e1:a=k
  ·rw [if_pos e1,if_pos e1]; exact hd
  ·rw [if_neg e1,if_neg e1]; exact h1
theorem Ats.putXU{K:Frag}{M:Addr->Prop}{H:Hp}{k:List Key}{d:D}{v:V}{ks:List (List Key)}{ds:List D}{vs:List V}(hd:At K M H d v)(h:Ats K M H ds vs):Ats K M H (CM ks ds k d) (CM ks vs k v):=by
 unfold CM
 split
 ·exact Ats.putU hd h
 ·exact h.append (Ats.one hd)
theorem Nb{α:Type}{ks:List (List Key)}{ds:List α}{k:List Key}{d:α}(hl:ks.length=ds.length):(CN ks k).length=(CM ks ds k d).length:=by
 unfold CN CM
 split
 ·rw [List.length_zipWith]; omega
 ·rw [Sc,Sc]; show ks.length+1=ds.length+1; omega
theorem Gs:∀{ks:List (List Key)} {ds:List D} {k:List Key},ks.length=ds.length->k∈ks->∃z,FS ks ds k=some z
 | [],ds,k,_,h=>by cases h
 | a::ks,[],k,h,_=>by cases h
 | a::ks,d::ds,k,hl,h=>by
  unfold FS
  by_cases e:a=k
  ·exact⟨d,if_pos e⟩
  ·rw [if_neg e]
   exact Gs (by simpa using hl) ((aq.mp h).resolve_left λz=>e z.symm)
section
variable {X:Cx}{a b e:Expr}{κ κa κb:Kd}{wa wb:DW}{pos pos':Pos}
noncomputable def SF:DW:=λn _ P=>P (.dit [] []) n
theorem UL:DE X (.Dict [] [] pos) .fr SF:=by
 refine⟨_,TB,λC M H n ρ σ P Q R w q=>λp hp=>?_⟩
 have g:Grow H (BN H p (.dT [])):=BD hp
 exact q _ _ (.dit [] []) n g.ext (R.feed.grow g) ⟨p,rfl,hp,[],Ak,rfl,rfl⟩ w
noncomputable def V8(i:Nat)(wk wv:DW):Aj:=λD2 n ρ=>∃ks ds,ρ[i]?=some (.ow (.dit ks ds))/\wv n ρ λd n1=>wk n1 ρ λk n2=>∃key,keysOf k=some key/\ks.length<sizeLine/\D2.nx n2 (ρ.set i (.ow (.dit (CN ks key) (CM ks ds key d))))
theorem Vq{i k:Nat}{x:Expr}(hr:Room k X.A)(hx:PE X x (BU i))(ha:DE X a κa wa)(hb:DE X b κb wb)(hk:autoParam (κb≠.tp) zau6._auto_1)
  (hs:autoParam (swapsWith b (some (.Subscript x a pos')) pos.line X.env=pure false) zau3._auto_1):DS X κ (.Assign [.Subscript x a pos'] b pos) (V8 i wa wb):=by
 obtain⟨t,h1,h2⟩:=ha
 obtain⟨u,g1,g2⟩:=hb
 refine⟨_,P5 (Ld hr) hx h1 g1 hs,λC M H n ρ σ D2 E R L w=>?_⟩
 obtain⟨ks,ds,hd,w⟩:=w
 refine g2 C M H n ρ σ _ _ R w λv H1 d n1 e1 f1 r1 p=>?_
 have R1:=R.step e1 f1
 obtain⟨ad,ea,m,nv,tt⟩:=R1.sl i _ hd
 refine⟨.ref ad,getD_some ea,?_⟩
 refine h2 C M H1 n1 ρ σ _ _ R1 p λy H2 kk n2 e2 f2 r2 p=>?_
 obtain⟨key,hkey,hlt,p⟩:=p
 have R2:=R1.step e2 f2
 obtain⟨ad',ea',m',nv',tt'⟩:=R2.sl i _ hd
 rw [ea] at ea'
 cases ea'
 obtain⟨vs,hH,hl,hs'⟩:=tt'
 have hat:At X.K M H2 d v:=(r1.shOf R.dom hk).pres (R1.pres e2)
 have hvl:ks.length=vs.length:=by rw [hl,hs'.length]
 obtain⟨b,rfl,eb⟩:=LZ hkey (r2.tpOf R1.dom R1.vM)
 refine⟨ad,_,rfl,DPut.t hH eb (by rw [dU]; omega),L.nx M _ n2 _ σ (R2.mut (e:=.dit (CN ks key) (CM ks ds key d)) hd ea ⟨CM ks vs key v,by rw [Ak,RB hvl],Nb hl,(hs'.putXU hat).pres (GN m' hH)⟩) p⟩
variable {apos cpos:Pos}{f:Expr}{κf:Kd}{wf:DW}
end
end Dp
namespace L2
open PySem PySem.Spec PyProof.Rows PySem.W
noncomputable abbrev EL(h:Heap)(z TI TO:Addr)(f0:Value)(b:Bool):Prop:=h.get? z=some { cls:=.type "zip",dict:=none,data:=.fields #[f0,.bool b,.bool false,.ref TI,.ref TO],slots:=#[] }
theorem JJ:typeLookup (.type "zip") "__getattr__"=pure none:=by rw [typeLookup_type,builtinLookup_eq_fast]; kernel_rfl
theorem FO:entryFor table "zip.__getattribute__"=some Builtin.«object.__getattribute__» :=
 entryFor_alias (id' := "object.__getattribute__") (by kernel_rfl) (by decide +kernel) (by decide +kernel) (by kernel_rfl)
theorem Vn:typeLookup (.type "zip") "keys"=pure none:=am_miss_of_fast (by decide +kernel)
theorem UC(a:Addr)(xs:Array Value)(name:Str)(u:Tok)(hmiss:typeLookup (.type "zip") name=pure none)(hname:(["__module__","__name__","__qualname__","__doc__","__annotations__"]:List Str).contains name=false)(hsz:autoParam (name.length+100<=sizeLine) zau8._auto_1) :
  Meets (Builtin.«object.__getattribute__» ⟨[.ref a,.str name u],[]⟩) (λA R s=>s.heap.get? a=some { cls:=.type "zip",dict:=none,data:=.fields xs,slots:=#[] }/\raisesAttr (.ref a) name A R s) :=
 Meets.of_wp λprog w A R s hs=>by
  obtain⟨hp,g,d,tk,os⟩:=s
  obtain⟨hx,hs⟩:=hs
  have hT:(⟨hp,g,d,tk,os⟩:Shared).TypeIs (.ref a) "zip":=⟨_,hx,rfl⟩
  unfold Builtin.«object.__getattribute__»
  repeat (any_goals (first | assumption | wp_step))
  simp only [hname,bi,if_false]
  repeat (any_goals (first | assumption | wp_step))
  exact wpAny_raiseAttrError hs.1 hs.2 (attrMsg_fits (by decide +kernel) hsz)
section
variable {prog:Program}{w:World}{A:Around}{E:Value->Shared->Prop}{s:Shared}
theorem Vm{a:Addr}{xs:Array Value}{Q:Option Value->Shared->Prop}(hx:s.heap.get? a=some { cls:=.type "zip",dict:=none,data:=.fields xs,slots:=#[] })(hA:A.handled=none)
  (h:∀h' tk,(∀b o,s.heap.get? b=some o->h'.get? b=some o)->Q none { s with heap:=h',toks:=tk }):wpAny (model prog w) A (getAttr? (.ref a) "keys") Q E s:=by
 obtain⟨hp,g,d,tk,os⟩:=s
 have hT:∀tk',(⟨hp,g,d,tk',os⟩:Shared).TypeIs (.ref a) "zip":=λ_=>⟨_,hx,rfl⟩
 have f1:=sub_AttributeError
 have f3:=PySem.F.slot_zip_getattribute.lookup
 have f4:=PySem.F.slot_zip_getattribute.bind (.ref a)
 have f5:=JJ
 unfold getAttr? getAttrBy? getAttrBy
 repeat (any_goals (first | assumption | exact hT _ | ((with_reducible show wpAny _ _ (call (Value.builtin "zip.__getattribute__") _ _) _ _ _); refine gB PySem.F.slot_zip_getattribute (hT _) FO (PySem.F.args_zip_getattribute_2 _ _) (UC a xs "keys" _ Vn (by decide +kernel) (by decide +kernel)) ⟨hx,hA,λh' tk' e hx'=>?_⟩) | wp_step))
 obtain⟨t',u',he⟩:=hx'.there
 show wpAny _ _ (getattributeRaised _ _ _ _ _ _ _) _ _ _
 unfold getattributeRaised
 repeat (any_goals (first | assumption | wp_step))
 exact h _ _ hx'.keeps
theorem UD{a:Addr}{o:Obj}{Q:Option Obj->Shared->Prop}(ho:s.heap.get? a=some o)(h:Q (some o) s):wpAny (model prog w) A (loadIfAlive a) Q E s:=by
 have h':Q (s.heap.get? a) s:=by rw [ho]; exact h
 exact λ_ _ _=>h'
theorem QT{z TI TO a:Addr}{b:Bool}{o:Obj}{Q:Bool->Shared->Prop}(hz:EL s.heap z TI TO (rawInt (a:Nat)) b)(ha:s.heap.get? a=some o)
  (hQ:∀h',EL h' z TI TO (rawInt (a:Nat)) true->cz z s.heap h'->Q false { s with heap:=h' }):wpAny (model prog w) A (bM (.ref z)) Q E s:=by
 unfold bM
 refine Ch (bP hz rfl (x:=rawInt a) rfl ?_)
 show wpAny _ _ (loadIfAlive ((a:Int).toNat) >>= _) _ _ _
 rw [bv]
 refine Ch (UD ha ?_)
 simp only [Option.isNone_some,bi,if_false]
 refine Ch (bP hz rfl (x:=.bool b) rfl ?_)
 cases b with
 | true =>
  rw [if_neg (show ¬((dA true != dA true)=true) from ar)]
  exact Go (hQ _ hz (Heap.SameBut.refl _ _))
 | false =>
  rw [if_pos (show (dA false != dA true)=true from rfl)]
  refine Ch (cZ hz (by simp) λh₃ he₃ hs₃=>?_)
  exact Go (hQ h₃ he₃ hs₃)
theorem Vo{κ1 κ2:Bool}{z TI TO i1 i2 l1 l2 a:Addr}{b:Bool}{o:Obj}{k:Nat}{xs ys:Array Value}{x y:Value}{Q:Value->Shared->Prop}(D:Ug z TI TO i1 i2 l1 l2)
  (hz:EL s.heap z TI TO (rawInt (a:Nat)) b) (ha:s.heap.get? a=some o) (hTI:IsPair s.heap TI (.ref i1) (.ref i2)) (h1:ItAt κ1 s.heap i1 l1 k) (h2:ItAt κ2 s.heap i2 l2 k) (hl1:SqAt κ1 s.heap l1 xs) (hl2:SqAt κ2 s.heap l2 ys) (hx:xs[k]?=some x) (hy:ys[k]?=some y)
  (hQ:∀h',EL h' z TI TO (rawInt (a:Nat)) true->ItAt κ1 h' i1 l1 (k+1)->ItAt κ2 h' i2 l2 (k+1)->IsPair h' s.heap.objs.size x y->(∀c o,c≠z->c≠i1->c≠i2->s.heap.get? c=some o->h'.get? c=some o)->Q (.ref s.heap.objs.size) { s with heap:=h' }) :
  wpAny (model prog w) A (Builtin.«zip.__next__» ⟨[.ref z],[]⟩) (λfin s'=>∃v,fin=.done (.ret v)/\Q v s') E s:=by
 show wpAny (model prog w) A (field (.ref z) 2 >>= _) _ _ _; refine Ch (bP hz rfl (x:=.bool false) rfl ?_)
 show wpAny (model prog w) A (field (.ref z) 3 >>= _) _ _ _; refine Ch (bP hz rfl (x:=.ref TI) rfl ?_); refine Ch (cK hTI rfl ?_)
 show wpAny (model prog w) A (bM (.ref z) >>= _) _ _ _
 refine Ch (QT hz ha λha hza hsa=>?_)
 simp only [bi,if_false]
 refine Ch ?_
 simp only [List.forIn_toArray,c5,fS]
 refine Ch (Ch (b9 ?_)); show wpAny (model prog w) _ (bN (.ref i1) >>= _) _ _ _
 refine Ch (ET (h1.eb hsa.extBut D.i1z) (hl1.eb hsa.extBut D.l1z) hx λhb h1b hsb=>Go ?_)
 refine Go ?_
 refine Ch (Ch (b9 ?_)); show wpAny (model prog w) _ (bN (.ref i2) >>= _) _ _ _
 refine Ch (ET ((h2.eb hsa.extBut D.i2z).eb hsb.extBut D.i12.symm) ((hl2.eb hsa.extBut D.l2z).eb hsb.extBut D.l2i1) hy λhc h2c hsc=>Go ?_)
 refine Go (Go ?_)
 refine Ch (wpAny_newTuple ?_ (by show 2<=sizeLine; decide))
 have hsz:hc.objs.size=s.heap.objs.size:=by rw [hsc.1,hsb.1,hsa.1]
 have hzc:EL hc z TI TO (rawInt (a:Nat)) true:=hsc.extBut _ _ D.i2z.symm (hsb.extBut _ _ D.i1z.symm hza)
 have hp:IsPair (hc.push { cls:=.type "tuple",data:=.seq #[x,y] }) s.heap.objs.size x y:=by
  show Heap.get? _ _=_
  rw [← hsz]
  exact XV _ rfl
 have fin:=hQ _ (Ev _ hzc) ((h1b.eb hsc.extBut D.i12).mv λo e=>Ev _ e) (h2c.mv λo e=>Ev _ e) hp λc o c1 c3 c4 e=>Ev _ (hsc.extBut _ _ c4 (hsb.extBut _ _ c3 (hsa.extBut _ _ c1 e)))
 refine Go ⟨_,rfl,?_⟩
 show Q (.ref hc.objs.size) _
 rw [hsz]
 exact fin
theorem Xm{κ1 κ2:Bool}{z TI TO i1 i2 l1 l2 a:Addr}{b:Bool}{o:Obj}{k:Nat}{xs ys:Array Value}{Q:Fin->Shared->Prop}(hh:A.handled=none)(D:Ug z TI TO i1 i2 l1 l2)
  (hz:EL s.heap z TI TO (rawInt (a:Nat)) b) (ha:s.heap.get? a=some o) (hTI:IsPair s.heap TI (.ref i1) (.ref i2)) (h1:ItAt κ1 s.heap i1 l1 k) (hl1:SqAt κ1 s.heap l1 xs) (hx:xs[k]?=none)
  (hE:∀h' e,(∀c o,c≠z->c≠i1->s.heap.get? c=some o->h'.get? c=some o)->(∃o,h'.get? e=some o/\o.cls=.type "StopIteration")->E (.ref e) { s with heap:=h' }) :
  wpAny (model prog w) A (Builtin.«zip.__next__» ⟨[.ref z],[]⟩) Q E s:=by
 show wpAny (model prog w) A (field (.ref z) 2 >>= _) _ _ _; refine Ch (bP hz rfl (x:=.bool false) rfl ?_)
 show wpAny (model prog w) A (field (.ref z) 3 >>= _) _ _ _; refine Ch (bP hz rfl (x:=.ref TI) rfl ?_); refine Ch (cK hTI rfl ?_)
 show wpAny (model prog w) A (bM (.ref z) >>= _) _ _ _
 refine Ch (QT hz ha λha hza hsa=>?_)
 simp only [bi,if_false]
 refine Ch ?_
 simp only [List.forIn_toArray,c5,fS]
 refine Ch (Ch (b9 ?_)); show wpAny (model prog w) _ (bN (.ref i1) >>= _) _ _ _
 refine Ch (Kf hh (h1.eb hsa.extBut D.i1z) (hl1.eb hsa.extBut D.l1z) hx λhb e hsb he=>?_)
 exact hE hb e (λc o c1 c3 x=>hsb _ _ c3 (hsa.extBut _ _ c1 x)) he
theorem Mn{κ1 κ2:Bool}{z TI TO i1 i2 l1 l2 a:Addr}{b:Bool}{o:Obj}{k:Nat}{xs ys:Array Value}{x y:Value}{Q:Option Value->Shared->Prop}(D:Ug z TI TO i1 i2 l1 l2)
  (hz:EL s.heap z TI TO (rawInt (a:Nat)) b) (ha:s.heap.get? a=some o) (hTI:IsPair s.heap TI (.ref i1) (.ref i2)) (h1:ItAt κ1 s.heap i1 l1 k) (h2:ItAt κ2 s.heap i2 l2 k) (hl1:SqAt κ1 s.heap l1 xs) (hl2:SqAt κ2 s.heap l2 ys) (hx:xs[k]?=some x) (hy:ys[k]?=some y)
  (hQ:∀h',EL h' z TI TO (rawInt (a:Nat)) true->ItAt κ1 h' i1 l1 (k+1)->ItAt κ2 h' i2 l2 (k+1)->IsPair h' s.heap.objs.size x y->(∀c o,c≠z->c≠i1->c≠i2->s.heap.get? c=some o->h'.get? c=some o)->Q (some (.ref s.heap.objs.size)) { s with heap:=h' }) :
  wpAny (model prog w) A (pyNext (.ref z)) Q E s:=by
 have hT:s.TypeIs (.ref z) "zip":=⟨_,hz,rfl⟩
 unfold pyNext
 exact Ch (d7 (bR (name:=bo "__next__") hT ci (bp ci hT eW
  (Vo D hz ha hTI h1 h2 hl1 hl2 hx hy λh' a1 a2 a3 a4 a5=>Go (hQ h' a1 a2 a3 a4 a5)) (eQ _))))
theorem OD{κ1:Bool}{z TI TO i1 i2 l1 l2 a:Addr}{b:Bool}{o:Obj}{k:Nat}{xs:Array Value}{Q:Option Value->Shared->Prop}(hh:A.handled=none)(D:Ug z TI TO i1 i2 l1 l2)
  (hz:EL s.heap z TI TO (rawInt (a:Nat)) b) (ha:s.heap.get? a=some o) (hTI:IsPair s.heap TI (.ref i1) (.ref i2)) (h1:ItAt κ1 s.heap i1 l1 k) (hl1:SqAt κ1 s.heap l1 xs) (hx:xs[k]?=none)
  (hQ:∀h',(∀c o,c≠z->c≠i1->s.heap.get? c=some o->h'.get? c=some o)->Q none { s with heap:=h' }):wpAny (model prog w) A (pyNext (.ref z)) Q E s:=by
 have hT:s.TypeIs (.ref z) "zip":=⟨_,hz,rfl⟩
 unfold pyNext
 refine Ch (d7 (bR (name:=bo "__next__") hT ci (bp ci hT eW (Xm (κ2:=true) (ys:=#[]) hh D hz ha hTI h1 hl1 hx λh' e hk he=>?_) (eQ _))))
 obtain⟨o,ho,hc⟩:=he
 exact Ch (gG (T := "StopIteration") (b:=true) ⟨o,ho,hc⟩ isSubtype_stop (Go (hQ _ hk)))
end
structure aj (prog:Program) (w:World) (A:Around) (I d:Addr) (n:Nat) (base:Heap) (key:Nat->Addr) (val:Nat->Value) (ch:Addr->Prop) (St:Nat->Heap->Prop):Prop where
 new:∀b,ch b->base.get? b=none
 item:∀(i:Nat) (s:Shared) (Q:Option Value->Shared->Prop) (E:Value->Shared->Prop),i<n->St i s.heap->(∀b o,base.get? b=some o->s.heap.get? b=some o)->(∃o,s.heap.get? d=some o) ->
  (∀h' tk a o c,h'.get? a=some o->o.cls=.type "tuple"->o.data=.seq #[.ref (key i),val i] c->St (i+1) h'->(∀b o,¬ch b->s.heap.get? b=some o->h'.get? b=some o)->Q (some (.ref a)) { s with heap:=h',toks:=tk })->wpAny (model prog w) A (pyNext (.ref I)) Q E s
 done:∀(s:Shared) (Q:Option Value->Shared->Prop) (E:Value->Shared->Prop),St n s.heap->(∀b o,base.get? b=some o->s.heap.get? b=some o)->(∀h' tk,(∀b o,¬ch b->s.heap.get? b=some o->h'.get? b=some o)->Q none { s with heap:=h',toks:=tk })->wpAny (model prog w) A (pyNext (.ref I)) Q E s
 frame:∀i h h',St i h->cz d h h'->St i h'
 dch:¬ch d
section
variable {prog:Program}{w:World}{A:Around}{R:Result->Shared->Prop}{I d:Addr}{n:Nat}{base:Heap}{key:Nat->Addr}{val:Nat->Value}{ch:Addr->Prop}{St:Nat->Heap->Prop}
noncomputable def ZS(κ1 κ2:Bool)(z TI TO i1 i2 l1 l2 d:Addr)(i:Nat)(h:Heap):Prop:=IsPair h TI (.ref i1) (.ref i2)/\ItAt κ1 h i1 l1 i/\ItAt κ2 h i2 l2 i/\((IsZip h z TI TO .none/\∃a b,IsPair h TO a b)\/∃(a:Nat) (b:Bool) (o:Obj),EL h z TI TO (rawInt (a:Nat)) b/\h.get? a=some o/\a≠z/\a≠TO/\a≠i1/\a≠i2/\a≠d)
end
structure PrV (prog:Program) (w:World) (A:Around) (I d:Addr) (n:Nat) (base:Heap) (key:Nat->Value) (val:Nat->Value) (ch:Addr->Prop) (St:Nat->Heap->Prop):Prop where
 new:∀b,ch b->base.get? b=none
 item:∀(i:Nat) (s:Shared) (Q:Option Value->Shared->Prop) (E:Value->Shared->Prop),i<n->St i s.heap->(∀b o,base.get? b=some o->s.heap.get? b=some o)->(∃o,s.heap.get? d=some o) ->
  (∀h' tk a o c,h'.get? a=some o->o.cls=.type "tuple"->o.data=.seq #[key i,val i] c->St (i+1) h'->(∀b o,¬ch b->s.heap.get? b=some o->h'.get? b=some o)->Q (some (.ref a)) { s with heap:=h',toks:=tk })->wpAny (model prog w) A (pyNext (.ref I)) Q E s
 done:∀(s:Shared) (Q:Option Value->Shared->Prop) (E:Value->Shared->Prop),St n s.heap->(∀b o,base.get? b=some o->s.heap.get? b=some o)->(∀h' tk,(∀b o,¬ch b->s.heap.get? b=some o->h'.get? b=some o)->Q none { s with heap:=h',toks:=tk })->wpAny (model prog w) A (pyNext (.ref I)) Q E s
 frame:∀i h h',St i h->cz d h h'->St i h'
 dch:¬ch d
section
variable {prog:Program}{w:World}{A:Around}{R:Result->Shared->Prop}{I d:Addr}{n:Nat}{base:Heap}{key:Nat->Value}{val:Nat->Value}{ch:Addr->Prop}{St:Nat->Heap->Prop}{K:Type}[DecidableEq K]{knd:KeyKind prog w K}
theorem UA(W:PrV prog w A.in1 I d n base key val ch St)(kvs:List (K×Value))(hlen:kvs.length=n)(nd:(kvs.map (·.1)).Nodup)(hsz:n<=sizeLine)(hdb:base.get? d=none)
  (hit:∀(i:Nat) (p:K×Value),kvs[i]?=some p->p.2=val i/\knd.is p.1 (key i)=true) :
  ∀(k i:Nat) (s:Shared),n - i=k->i<=n->St i s.heap->(∀b o,base.get? b=some o->s.heap.get? b=some o)->s.heap.DictOf knd d (kvs.take i) ->
   (∀h' tk,h'.DictOf knd d kvs->(∀b o,base.get? b=some o->h'.get? b=some o)->R (.ok (.ret .none)) { s with heap:=h',toks:=tk }) ->
   codeAny (model prog w) A (.builtin "dict.update.loop" ⟨[.ref d,.ref I,rawInt (i:Int),.none],[]⟩) R s:=by
 have old:∀{h h':Heap},(∀b o,base.get? b=some o->h.get? b=some o)->(∀b o,¬ch b->h.get? b=some o->h'.get? b=some o)->∀b o,base.get? b=some o->h'.get? b=some o:=λh1 h2 b o e=>h2 b o (λz=>by rw [W.new b z] at e; cases e) (h1 b o e)
 intro k
 induction k with
 | zero =>
  intro i s hk hi hst hold hD hR
  have hin:i=n:=by omega
  subst hin
  refine eA Ge ?_
  rw [fI Cg _]
  show wpAny _ A.in1 (pyNext (.ref I) >>= _) _ _ s
  refine Ch (W.done s _ _ hst hold λh' tk hk'=>?_)
  show wpAny _ A.in1 (Builtin.Dict.addKeywords d [] >>= λ_=>ret bQ) _ _ _
  refine Ch (Go (Go (hR h' tk ?_ (old hold hk'))))
  obtain⟨o,es,ep,ho,r⟩:=hD
  rw [cx (by omega)] at r
  exact⟨o,es,ep,hk' d o W.dch ho,r⟩
 | succ k ih =>
  intro i s hk hi hst hold hD hR
  have hlt:i<n:=by omega
  refine eA Ge ?_
  rw [fI Cg _]
  show wpAny _ A.in1 (pyNext (.ref I) >>= _) _ _ s
  refine Ch (W.item i s _ _ hlt hst hold (by obtain⟨o,_,_,h,_⟩:=hD; exact⟨o,h⟩) λh' tk a o c ha hc hd hst' hk'=>?_)
  have hp:kvs[i]?=some (kvs[i]'(by omega)):=FM (by omega)
  generalize kvs[i]'(by omega)=p at hp
  obtain⟨k1,his⟩:=hit i p hp
  have ho:=old hold hk'
  have hD':h'.DictOf knd d (kvs.take i):=by
   obtain⟨o,es,ep,ho,r⟩:=hD
   exact⟨o,es,ep,hk' d o W.dch ho,r⟩
  show wpAny _ A.in1 (holding [bT a] _ >>= _) _ _ _
  refine Ch (b9 ?_)
  show wpAny _ A.in1 (tryCatch (gg (.ref a)) _ >>= _) _ _ _
  refine Ch (wpAny_tryCatch ?_)
  unfold gg
  refine Ch (da (T := "tuple") ⟨o,ha,hc⟩ ?_)
  show wpAny _ A.in1 (seqItems? (.ref a) >>= _) _ _ _
  refine Ch (cK ha hd (Go ?_))
  rw [← k1]
  show wpAny _ A.in1 (holding [key i,p.2] (dictSet d (key i) p.2)) _ _ _
  refine b9 (wpAny_dictSet_pairs (hsz:=by rw [cN]; omega) his hD' λh'' hD'' hs=>?_)
  have hni:p.1∉(kvs.take i).map (·.1):=λz=>by
   have e:kvs.map (·.1)=(kvs.take i).map (·.1)++p.1::(kvs.drop (i+1)).map (·.1):=by
    have:=cb i kvs
    rw [cC (by omega:i<kvs.length)] at this
    rw [FM (by omega:i<kvs.length)] at hp
    cases hp
    conv=>lhs; rw [← this]
    rw [cA,av]
   rw [e,c_] at nd
   exact nd.2.2 p.1 z p.1 On rfl
  have e2:kvs.take (i+1)=kvs.take i++[p]:=by rw [List.take_add_one,hp]; rfl
  rw [stored_new hni,← e2] at hD''
  refine Go ⟨plainId_quiet Cg _,?_⟩
  have hi1:((i:Int)+1)=((i+1:Nat):Int):=by omega
  rw [hi1]
  refine ih (i+1) _ (by omega) hlt (W.frame _ _ _ hst' hs) (λb o e=>?_) hD'' λh3 tk3 hD3 hold3=>hR h3 tk3 hD3 hold3
  exact(hs.2 b λz=>by rw [z,hdb] at e; cases e).trans (ho b o e)
theorem PrV.zip{κ1 κ2:Bool}{z TI TO i1 i2 l1 l2:Addr}{ks vs:Array Value}(hh:A.handled=none)(D:Ug z TI TO i1 i2 l1 l2)(hTI:TI≠z/\TI≠TO/\TI≠i1/\TI≠i2)(hd:d≠z/\d≠TI/\d≠TO/\d≠i1/\d≠i2)(hn:∀b,b=z\/b=TO\/b=i1\/b=i2->base.get? b=none)
  (hl1:SqAt κ1 base l1 ks) (hl2:SqAt κ2 base l2 vs) (h1:ks.size=n) (hk:∀i,i<n->ks[i]?=some (key i)/\vs[i]?=some (val i)):PrV prog w A z d n base key val (λb=>b=z\/b=TO\/b=i1\/b=i2) (ZS κ1 κ2 z TI TO i1 i2 l1 l2 d) where
 new:=hn
 item:=λi s Q E hi ⟨ti,a1,a2,st⟩ hold ⟨od,hod⟩ h=>by
  have q1:SqAt κ1 s.heap l1 ks:=hl1.mv λo e=>hold _ o e
  have q2:SqAt κ2 s.heap l2 vs:=hl2.mv λo e=>hold _ o e
  obtain⟨e1,e2⟩:=hk i hi
  have lt:∀{b:Addr} {o:Obj},s.heap.get? b=some o->s.heap.objs.size≠b:=λe=>fC (ZB e)
  obtain⟨o1,x1,_⟩:=a1.lies
  obtain⟨o2,x2,_⟩:=a2.lies
  rcases st with ⟨hz,p,q,hTO⟩ | ⟨a,b,o,hz,ha,n1,n2,n3,n4,n5⟩
  ·refine K8 D hz ti hTO a1 a2 q1 q2 e1 e2 λh' b1 b2 b3 b4 b5 _ b7=>?_
   exact h h' s.toks _ _ _ b5 rfl rfl ⟨b7 _ _ hTI.1 hTI.2.1 hTI.2.2.1 hTI.2.2.2 ti,b3,b4,.inr ⟨_,false,_,b1,b5,lt hz,lt hTO,lt x1,lt x2,lt hod⟩⟩ λb o nb e=>b7 b o (λz=>nb (.inl z)) (λz=>nb (.inr (.inl z))) (λz=>nb (.inr (.inr (.inl z)))) (λz=>nb (.inr (.inr (.inr z)))) e
  ·refine Mn D hz ha ti a1 a2 q1 q2 e1 e2 λh' b1 b3 b4 b5 b7=>?_
   exact h h' s.toks _ _ _ b5 rfl rfl ⟨b7 _ _ hTI.1 hTI.2.2.1 hTI.2.2.2 ti,b3,b4,.inr ⟨a,true,o,b1,b7 _ _ n1 n3 n4 ha,n1,n2,n3,n4,n5⟩⟩ λb o nb e=>b7 b o (λz=>nb (.inl z)) (λz=>nb (.inr (.inr (.inl z)))) (λz=>nb (.inr (.inr (.inr z)))) e
 done:=λs Q E ⟨ti,a1,a2,st⟩ hold h=>by
  have q1:SqAt κ1 s.heap l1 ks:=hl1.mv λo e=>hold _ o e
  have q2:SqAt κ2 s.heap l2 vs:=hl2.mv λo e=>hold _ o e
  have e1:ks[n]?=none:=by rw [gh (by omega)]
  rcases st with ⟨hz,p,q,hTO⟩ | ⟨a,b,o,hz,ha,n1,n2,n3,n4,n5⟩
  ·exact Mb hh D hz ti hTO a1 a2 q1 q2 (.inl e1) λh' b7=>h h' s.toks λb o nb e=>b7 b o (λz=>nb (.inl z)) (λz=>nb (.inr (.inl z))) (λz=>nb (.inr (.inr (.inl z)))) (λz=>nb (.inr (.inr (.inr z)))) e
  ·exact OD hh D hz ha ti a1 q1 e1 λh' b7=>h h' s.toks λb o nb e=>b7 b o (λz=>nb (.inl z)) (λz=>nb (.inr (.inr (.inl z)))) e
 frame:=λi h h' ⟨ti,a1,a2,st⟩ hs=>by
  have mv:∀b o,b≠d->h.get? b=some o->h'.get? b=some o:=λb o nb e=>(hs.2 b nb).trans e
  refine⟨mv _ _ (cE hd.2.1) ti,a1.mv λo e=>mv _ o (cE hd.2.2.2.1) e,a2.mv λo e=>mv _ o (cE hd.2.2.2.2) e,?_⟩
  rcases st with ⟨hz,p,q,hTO⟩ | ⟨a,b,o,hz,ha,n1,n2,n3,n4,n5⟩
  ·exact .inl ⟨mv _ _ (cE hd.1) hz,p,q,mv _ _ (cE hd.2.2.1) hTO⟩
  ·exact .inr ⟨a,b,o,mv _ _ (cE hd.1) hz,mv _ _ n5 ha,n1,n2,n3,n4,n5⟩
 dch:=λz=>by
  rcases z with z | z | z | z
  ·exact hd.1 z
  ·exact hd.2.2.1 z
  ·exact hd.2.2.2.1 z
  ·exact hd.2.2.2.2 z
end
section
variable {prog:Program}{w:World}{A:Around}{E:Value->Shared->Prop}{s:Shared}{K:Type}[DecidableEq K]{knd:KeyKind prog w K}
theorem UB{κ1 κ2:Bool}{z TI TO i1 i2 l1 l2:Addr}{ks vs:Array Value}{base:Heap}{n:Nat}{key:Nat->Value}{val:Nat->Value}{Q:Value->Shared->Prop}(hh:A.handled=none)(D:Ug z TI TO i1 i2 l1 l2)(hTI:TI≠z/\TI≠TO/\TI≠i1/\TI≠i2)
  (hz:IsZip s.heap z TI TO .none) (ti:IsPair s.heap TI (.ref i1) (.ref i2)) (to:∃a b,IsPair s.heap TO a b) (it1:ItAt κ1 s.heap i1 l1 0) (it2:ItAt κ2 s.heap i2 l2 0) (hn:∀b,b=z\/b=TO\/b=i1\/b=i2->base.get? b=none) (hold:∀b o,base.get? b=some o->s.heap.get? b=some o)
  (hl1:SqAt κ1 base l1 ks) (hl2:SqAt κ2 base l2 vs) (h1:ks.size=n) (hk:∀i,i<n->ks[i]?=some (key i)/\vs[i]?=some (val i))
  (kvs:List (K×Value)) (hlen:kvs.length=n) (nd:(kvs.map (·.1)).Nodup) (hsz:n<=sizeLine) (hit:∀(i:Nat) (p:K×Value),kvs[i]?=some p->p.2=val i/\knd.is p.1 (key i)=true)
  (h:∀h' tk,h'.DictOf knd s.heap.objs.size kvs->(∀b o,base.get? b=some o->h'.get? b=some o)->Q (.ref s.heap.objs.size) { s with heap:=h',toks:=tk }) :
  wpAny (model prog w) A (call (.type "dict") [.ref z]) Q E s:=by
 refine callType_codes (Q₁:=λobj s₁=>obj=.ref s.heap.objs.size/\s₁={ s with heap:=s.heap.push { cls:=.type "dict",data:=.dict #[] } }) dp_called (Vt _) PySem.F.entry_dict_init (OF _ ⟨rfl,rfl⟩) ?_
 rintro obj s₁ ⟨rfl,rfl⟩
 have hd0:(s.heap.push { cls:=.type "dict",data:=.dict #[] }).get? s.heap.objs.size=some { cls:=.type "dict",data:=.dict #[] }:=XV _ rfl
 have hz':IsZip (s.heap.push { cls:=.type "dict",data:=.dict #[] }) z TI TO .none:=Ev _ hz
 have nd':∀{b:Addr} {o:Obj},s.heap.get? b=some o->s.heap.objs.size≠b:=λe=>fC (ZB e)
 refine⟨⟨_,hd0,rfl⟩,PySem.F.args_dict_init_2 _ _,?_⟩
 unfold Builtin.«dict.__init__»
 refine Ch ?_
 unfold Builtin.Dict.selfAndRest
 refine Ch (wpAny_notOrdered_dict ⟨_,hd0,rfl⟩ ?_)
 show wpAny _ _ (pure (s.heap.objs.size,[bT z])) _ _ _
 refine Go ?_
 show wpAny _ _ (gO "dict.__init__" s.heap.objs.size (.ref z) [] .none) _ _ _
 unfold gO
 refine Ch (da (T := "zip") ⟨_,hz',rfl⟩ ?_)
 rw [if_pos (by decide)]
 have hh2:A.in1.in1.handled=none:=by simp [hh]
 have hh1:A.in1.handled=none:=by simp [hh]
 refine Ch (Vm hz' hh2 λh1' tk1 hk1=>?_)
 show wpAny _ _ (rule _ >>= _) _ _ _
 refine Ch (dk ?_)
 have up:∀b o,s.heap.get? b=some o->h1'.get? b=some o:=λb o e=>hk1 b o (Ev _ e)
 refine Ch (wpAny_pyIter_zip (s:={ s with heap:=h1',toks:=tk1 }) (up _ _ hz) ?_)
 refine Go ⟨plainId_quiet Cg _,?_⟩
 obtain⟨p,q,hTO⟩:=to
 obtain⟨o1,x1,_⟩:=it1.lies
 obtain⟨o2,x2,_⟩:=it2.lies
 have hdb:base.get? s.heap.objs.size=none:=by
  cases e:base.get? s.heap.objs.size with
  | none=>rfl
  | some o=>exact absurd (ZB (hold _ _ e)) (cP _)
 refine UA (knd:=knd) (A:=A.in1) (PrV.zip (A:=A.in1.in1) hh2 D hTI ⟨nd' hz,nd' ti,nd' hTO,nd' x1,nd' x2⟩ hn hl1 hl2 h1 hk) kvs hlen nd hsz hdb hit n 0 _ (eE _) (TW _) ⟨up _ _ ti,it1.mv λo e=>up _ o e,it2.mv λo e=>up _ o e,.inl ⟨up _ _ hz,p,q,up _ _ hTO⟩⟩ (λb o e=>up b o (hold b o e)) (by rw [List.take_zero]; exact⟨_,#[],0,hk1 _ _ hd0,⟨rfl,rfl,rfl⟩,rfl,(λe he=>by simp at he),(.nil),cq⟩) λh' tk hD hk'=>?_
 exact⟨rfl,h h' tk hD hk'⟩
end
section
variable {X:Cx}
noncomputable def U0(K:Frag)(ta:TA):TE:=λσ H Q=>ta σ H λvs H1=>∃κ1 κ2 a b,∃(ws:List V) (keys:List Key),vs=[.ref a,.ref b]/\SqK κ1 K H1 a (keys.map kV)/\SqK κ2 K H1 b ws/\ws.length=keys.length/\keys.length<=sizeLine/\keys.Nodup/\∀l,H1 l=none->Q (.ref l) (BN H1 l (.dK (keys.zip ws)))
theorem Tb:∀{keys:List Key} {ws:List V} {us:List Value},Vals ws us->KV (keys.zip ws) (keys.zip us)
 | [],_,_,_=>.nil
 | _::_,_,_,.nil=>.nil
 | k::keys,_,_,.cons r1 r2=>.cons ⟨rfl,r1⟩ (Tb r2)
theorem RG{e1 e2:Expr}{ta:TA}{p1 q1 p2 q2:Pos}(hc:X.calm=true)(ha:PA X [e1,e2] ta)(hg1:Gl X "dict")(hm1:X.mg "dict"=none)(hg2:Gl X "zip")(hm2:X.mg "zip"=none)(h1:autoParam (starEach [hZ (.Name "zip" p2) [e1,e2] [] q2] X.env=[(false,eval (hZ (.Name "zip" p2) [e1,e2] [] q2) X.env)]) zau3._auto_1)
  (hs:autoParam (starEach [e1,e2] X.env=[(false,eval e1 X.env),(false,eval e2 X.env)]) zau3._auto_1) (hs2:autoParam (starEach [e2] X.env=[(false,eval e2 X.env)]) zau3._auto_1):PE X (.Call (.Name "dict" p1) [.Call (.Name "zip" p2) [e1,e2] [] q2] [] q1) (U0 X.K ta):=by
 intro pins s σ H Q I h
 refine dO (G7 I hg1 hm1 boot_dict ?_)
 refine cT ?_ h1 rfl
 rw [h1]
 refine Calls.spliced_cons ?_
 refine Call_ (G7 I hg2 hm2 boot_zip (cT (Bs (ha q2 pins s σ H _ I h) λus0 s1 ⟨vs,H1,I1,r1,q1⟩=>?_) (by rw [hs,hs2]) (by rw [hs2]; rfl)))
 obtain⟨κ1,κ2,a,b,ws,keys,e,g1,g2,lw,hz,nd,q⟩:=q1
 subst e
 obtain⟨u,v,rfl,ru,rv⟩:=vals2 r1
 cases ru
 cases rv
 obtain⟨ks,r1',q1'⟩:=g1.at I1
 obtain⟨us,r2',q2'⟩:=g2.at I1
 have l1:=r1'.length
 have l2:=r2'.length
 rw [Db] at l1
 have lta:a<s1.heap.objs.size:=by obtain⟨o,e⟩:=q1'.lies; exact ZB e
 have ltb:b<s1.heap.objs.size:=by obtain⟨o,e⟩:=q2'.lies; exact ZB e
 have none_ge:∀c,s1.heap.objs.size<=c->s1.heap.get? c=none:=λc hb=>by
  cases e:s1.heap.get? c with
  | none=>rfl
  | some o=>exact absurd (bH (ZB e) hb) (cP _)
 refine Mv q1' q2' λh' hz' hTI hTO hi1 hi2 hkp=>Calls.spliced_nil ?_
 have D:=Wj s1.heap.objs.size a b lta ltb
 have hsz:s1.heap.objs.size<=h'.objs.size:=eC (dQ (Nat.le_add_right _ 4) (ZB hz'))
 refine UB (knd:=Be X.prog X.w) (s:={ s1 with heap:=h' }) (base:=s1.heap) (n:=keys.length) (ks:=ks.toArray) (vs:=us.toArray) (key:=λi=>ks.getD i .none) (val:=λi=>us.getD i .none) (I1.ok.hd hc) D (by refine⟨?_,?_,?_,?_⟩ <;> (show (_:Nat)≠(_:Nat); omega)) hz' hTI ⟨_,_,hTO⟩ hi1 hi2 (λc hc=>none_ge c ?_) hkp q1' q2' (by rw [T0]; omega) (λi hi=>?_) (keys.zip us) (by rw [dU]; omega) (by rw [List.map_fst_zip (by omega)]; exact nd) hz (λi p e=>?_) λh2 tk hD hk2=>?_
 ·rcases hc with rfl | rfl | rfl | rfl <;> (show (_:Nat)<=(_:Nat); omega)
 ·constructor
  ·rw [gn,FM (by omega),ax,FM (by omega)]; rfl
  ·rw [gn,FM (by omega),ax,FM (by omega)]; rfl
 ·obtain⟨p1,p2⟩:=p
  rw [List.getElem?_zip_eq_some] at e
  obtain⟨u,f1,f2⟩:=r1'.get (i:=i) (x:=kV p1) (by rw [Op,e.1]; rfl)
  refine⟨?_,?_⟩
  ·show p2=us.getD i .none; rw [ax,e.2]; rfl
  ·show (Be X.prog X.w).is p1 (ks.getD i .none)=true
   rw [ax,f1]
   exact N4 f2
 ·exact⟨.ref h'.objs.size,_,I1.laid (t':=tk) (o:=.dK (keys.zip ws)) hk2 hsz (PR (by rw [dU]; omega) (beq_eq_false_iff_ne.mpr (cE (bG (bH I1.big hsz)))) (Tb r2') hD),rfl,q _ (I1.hok.fresh hsz)⟩
end
end L2
namespace Dp
open PySem PySem.Spec PyProof.Rows L2
noncomputable def IS:List D->Option (List Key)
 | []=>some []
 | d::ds=>match keyOf d,IS ds with
  | some k,some ks=>some (k::ks)
  | _,_=>none
theorem La{K:Frag}{M:Addr->Prop}{H:Hp}:∀{ds:List D} {vs:List V} {ks:List Key},IS ds=some ks->Ats K M H ds vs->vs=ks.map kV
 | [],vs,ks,e,h=>by cases e; exact h
 | d::ds,vs,ks,e,h=>by
  obtain⟨v,r,rfl,h1,h2⟩:=h
  unfold IS at e
  split at e
  ·rename_i k ks' c1 c2
   cases e
   rw [La c2 h2,KS (U:=λ_=>False) c1 (h1.tp λ_ z=>z.elim)]
   rfl
  ·cases e
theorem N3(xs:List Str):IS (xs.map .str)=some (xs.map .inr):=by
 induction xs with
 | nil=>rfl
 | cons x r ih=>rw [av]; unfold IS; rw [ih]; rfl
section
variable {X:Cx}{e1 e2:Expr}{ws:FP}{p1 q1 p2 q2:Pos}
noncomputable def Pn(ws:FP):DW:=λn ρ P=>ws n ρ λds n1=>∃d e xs ys ks,ds=[d,e]/\Qw d=some xs/\Qw e=some ys/\IS xs=some ks/\ks.length=ys.length/\ks.length<=sizeLine/\ks.Nodup/\P (.dic ks ys) n1
theorem Rk(hc:X.calm=true)(ha:V7 X [e1,e2] ws)(hg1:Gl X "dict")(hm1:X.mg "dict"=none)(hg2:Gl X "zip")(hm2:X.mg "zip"=none)(h1:autoParam (starEach [hZ (.Name "zip" p2) [e1,e2] [] q2] X.env=[(false,eval (hZ (.Name "zip" p2) [e1,e2] [] q2) X.env)]) zau3._auto_1)
  (hs:autoParam (starEach [e1,e2] X.env=[(false,eval e1 X.env),(false,eval e2 X.env)]) zau3._auto_1) (hs2:autoParam (starEach [e2] X.env=[(false,eval e2 X.env)]) zau3._auto_1):DE X (.Call (.Name "dict" p1) [.Call (.Name "zip" p2) [e1,e2] [] q2] [] q1) .fr (Pn ws):=by
 obtain⟨t,a1,a2⟩:=ha
 refine⟨_,RG hc a1 hg1 hm1 hg2 hm2 h1 hs hs2,λC M H n ρ σ P Q R w q=>?_⟩
 refine a2 C M H n ρ σ _ _ R w λvs H1 ds n1 ee f1 r1 p=>?_
 obtain⟨d,e,xs,ys,ks,rfl,hd,he,hk,hl,hz,nd,p⟩:=p
 cases r1 with
 | cons r rr =>
  cases rr with
  | cons r' rr =>
   cases rr
   have R1:=R.step ee f1
   obtain⟨κ1,a,us,rfl,g1,s1⟩:=Ot (U:=C.U) r hd R.uV R1.vM
   obtain⟨κ2,b,us',rfl,g2,s2⟩:=Ot (U:=C.U) r' he R.uV R1.vM
   cases La hk g1
   have l2:=g2.length
   refine⟨κ1,κ2,a,b,us',ks,rfl,s1 M H1 (Pres.refl _ _) (Ext.refl _ _),s2 M H1 (Pres.refl _ _) (Ext.refl _ _),by omega,hz,nd,λl hn=>?_⟩
   have g:Grow H1 (BN H1 l (.dK (ks.zip us'))):=BD hn
   refine q _ _ (.dic ks ys) n1 (ee.trans g.ext) (f1.grow g) (VR.back ee (κ:=.fr) ⟨l,rfl,hn,us',Ak,hl,g2.pres ?_⟩) p
   exact⟨λb o eb nb=>by rw [Ac (λz=>by rw [z,hn] at eb; cases eb)]; exact eb,λb z=>z.elim .inl λz=>.inr (by rw [z]; exact hn),λb vs eb=>by rw [Ac (λz=>by rw [z,hn] at eb; cases eb)]; exact eb⟩
end
end Dp
set_option maxHeartbeats 400000
namespace Nt
open PySem PySem.Spec PyProof.Rows L2 Dp
noncomputable def Ef:W2:=λss n P=>∃(N:Net) (d:D),ss=[.sh (C3 N),.sh d]/\N.Ok/\Pl d/\P (.bl (GV N d)) n
noncomputable def Ji:W2:=λss n P=>∃(N:Net) (t b:Int) (many:Nat) (gone:List A0) (u p:D),ss=[aB N t b many,.sh (D6 gone),.sh u,.sh p]/\okN N/\Cp t b/\FN N gone/\Pl u/\P (.bl (PN N t b gone u p)) n
noncomputable def DN(j:Nat):W2:=λss n P=>∃(N:Net) (t b:Int) (many:Nat) (kept gone:List A0) (x:D) (deep k:Nat),ss=[aB N t b many,.sh (D6 kept),.sh (D6 gone),.sh x,.sh (.int (deep:Int))]/\okN N/\Cp t b/\FN N kept/\FN N gone/\kept.length+j<=90/\gone.length+j<=90/\Pl x/\Cw x<=j/\deep+k=16/\2 ^ (j+1)<=n+1/\∀n',n+1<=n'+2 ^ (j+1)->P (.bl (Eh N t b many k kept gone x)) n'
noncomputable def IB:W2:=λss n P=>∃(N:Net) (t b:Int) (many:Nat) (x:D),ss=[.sh (C3 N),.sh (Bn t b),.sh (.int (many:Int)),.sh x]/\okN N/\Cp t b/\Pl x/\Cw x<=10/\P (.bl (Eh N t b many 15 [] [] x)) n
noncomputable def SU:Aj:=(Bl (LG (As (Am (JI true) (BH (AE (AG 7) (AE (AG 8) (AE (AG 9) AW)))) (AG 1))) (As (Am (f2 λi j=>D.bl (decide (j<i))) (Cj T7 (AE (Am CP (Am FA (AG 6) (AG 7)) (Am FA (AG 6) (AG 8))) AW)) (AG 9)))) (A2 (wC (D.bl false))) BA)
noncomputable def ML:Aj:=(Bl (EM (As (FL "bool" (AG 5))) (EM (CH (As (FL "int" (AG 5)))) (As (Am Ri (AG 5) (wC (D.int 0)))))) (A2 (wC (D.bl false))) BA)
noncomputable def EY:Aj:=(Ap (A5 4 (IH 0 (wC (D.str "net"))))
 (Ap (Bl (EM (CH (As (Ad Ef (AD (AN (AG 4)) (AD (AN (AG 2)) Af))))) (As (Am (JI true) (AG 2) (AG 1)))) (A2 (wC (D.bl false))) BA)
 (Ap (Bl (EM (CH (As (FL "tuple" (AG 3)))) (As (Am (Ku true) (Cj DB (AE (AG 3) AW)) (Cj DB (AE (Am BQ (AG 4) (wC (D.int 0))) AW))))) (A2 (wC (D.bl false))) BA)
 (Ap (Gr (BZ (AG 3)) (A1 5) ML)
 (Ap (A5 6 (Pn (AE (Am BQ (AG 4) (wC (D.int 0))) (AE (AG 3) AW))))
 (Ap (Gr (BZ (Am BQ (AG 4) (wC (D.int 1)))) (Rq 3 (CF (A1 7) (CF (A1 8) (CF (A1 9) Ll)))) SU)
 (Ap (A5 10 (Cj T7 (AE (Am CP (Am FA (AG 6) (Am BQ (AG 2) (wC (D.int 0)))) (Am FA (AG 6) (Am BQ (AG 2) (wC (D.int 1))))) AW)))
 (A2 (Am (f2 λi j=>D.bl (decide (j<i))) (Am Dt (AG 10) (Am BQ (IH 0 (wC (D.str "times"))) (wC (D.int 1)))) (Am Dt (Am BQ (AG 2) (wC (D.int 2))) (Am BQ (IH 0 (wC (D.str "times"))) (wC (D.int 0)))))))))))))
noncomputable def FF(Wr:W2):Aj:=(Ap (NG 0 (Am CP (SE 0) (wC (D.int 1))))
 (Ap (Bl (EM (As (Am Ri (SE 0) (wC (D.int 0)))) (As (Am (f2 λi j=>D.bl (decide (j<i))) (AG 4) (wC (D.int 15))))) (A2 (wC (D.bl false))) BA)
 (Ap (Bl (EM (CH (As (FL "tuple" (AG 3)))) (As (Am (Ku false) (Cj DB (AE (AG 3) AW)) (wC (D.int 0))))) (A2 (wC (D.bl false))) BA)
 (Ap (Bl (As (Am PP (Am BQ (AG 3) (wC (D.int 0))) (wC (D.str "enough")))) (A2 (I_ (Am (Ku false) (Cj DB (AE (AG 3) AW)) (wC (D.int 1))) (Am (f2 λi j=>D.bl (decide (j<=i))) (Cj DB (AE (AG 1) AW)) (IH 0 (wC (D.str "many")))))) BA)
 (Ap (Bl (As (Am PP (Am BQ (AG 3) (wC (D.int 0))) (wC (D.str "far")))) (A2 (I_ (Am (Ku false) (Cj DB (AE (AG 3) AW)) (wC (D.int 3))) (Ad Ji (AD (Jn 0) (AD (AN (AG 2)) (AD (AN (Am BQ (AG 3) (wC (D.int 1)))) (AD (AN (Am BQ (AG 3) (wC (D.int 2)))) Af))))))) BA)
 (Ap (Bl (EM (As (Am Mi (Am BQ (AG 3) (wC (D.int 0))) (wC (D.str "split")))) (EM (As (Am (Ku true) (Cj DB (AE (AG 3) AW)) (wC (D.int 4)))) (CH (As (Ad Ef (AD (AN (IH 0 (wC (D.str "net")))) (AD (AN (Am BQ (AG 3) (wC (D.int 1)))) Af))))))) (A2 (wC (D.bl false))) BA)
 (Ap (A5 5 (Am BQ (AG 3) (wC (D.int 1))))
 (Ap (Bl (As (Am (JI false) (AG 5) (Am A4 (AG 1) (AG 2)))) (A2 (wC (D.bl false))) BA)
 (Ap (Bl (CH (As (Ad Wr (AD (Jn 0) (AD (AN (Am A4 (AG 1) (BM (AE (AG 5) AW)))) (AD (AN (AG 2)) (AD (AN (Am BQ (AG 3) (wC (D.int 2)))) (AD (AN (Am A4 (AG 4) (wC (D.int 1)))) Af)))))))) (A2 (wC (D.bl false))) BA)
 (A2 (Ad Wr (AD (Jn 0) (AD (AN (AG 1)) (AD (AN (Am A4 (AG 2) (BM (AE (AG 5) AW)))) (AD (AN (Am BQ (AG 3) (wC (D.int 3)))) (AD (AN (Am A4 (AG 4) (wC (D.int 1)))) Af))))))))))))))))
noncomputable def C4:Aj:=(A2 (SG (DN 10) 0 1 2 3 "net" "times" "many" 4000 1))
theorem V2{N:Net}{x y c:D}(h:∀z,c≠.bl z):((N.ts.map Ag).any λs=>Bw s (.tup [x,y,c]))=GV N (.tup [x,y,c]):=by
 rw [cF,tofB_iff,cu]
 constructor
 ·rintro ⟨s,hs,e⟩
  obtain⟨v,hv,rfl⟩:=UF.mp hs
  obtain⟨z,e2,hz⟩:=Lg e
  injection e2 with e2
  injection e2 with e3 e2
  injection e2 with e4 e2
  injection e2 with e5
  subst e3 e4 e5
  cases c with
  | int i=>exact⟨v,hv,by rw [hz i rfl]; rfl⟩
  | bl z=>exact absurd rfl (h z)
  | _ => 
   have e:(Bw (.str v.a) (.str v.a)&&(Bw (.str v.b) (.str v.b)&&(false&&true)))=true:=e
   simp at e
 ·rintro ⟨v,hv,e⟩
  exact⟨Ag v,UF.mpr ⟨v,hv,rfl⟩,by rw [e]; exact Ml v⟩
theorem Pq{N:Net}{x:D}(h:∀xs,x=.tup xs->xs.length≠3):GV N x=false:=b8.mpr λz=>by
 obtain⟨v,_,rfl⟩:=tofB_iff.mp z
 exact h _ rfl rfl
theorem MS{N:Net}{t b:Int}{many k:Nat}{kept gone:List A0}{w:D}{r xs:List D}(hx:xs=w::r)(h1:Bw w (.str "enough")=true->xs.length≠1)(h2:Bw w (.str "far")=true->xs.length≠3)(h3:Bw w (.str "split")=true->xs.length≠4):Eh N t b many k kept gone (.tup xs)=false:=by
 unfold Eh
 split
 ·rename_i e; cases e; cases hx; rw [b8.mpr λz=>h1 z rfl]; rfl
 ·rename_i e; cases e; cases hx; rw [b8.mpr λz=>h2 z rfl]; rfl
 ·rename_i e; cases e; cases hx; rw [b8.mpr λz=>h3 z rfl]; rfl
 ·rfl
theorem Po{u v:DW}{n:Nat}{ρ:List Slot}{P:D->Nat->Prop}(h:∀K:D->Nat->Prop,K (.bl false) n->u n ρ K)(q:P (.bl false) n):I_ u v n ρ P:=h _ q
theorem Tr{N:Net}{gone:List A0}{xs:List D}(f1:xs.length=N.ps.length)(f2:xs.all Kt=true):E_ (C_ N gone) (.tup xs)=N.ts.all λx=>(decide (x∈gone)||decide (CU (Cr N xs x.a - Cr N xs x.b)<=x.len)):=by
 show ((((xs.length:Int)==(N.ps.length:Int))&&xs.all Kt)&&(N.ts.filter λt=>decide (¬t∈gone)).all λt=>decide (CU (Cr N xs t.a - Cr N xs t.b)<=t.len))=_
 rw [f1,beq_self_eq_true,f2,bA,bA,List.all_filter]
 congr 1
 funext x
 rw [decide_not,Bool.not_not]
theorem ZD{i j:Int}(h0:1<=j)(h1:j<=1000000):CMul i j:=.inr (by constructor <;> omega)
theorem NW{N:Net}(okn:okN N){gone:List A0}(hg:FN N gone){xs:List D}(f1:xs.length=N.ps.length)(f2:∀x∈xs,Kt x=true){D2:E2}{n:Nat}{s0 s2 s3 s4 s5 s10:Slot}:∀(rest:List A0) (s7 s8 s9:Slot),(∀x∈rest,x∈N.ts) ->
  ((rest.all λx=>(decide (x∈gone)||decide (CU (Cr N xs x.a - Cr N xs x.b)<=x.len)))=false->D2.rt (.bl false) n) ->
  ((rest.all λx=>(decide (x∈gone)||decide (CU (Cr N xs x.a - Cr N xs x.b)<=x.len)))=true->∀s7 s8 s9,D2.nx n [s0,.sh (D6 gone),s2,s3,s4,s5,.sh (.dic (N.ps.map .inr) xs),s7,s8,s9,s10]) ->
  B8 (Rq 3 (CF (A1 7) (CF (A1 8) (CF (A1 9) Ll)))) SU D2 (rest.map Ag) n [s0,.sh (D6 gone),s2,s3,s4,s5,.sh (.dic (N.ps.map .inr) xs),s7,s8,s9,s10]
 | [],s7,s8,s9,_,_,h2=>h2 rfl s7 s8 s9
 | x::rest,s7,s8,s9,hx,h1,h2=>by
  have ok:=okn.1
  have hxm:=hx x On
  obtain⟨m1,m2,_⟩:=ok.tin x hxm
  have v1:=SJ f1 f2 m1
  have v2:=SJ f1 f2 m2
  have ih:=NW okn hg f1 f2 (D2:=D2) (n:=n) (s0:=s0) (s2:=s2) (s3:=s3) (s4:=s4) (s5:=s5) (s10:=s10) rest (.sh (.str x.a)) (.sh (.str x.b)) (.sh (.int x.len)) λy hy=>hx y (TM _ hy)
  rw [fk] at h1 h2
  unfold SU
  refine⟨rfl,rfl,z3,Cf ok hxm,EH ok hg,_,rfl,?_⟩
  show if (!((gone.map Ag).any λy=>Bw y (Ag x)))=true then _ else _
  rw [DD]
  cases e1:decide (x∈gone) with
  | true =>
   rw [e1,Bool.true_or,bA] at h1 h2
   exact BJ (BJ (ih h1 h2))
  | false =>
   rw [e1,Bool.false_or] at h1 h2
   refine BX ⟨_,_,_,_,rfl,rfl,v1,_,_,_,_,rfl,rfl,v2,?_⟩
   show if decide (x.len<CU (Cr N xs x.a - Cr N xs x.b))=true then _ else _
   by_cases c:CU (Cr N xs x.a - Cr N xs x.b)<=x.len
   ·rw [decide_eq_false (by omega)]
    rw [decide_eq_true c,bA] at h1 h2
    exact BJ (ih h1 h2)
   ·rw [decide_eq_true (by omega)]
    rw [decide_eq_false c,eJ] at h1
    exact BX (h1 rfl)
theorem Jx{D2:E2}{n:Nat}{s0 s1 s2 s3 s4 s6 s7 s8 s9 s10:Slot}:∀(xs:List D) (s5:Slot),(xs.all Kt=false->D2.rt (.bl false) n)->(xs.all Kt=true->∀s5,D2.nx n [s0,s1,s2,s3,s4,s5,s6,s7,s8,s9,s10])->B8 (A1 5) ML D2 xs n [s0,s1,s2,s3,s4,s5,s6,s7,s8,s9,s10]
 | [],s5,_,h=>h rfl s5
 | x::xs,s5,h0,h=>by
  rw [fk] at h0 h
  unfold ML
  cases x with
  | int i =>
   have ih:=Jx (D2:=D2) (n:=n) (s0:=s0) (s1:=s1) (s2:=s2) (s3:=s3) (s4:=s4) (s6:=s6) (s7:=s7) (s8:=s8) (s9:=s9) (s10:=s10) xs (.sh (.int i))
   show if decide (i<0)=true then _ else _
   by_cases c:0<=i
   ·rw [show Kt (.int i)=true from decide_eq_true c,bA] at h0 h
    rw [decide_eq_false (by omega)]
    exact BJ (ih h0 h)
   ·rw [show Kt (.int i)=false from decide_eq_false c,eJ] at h0
    rw [decide_eq_true (by omega)]
    exact BX (h0 rfl)
  | _=>exact h0 rfl
section
variable {ss:List Slot}{n:Nat}{Pd:D->Nat->Prop}
theorem JD(h:Ef ss n Pd):EX (EE Pd) n (ss++Re 0 .no):=by
 obtain⟨N,d,rfl,ok,hd,q⟩:=h
 unfold EX
 cases d with
 | tup xs =>
  refine⟨_,_,rfl,rfl,?_⟩
  by_cases h3:xs.length=3
  ·match xs,h3,hd,q with
   | [x,y,c],_,hd,q =>
    refine⟨_,AR (j:=2) rfl,?_⟩
    have last:(∀z,c≠.bl z)->Pd (.bl ((N.ts.map Ag).any λs=>Bw s (.tup [x,y,c]))) n:=λh=>by rw [V2 h]; exact q
    cases c with
    | bl z =>
     rw [show GV N (.tup [x,y,.bl z])=false from b8.mpr λe=>by
      obtain⟨v,_,e⟩:=tofB_iff.mp e
      injection e with e; injection e with _ e; injection e with _ e; injection e with e; cases e] at q
     exact q
    | _=>exact⟨_,AR (j:=1) rfl,hd.lay,(Hc ok λ_ z=>z).1,_,rfl,last (λ_ e=>by cases e)⟩
  ·rw [Pq (λys e=>by cases e; exact h3)] at q
   show if (!((xs.length:Int)==3))=true then _ else _
   rw [show ((xs.length:Int)==3)=false from beq_eq_false_iff_ne.mpr (by omega)]
   exact BX (BX q)
 | _ => 
  rw [Pq (λys e=>by cases e)] at q
  exact q
theorem JE(h:Ji ss n Pd):EY (EE Pd) n (ss++Re 7 .no):=by
 obtain⟨N,t,b,many,gone,u,p,rfl,okn,⟨b1,b2,t1,t2⟩,hg,hu,q⟩:=h
 have ok:=okn.1
 have szl:=PySem.sizeLine_eq
 have l25:=okn.2.1
 unfold EY
 refine⟨_,_,rfl,_,_,rfl,IG _ _ _,?_⟩
 refine⟨N,u,rfl,ok,hu,?_⟩
 unfold PN at q
 cases e:GV N u with
 | false=>rw [SQ e] at q; exact BX q
 | true =>
 obtain⟨v,hv,rfl⟩:=tofB_iff.mp e
 rw [Es hv] at q
 refine BJ ⟨Cf ok hv,EH ok hg,_,rfl,?_⟩
 rw [DD]
 show if (!decide (v∈gone))=true then _ else _
 cases e:decide (v∈gone) with
 | false=>rw [e] at q; exact BX q
 | true =>
 rw [e,bA] at q
 cases p with
 | tup xs =>
  refine BJ ⟨_,_,rfl,rfl,_,AR (j:=0) rfl,_,_,rfl,rfl,?_⟩
  show if (!(((xs.length:Nat):Int)==(((N.ps.map D.str).length:Nat):Int)))=true then _ else _
  rw [Db]
  have q:Pd (.bl (((((xs.length:Int)==(N.ps.length:Int))&&xs.all Kt)&&(C_ N gone).ts.all λt=>decide (CU (Cr N xs t.a - Cr N xs t.b)<=t.len))&&decide (v.len*t<CU (Cr N xs v.a - Cr N xs v.b)*b))) n:=q
  by_cases f1:xs.length=N.ps.length
  ·rw [show ((xs.length:Int)==(N.ps.length:Int))=true from beq_iff_eq.mpr (by rw [f1])] at q ⊢
   refine BJ (Jx xs _ (λc=>?_) λc s5=>?_)
   ·rw [c] at q; exact q
   ·have f2:=cO.mp c
    obtain⟨m1,m2,_⟩:=ok.tin v hv
    have v1:=SJ f1 f2 m1
    have v2:=SJ f1 f2 m2
    rw [c] at q
    have ef:=Tr (gone:=gone) f1 c
    have ef2:E_ (C_ N gone) (.tup xs)=(C_ N gone).ts.all λt=>decide (CU (Cr N xs t.a - Cr N xs t.b)<=t.len):=by
     show ((((xs.length:Int)==(N.ps.length:Int))&&xs.all Kt)&&_)=_
     rw [f1,beq_self_eq_true,c]
     rfl
    rw [ef2] at ef
    rw [bA,bA,ef] at q
    refine⟨_,AR (j:=0) rfl,_,_,N.ps.map .str,xs,N.ps.map .inr,rfl,rfl,rfl,N3 _,by rw [Db]; exact f1.symm,by rw [Db]; omega,f7.mpr ((ME ok.rise).imp λh e=>h (cJ e)),?_⟩
    refine⟨_,AR (j:=1) rfl,?_⟩
    refine NW okn hg f1 f2 N.ts _ _ _ (λ_ z=>z) (λc=>?_) λc s7 s8 s9=>?_
    ·rw [c] at q; exact q
    ·rw [c,bA] at q
     refine⟨_,AR (j:=0) rfl,_,_,_,_,rfl,rfl,v1,_,AR (j:=1) rfl,_,_,_,_,rfl,rfl,v2,?_⟩
     refine⟨_,_,rfl,_,_,rfl,Jm _ _ _,_,AR (j:=1) rfl,ZD b1 b2,_,AR (j:=2) rfl,_,_,rfl,_,_,rfl,Jm _ _ _,_,AR (j:=0) rfl,ZD t1 t2,?_⟩
     exact q
  ·rw [show ((xs.length:Int)==(N.ps.length:Int))=false from beq_eq_false_iff_ne.mpr (by omega)] at q ⊢
   exact BX q
 | _=>exact BJ q
theorem Fk{Wr:W2}{j:Nat}(hrec:∀ss n P,j≠0->DN (j - 1) ss n P->Wr ss n P)(h:DN j ss n Pd):FF Wr (EE Pd) n (ss++Re 1 .no):=by
 obtain⟨N,t,b,many,kept,gone,x,deep,k,rfl,okn,tm,hk,hg,l1,l2,hx,hdp,hdk,hn,q⟩:=h
 have ok:=okn.1
 have szl:=PySem.sizeLine_eq
 have p2:=cV j
 have ps:2 ^ (j+1)=2*2 ^ j:=by rw [be]; omega
 rw [ps] at hn q
 unfold FF
 refine⟨_,_,rfl,Ma,(by decide:3<=10),_,_,rfl,Ma,λr r0 r1=>⟨r - 1,n - 1,rfl,by omega,by omega,?_⟩⟩
 refine⟨_,_,rfl,Ma,λr' r0' r1'=>?_⟩
 show if decide (r'<0)=true then _ else _
 rw [decide_eq_false (by omega)]
 refine BJ ?_
 have q1:=q (n - 1) (by omega)
 show if decide ((15:Int)<(deep:Int))=true then _ else _
 cases k with
 | zero =>
  rw [decide_eq_true (by omega)]
  rw [show Eh N t b many 0 kept gone x=false by unfold Eh; rfl] at q1
  exact BX q1
 | succ k =>
 rw [decide_eq_false (by omega)]
 refine BJ ?_
 cases x with
 | tup xs =>
  refine⟨_,_,rfl,rfl,?_⟩
  show if ((xs.length:Int)==0)=true then _ else _
  cases hxs:xs with
  | nil=>rw [hxs] at q1; exact q1
  | cons w r =>
  rw [← hxs]
  have hl:xs.length=r.length+1:=by rw [hxs]; rfl
  rw [show ((xs.length:Int)==0)=false from beq_eq_false_iff_ne.mpr (by omega)]
  have hw:B9 w:=(hx.mem (y:=w) (by rw [hxs]; exact On)).lay
  have h0:xs[0]?=some w:=by rw [hxs]; rfl
  refine BJ ⟨_,AR h0,hw,XX,?_⟩
  cases e1:Bw w (.str "enough") with
  | true =>
   have n2:Bw w (.str "far")=false:=by rw [QR e1]; decide +kernel
   have n3:Bw w (.str "split")=false:=by rw [QR e1]; decide +kernel
   refine BX ?_
   by_cases h1:xs.length=1
   ·match xs,h1,hxs,q1 with
    | [_],_,rfl,q1 =>
    have q1:Pd (.bl (Bw w (.str "enough")&&decide (many<=kept.length))) (n - 1):=q1
    rw [e1,bA] at q1
    refine⟨_,_,rfl,rfl,?_⟩
    refine⟨_,_,rfl,rfl,_,_,rfl,_,_,rfl,Pk _ _ _,?_⟩
    show Pd (.bl (decide ((many:Int)<=(((kept.map Ag).length:Nat):Int)))) (n - 1)
    rw [show decide ((many:Int)<=(((kept.map Ag).length:Nat):Int))=decide (many<=kept.length) from decide_eq_decide.mpr (by rw [Db]; omega)]
    exact q1
   ·rw [MS hxs (λ_=>h1) (λz=>by rw [n2] at z; cases z) (λz=>by rw [n3] at z; cases z)] at q1
    refine Po (λK hK=>⟨_,_,rfl,rfl,?_⟩) q1
    show K (.bl ((xs.length:Int)==1)) (n - 1)
    rw [show ((xs.length:Int)==1)=false from beq_eq_false_iff_ne.mpr (by omega)]
    exact hK
  | false =>
  refine BJ ⟨_,AR h0,hw,TZ,?_⟩
  cases e2:Bw w (.str "far") with
  | true =>
   have n3:Bw w (.str "split")=false:=by rw [QR e2]; decide +kernel
   refine BX ?_
   by_cases h3:xs.length=3
   ·match xs,h3,hxs,q1,hx with
    | [_,u,p],_,rfl,q1,hx =>
    have q1:Pd (.bl (Bw w (.str "far")&&PN N t b gone u p)) (n - 1):=q1
    rw [e2,bA] at q1
    refine⟨_,_,rfl,rfl,?_⟩
    exact⟨_,AR (j:=1) rfl,_,AR (j:=2) rfl,N,t,b,many,gone,u,p,rfl,okn,tm,hg,hx.mem (by simp),q1⟩
   ·rw [MS hxs (λz=>by rw [e1] at z; cases z) (λ_=>h3) (λz=>by rw [n3] at z; cases z)] at q1
    refine Po (λK hK=>⟨_,_,rfl,rfl,?_⟩) q1
    show K (.bl ((xs.length:Int)==3)) (n - 1)
    rw [show ((xs.length:Int)==3)=false from beq_eq_false_iff_ne.mpr (by omega)]
    exact hK
  | false =>
  refine BJ ⟨_,AR h0,hw,TY,?_⟩
  cases e3:Bw w (.str "split") with
  | false =>
   rw [MS hxs (λz=>by rw [e1] at z; cases z) (λz=>by rw [e2] at z; cases z) (λz=>by rw [e3] at z; cases z)] at q1
   exact BX (BX q1)
  | true =>
  refine BJ ⟨_,_,rfl,rfl,?_⟩
  by_cases h4:xs.length=4
  ·match xs,h4,hxs,q,q1,hx,hdp with
   | [_,u,c,d],_,rfl,q,q1,hx,hdp =>
   have hc:c∈[w,u,c,d]:=by simp
   have hd:d∈[w,u,c,d]:=by simp
   cases j with
   | zero=>exact absurd hdp (by show ¬Fx _+1<=0; omega)
   | succ j =>
   have dc:=JT hdp c hc
   have dd:=JT hdp d hd
   have pj:=cV j
   rw [be] at q hn
   have q:∀n',n+1<=n'+2*(2 ^ j*2)->Pd (.bl (Bw w (.str "split")&&Uq N u λv=>!decide (v∈kept)&&(!decide (v∈gone)&&(Eh N t b many k (kept++[v]) gone c&&Eh N t b many k kept (gone++[v]) d)))) n':=q
   rw [e3,bA] at q
   have q1:=q (n - 1) (by omega)
   refine⟨_,_,rfl,_,_,rfl,IG _ _ _,_,AR (j:=1) rfl,N,u,rfl,ok,hx.mem (by simp),?_⟩
   cases et:GV N u with
   | false=>rw [SQ et] at q1; exact BX q1
   | true =>
   obtain⟨v,hv,rfl⟩:=tofB_iff.mp et
   rw [Es hv] at q q1
   refine BJ ⟨_,AR (j:=1) rfl,?_⟩
   have lay2:B9 (.lst ((kept++gone).map Ag)):=(Hc ok λv hv=>(bD.mp hv).elim (hk.1 v) (hg.1 v)).2
   refine⟨by rw [Db,Db]; omega,?_⟩
   rw [← cA]
   refine⟨Cf ok hv,lay2,_,rfl,?_⟩
   rw [DD]
   show if decide (v∈kept++gone)=true then _ else _
   by_cases hm:v∈kept++gone
   ·rw [decide_eq_true hm]
    refine BX ?_
    rcases bD.mp hm with z | z
    ·rw [decide_eq_true z] at q1; exact q1
    ·rw [decide_eq_true z,Bool.not_true,eJ,fP] at q1; exact q1
   rw [decide_eq_false hm]
   rw [decide_eq_false λz=>hm (cH _ z),decide_eq_false λz=>hm (bC _ z)] at q
   have q:∀n',n+1<=n'+2*(2 ^ j*2)->Pd (.bl (Eh N t b many k (kept++[v]) gone c&&Eh N t b many k kept (gone++[v]) d)) n':=q
   refine BJ ⟨z1,by show (kept.map Ag).length+1<=_; rw [Db]; omega,_,AR (j:=2) rfl,?_⟩
   rw [HH]
   refine hrec _ _ _ (by omega) ⟨N,t,b,many,kept++[v],gone,c,deep+1,k,rfl,okn,tm,sub_snoc hk hv (by omega),hg,by rw [Sc,aw]; omega,by omega,hx.mem hc,dc,by omega,by show 2 ^ (j+1)<=_; rw [be]; omega,λn1 hn1=>?_⟩
   have hn1:n - 1+1<=n1+2 ^ (j+1):=hn1
   rw [be] at hn1
   show if (!Eh N t b many k (kept++[v]) gone c)=true then _ else _
   cases e4:Eh N t b many k (kept++[v]) gone c with
   | false =>
    rw [e4] at q
    exact BX (q n1 (by omega))
   | true =>
   rw [e4] at q
   refine BJ ⟨z1,by show (gone.map Ag).length+1<=_; rw [Db]; omega,_,AR (j:=3) rfl,?_⟩
   rw [HH]
   exact hrec _ _ _ (by omega) ⟨N,t,b,many,kept,gone++[v],d,deep+1,k,rfl,okn,tm,hk,sub_snoc hg hv (by omega),by omega,by rw [Sc,aw]; omega,hx.mem hd,dd,by omega,by show 2 ^ (j+1)<=_; rw [be]; omega,λn2 hn2=>q n2 (by
    have hn2:n1+1<=n2+2 ^ (j+1):=hn2
    rw [be] at hn2
    omega)⟩
  ·rw [MS hxs (λz=>by rw [e1] at z; cases z) (λz=>by rw [e2] at z; cases z) (λ_=>h4)] at q1
   show if (!((xs.length:Int)==4))=true then _ else _
   rw [show ((xs.length:Int)==4)=false from beq_eq_false_iff_ne.mpr (by omega)]
   exact BX (BX q1)
 | _=>exact q1
theorem Gz(h:IB ss n Pd):C4 (EE Pd) n (ss++Re 0 .no):=by
 obtain⟨N,t,b,many,x,rfl,okn,tm,hx,hd,q⟩:=h
 unfold C4
 have nE:E9 (C3 N)=true:=(JP (B:=1000001) (by decide) (SK (QL okn.1) (DY okn.1) (by rw [Db]; have:=okn.2.1; omega) (by rw [Db]; have:=okn.2.2; omega)).1).1
 have no:FN N []:=⟨λ_ z=>absurd z a9,by decide⟩
 refine⟨_,_,_,_,rfl,rfl,rfl,rfl,?_,N,t,b,many,[],[],x,1,15,rfl,okn,tm,no,no,by decide,by decide,hx,hd,rfl,by decide,λn' _=>q⟩
 show (E9 (C3 N)&&_)=true
 rw [nE]
 rfl
end
noncomputable def Cu(B:Nat)(x y:D):Prop:=fine (B+1) y/\GW y<=2*GW x+300/\Cw y<=Cw x+1
noncomputable def E8(j:Nat):W2:=λss n P=>∃(x:D) (B:Nat),ss=[.fd,.sh x]/\fine B x/\10 ^ 30<=B/\B<10 ^ 40/\GW x<=100000/\Cw x<=j/\3*j+3<=n/\∀(y:D) (n':Nat),Cu B x y->n - (3*j+3)<=n'->P y n'
noncomputable def SM:Aj:=(Ap (A5 3 (BM (AE (Cj Kb (AE (AG 1) AW)) (AE (Am A4 (AG 1) (OZ Fu (AG 1) Bk (C1 (wC (D.int 1))))) (AE (OZ Fu (AG 1) (C1 (wC (D.int 1))) Bk) (AE (OZ Fu (AG 1) Bk (C1 (Oc (wC (D.int 1))))) (AE (Wm (AG 1) (Oc (wC (D.int 1)))) (AE (BH AW) (AE (wC D.non) (AE (Am A4 (AG 1) (BH (AE (wC (D.int 0)) AW))) AW))))))))))
 (Ap (A5 3 (Am A4 (AG 3) (BM (AE (BH (AE (wC (D.str "enough")) AW)) (AE (Am A4 (BH (AE (wC (D.str "far")) AW)) (OZ Fu (AG 1) (C1 (wC (D.int 1))) Bk)) (AE (Am A4 (BH (AE (wC (D.str "split")) AW)) (OZ Fu (AG 1) (C1 (wC (D.int 1))) Bk)) AW))))))
 (A2 (Am BQ (AG 3) (Ad Bj (AD (Ay 0) (AD (AN (wC (D.int 11))) Af)))))))
noncomputable def Sn:Aj:=(Ap (Bl (As (FL "tuple" (AG 1))) SM BA)
 (Ap (Bl (As (FL "str" (AG 1))) (A2 (Am BQ (BM (AE (wC (D.str "enough")) (AE (wC (D.str "far")) (AE (wC (D.str "split")) (AE (wC (D.str "Far")) (AE (wC (D.str "")) (AE (wC (D.str "a")) (AE (wC D.non) (AE (wC (D.int 1)) (AE (BM AW) (AE (BH (AE (wC (D.str "enough")) AW)) AW))))))))))) (Ad Bj (AD (Ay 0) (AD (AN (wC (D.int 10))) Af))))) BA)
 (Ap (Bl (EM (As (FL "bool" (AG 1))) (CH (As (FL "int" (AG 1))))) (A2 (BH (AE (wC (D.str "enough")) AW))) BA)
 (A2 (Am BQ (BM (AE (Am A4 (AG 1) (wC (D.int 1))) (AE (Am CP (AG 1) (wC (D.int 1))) (AE (Am (Ku false) (AG 1) (wC (D.int 1))) (AE (wC D.non) (AE (Cj Tu (AE (AG 1) AW)) (AE (Am CP (Oc (wC (D.int 1))) (AG 1)) (AE (Am (Rj LD λi j=>D.int (i ^ j.toNat)) (wC (D.int 10)) (wC (D.int 30))) (AE (wC (D.int 0)) AW))))))))) (Ad Bj (AD (Ay 0) (AD (AN (wC (D.int 8))) Af))))))))
noncomputable def GA(Wr:W2):Aj:=(Ap (Bl (LG (As (FL "tuple" (AG 1))) (LG (As (Am (f2 λi j=>D.bl (decide (j<i))) (Cj DB (AE (AG 1) AW)) (wC (D.int 0)))) (As (Am (f2 λi j=>D.bl (decide (j<i))) (Ad Bj (AD (Ay 0) (AD (AN (wC (D.int 5))) Af))) (wC (D.int 0)))))) (Ap (A5 2 (Ad Bj (AD (Ay 0) (AD (AN (Cj DB (AE (AG 1) AW))) Af))))
 (A2 (Am A4 (Am A4 (OZ Fu (AG 1) Bk (C1 (AG 2))) (BH (AE (Ad Wr (AD (Ay 0) (AD (AN (Am BQ (AG 1) (AG 2))) Af))) AW))) (OZ Fu (AG 1) (C1 (Am A4 (AG 2) (wC (D.int 1)))) Bk)))) BA)
 Sn)
theorem O9{zs:List D}{c:Nat}{Q:D->Prop}(hz:∀z∈zs,Q z)(hc:zs.length=c){r:Int}(h0:0<=r)(h1:r<(c:Int)):∃z,atI zs r=some z/\Q z:=by
 obtain⟨k,rfl⟩:∃k:Nat,r=(k:Int):=⟨r.toNat,by omega⟩
 have hk:k<zs.length:=by omega
 exact⟨zs[k],AR (FM hk),hz _ (cB hk)⟩
section
variable {ss:List Slot}{n:Nat}{Pd:D->Nat->Prop}
theorem Sq{xs:List D}{B m:Nat}{s2:Slot}{D2:E2}(hf:fine B (.tup xs))(hB:10 ^ 30<=B)(hz:Dn xs<=100000)(hm:1<=m)(q:∀y,Cu B (.tup xs) y->D2.rt y (m - 1)):SM D2 m [.fd,.sh (.tup xs),s2,.no]:=by
 have szl:=PySem.sizeLine_eq
 have hl:=Ei xs
 have fx:∀(ys:List D),(∀y∈ys,y∈xs\/(fine (B+1) y/\Cw y=0))->Dn ys<=2*Dn xs+300->Cu B (.tup xs) (.tup ys)/\Cu B (.tup xs) (.lst ys):=λys hy hs=>by
  have f1:Ik (B+1) ys:=fines_iff.mpr λy h=>(hy y h).elim (λh=>(fines_iff.mp hf y h).mono (by omega)) (·.1)
  have:=dps_le.mpr λy h=>(hy y h).elim (λh=>dps_le.mp (No (Fx xs)) y h) λh=>by rw [h.2]; exact TW _
  have f3:Fx ys+1<=Fx xs+1+1:=by omega
  exact⟨⟨f1,hs,f3⟩,f1,hs,f3⟩
 have st:∀x∈[("enough" : Str),"far","split"],(∀c∈cs x,c<1114112)/\x.length<=9:=by decide +kernel
 have c1:=HE xs none (some 1)
 have c2:=HE xs (some 1) none
 have c3:=HE xs none (some (-1))
 have d1:=Ei (Dp.cutD xs none (some 1))
 have d2:=Ei (Dp.cutD xs (some 1) none)
 unfold SM
 refine⟨by omega,1,rfl,1,rfl,rfl,z0,z1,by show xs.length+1<=_; omega,(by decide:8<=sizeLine),?_⟩
 refine⟨z1,z1,by show 1+_<=_; omega,z1,by show 1+_<=_; omega,z3,(by show 8+3<=sizeLine; decide),?_⟩
 refine⟨11,rfl,by decide,by decide,hm,λr r0 r1=>?_⟩
 have one:∀s∈[("enough" : Str),"far","split"],∀ys:List D,(∀y∈ys,y∈xs)->Dn ys<=Dn xs->Cu B (.tup xs) (.tup ([.str s]++ys)):=λs hs ys hy hz=>(fx _ (λy h=>(bD.mp h).elim (λh=>.inr (by rw [ay.mp h]; exact⟨(st s hs).1,rfl⟩)) λh=>.inl (hy y h)) (by
  have:=(st s hs).2
  rw [CI]
  show s.length+1+0+_<=_
  omega)).1
 obtain⟨z,e,hz'⟩:=O9 (Q:=Cu B (.tup xs)) (c:=11) (zs:=[D.lst xs,.tup (xs++Dp.cutD xs none (some 1)),.tup (Dp.cutD xs (some 1) none),.tup (Dp.cutD xs none (some (-1))),.tup xs.reverse,.tup [],.non,.tup (xs++[.int 0])]++[.tup [.str "enough"],.tup ([.str "far"]++Dp.cutD xs (some 1) none),.tup ([.str "split"]++Dp.cutD xs (some 1) none)]) (λz h=>by
  simp only [dn,bE,aq,a9,or_false] at h
  rcases h with rfl | rfl | rfl | rfl | rfl | rfl | rfl | rfl | rfl | rfl | rfl
  ·exact(fx xs (λ_ h=>.inl h) (by omega)).2
  ·exact(fx _ (λy h=>.inl ((bD.mp h).elim id E1)) (by rw [CI]; omega)).1
  ·exact(fx _ (λy h=>.inl (E1 h)) (by omega)).1
  ·exact(fx _ (λy h=>.inl (E1 h)) (by omega)).1
  ·exact(fx _ (λy h=>.inl (List.mem_reverse.mp h)) (by rw [Pt]; omega)).1
  ·exact(fx [] (λy h=>absurd h a9) (TW _)).1
  ·exact⟨trivial,TW _,TW _⟩
  ·exact(fx _ (λy h=>(bD.mp h).elim .inl λh=>.inr (by rw [ay.mp h]; exact⟨TW _,rfl⟩)) (by rw [CI]; show _+(200+1+0)<=_; omega)).1
  ·exact one "enough" (by simp) [] (λy h=>absurd h a9) (TW _)
  ·exact one "far" (by simp) _ (λy h=>E1 h) c2
  ·exact one "split" (by simp) _ (λy h=>E1 h) c2) rfl r0 r1
 exact⟨z,e,q z hz'⟩
theorem LQ{Wr:W2}{j:Nat}(hrec:∀ss n P,j≠0->E8 (j - 1) ss n P->Wr ss n P)(h0:E8 j ss n Pd):GA Wr (EE Pd) n (ss++Re 2 .no):=by
 obtain⟨x,B,rfl,hf,hB1,hB2,hz,hdp,hn,p⟩:=h0
 have szl:=PySem.sizeLine_eq
 have st:∀x∈[("enough" : Str),"far","split","Far","","a"],(∀c∈cs x,c<1114112)/\x.length<=9:=by decide +kernel
 have str:∀s∈[("enough" : Str),"far","split","Far","","a"],Cu B x (.str s):=λs hs=>⟨(st s hs).1,bF (st s hs).2 (by omega),TW _⟩
 have en:Cu B x (.tup [.str "enough"]):=⟨⟨(st _ (by simp)).1,trivial⟩,by have:=(st "enough" (by simp)).2; show ("enough" : Str).length+1+0<=_; omega,by show max 0 0+1<=_; omega⟩
 have int:∀i:Int,i.natAbs<=B+1->Cu B x (.int i):=λi h=>⟨h,by show 200<=_; omega,TW _⟩
 have non:Cu B x .non:=⟨trivial,TW _,TW _⟩
 unfold GA
 cases x with
 | non=>exact⟨z1,p _ n en (by omega)⟩
 | bl b=>exact⟨z1,p _ n en (by omega)⟩
 | lst xs=>exact⟨z1,p _ n en (by omega)⟩
 | dic ks xs=>exact(show False from hf).elim
 | fdi ks xs=>exact(show False from hf).elim
 | dit ks xs=>exact(show False from hf).elim
 | str s =>
  refine⟨z0,z1,(by decide:10<=sizeLine),?_⟩
  refine⟨10,rfl,by decide,by decide,by omega,λr r0 r1=>?_⟩
  obtain⟨z,e,hz'⟩:=O9 (Q:=Cu B (.str s)) (c:=10) (zs:=[.str "enough",.str "far",.str "split",.str "Far",.str "",.str "a",.non,.int 1,.lst [],.tup [.str "enough"]]) (λz h=>by
   simp only [aq,a9,or_false] at h
   rcases h with rfl | rfl | rfl | rfl | rfl | rfl | rfl | rfl | rfl | rfl
   ·exact str _ (by simp)
   ·exact str _ (by simp)
   ·exact str _ (by simp)
   ·exact str _ (by simp)
   ·exact str _ (by simp)
   ·exact str _ (by simp)
   ·exact non
   ·exact int 1 (by show 1<=_; omega)
   ·exact⟨trivial,TW _,by show 0+1<=_; omega⟩
   ·exact en) rfl r0 r1
  exact⟨z,e,p z _ hz' (by omega)⟩
 | int i =>
  have hi:i.natAbs<=B:=hf
  have hlog:i.natAbs.log2<1920:=by
   by_cases h0:i.natAbs=0
   ·rw [h0]; decide
   ·exact fD ((Nat.log2_lt h0).mpr (fD (dQ hi hB2) (by decide:10 ^ 40<2 ^ 150))) (by decide)
  have hlen:(bo (toString i)).length<=41:=by
   rw [PySem.ofString_length]
   exact int_text_length_le10 (k:=40) (by decide) (dQ hi hB2)
  refine⟨hlog,by omega,1,rfl,⟨by decide,by decide,by decide⟩,(by decide:8<=sizeLine),?_⟩
  refine⟨8,rfl,by decide,by decide,by omega,λr r0 r1=>?_⟩
  obtain⟨z,e,hz'⟩:=O9 (Q:=Cu B (.int i)) (c:=8) (zs:=[.int (i+1),.int (i - 1),.bl (i==1),.non,.str (toString i),.int (-1 - i),.int (10 ^ (30:Int).toNat),.int 0]) (λz h=>by
   simp only [aq,a9,or_false] at h
   rcases h with rfl | rfl | rfl | rfl | rfl | rfl | rfl | rfl
   ·exact int _ (by omega)
   ·exact int _ (by omega)
   ·exact⟨trivial,TW _,TW _⟩
   ·exact non
   ·exact⟨Rb i,by show (bo (toString i)).length<=_; omega,TW _⟩
   ·exact int _ (by omega)
   ·exact int _ (Nat.le_succ_of_le hB1)
   ·exact int 0 (TW _)) rfl r0 r1
  exact⟨z,e,p z _ hz' (by omega)⟩
 | tup xs =>
  have hl:=Ei xs
  have hz2:Dn xs<=100000:=hz
  have hj:Fx xs+1<=j:=hdp
  have tail:∀m,n - 2<=m->Sn (EE Pd) m [.fd,.sh (.tup xs),.no,.no]:=λm hm=>Sq (D2:={ EE Pd with nx:=_ }) hf hB1 hz2 (by omega) λy hy=>p y _ hy (by omega)
  refine⟨_,_,rfl,rfl,?_⟩
  show if decide (0<(xs.length:Int))=true then _ else _
  by_cases h0:0<xs.length
  ·rw [decide_eq_true (by omega)]
   refine BX ⟨5,rfl,by decide,by decide,by omega,λr r0 r1=>?_⟩
   show if decide (0<r)=true then _ else _
   refine Dq (λ_=>?_) λ_=>tail _ (by omega)
   refine⟨_,_,rfl,rfl,(xs.length:Int),rfl,by omega,by omega,by omega,λa a0 a1=>?_⟩
   obtain⟨a,rfl⟩:∃k:Nat,a=(k:Int):=⟨a.toNat,by omega⟩
   have ha:a<xs.length:=by omega
   refine⟨xs[a],AR (FM ha),?_⟩
   have hx:xs[a]∈xs:=cB ha
   have hsx:=U1 hx
   have hdx:=dps_le.mp (No (Fx xs)) _ hx
   refine hrec _ _ _ (by omega) ⟨xs[a],B,rfl,fines_iff.mp hf _ hx,hB1,hB2,by omega,by omega,by omega,λe n' ⟨f1,f2,f3⟩ f4=>?_⟩
   have hput:=W6 ha e
   have d1:=Ei (Dp.cutD xs none (some (a:Int)))
   have d2:=Ei (Dp.cutD xs (some ((a:Int)+1)) none)
   have c1:=HE xs none (some (a:Int))
   have c2:=HE xs (some ((a:Int)+1)) none
   have e1:(Dp.cutD xs none (some (a:Int))++[e]).length=_:=Sc
   have e2:[e].length=1:=rfl
   have hmem:∀y∈Dp.cutD xs none (some (a:Int))++[e]++Dp.cutD xs (some ((a:Int)+1)) none,y∈xs\/y=e:=λy hy=>by
    rcases bD.mp hy with hy | hy
    ·rcases bD.mp hy with hy | hy
     ·exact .inl (E1 hy)
     ·exact .inr (ay.mp hy)
    ·exact .inl (E1 hy)
   refine⟨z1,by omega,by omega,p (.tup _) _ ⟨?_,?_,?_⟩ (by omega)⟩
   ·exact fines_iff.mpr λy hy=>(hmem y hy).elim (λh=>(fines_iff.mp hf y h).mono (by omega)) λh=>by rw [h]; exact f1
   ·show Dn _<=2*Dn xs+300
    omega
   ·show Fx _+1<=Fx xs+1+1
    have:=dps_le (k:=Fx xs+1).mpr λy hy=>(hmem y hy).elim (λh=>Nat.le_succ_of_le (dps_le.mp (No (Fx xs)) y h)) λh=>by rw [h]; omega
    omega
  ·rw [decide_eq_false (by omega)]
   exact BJ (tail n (by omega))
end
theorem UR{i j:Int}(h0:1<=j)(h1:j<=1000000):CMul i j:=.inr (by constructor <;> omega)
end Nt
set_option maxHeartbeats 4000000
namespace L2
open PySem PySem.Spec PyProof.Rows
noncomputable def DRaw(h:Heap)(a:Addr)(es:Array DictEntry)(ep:Nat):Prop:=∃o,h.get? a=some o/\o.ExactDict/\o.data=.dict es ep
section
variable {P:Program}{w:World}{A:Around}{E:Value->Shared->Prop}{s:Shared}{d t:Addr}{es:Array DictEntry}{ep i:Nat}
theorem DRaw.ty(x:DRaw s.heap d es ep):s.TypeIs (.ref d) "dict":=let ⟨o,h1,h2,_⟩:=x; ⟨o,h1,h2.1⟩
theorem DRaw.lt{h:Heap}(x:DRaw h d es ep):d<h.objs.size:=let ⟨_,h1,_⟩:=x; ZB h1
theorem DRaw.to{h h':Heap}(x:DRaw h d es ep)(k:∀o,h.get? d=some o->h'.get? d=some o):DRaw h' d es ep:=let ⟨o,h1,h2⟩:=x; ⟨o,k o h1,h2⟩
theorem Su{Q:Value->Shared->Prop}(lo:(d==sysModules)=false)(x:DRaw s.heap d es ep)
  (q:Q (.ref s.heap.objs.size) { s with heap:=s.heap.push { cls:=.type "dict_keyiterator",data:=.fields #[.ref d,.int 0 0,.int es.size 0,.int ep 0] } }):wpAny (model P w) A (pyIter (.ref d)) Q E s:=by
 have T:=x.ty
 obtain⟨o,h1,h2,h3⟩:=x
 refine wpAny_pyIter_slot T F.slot_dict_iter (bp F.slot_dict_iter T F.entry_dict_iter ?_ (F.args_dict_iter_1 _))
 unfold Builtin.«dict.__iter__»; refine Ch ?_
 unfold Builtin.Dict.dictSlotNone; refine Ch (wpAny_notOrdered_dict T ?_)
 show wpAny (model P w) _ (pure (bT d)) _ _ s; refine Go ?_
 show wpAny (model P w) _ (gp d >>= _) _ _ s; unfold gp
 rw [if_neg (by rw [lo]; decide)]; refine Ch (Go (Ch (f9 h1 h3 (Ch (gW h1 h3 ?_)))))
 refine Ch (bO (Go ⟨_,rfl,"dict_keyiterator",_,⟨_,XV _ rfl,rfl⟩,cQ.lookup,?_⟩)); simpa [rawInt] using q
theorem Sv{Q:Option Value->Shared->Prop}(x:s.heap.IsKeyIter t d i es.size ep)(y:DRaw s.heap d es ep)(hi:i<es.size)
  (q:∀h',h'.IsKeyIter t d (i+1) es.size ep->cz t s.heap h'->Q (some es[i].key) { s with heap:=h' }):wpAny (model P w) A (pyNext (.ref t)) Q E s:=by
 have T:=x.typeIs
 obtain⟨o,g1,g2,g3⟩:=x
 obtain⟨od,h1,h2,h3⟩:=y
 unfold pyNext; refine Ch (d7 (bR (name:=bo "__next__") T cQ (bp cQ T fN ?_ (fK _))))
 refine Ch (Go (Ch (Ch ?_)))
 first | refine Ch (ck T (Go ?_)) | refine Ch (dH T (Go ?_))
 refine Ch (wpAny_fieldsOf g1 g3 ?_)
 have ow:fT "dict_keyiterator"=false:=by decide
 simp only [ow,bi,if_false]
 show wpAny (model P w) _ (if (bT d==bQ)=true then _ else _) _ _ s
 rw [if_neg (show ¬(bT d==bQ)=true by intro z; cases z)]; refine Ch (Go (Ch (f9 h1 h3 ?_)))
 rw [if_neg (by simp)]; refine Ch (Go (Ch (gW h1 h3 ?_)))
 rw [if_neg (by simp)]; refine Go ?_
 simp only [show ¬(i:Int)<0 by omega,if_false,bv,eB hi]; refine Ch ?_
 first | refine Ch (ck T (Go ?_)) | refine Ch (dH T (Go ?_))
 refine Ch (wpAny_isOneOf_keyiter T ?_); show wpAny (model P w) _ (setField (.ref t) 1 (rawInt ((i:Int)+1)) >>= _) _ _ s
 refine Ch (fR g1 g3 (by simp) ?_)
 have g':(s.heap.update t (Obj.mapFields (·.setIfInBounds 1 (rawInt ((i:Int)+1))))).IsKeyIter t d (i+1) es.size ep:=⟨_,e7 _ g1 (Obj.isFreed_of_fields (eF g3 _)),(Obj.cls_mapFields ..).trans g2,by rw [eF g3]; simp [rawInt]⟩
 refine Ch (b9 (Ch (wpAny_isOneOf_keyiter (s:={ s with heap:=s.heap.update t (Obj.mapFields (·.setIfInBounds 1 (rawInt ((i:Int)+1)))) }) g'.typeIs ?_)))
 show wpAny (model P w) _ (pure es[i].key) _ _ _; exact Go (Go ⟨_,rfl,Go (q _ g' (d9 ..))⟩)
theorem U_{Q:Option Value->Shared->Prop}(hh:A.handled=none)(x:s.heap.IsKeyIter t d i es.size ep)(y:DRaw s.heap d es ep)(hi:es.size<=i)
  (q:∀h',ge t s.heap h'->Q none { s with heap:=h' }):wpAny (model P w) A (pyNext (.ref t)) Q E s:=by
 have T:=x.typeIs
 obtain⟨o,g1,g2,g3⟩:=x
 obtain⟨od,h1,h2,h3⟩:=y
 unfold pyNext; refine Ch (d7 (bR (name:=bo "__next__") T cQ (bp cQ T fN ?_ (fK _))))
 refine Ch (Go (Ch (Ch ?_)))
 first | refine Ch (ck T (Go ?_)) | refine Ch (dH T (Go ?_))
 refine Ch (wpAny_fieldsOf g1 g3 ?_)
 have ow:fT "dict_keyiterator"=false:=by decide
 simp only [ow,bi,if_false]
 show wpAny (model P w) _ (if (bT d==bQ)=true then _ else _) _ _ s
 rw [if_neg (show ¬(bT d==bQ)=true by intro z; cases z)]; refine Ch (Go (Ch (f9 h1 h3 ?_)))
 rw [if_neg (by simp)]; refine Ch (Go (Ch (gW h1 h3 ?_)))
 rw [if_neg (by simp)]; refine Go ?_
 simp only [show ¬(i:Int)<0 by omega,if_false,bv,gh hi]; refine Ch ?_
 first | refine Ch (ck T (Go ?_)) | refine Ch (dH T (Go ?_))
 show wpAny (model P w) _ (setField (.ref t) 0 .none >>= _) _ _ s; refine Ch (fR g1 g3 (by simp) ?_)
 show wpAny (model P w) _ (newExc (.type "StopIteration") [] >>= _) _ _ _; refine Ch ?_
 simp only [newExc,newTuple]; refine Ch (bO ?_ (by size_fits))
 refine Ch (m:=firstArgMember _ _) (wpAny_of_eq (a:=bQ) (by first | rfl | (simp only [firstArgMember]; rfl)) (bO ?_ (by size_fits)))
 simp only [raiseNew]; refine Ch (wpAny_handled ?_)
 rw [show A.in1.handled=none from hh]; refine Ch (Go (wpAny_throw ?_)); refine Ch (gG (T := "StopIteration") (b:=true) ⟨_,XV _ rfl,rfl⟩ isSubtype_stop ?_)
 exact Go (q _ (((d9 ..).extBut.push _).push _))
theorem Q9(hh:A.handled=none)(I d:Addr)(hne:d≠I)(es:Array DictEntry)(ep:Nat):Walks P w A I [I,d] [I] es.size (λi v=>∃e,es[i]?=some e/\v=e.key) (λi h=>h.IsKeyIter I d i es.size ep/\DRaw h d es ep) where
 sub:=λb hb=>by rw [ay.mp hb]; exact On
 frame:=λ_ _ _ st hk=>⟨st.1.at λo e=>hk I (by simp) o e,st.2.to λo e=>hk d (by simp) o e⟩
 item:=λi s Q E hi st hQ=>Sv st.1 st.2 hi λh' it' sb=>hQ _ h' s.toks ⟨_,eB hi,rfl⟩ ⟨it',st.2.to λo e=>sb.extBut d o hne e⟩ λb o hb e=>sb.extBut b o (λh=>hb (by simp [h])) e
 done:=λs Q E st hQ=>U_ hh st.1 st.2 (No _) λh' he=>hQ h' s.toks λb o hb e=>he b o (λh=>hb (by simp [h])) e
 self:=λ_ _ _ _ st hQ=>wpAny_pyIter_keyiter st.1 hQ
theorem U9(lo:(d==sysModules)=false):PySem.W.KdlSrc P w "dict" d d es.size (λi v=>∃e,es[i]?=some e/\v=e.key) (λh=>DRaw h d es ep) where
 type:=λ_ x=>x.ty
 there:=λ_ x=>⟨x.lt,x.lt⟩
 keep:=λ_ _ x k=>x.to λo e=>k d (.inl rfl) o e
 notList:=by decide
 notTuple:=by decide
 hint:=λ_ _ _ _ x q=>PySem.W.kdl_hint_dict x.ty q
 iter:=λ_ _ hh x=>⟨_,_,(λ_ _ q=>Su lo x q),Q9 hh _ d (bG x.lt) es ep,⟨⟨_,XV _ rfl,rfl,rfl⟩,x.to λo e=>Ev _ e⟩⟩
end
end L2
namespace L2
open PySem PySem.Spec PyProof.Rows PySem.W
theorem QJ(k:Key):kOf k=kV k:=by cases k <;> rfl
theorem VY(ks:List Key):ks.map kOf=ks.map kV:=bX λk _=>QJ k
section
variable {X:Cx}
theorem Vp{P:Program}{w:World}{H:Hp}{h:Heap}{d:Addr}{kvs:List (List Key×V)}(ok:HOk P w H h)(hd:Rd H d (.dT kvs)) :
  ∃(o:Obj) (es:Array DictEntry) (ep:Nat) (as:List Addr),h.get? d=some o/\o.ExactDict/\o.data=.dict es ep/\as.length=kvs.length/\es.size=kvs.length /\
   (∀(i:Nat) (e:DictEntry),es[i]?=some e->∃a,as[i]?=some a/\e.key=.ref a)/\∀(i:Nat) (a:Addr) (p:List Key×V),as[i]?=some a->kvs[i]?=some p->H a=some (.tup (p.1.map kV)):=by
 obtain⟨_,_,xs,r,o,es,ep,h1,h2,h3,h4,h5,h6⟩:=OE ok hd
 have hl:kvs.length=xs.length:=by
  have:∀{l:List (List Key×V)} {m:List (List Key×Addr×Value)},KT H l m->l.length=m.length:=λq=>q.length
  exact this r
 have hes:es.size=xs.length:=by rw [← bW,h4,Db]
 refine⟨o,es,ep,xs.map λx=>x.2.1,h1,h2,h3,by rw [Db,hl],by rw [hes,hl],λi e he=>?_,λi a p ha hp=>?_⟩
 ·rw [← e8,h4,Op] at he
  obtain⟨x,hx,rfl⟩:=a_.mp he
  exact⟨x.2.1,by rw [Op,hx]; rfl,rfl⟩
 ·rw [Op] at ha
  obtain⟨x,hx,rfl⟩:=a_.mp ha
  have:=Ni r hp hx
  exact this.2.1
noncomputable def Sw:List V->Hp->VK->Prop:=λxs H Q=>∃(d:Addr) (kvs:List (List Key×V)),xs=[.ref d]/\Rd H d (.dT kvs)/\kvs.length<64/\(∀x∈kvs.map (·.1),∀y∈kvs.map (·.1),B3 x y=true)/\(∀x∈kvs.map (·.1),x≠[]) /\
 ∀(as:List Addr) (ix:List Nat) (l:Addr),as.length=kvs.length->(∀(i:Nat) (a:Addr) (p:List Key×V),as[i]?=some a->kvs[i]?=some p->H a=some (.tup (p.1.map kV)))->Lv (kvs.map (·.1)) ix->H l=none ->
  Q (.ref l) (BN H l (.lst (ix.map λi=>(as.map V.ref).getD i .non)))
theorem Pa(hc:X.calm=true):CV X (.builtin "sorted") Sw:=by
 intro pins s σ H xs us Q I r h
 obtain⟨d,kvs,rfl,hd,h64,hsm,hne,q⟩:=h
 obtain⟨u,rfl,rx⟩:=vals1 r
 cases rx
 obtain⟨o,es,ep,as,g1,g2,g3,g4,g5,g6,g7⟩:=Vp I.hok hd
 have lo:=(OE I.hok hd).2.1
 refine HG (kw:=[]) (args_sorted1 _) (λx=>args_list_sort _) (PySem.W.kdu_collect (U9 (P:=X.prog) (w:=X.w) (es:=es) (ep:=ep) lo) (show X.A.in1.handled=none from by simp [I.ok.hd hc]) ⟨o,g1,g2,g3⟩ (by rw [bu]; omega) λh' tk acc hkp hacc=>⟨by rw [bW,hacc.1,bu]; omega,?_⟩)
 have I1:Inv X pins σ H { s with heap:=h',toks:=tk }:=I.kept (t':=tk) hkp
 have hv:acc.toList=as.map bT:=by
  refine List.ext_getElem? λi=>?_
  cases hx:acc.toList[i]? with
  | some v =>
   obtain⟨e,he,rfl⟩:=hacc.2 i v (by rw [← e8]; exact hx)
   obtain⟨a,ha,hk⟩:=g6 i e he
   rw [Op,ha,hk]; rfl
  | none =>
   have:acc.toList.length<=i:=List.getElem?_eq_none_iff.mp hx
   rw [bW,hacc.1] at this
   rw [e9 (by rw [Db]; omega)]
 rw [hv]
 refine LM I1 (LH as) (by rw [Db]; omega) (keys:=kvs.map (·.1)) ⟨by rw [Db,Db]; exact g4,λi ns e=>?_,hsm,hne⟩ λix l ho hl=>q as ix l g4 g7 ho hl
 rw [Op] at e
 obtain⟨p,hp,rfl⟩:=a_.mp e
 have hil:i<as.length:=by rw [g4]; exact(au.mp hp).1
 refine⟨as[i],by rw [Op,FM hil]; rfl,?_⟩
 rw [VY]
 exact SqT.of (g7 i _ p (FM hil) hp)
end
end L2
namespace Dp
open PySem PySem.Spec PyProof.Rows L2
noncomputable def tupK(k:List Key):D:=.tup (k.map Z4)
theorem Nz{K:Frag}{M:Addr->Prop}{H:Hp}:∀{k:List Key},(∀x∈k,He x)->Ats K M H (k.map Z4) (k.map kV)
 | [],_=>rfl
 | x::k,h=>⟨kV x,k.map kV,rfl,by rw [← QJ]; exact Xs (h x On),Nz λy hy=>h y (TM _ hy)⟩
theorem NM{K:Frag}{M:Addr->Prop}{H:Hp}:∀{ks:List (List Key)} {as:List Addr},as.length=ks.length->(∀k∈ks,∀x∈k,He x)->(∀(i:Nat) (a:Addr) (k:List Key),as[i]?=some a->ks[i]?=some k->H a=some (.tup (k.map kV)))->Ats K M H (ks.map tupK) (as.map V.ref)
 | [],[],_,_,_=>rfl
 | k::ks,a::as,hl,hf,h=>⟨.ref a,as.map V.ref,rfl,⟨a,k.map kV,rfl,h 0 a k rfl rfl,Nz (hf k On)⟩,NM (by simpa using hl) (λk hk=>hf k (TM _ hk)) λi a' k' e1 e2=>h (i+1) a' k' (by simpa using e1) (by simpa using e2)⟩
section
variable {X:Cx}
noncomputable def Tv(ds:List D)(P:D->Prop):Prop:=∃(ks:List (List Key)) (es:List D),ds=[.dit ks es]/\ks.length=es.length/\ks.length<64/\(∀x∈ks,∀y∈ks,B3 x y=true)/\(∀x∈ks,x≠[])/\(∀k∈ks,∀x∈k,He x) /\
 ∀ks':List (List Key),ks'.Perm ks->ks'.Pairwise (λa b=>Cv b a=false)->P (.lst (ks'.map tupK))
theorem TJ{ks:List (List Key)}{ix:List Nat}(h:Lv ks ix):(ix.map λi=>ks.getD i []).Perm ks/\(ix.map λi=>ks.getD i []).Pairwise (λa b=>Cv b a=false):=by
 obtain⟨h1,h2⟩:=h
 have il:ix.length=ks.length:=by rw [h1.length_eq,bz]
 constructor
 ·have:=h1.map λi=>ks.getD i []
  have e:(bB ks.length).map (λi=>ks.getD i [])=ks:=by
   apply List.ext_getElem
   ·simp
   ·intro i h1 h2
    simp [h2]
  rw [e] at this
  exact this
 ·rw [dC]
  intro i j hi hj hij
  rw [Db] at hi hj
  have:=h2 i j (eC hij) (by omega)
  rw [gI,gI]
  rw [ax (l:=ix),FM hj,ax (l:=ix),FM hi] at this
  exact this
theorem V3:C6 X.K .fr Sw Tv:=by
 intro U M H ds vs P Q dom vM hp w q
 obtain⟨ks,es,rfl,hl,h64,hsm,hne,hf,w⟩:=w
 obtain⟨v,rfl,hx⟩:=DV hp
 obtain⟨a,us,rfl,ha,hs⟩:=UJ hx
 have hul:=hs.length
 have ez:(ks.zip us).map (·.1)=ks:=List.map_fst_zip (by omega)
 have ezl:(ks.zip us).length=ks.length:=by rw [dU]; omega
 refine⟨a,_,rfl,ha,by omega,by rw [ez]; exact hsm,by rw [ez]; exact hne,λas ix l has hat ho hlf=>?_⟩
 rw [ez] at ho
 obtain⟨o1,o2⟩:=TJ ho
 have hA:Ats X.K M H (ks.map tupK) (as.map V.ref):=NM (by omega) hf λi b k e1 e2=>by
  have hi:i<(ks.zip us).length:=by rw [ezl]; exact(au.mp e2).1
  have:=hat i b _ e1 (FM hi)
  rw [List.getElem_zip] at this
  obtain⟨_,e3⟩:=au.mp e2
  rw [e3] at this
  exact this
 have e4:(ix.map λi=>(ks.map tupK).getD i .non)=(ix.map λi=>ks.getD i []).map tupK:=by
  rw [bS]
  refine bX λi hi=>?_
  have hil:i<ks.length:=bU.mp (ho.1.mem_iff.mp hi)
  show (ks.map tupK).getD i .non=tupK (ks.getD i [])
  rw [ax,ax,Op,FM hil]
  rfl
 have:=w _ o1 o2
 rw [← e4] at this
 exact q _ _ (.lst _) (BD hlf) (Co hlf (hA.pick ix)) this
end
section
variable {X:Cx}{κ κe:Kd}{tg e:Expr}{b:BW}{we:DW}{pos p apos cpos:Pos}{x:Str}{i:Nat}
end
section
variable {X:Cx}{κ κe:Kd}{e:Expr}{we:DW}{pos p apos cpos p2 apos2 cpos2:Pos}{x y:Str}{i j:Nat}
end
end Dp
namespace Nt
open PySem PySem.Spec PyProof.Rows L2 Dp
section
variable {ss:List Slot}{n:Nat}{Pd:D->Nat->Prop}
end
section
variable {ss:List Slot}{n:Nat}{Pd:D->Nat->Prop}
end
end Nt
namespace L2
open PySem PySem.Spec PyProof.Rows
section
variable {prog:Program}{w:World}{A:Around}{E:Value->Shared->Prop}{s:Shared}{x y:Str}{t u:Tok}
end
section
variable {X:Cx}
end
end L2
namespace Dp
open PySem PySem.Spec PyProof.Rows L2
section
variable {K:Frag}
end
end Dp
namespace L2
open PySem PySem.Spec PyProof.Rows PySem.W
section
variable {X:Cx}
end
end L2
namespace Dp
open PySem PySem.Spec PyProof.Rows L2
end Dp
namespace L2
open PySem PySem.Spec PyProof.Rows PySem.W
section
variable {X:Cx}
end
end L2
namespace Dp
open PySem PySem.Spec PyProof.Rows L2
section
variable {K:Frag}
end
end Dp
namespace Nt
open PySem PySem.Spec PyProof.Rows L2 Dp
noncomputable def words26:List Str:=["a","aa","ab","abc","b","ba","bb","c","come","d","far","in","lay","m","n","near","out","place","q","r","tie","tree","x","xy","y","zzzzzzzz"]
noncomputable def Jh:W2:=λss n P=>ss=[]/\P (.lst (words26.map .str)) n
noncomputable def GI:W2:=λss n P=>∃m:Nat,ss=[.fd,.sh (.int m)]/\m<=26/\2<=n/\∀xs:List Str,xs.length=m->(∀x∈xs,Ur x)->rising xs->P (.tup (xs.map .str)) (n - 2)
noncomputable def Qj:W2:=λss n P=>∃s:Int,ss=[.fd,.sh (.int s)]/\0<=s/\s<=3/\1<=n/\∀r:Int,1<=r->r<=1000000->P (.int r) (n - 1)
noncomputable def M9:W2:=λss n P=>∃(xs:List Str) (most:Nat),ss=[.fd,.sh (.tup (xs.map .str)),.sh (.int most)]/\(∀x∈xs,Ur x)/\rising xs/\xs.length<=26/\most<=60/\200<=n/\∀(ts:List A0) (n':Nat),(⟨xs,ts⟩:Net).Ok->ts.length<=most->n - 200<=n'->P (.tup (ts.map Ag)) n'
noncomputable def Qi:W2:=λss n P=>∃most ties:Nat,ss=[.fd,.sh (.int most),.sh (.int ties)]/\most<=25/\ties<=60/\210<=n/\∀(N:Net) (n':Nat),N.Ok->N.ps.length<=most->N.ts.length<=ties->n - 210<=n'->P (C3 N) n'
noncomputable def Gj:Aj:=(Ap (A5 0 (BM (AE (wC (D.str "a")) (AE (wC (D.str "aa")) (AE (wC (D.str "ab")) (AE (wC (D.str "abc")) (AE (wC (D.str "b")) (AE (wC (D.str "ba")) (AE (wC (D.str "bb")) (AE (wC (D.str "c")) (AE (wC (D.str "come")) (AE (wC (D.str "d")) (AE (wC (D.str "far")) (AE (wC (D.str "in")) (AE (wC (D.str "lay")) (AE (wC (D.str "m")) (AE (wC (D.str "n")) (AE (wC (D.str "near")) (AE (wC (D.str "out")) AW)))))))))))))))))))
 (A2 (Am A4 (AG 0) (BM (AE (wC (D.str "place")) (AE (wC (D.str "q")) (AE (wC (D.str "r")) (AE (wC (D.str "tie")) (AE (wC (D.str "tree")) (AE (wC (D.str "x")) (AE (wC (D.str "xy")) (AE (wC (D.str "y")) (AE (wC (D.str "zzzzzzzz")) AW)))))))))))))
noncomputable def F5:Aj:=(Ap (A5 2 (Ad Jh Af))
 (Ap (A5 3 (Ad Bj (AD (Ay 0) (AD (AN (wC (D.int 26))) Af))))
 (Ap (A5 4 (Am BQ (BM (AE (wC (D.int 1)) (AE (wC (D.int 3)) (AE (wC (D.int 5)) (AE (wC (D.int 7)) AW))))) (Ad Bj (AD (Ay 0) (AD (AN (wC (D.int 4))) Af)))))
 (A2 (Cj DA (AE (Cj Tx (AE (B6 [some 2,some 3,some 4,none] (IZ (AE (AG 1) AW)) (A1 3) FK (Am BQ (AG 0) (Am (Rj (λ_ j=>0<j) λi j=>D.int (i % j)) (Am A4 (AG 1) (Am Dt (AG 2) (AG 3))) (wC (D.int 26))))) AW)) AW))))))
noncomputable def F7:Aj:=(Ap (Bl (As (Am (Ku false) (AG 1) (wC (D.int 3)))) (A2 (Am CP (Am (Rj LD λi j=>D.int (i ^ j.toNat)) (wC (D.int 10)) (wC (D.int 6))) (Ad Bj (AD (Ay 0) (AD (AN (wC (D.int 3))) Af))))) BA)
 (A2 (Am A4 (wC (D.int 1)) (Ad Bj (AD (Ay 0) (AD (AN (Am BQ (BM (AE (wC (D.int 3)) (AE (wC (D.int 9)) (AE (wC (D.int 60)) AW)))) (AG 1))) Af))))))
noncomputable def Hs:Aj:=(Ap (Jo 3 SF)
 (Ap (A5 4 (Ad Bj (AD (Ay 0) (AD (AN (wC (D.int 5))) Af))))
 (Ap (Gr (IZ (AE (Ad Bj (AD (Ay 0) (AD (AN (Am A4 (AG 2) (wC (D.int 1)))) Af))) AW)) (A1 5) (Bl (As (Am (f2 λi j=>D.bl (decide (j<i))) (Cj DB (AE (AG 1) AW)) (wC (D.int 1)))) (Ap (A5 6 (Ad Bj (AD (Ay 0) (AD (AN (Cj DB (AE (AG 1) AW))) Af))))
 (Ap (A5 7 (Am (Rj (λ_ j=>0<j) λi j=>D.int (i % j)) (Am A4 (Am A4 (AG 6) (wC (D.int 1))) (Ad Bj (AD (Ay 0) (AD (AN (Am CP (Cj DB (AE (AG 1) AW)) (wC (D.int 1)))) Af)))) (Cj DB (AE (AG 1) AW))))
 (V8 3 (BH (AE (Am BQ (AG 1) (Cj OA (AE (AG 6) (AE (AG 7) AW)))) (AE (Am BQ (AG 1) (Cj QP (AE (AG 6) (AE (AG 7) AW)))) AW))) (Ad Qj (AD (Ay 0) (AD (AN (Am BQ (BM (AE (AG 4) (AE (Am (Rj (λ_ j=>0<j) λi j=>D.int (i % j)) (AG 5) (wC (D.int 4))) AW))) (Am (Rj Rz λi j=>D.int (i / j)) (AG 4) (wC (D.int 4))))) Af)))))) BA))
 (A2 (Cj DA (AE (B6 [some 3,none] (BZ (Cj Tv (AE (IY 3) AW))) (A1 1) FK (Am A4 (AG 1) (BH (AE (Am Tt (IY 0) (AG 1)) AW)))) AW))))))
noncomputable def Ir:Aj:=(Ap (A5 3 (Ad GI (AD (Ay 0) (AD (AN (Ad Bj (AD (Ay 0) (AD (AN (Am A4 (AG 1) (wC (D.int 1)))) Af)))) Af))))
 (A2 (BH (AE (AG 3) (AE (Ad M9 (AD (Ay 0) (AD (AN (AG 3)) (AD (AN (AG 2)) Af)))) AW)))))
noncomputable def DP(i:Nat):Str:=words26.getD i "a"
theorem Ob:∀i,i<26->Ur (DP i):=by
 have h:∀i∈bB 26,1<=(DP i).length/\(DP i).length<=8/\∀c∈cs (DP i),97<=c/\c<=122:=by decide +kernel
 exact λi hi=>h i (bU.mpr hi)
theorem Qo:∀i j,i<26->j<26->DP i=DP j->i=j:=by
 have h:∀i∈bB 26,∀j∈bB 26,cs (DP i)=cs (DP j)->i=j:=by decide +kernel
 exact λi j hi hj e=>h i (bU.mpr hi) j (bU.mpr hj) (congrArg cs e)
theorem R9(i:Nat)(h:i<26):(words26.map D.str)[i]?=some (.str (DP i)):=by
 have hl:i<words26.length:=h
 unfold DP
 rw [Op,ax,FM hl]
 rfl
section
variable {ss:List Slot}{n:Nat}{Pd:D->Nat->Prop}
theorem K0(h:Jh ss n Pd):Gj (EE Pd) n (ss++Re 1 .no):=by
 obtain⟨rfl,p⟩:=h
 unfold Gj
 exact⟨(by decide:17<=sizeLine),(by decide:9<=sizeLine),(by decide:26<=sizeLine),p⟩
noncomputable def O7(f s:Nat):D->D
 | .int k=>.str (DP ((f+s*k.toNat) % 26))
 | _=>.non
theorem Nf(f s k:Nat):O7 f s (.int (0+(k:Int)))=.str (DP ((f+s*k) % 26)):=by
 show D.str (DP ((f+s*(0+(k:Int)).toNat) % 26))=_
 rw [show (0+(k:Int)).toNat=k by omega]
theorem Jy(h:GI ss n Pd):F5 (EE Pd) n (ss++Re 3 .no):=by
 obtain⟨m,rfl,hm,hn,p⟩:=h
 unfold F5
 refine⟨rfl,26,rfl,by decide,by decide,by omega,λfirst f0 f1=>?_⟩
 obtain⟨f,rfl⟩:∃f:Nat,first=(f:Int):=⟨first.toNat,by omega⟩
 refine⟨(by decide:4<=sizeLine),4,rfl,by decide,by decide,by omega,λw w0 w1=>?_⟩
 obtain⟨s,hs,es⟩:∃s:Nat,(s=1\/s=3\/s=5\/s=7)/\atI [D.int 1,D.int 3,D.int 5,D.int 7] w=some (.int (s:Int)):=by
  rcases (show w=0\/w=1\/w=2\/w=3 by omega) with rfl | rfl | rfl | rfl
  ·exact⟨1,.inl rfl,rfl⟩
  ·exact⟨3,.inr (.inl rfl),rfl⟩
  ·exact⟨5,.inr (.inr (.inl rfl)),rfl⟩
  ·exact⟨7,.inr (.inr (.inr rfl)),rfl⟩
 refine⟨_,es,(m:Int),rfl,⟨by omega,by omega⟩,by rw [B7]; omega,?_⟩
 refine Bc (O7 f s) (λρ=>∃s',ρ=[.sh (.lst (words26.map .str)),.sh (.int f),.sh (.int s),s']) _ _ _ _ ?_ ⟨_,rfl⟩ ?_
 ·rintro d hd ρ n' nx ⟨s',rfl⟩ hnx
  obtain⟨k,hk,rfl⟩:=EN hd
  have hlt:(f+s*k) % 26<26:=gv _ (by decide)
  have hsk:(s:Int)*(0+(k:Int))=((s*k:Nat):Int):=by rw [cW]; exact(Int.natCast_mul s k).symm
  refine⟨Z5 (by omega) (by omega),by show (0:Int)<26; decide,.str (DP ((f+s*k) % 26)),?_,?_⟩
  ·rw [hsk,show ((f:Int)+((s*k:Nat):Int)) % 26=(((f+s*k) % 26:Nat):Int) by omega]
   exact AR (R9 _ hlt)
  ·have:=hnx [.sh (.lst (words26.map .str)),.sh (.int f),.sh (.int s),.sh (.int (0+(k:Int)))] ⟨_,rfl⟩
   rw [Nf] at this
   exact this
 ·have e:[]++(By 0 ((m:Int)).toNat).map (O7 f s)=((bB m).map λk:Nat=>DP ((f+s*k) % 26)).map .str:=by
   unfold By
   rw [bE,bS,bS,bv]
   refine bX λk _=>?_
   exact Nf f s k
  rw [e]
  refine⟨_,_,rfl,UV _,by rw [Db,bz]; omega,λss' hp hs'=>p ss' ?_ ?_ ?_⟩
  ·rw [hp.length_eq,Db,bz]
  ·intro y hy
   obtain⟨k,_,rfl⟩:=UF.mp (hp.mem_iff.mp hy)
   exact Ob _ (gv _ (by decide))
  ·refine Kw hs' (hp.nodup_iff.mpr (LU List.nodup_range λj hj k hk e=>?_))
   have e:=Qo _ _ (gv _ (by decide)) (gv _ (by decide)) e
   have hj:=bU.mp hj
   have hk:=bU.mp hk
   rcases hs with rfl | rfl | rfl | rfl <;> omega
theorem Jz(h:Qj ss n Pd):F7 (EE Pd) n (ss++Re 0 .no):=by
 obtain⟨s,rfl,s0,s3,hn,p⟩:=h
 unfold F7
 show if (s==3)=true then _ else _
 refine Dq (λc=>?_) λc=>?_
 ·refine⟨aU,_,rfl,by decide,by decide,hn,λr r0 r1=>?_⟩
  have e6:(10:Int) ^ (6:Int).toNat=1000000:=by decide
  show Pd (.int (10 ^ (6:Int).toNat - r)) (n - 1)
  rw [e6]
  exact p _ (by omega) (by omega)
 ·have c:s≠3:=by simpa using c
  obtain⟨k,hk,ek⟩:∃k:Int,(1<=k/\k<=60)/\atI [D.int 3,D.int 9,D.int 60] s=some (.int k):=by
   rcases (show s=0\/s=1\/s=2 by omega) with rfl | rfl | rfl
   ·exact⟨3,by decide,rfl⟩
   ·exact⟨9,by decide,rfl⟩
   ·exact⟨60,by decide,rfl⟩
  refine⟨(by decide:3<=sizeLine),_,ek,k,rfl,by omega,by omega,hn,λr r0 r1=>?_⟩
  exact p _ (by omega) (by omega)
theorem NX(h:Qi ss n Pd):Ir (EE Pd) n (ss++Re 1 .no):=by
 obtain⟨most,ties,rfl,hm,ht,hn,p⟩:=h
 unfold Ir
 refine⟨_,rfl,by omega,by omega,by omega,λr r0 r1=>?_⟩
 refine⟨r.toNat,by rw [show ((r.toNat:Nat):Int)=r by omega],by omega,by omega,λxs xl hx hr=>?_⟩
 refine⟨xs,ties,rfl,hx,hr,by omega,ht,by omega,λts n' ok hl hn'=>⟨z2,?_⟩⟩
 exact p ⟨xs,ts⟩ n' ok (by show xs.length<=most; omega) hl (by omega)
theorem Qb(x y:Str):cs x<cs y\/x=y\/cs y<cs x:=by
 by_cases h1:cs x<cs y
 ·exact .inl h1
 ·by_cases h2:cs y<cs x
  ·exact .inr (.inr h2)
  ·refine .inr (.inl ?_)
   have:=LV (.inr x) (.inr y) (decide_eq_false h1) (decide_eq_false h2)
   exact cJ this
theorem S4{ks:List (List Key)}{k x:List Key}(h:x∈CN ks k):x∈ks\/x=k:=by
 unfold CN at h
 split at h
 ·exact .inl h
 ·exact(bD.mp h).imp id ay.mp
theorem VB{ks:List (List Key)}{k:List Key}(nd:ks.Nodup):(CN ks k).Nodup:=by
 unfold CN
 split
 ·exact nd
 ·rename_i h
  rw [c_]
  refine⟨nd,by simp,λx hx y hy e=>h (hasK_iffU.mpr ?_)⟩
  rw [ay] at hy
  subst hy; subst e; exact hx
theorem VC{ks:List (List Key)}{k:List Key}:(CN ks k).length<=ks.length+1:=by
 unfold CN
 split
 ·omega
 ·rw [Sc,aw]; omega
theorem Nc{k:List Key}{d x:D}:∀{ks:List (List Key)} {ds:List D},x∈fJ (λk0 d0=>if k0=k then d else d0) ks ds->x=d\/x∈ds
 | [],_,h=>by cases h
 | _::_,[],h=>by cases h
 | k0::ks,d0::ds,h=>by
  rw [List.zipWith_cons_cons] at h
  rcases aq.mp h with h | h
  ·by_cases e:k0=k
   ·rw [if_pos e] at h; exact .inl h
   ·rw [if_neg e] at h; exact .inr (by rw [h]; exact On)
  ·exact(Nc h).imp id (TM _)
theorem RA{ks:List (List Key)}{ds:List D}{k:List Key}{d x:D}(h:x∈CM ks ds k d):x=d\/x∈ds:=by
 unfold CM at h
 split at h
 ·exact Nc h
 ·rcases bD.mp h with h | h
  ·exact .inr h
  ·exact .inl (ay.mp h)
theorem NJ{k:List Key}{z:D}:∀{ks:List (List Key)} {ds:List D},FS ks ds k=some z->z∈ds
 | [],_,h=>by cases h
 | _::_,[],h=>by cases h
 | k0::ks,d0::ds,h=>by
  unfold FS at h
  split at h
  ·cases h; exact On
  ·exact TM _ (NJ h)
structure Tds (xs:List Str) (ks:List (List Key)) (ds:List D):Prop where
 len:ks.length=ds.length
 nd:ks.Nodup
 key:∀k∈ks,∃a b:Str,k=[.inr a,.inr b]/\a∈xs/\b∈xs/\cs a<cs b
 val:∀d∈ds,∃l:Int,d=.int l/\1<=l/\l<=1000000
theorem Tds.put{xs:List Str}{ks:List (List Key)}{ds:List D}(T:Tds xs ks ds){a b:Str}{l:Int}(ha:a∈xs)(hb:b∈xs)(lt:cs a<cs b)(l1:1<=l)(l2:l<=1000000):Tds xs (CN ks [.inr a,.inr b]) (CM ks ds [.inr a,.inr b] (.int l)):=by
 refine⟨Nb T.len,VB T.nd,λk hk=>?_,λd hd=>?_⟩
 ·rcases S4 hk with hk | rfl
  ·exact T.key k hk
  ·exact⟨a,b,rfl,ha,hb,lt⟩
 ·rcases RA hd with rfl | hd
  ·exact⟨l,rfl,l1,l2⟩
  ·exact T.val d hd
noncomputable def LF(ks:List (List Key))(ds:List D):D->D
 | .tup [.str a,.str b]=>.tup [.str a,.str b,(FS ks ds [.inr a,.inr b]).getD .non]
 | d=>d
theorem ND(ks:List (List Key))(ds:List D)(a b:Str):LF ks ds (.tup [.str a,.str b])=.tup [.str a,.str b,(FS ks ds [.inr a,.inr b]).getD .non]:=rfl
theorem Tds.ties{xs:List Str}{ks:List (List Key)}{ds:List D}(T:Tds xs ks ds):∀{ks':List (List Key)},(∀k∈ks',k∈ks)->ks'.Nodup->ks'.Pairwise (λa b=>Cv b a=false) ->
  ∃ts:List A0,(ks'.map tupK).map (LF ks ds)=ts.map Ag/\ts.map (λt=>([.inr t.a,.inr t.b]:List Key))=ks'/\(∀t∈ts,t.a∈xs/\t.b∈xs/\cs t.a<cs t.b/\1<=t.len/\t.len<=1000000)/\ts.Pairwise Fv
 | [],_,_,_=>⟨[],rfl,rfl,(λt h=>by cases h),dZ⟩
 | k::ks',hin,nd,pw=>by
  rw [bZ] at nd
  rw [bj] at pw
  obtain⟨ts,e1,e2,h1,h2⟩:=T.ties (ks':=ks') (λk hk=>hin k (TM _ hk)) nd.2 pw.2
  obtain⟨a,b,rfl,ha,hb,lt⟩:=T.key k (hin k On)
  obtain⟨z,hz⟩:=Gs T.len (hin _ On)
  obtain⟨l,rfl,l1,l2⟩:=T.val z (NJ hz)
  refine⟨⟨a,b,l⟩::ts,?_,?_,λt ht=>?_,bj.mpr ⟨λt ht=>?_,h2⟩⟩
  ·rw [av,av,av,e1]
   show LF ks ds (.tup [.str a,.str b])::_=_
   rw [ND,hz]; rfl
  ·rw [av,e2]
  ·rcases aq.mp ht with rfl | ht
   ·exact⟨ha,hb,lt,l1,l2⟩
   ·exact h1 t ht
  ·have hm:([.inr t.a,.inr t.b]:List Key)∈ks':=by rw [← e2]; exact UF.mpr ⟨t,ht,rfl⟩
   have h3:=pw.1 _ hm
   have hne:([.inr a,.inr b]:List Key)≠[.inr t.a,.inr t.b]:=λz=>nd.1 (by rw [z]; exact hm)
   have h3:(if (bJ t.a:Key)=.inr a then (if (bJ t.b:Key)=.inr b then false else decide (t.b.cps.toList<b.cps.toList)) else decide (t.a.cps.toList<a.cps.toList))=false:=h3
   show cs a<cs t.a\/(a=t.a/\cs b<cs t.b)
   by_cases q1:t.a=a
   ·rw [if_pos (by rw [q1])] at h3
    by_cases q2:t.b=b
    ·exact absurd (by rw [q1,q2]) hne
    ·rw [if_neg (λz=>q2 (cJ z))] at h3
     refine .inr ⟨q1.symm,?_⟩
     rcases Qb b t.b with l | l | l
     ·exact l
     ·exact absurd l.symm q2
     ·exact absurd l (of_decide_eq_false h3)
   ·rw [if_neg (λz=>q1 (cJ z))] at h3
    left
    rcases Qb a t.a with l | l | l
    ·exact l
    ·exact absurd l.symm q1
    ·exact absurd l (of_decide_eq_false h3)
theorem MG(h:M9 ss n Pd):Hs (EE Pd) n (ss++Re 5 .no):=by
 obtain⟨xs,most,rfl,hx,hr,h26,hm,hn,p⟩:=h
 have szl:=PySem.sizeLine_eq
 unfold Hs
 refine⟨5,rfl,by decide,by decide,by omega,λsort s0 s1=>?_⟩
 refine⟨_,rfl,by omega,by omega,by omega,λmany m0 m1=>⟨many,rfl,⟨by omega,by omega⟩,?_⟩⟩
 refine B0 (all:=By 0 many.toNat) (λpre m ρ=>n - 2 - 3*pre.length<=m/\∃(ks:List (List Key)) (ds:List D) (s5 s6 s7:Slot),ρ=[.fd,.sh (.tup (xs.map .str)),.sh (.int most),.ow (.dit ks ds),.sh (.int sort),s5,s6,s7]/\Tds xs ks ds/\ks.length<=pre.length) ?_ ?_ _ [] _ _ rfl ⟨by simp; omega,[],[],_,_,_,rfl,⟨rfl,cq,(λk h=>by cases h),λd h=>by cases h⟩,No _⟩
 ·rintro m ρ ⟨hm2,ks,ds,s5,s6,s7,rfl,T,hkl⟩
  rw [B7] at hm2 hkl
  refine⟨ks,ds,rfl,T.len,by omega,λx hx' y hy'=>?_,λx hx'=>?_,λk hk' x hx'=>?_,λks' hp pw=>⟨by show (ks'.map tupK).length<=10000000; rw [Db,hp.length_eq]; omega,?_⟩⟩
  ·obtain⟨a,b,rfl,_⟩:=T.key x hx'
   obtain⟨a',b',rfl,_⟩:=T.key y hy'
   rfl
  ·obtain⟨a,b,rfl,_⟩:=T.key x hx'
   simp
  ·obtain⟨a,b,rfl,ha,hb,_⟩:=T.key k hk'
   have fit:∀y∈xs,He (.inr y):=λy hy=>by
    have:=(hx y hy).2.1
    show y.length<=sizeLine
    omega
   rcases aq.mp hx' with rfl | hx'
   ·exact fit a ha
   ·rw [ay.mp hx']; exact fit b hb
  ·obtain⟨ts,e1,e2,h1,h2⟩:=T.ties (ks':=ks') (λk hk'=>hp.mem_iff.mp hk') (hp.nodup_iff.mpr T.nd) pw
   have htl:ts.length=ks.length:=by rw [← hp.length_eq,← e2,Db]
   refine Bc (LF ks ds) (λρ=>∃s,ρ=[.br (.dit ks ds),s]) _ _ _ _ ?_ ⟨_,rfl⟩ ?_
   ·rintro d hd ρ n' nx ⟨s,rfl⟩ hnx
    obtain⟨k,hk',rfl⟩:=UF.mp hd
    have hkk:=hp.mem_iff.mp hk'
    obtain⟨a,b,rfl,_⟩:=T.key k hkk
    obtain⟨z,hz⟩:=Gs T.len hkk
    have:=hnx [.br (.dit ks ds),.sh (.tup [.str a,.str b])] ⟨_,rfl⟩
    rw [show LF ks ds (tupK [.inr a,.inr b])=.tup [.str a,.str b,z] by show LF ks ds (.tup [.str a,.str b])=_; rw [ND,hz]; rfl] at this
    exact⟨ks,ds,_,z,rfl,rfl,hz,z1,z3,this⟩
   ·rw [bE,e1]
    exact p ts m ⟨hx,hr,h1,h2⟩ (by omega) (by omega)
 ·rintro pre d post m ρ nx hall ⟨hm2,ks,ds,s5,s6,s7,rfl,T,hkl⟩ hnx
  obtain⟨rfl,hk⟩:=HM hall
  rw [Sc,aw] at hnx
  generalize pre.length=i at hk hm2 hkl hnx ⊢
  have xl:(xs.map D.str).length=xs.length:=Db ..
  refine⟨_,_,rfl,rfl,?_⟩
  show if decide ((1:Int)<((xs.map D.str).length:Int))=true then _ else _
  refine Dq (λc=>?_) λc=>hnx _ _ ⟨by omega,ks,ds,_,_,_,rfl,T,by omega⟩
  have c:=of_decide_eq_true c
  rw [xl] at c
  refine⟨_,_,rfl,rfl,_,rfl,by omega,by omega,by omega,λa a0 a1=>?_⟩
  refine⟨_,_,rfl,rfl,_,rfl,by omega,by omega,by omega,λq q0 q1=>⟨_,_,rfl,rfl,by show (0:Int)<_; omega,?_⟩⟩
  rw [xl] at a1 q1 ⊢
  obtain⟨s,es,se0,se3⟩:∃s:Int,atI [D.int sort,D.int ((0+(i:Int)) % 4)] (sort / 4)=some (.int s)/\0<=s/\s<=3:=by
   rcases (show sort<4\/sort=4 by omega) with z | z
   ·refine⟨sort,?_,s0,by omega⟩
    rw [show sort / 4=0 by omega]; rfl
   ·refine⟨(0+(i:Int)) % 4,?_,by omega,by omega⟩
    rw [show sort / 4=1 by omega]; rfl
  refine⟨ks,ds,rfl,by show (0:Int)<4; decide,z2,⟨by decide,by decide⟩,_,es,s,rfl,se0,se3,by omega,λr r1 r2=>?_⟩
  have hb0:0<=(a+1+q) % (xs.length:Int)/\(a+1+q) % (xs.length:Int)<xs.length:=⟨gS _ (by omega),fc _ (by omega)⟩
  have hab:(a+1+q) % (xs.length:Int)≠a:=by
   intro e
   rcases (show a+1+q<xs.length\/xs.length<=a+1+q by omega) with z | z
   ·rw [Int.emod_eq_of_lt (by omega) z] at e; omega
   ·have:(a+1+q) % (xs.length:Int)=a+1+q - xs.length:=by
     rw [← Int.sub_emod_right,Int.emod_eq_of_lt (by omega) (by omega)]
    omega
  obtain⟨b,eb⟩:∃b,(a+1+q) % (xs.length:Int)=b:=⟨_,rfl⟩
  rw [eb] at hb0 hab
  have key:∀lo hi:Int,0<=lo->lo<hi->hi<xs.length->∃x y:Str,atI (xs.map D.str) lo=some (.str x)/\atI (xs.map D.str) hi=some (.str y)/\x∈xs/\y∈xs/\cs x<cs y:=by
   intro lo hi l0 lh hl
   have h1:lo.toNat<xs.length:=by omega
   have h2:hi.toNat<xs.length:=by omega
   refine⟨xs[lo.toNat],xs[hi.toNat],?_,?_,cB _,cB _,?_⟩
   ·have:=AR (xs:=xs.map D.str) (j:=lo.toNat) (v:=.str xs[lo.toNat]) (by rw [Op,FM h1]; rfl)
    rwa [show ((lo.toNat:Nat):Int)=lo by omega] at this
   ·have:=AR (xs:=xs.map D.str) (j:=hi.toNat) (v:=.str xs[hi.toNat]) (by rw [Op,FM h2]; rfl)
    rwa [show ((hi.toNat:Nat):Int)=hi by omega] at this
   ·exact dC.mp hr _ _ h1 h2 (by omega)
  obtain⟨x,y,ex,ey,hx1,hy1,lt⟩:=key (if b<a then b else a) (if b > a then b else a) (by split <;> omega) (by split <;> omega) (by split <;> omega)
  have done:=hnx (m - 1 - 1 - 1) [.fd,.sh (.tup (xs.map .str)),.sh (.int most),.ow (.dit (CN ks [.inr x,.inr y]) (CM ks ds [.inr x,.inr y] (.int r))),.sh (.int sort),.sh (.int (0+(i:Int))),.sh (.int a),.sh (.int b)] ⟨by omega,_,_,_,_,_,rfl,T.put hx1 hy1 lt r1 r2,bF VC (by omega)⟩
  subst eb
  refine⟨_,ex,_,ey,z2,_,rfl,by omega,done⟩
end
noncomputable abbrev Mx:=Nat->Nat->Option Int
noncomputable def J2(g:Mx)(i j:Nat)(x:Int):Mx:=λa b=>if a=i/\b=j then some x else g a b
theorem Bv{g:Mx}{i j:Nat}{x:Int}:J2 g i j x i j=some x:=if_pos ⟨rfl,rfl⟩
theorem Br{g:Mx}{i j a b:Nat}{x:Int}(h:¬(a=i/\b=j)):J2 g i j x a b=g a b:=if_neg h
inductive WI (E:Nat->Nat->Int->Prop) (m i:Nat):Nat->Int->Prop
 | nil:WI E m i i 0
 | one {j:Nat} {l:Int}:E i j l->WI E m i j l
 | snoc {k j:Nat} {d l:Int}:WI E m i k d->k<m->E k j l->WI E m i j (d+l)
section
variable {E A:Nat->Nat->Int->Prop}{n m i j a b:Nat}{d:Int}{g g0:Mx}
theorem WI.pos(hp:∀i j l,E i j l->0<=l)(h:WI E m i j d):0<=d:=by
 induction h with
 | nil=>exact cy _
 | one e=>exact hp _ _ _ e
 | snoc _ _ e ih=>have:=hp _ _ _ e; omega
theorem WI.split(hp:∀i j l,E i j l->0<=l)(h:WI E (m+1) i j d):WI E m i j d\/∃d1 d2,WI E m i m d1/\WI E m m j d2/\d1+d2<=d:=by
 induction h with
 | nil=>exact .inl .nil
 | one e=>exact .inl (.one e)
 | @snoc k j d l _ hk e ih =>
  have hl:=hp _ _ _ e
  rcases ih with w | ⟨d1,d2,w1,w2,le⟩
  ·by_cases hm:k<m
   ·exact .inl (.snoc w hm e)
   ·have:k=m:=by omega
    subst this
    exact .inr ⟨d,l,w,.one e,cy _⟩
  ·by_cases hm:k<m
   ·exact .inr ⟨d1,d2+l,w1,.snoc w2 hm e,by omega⟩
   ·have:k=m:=by omega
    subst this
    have:=w2.pos hp
    exact .inr ⟨d1,l,w1,.one e,by omega⟩
structure Fm (E A:Nat->Nat->Int->Prop) (n m:Nat) (g:Mx):Prop where
 snd:∀i j d,g i j=some d->A i j d
 cmp:∀i j d,i<n->j<n->WI E m i j d->∃d',g i j=some d'/\d'<=d
structure Rm (A:Nat->Nat->Int->Prop) (n m:Nat) (g0:Mx) (a b:Nat) (g:Mx):Prop where
 snd:∀i j d,g i j=some d->A i j d
 dec:∀i j d,g0 i j=some d->∃d',g i j=some d'/\d'<=d
 got:∀i j,j<n->(i<a\/(i=a/\j<b))->∀d1 d2,g0 i m=some d1->g0 m j=some d2->∃d',g i j=some d'/\d'<=d1+d2
theorem Fm.start(h:Fm E A n m g0):Rm A n m g0 0 0 g0:=⟨h.snd,λi j d e=>⟨d,e,cy _⟩,λi j _ z=>by omega⟩
theorem Rm.next(h:Rm A n m g0 a n g):Rm A n m g0 (a+1) 0 g:=⟨h.snd,h.dec,λi j hj z=>h.got i j hj (by omega)⟩
theorem Rm.done(hp:∀i j l,E i j l->0<=l)(hm:m<n)(h0:Fm E A n m g0)(h:Rm A n m g0 n 0 g):Fm E A n (m+1) g:=by
 refine⟨h.snd,λi j d hi hj w=>?_⟩
 rcases w.split hp with w | ⟨d1,d2,w1,w2,le⟩
 ·obtain⟨d',e,l⟩:=h0.cmp i j d hi hj w
  obtain⟨d2,e2,l2⟩:=h.dec i j d' e
  exact⟨d2,e2,by omega⟩
 ·obtain⟨x,ex,lx⟩:=h0.cmp i m d1 hi hm w1
  obtain⟨y,ey,ly⟩:=h0.cmp m j d2 hm hj w2
  obtain⟨z,ez,lz⟩:=h.got i j hj (.inl hi) x y ex ey
  exact⟨z,ez,by omega⟩
theorem Rm.skip(h:Rm A n m g0 a b g)(hn:∀d1 d2,g a m=some d1->g m b=some d2->∃d',g a b=some d'/\d'<=d1+d2):Rm A n m g0 a (b+1) g:=by
 refine⟨h.snd,h.dec,λi j hj z d1 d2 e1 e2=>?_⟩
 by_cases c:i<a\/(i=a/\j<b)
 ·exact h.got i j hj c d1 d2 e1 e2
 ·have e1':i=a:=by omega
  have e2':j=b:=by omega
  subst e1' e2'
  obtain⟨x,ex,lx⟩:=h.dec _ _ _ e1
  obtain⟨y,ey,ly⟩:=h.dec _ _ _ e2
  obtain⟨z,ez,lz⟩:=hn x y ex ey
  exact⟨z,ez,by omega⟩
theorem Rm.put(ht:∀i k j d1 d2,A i k d1->A k j d2->A i j (d1+d2))(h:Rm A n m g0 a b g){x y:Int}(hx:g a m=some x)(hy:g m b=some y)(hl:∀z,g a b=some z->x+y<=z):Rm A n m g0 a (b+1) (J2 g a b (x+y)):=by
 have le:∀i j d,g i j=some d->∃d',J2 g a b (x+y) i j=some d'/\d'<=d:=λi j d e=>by
  by_cases c:i=a/\j=b
  ·obtain⟨rfl,rfl⟩:=c
   exact⟨_,Bv,hl d e⟩
  ·exact⟨d,by rw [Br c]; exact e,cy _⟩
 refine⟨λi j d e=>?_,λi j d e=>?_,λi j hj z d1 d2 e1 e2=>?_⟩
 ·by_cases c:i=a/\j=b
  ·obtain⟨rfl,rfl⟩:=c
   rw [Bv] at e
   cases e
   exact ht _ _ _ _ _ (h.snd _ _ _ hx) (h.snd _ _ _ hy)
  ·rw [Br c] at e
   exact h.snd i j d e
 ·obtain⟨d1,e1,l1⟩:=h.dec i j d e
  obtain⟨d2,e2,l2⟩:=le i j d1 e1
  exact⟨d2,e2,by omega⟩
 ·by_cases c:i<a\/(i=a/\j<b)
  ·obtain⟨d',e',l'⟩:=h.got i j hj c d1 d2 e1 e2
   obtain⟨d3,e3,l3⟩:=le i j d' e'
   exact⟨d3,e3,by omega⟩
  ·have e1':i=a:=by omega
   have e2':j=b:=by omega
   subst e1' e2'
   obtain⟨x',ex,lx⟩:=h.dec _ _ _ e1
   obtain⟨y',ey,ly⟩:=h.dec _ _ _ e2
   rw [hx] at ex
   rw [hy] at ey
   cases ex
   cases ey
   exact⟨_,Bv,by omega⟩
end
noncomputable def EI(N:Net)(i j:Nat)(l:Int):Prop:=∃x y,N.ps[i]?=some x/\N.ps[j]?=some y/\Ed N x y l
noncomputable def AI(N:Net)(i j:Nat)(d:Int):Prop:=∃x y,N.ps[i]?=some x/\N.ps[j]?=some y/\Wk N x y d
theorem Wk.trans{N:Net}{x y z:Str}{d1 d2:Int}(h1:Wk N x y d1)(h2:Wk N y z d2):Wk N x z (d1+d2):=by
 induction h2 with
 | nil=>rw [Int.add_zero]; exact h1
 | snoc _ e ih=>rw [← Int.add_assoc]; exact .snoc ih e
theorem AI.trans{N:Net}:∀i k j d1 d2,AI N i k d1->AI N k j d2->AI N i j (d1+d2):=by
 rintro i k j d1 d2 ⟨x,y,hx,hy,w⟩ ⟨y',z,hy',hz,w'⟩
 rw [hy] at hy'
 cases hy'
 exact⟨x,z,hx,hz,w.trans w'⟩
theorem EI.pos{N:Net}(ok:N.Ok):∀i j l,EI N i j l->0<=l:=by
 rintro i j l ⟨x,y,_,_,e⟩
 have:=e.pos ok
 omega
theorem KU{N:Net}(ok:N.Ok){i j:Nat}{x:Str}(h1:N.ps[i]?=some x)(h2:N.ps[j]?=some x):i=j:=by
 exact HZ (HN ok.rise) h1 h2
theorem Ii{N:Net}{x:Str}(h:x∈N.ps):∃i,N.ps[i]?=some x/\i<N.ps.length:=by
 obtain⟨i,l,e⟩:=dr.mp h
 exact⟨i,by rw [FM l,e],l⟩
theorem Wk.wi{N:Net}(ok:N.Ok){i:Nat}{x:Str}(hx:N.ps[i]?=some x){y:Str}{d:Int}(h:Wk N x y d):∀{j:Nat},N.ps[j]?=some y->WI (EI N) N.ps.length i j d:=by
 induction h with
 | nil =>
  intro j hj
  rw [KU ok hx hj]
  exact .nil
 | @snoc z y d l w e ih =>
  intro j hj
  obtain⟨k,hk,kl⟩:=Ii (w.ins ok (bY hx))
  exact .snoc (ih hk) kl ⟨z,y,hk,hj,e⟩
structure Tm (N:Net) (ts:List A0) (g:Mx):Prop where
 snd:∀i j d,g i j=some d->AI N i j d
 dia:∀i,i<N.ps.length->∃d,g i i=some d/\d<=0
 tie:∀t∈ts,∀i j,N.ps[i]?=some t.a->N.ps[j]?=some t.b->g i j=some t.len/\g j i=some t.len
theorem Tm.put{N:Net}(ok:N.Ok){ts:List A0}{t:A0}{g:Mx}(h:Tm N ts g)(hm:t∈N.ts)(hp:(ts++[t]).Pairwise Fv)(hs:∀s∈ts,s∈N.ts){i j:Nat}(hi:N.ps[i]?=some t.a)(hj:N.ps[j]?=some t.b):Tm N (ts++[t]) (J2 (J2 g i j t.len) j i t.len):=by
 obtain⟨_,_,lt,_⟩:=ok.tin t hm
 have ne:i≠j:=λe=>by
  subst e
  rw [hi] at hj
  rw [Uf hj] at lt
  exact di _ lt
 have ed:=JR hm
 refine⟨λa b d e=>?_,λa ha=>?_,λs hs' a b ha hb=>?_⟩
 ·by_cases c1:a=j/\b=i
  ·obtain⟨rfl,rfl⟩:=c1
   rw [Bv] at e
   cases e
   have:=Wk.snoc (.nil (N:=N) (s:=t.b)) ed.2
   rw [cW] at this
   exact⟨_,_,hj,hi,this⟩
  ·rw [Br c1] at e
   by_cases c2:a=i/\b=j
   ·obtain⟨rfl,rfl⟩:=c2
    rw [Bv] at e
    cases e
    have:=Wk.snoc (.nil (N:=N) (s:=t.a)) ed.1
    rw [cW] at this
    exact⟨_,_,hi,hj,this⟩
   ·rw [Br c2] at e
    exact h.snd a b d e
 ·rw [Br (by omega),Br (by omega)]
  exact h.dia a ha
 ·rcases bD.mp hs' with hs1 | hs1
  ·have h1:=h.tie s hs1 a b ha hb
   have hlt:=(du.mp hp).2.2 s hs1 t On
   obtain⟨_,_,lt2,_⟩:=ok.tin s (hs s hs1)
   have nab:¬(a=i/\b=j):=fun⟨z1,z2⟩=>by
    subst z1 z2
    rw [hi] at ha
    rw [hj] at hb
    have e1:=Uf ha
    have e2:=Uf hb
    rcases hlt with l | ⟨l1,l2⟩
    ·rw [e1] at l; exact di _ l
    ·rw [e2] at l2; exact di _ l2
   have nba:¬(a=j/\b=i):=fun⟨z1,z2⟩=>by
    subst z1 z2
    rw [hj] at ha
    rw [hi] at hb
    have e1:=Uf ha
    have e2:=Uf hb
    rw [← e1,← e2] at lt2
    exact absurd lt2 (List.lt_asymm lt)
   rw [Br (by omega),Br (by omega),Br (by omega),Br (by omega)]
   exact h1
  ·rw [ay.mp hs1] at ha hb ⊢
   have e1:=KU ok ha hi
   have e2:=KU ok hb hj
   subst e1 e2
   rw [Br (a:=a) (b:=b) (by omega),Bv,Bv]
   exact⟨rfl,rfl⟩
theorem Tm.fm{N:Net}(ok:N.Ok){g:Mx}(h:Tm N N.ts g):Fm (EI N) (AI N) N.ps.length 0 g:=by
 refine⟨h.snd,λi j d hi hj w=>?_⟩
 cases w with
 | nil=>exact h.dia i hi
 | one e =>
  obtain⟨x,y,hx,hy,e⟩:=e
  obtain⟨t,ht,rfl,c⟩:=e.tie ok
  rcases c with ⟨rfl,rfl⟩ | ⟨rfl,rfl⟩
  ·exact⟨_,(h.tie t ht i j hx hy).1,cy _⟩
  ·exact⟨_,(h.tie t ht j i hy hx).2,cy _⟩
 | snoc _ z _=>omega
noncomputable def Rx(N:Net)(F:Str->Str->Option Int):Prop:=∀x∈N.ps,∀y∈N.ps,(∀d,F x y=some d->Qn N x y d)/\∀d,Wk N x y d->F x y≠none
noncomputable def ofM(ps:List Str)(g:Mx)(x y:Str):Option Int:=g (ps.idxOf x) (ps.idxOf y)
theorem Fm.far{N:Net}(ok:N.Ok){g:Mx}(h:Fm (EI N) (AI N) N.ps.length N.ps.length g):Rx N (ofM N.ps g):=by
 intro x hx y hy
 have lx:=eI.mpr hx
 have ly:=eI.mpr hy
 have ex:N.ps[N.ps.idxOf x]?=some x:=by rw [FM lx,fg lx]
 have ey:N.ps[N.ps.idxOf y]?=some y:=by rw [FM ly,fg ly]
 have cm:∀d,Wk N x y d->∃d',ofM N.ps g x y=some d'/\d'<=d:=λd w=>h.cmp _ _ d lx ly (w.wi ok ex ey)
 refine⟨λd e=>⟨?_,λd' w=>?_⟩,λd w e=>?_⟩
 ·obtain⟨x',y',h1,h2,w⟩:=h.snd _ _ _ e
  rw [ex] at h1
  rw [ey] at h2
  cases h1
  cases h2
  exact w
 ·obtain⟨d2,e2,l2⟩:=cm d' w
  rw [e] at e2
  cases e2
  exact l2
 ·obtain⟨d2,e2,_⟩:=cm d w
  rw [e] at e2
  cases e2
noncomputable def ov:Option Int->V
 | none=>.non
 | some l=>.int l
noncomputable def od:Option Int->D
 | none=>.non
 | some l=>.int l
noncomputable def HL(n:Nat)(g:Mx)(i:Nat):List V:=(bB n).map λj=>ov (g i j)
noncomputable def Me(ps:List Str)(F:Str->Str->Option Int):D:=.lst (ps.map λx=>.lst (ps.map λy=>od (F x y)))
theorem Fj{n:Nat}{g:Mx}{i:Nat}:(HL n g i).length=n:=by unfold HL; rw [Db,bz]
theorem HK{n:Nat}{g:Mx}{i j:Nat}(h:j<n):(HL n g i)[j]?=some (ov (g i j)):=by
 unfold HL
 rw [Op,d8 h]; rfl
theorem U8{n:Nat}{g:Mx}{i j:Nat}(h:j<n):atI (HL n g i) (j:Int)=some (ov (g i j)):=AR (HK h)
theorem Sl{n:Nat}{g:Mx}{i j:Nat}{x:Int}:(HL n g i).set j (.int x)=HL n (J2 g i j x) i:=by
 refine List.ext_getElem? λk=>?_
 by_cases hk:k<n
 ·rw [HK hk,eP]
  by_cases e:j=k
  ·subst e
   rw [if_pos rfl,if_pos (by rw [Fj]; exact hk),Bv]; rfl
  ·rw [if_neg e,HK hk,Br (by omega)]
 ·rw [e9 (by rw [cM,Fj]; omega),e9 (by rw [Fj]; omega)]
theorem U7{n:Nat}{g:Mx}{i j k:Nat}{x:Int}(h:k≠i):HL n (J2 g i j x) k=HL n g k:=by
 unfold HL
 refine bX λy _=>?_
 rw [Br (by omega)]
structure Mat (H:Hp) (d:Addr) (as:List Addr) (n:Nat) (g:Mx) (H':Hp):Prop where
 old:∀b o,H b=some o->H' b=some o
 new:H d=none
 top:H' d=some (.lst (as.map .ref))
 inn:∀i a,as[i]?=some a->H a=none/\a≠d/\H' a=some (.lst (HL n g i))
section
variable {H H':Hp}{d:Addr}{as:List Addr}{n:Nat}{g:Mx}
theorem Mat.ads(s:Mat H d as n g H')(hd:as.Nodup){i j:Nat}{a:Addr}(h1:as[i]?=some a)(h2:as[j]?=some a):i=j:=by
 obtain⟨l1,e1⟩:=au.mp h1
 obtain⟨l2,e2⟩:=au.mp h2
 exact gE hd |>.mp (e1.trans e2.symm)
theorem Mat.put(s:Mat H d as n g H')(hd:as.Nodup){i j:Nat}{a:Addr}{x:Int}(ha:as[i]?=some a):Mat H d as n (J2 g i j x) (BN H' a (.lst ((HL n g i).set j (.int x)))):=by
 obtain⟨i1,i2,i3⟩:=s.inn i a ha
 refine⟨λb o e=>?_,s.new,?_,λk b hb=>?_⟩
 ·have:b≠a:=λz=>by rw [z,i1] at e; cases e
  rw [Ac this]
  exact s.old b o e
 ·rw [Ac (cE i2)]
  exact s.top
 ·obtain⟨g1,g2,g3⟩:=s.inn k b hb
  refine⟨g1,g2,?_⟩
  by_cases e:b=a
  ·subst e
   have:=s.ads hd hb ha
   subst this
   rw [Ak,Sl]
  ·have hk:k≠i:=λz=>by
    subst z
    rw [ha] at hb
    exact e (Uf hb).symm
   rw [Ac e,U7 hk]
   exact g3
theorem Mat.more(s:Mat H d as n g H'){p q:Addr}{o:HO}{xs:List V}(hp:H' p=none)(hq:BN H' p o q=none)(hr:HL n g as.length=xs):Mat H d (as++[q]) n g (BN (BN (BN H' p o) q (.lst xs)) d (.lst (as.map .ref++[.ref q]))):=by
 have np:∀b u,H' b=some u->b≠p:=λb u e z=>by rw [z,hp] at e; cases e
 have hqp:q≠p:=λz=>by rw [z,Ak] at hq; cases hq
 have hq':H' q=none:=by rw [Ac hqp] at hq; exact hq
 have nq:∀b u,H' b=some u->b≠q:=λb u e z=>by rw [z,hq'] at e; cases e
 have hHq:H q=none:=by
  cases c:H q with
  | none=>rfl
  | some u=>rw [s.old q u c] at hq'; cases hq'
 refine⟨λb u e=>?_,s.new,?_,λi a ha=>?_⟩
 ·have h':=s.old b u e
  rw [Ac (λz=>by rw [z,s.new] at e; cases e),Ac (nq b u h'),Ac (np b u h')]
  exact h'
 ·rw [Ak,cA]; rfl
 ·rw [List.getElem?_append] at ha
  split at ha
  ·obtain⟨g1,g2,g3⟩:=s.inn i a ha
   exact⟨g1,g2,by rw [Ac g2,Ac (nq a _ g3),Ac (np a _ g3)]; exact g3⟩
  ·rename_i hl
   have hi:i=as.length:=by
    have:=(au.mp ha).1
    rw [aw] at this
    omega
   subst hi
   rw [fG] at ha
   cases (show q=a from Uf ha)
   have nd:q≠d:=λz=>by rw [z,s.top] at hq'; cases hq'
   exact⟨hHq,nd,by rw [Ac nd,Ak,hr]⟩
theorem Mat.fresh(s:Mat H d as n g H'){q:Addr}(hq:H' q=none):q∉as:=λhm=>by
 obtain⟨i,l,e⟩:=dr.mp hm
 obtain⟨_,_,h⟩:=s.inn i q (by rw [FM l,e])
 rw [h] at hq
 cases hq
end
theorem Pg{K:Frag}{M:Addr->Prop}{H:Hp}:∀{ds:List D} {vs:List V},ds.length=vs.length->(∀(i:Nat) d v,ds[i]?=some d->vs[i]?=some v->At K M H d v)->Ats K M H ds vs
 | [],[],_,_=>rfl
 | d::ds,v::vs,hl,h=>⟨v,vs,rfl,h 0 d v rfl rfl,Pg (Nat.succ.inj hl) λi d' v' e1 e2=>h (i+1) d' v' e1 e2⟩
 | [],_::_,hl,_=>by cases hl
 | _::_,[],hl,_=>by cases hl
theorem Mat.at_{K:Frag}{M:Addr->Prop}{H H':Hp}{d:Addr}{as:List Addr}{ps:List Str}{g:Mx}(dom:∀a,M a->∃o,H a=some o)(s:Mat H d as ps.length g H')(hl:as.length=ps.length)(nd:ps.Nodup):At K M H' (Me ps (ofM ps g)) (.ref d):=by
 have nM:∀b,H b=none->¬M b:=λb e m=>by obtain⟨o,h⟩:=dom b m; rw [h] at e; cases e
 have ix:∀{i:Nat} {x:Str},ps[i]?=some x->ps.idxOf x=i:=λ{i x} e=>by
  have hx:=bY e
  have lx:=eI.mpr hx
  exact HZ nd (by rw [FM lx,fg lx]) e
 refine⟨d,as.map .ref,rfl,⟨nM d s.new,s.top⟩,Pg (by rw [Db,Db,hl]) λi x v e1 e2=>?_⟩
 rw [Op] at e1 e2
 obtain⟨p,hp,rfl⟩:=a_.mp e1
 obtain⟨a,ha,rfl⟩:=a_.mp e2
 obtain⟨g1,g2,g3⟩:=s.inn i a ha
 refine⟨a,_,rfl,⟨nM a g1,g3⟩,Pg (by rw [Db,Fj]) λj y v f1 f2=>?_⟩
 rw [Op] at f1
 obtain⟨q,hq,rfl⟩:=a_.mp f1
 rw [HK (au.mp hq).1] at f2
 cases f2
 show At K M H' (od (g (ps.idxOf p) (ps.idxOf q))) _
 rw [ix hp,ix hq]
 cases g i j with
 | none=>rfl
 | some l=>rfl
theorem Xd{n j:Nat}(h:j<n):R6 n (j:Int)=some j:=by
 unfold R6
 rw [if_pos (by omega),if_pos (by omega)]
 congr 1
section
variable {K:Frag}{H H':Hp}{d:Addr}{as:List Addr}{n:Nat}{g:Mx}{σ:L2.St}{a b i j:Nat}{zi zj:Int}
theorem Mat.rd2(s:Mat H d as n g H')(hl:as.length=n){Q:VK}(hi:i<n)(hj:j<n)(hd:σ[3]?=some (some (.ref d)))(ha:σ[a]?=some (some (.int zi)))(ei:zi=i)(hb:σ[b]?=some (some (.int zj)))(ej:zj=j){o:Option Int}(eo:g i j=o)(q:Q (ov o) H') :
  Dl (Q_ K) (Dl (Q_ K) (BU 3) (BU a)) (BU b) σ H' Q:=by
 subst ei ej eo
 obtain⟨r,hr⟩:∃r,as[i]?=some r:=⟨_,FM (by omega)⟩
 obtain⟨_,_,h3⟩:=s.inn i r hr
 exact⟨.ref d,hd,.int i,ha,d,_,_,.ref r,rfl,rfl,SqL.of s.top,AR (by rw [Op,hr]; rfl),.int j,hb,r,_,_,_,rfl,rfl,SqL.of h3,U8 hj,q⟩
theorem Mat.wr(s:Mat H d as n g H')(hl:as.length=n)(nd:as.Nodup){x:Int}{to ti:TE}{R:L2.St->Hp->Prop}(hi:i<n)(hj:j<n)(ho:∀Q:VK,(∀r,as[i]?=some r->Q (.ref r) H')->to σ H' Q)(ht:∀Q:VK,Q (.int (j:Int)) H'->ti σ H' Q)(q:∀H'',Mat H d as n (J2 g i j x) H''->R σ H'') :
  Xh to ti Sz (.int x) σ H' R:=by
 refine ho _ λr hr=>ht _ ?_
 obtain⟨_,_,h3⟩:=s.inn i r hr
 exact⟨r,_,_,j,rfl,rfl,h3,Xd (by rw [Fj]; exact hj),q _ (s.put nd hr)⟩
theorem Mat.row(s:Mat H d as n g H')(hl:as.length=n)(hi:i<n){Q:VK}{ti:TE}(hd:σ[3]?=some (some (.ref d)))(ht:∀Q:VK,Q (.int (i:Int)) H'->ti σ H' Q)(q:∀r,as[i]?=some r->Q (.ref r) H'):Dl (Q_ K) (BU 3) ti σ H' Q:=by
 obtain⟨r,hr⟩:∃r,as[i]?=some r:=⟨_,FM (by omega)⟩
 exact⟨.ref d,hd,ht _ ⟨d,_,_,.ref r,rfl,rfl,SqL.of s.top,AR (by rw [Op,hr]; rfl),q r hr⟩⟩
end
theorem Ve{K:Frag}{a:Addr}{xs:List V}{g:TG}{tb:TS}{D:Ends}{σ:L2.St}{H:Hp}{J:It}(Pv:Nat->L2.St->Hp->Prop)(h0:Pv 0 σ H)(hl:(J=Uo K a/\∀i σ H,Pv i σ H->SqL K H a xs)\/(J=Um K a/\∀i σ H,Pv i σ H->SqT K H a xs))
  (hs:∀i x σ H,xs[i]?=some x->Pv i σ H->g x σ H λσ2 H2=>tb { D with nx:=Pv (i+1),ct:=Pv (i+1),bk:=D.nx } σ2 H2) (hd:∀σ H,Pv xs.length σ H->D.nx σ H) :
  ∃W:Nat->Nat->L2.St->Hp->Prop,(∃m,W 0 m σ H)/\∀i m σ H,W i m σ H ->
   (J.stop i H/\D.nx σ H)\/(J.go i H/\∃N:L2.St->Hp->Prop,(∀σ' H',N σ' H'->∃m',m'<m/\W (i+1) m' σ' H')/\∀x H',J.yld i H x H'->g x σ H' λσ2 H2=>tb { D with nx:=N,ct:=N,bk:=D.nx } σ2 H2):=by
 rcases hl with ⟨rfl,h⟩ | ⟨rfl,h⟩
 ·exact Tp Pv h0 (λi σ H _ p=>h i σ H p) hs hd
 ·exact Vd Pv h0 (λi σ H _ p=>h i σ H p) hs hd
theorem X2{K:Frag}{H:Hp}{a:Addr}{J:It}{R:It->Hp->Prop}(h:(J=Uo K a/\∃xs,SqL K H a xs)\/(J=Um K a/\∃xs,SqT K H a xs))(r:R J H):(∃b,V.ref a=.ref b/\(∃xs,SqL K H b xs)/\R (Uo K b) H)\/(∃b,V.ref a=.ref b/\(∃xs,SqT K H b xs)/\R (Um K b) H)\/∃z,V.ref a=.str z/\R (Ze z) H:=by
 rcases h with ⟨rfl,h⟩ | ⟨rfl,h⟩
 ·exact .inl ⟨a,rfl,h,r⟩
 ·exact .inr (.inl ⟨a,rfl,h,r⟩)
theorem SW{K:Frag}{a:Addr}{xs:List V}{g:TG}{tb:TS}{D:Ends}{σ:L2.St}{H:Hp}{J:It}{i:Nat}(hv:σ[i]?=some (some (.ref a)))(Pv:Nat->L2.St->Hp->Prop)(h0:Pv 0 σ H)(hl:(J=Uo K a/\∀i σ H,Pv i σ H->SqL K H a xs)\/(J=Um K a/\∀i σ H,Pv i σ H->SqT K H a xs))
  (hs:∀i x σ H,xs[i]?=some x->Pv i σ H->g x σ H λσ2 H2=>tb { D with nx:=Pv (i+1),ct:=Pv (i+1),bk:=D.nx } σ2 H2) (hd:∀σ H,Pv xs.length σ H->D.nx σ H):YT (Yy K (BU i)) g tb D σ H :=
 ⟨.ref a,hv,X2 (R:=λJ H1=>∃W:Nat->Nat->L2.St->Hp->Prop,(∃m,W 0 m σ H1)/\∀i m σ H,W i m σ H ->
   (J.stop i H/\D.nx σ H)\/(J.go i H/\∃N:L2.St->Hp->Prop,(∀σ' H',N σ' H'->∃m',m'<m/\W (i+1) m' σ' H')/\∀x H',J.yld i H x H'->g x σ H' λσ2 H2=>tb { D with nx:=N,ct:=N,bk:=D.nx } σ2 H2)) (hl.imp (λh=>⟨h.1,_,h.2 _ _ _ h0⟩) λh=>⟨h.1,_,h.2 _ _ _ h0⟩) (Ve Pv h0 hl hs hd)⟩
noncomputable def Dg(N:Net)(k:Nat)(g:Mx):Prop:=(∀i j d,g i j=some d->AI N i j d)/\∀i,i<k->∃d,g i i=some d/\d<=0
theorem Dg.zero{N:Net}:Dg N 0 (λ_ _=>none):=⟨λ_ _ _ e=>(by cases e),λ_ h=>(by omega)⟩
theorem Dg.succ{N:Net}{k:Nat}{g:Mx}(hk:k<N.ps.length)(h:Dg N k g):Dg N (k+1) (J2 g k k 0):=by
 refine⟨λi j d e=>?_,λi hi=>?_⟩
 ·by_cases c:i=k/\j=k
  ·obtain⟨rfl,rfl⟩:=c
   rw [Bv] at e
   cases e
   exact⟨_,_,FM hk,FM hk,.nil⟩
  ·rw [Br c] at e
   exact h.1 i j d e
 ·by_cases c:i=k
  ·subst c
   exact⟨0,Bv,cy _⟩
  ·rw [Br (by omega)]
   exact h.2 i (by omega)
theorem Dg.tm{N:Net}{g:Mx}(h:Dg N N.ps.length g):Tm N [] g:=⟨h.1,h.2,λt ht=>by cases ht⟩
theorem Pw{K:Frag}{M:Addr->Prop}{H:Hp}:∀{ss:List Str} {vs:List V},Ats K M H (ss.map .str) vs->vs=ss.map .str
 | [],vs,h=>h
 | x::ss,vs,h=>by
  obtain⟨v,r,rfl,⟨rfl,_⟩,h2⟩:=h
  rw [Pw h2,av]
theorem Ws{N:Net}(ok:N.Ok){H:Hp}{ap:Addr}(hH:H ap=some (.tup (N.ps.map .str))){i:Nat}{x:Str}(hi:N.ps[i]?=some x){Q:VK}(q:Q (.int (i:Int)) H):VA (.ref ap) [.str x] H Q:=by
 have szl:=PySem.sizeLine_eq
 have hx:Ur x:=ok.names x (bY hi)
 have le:∀y∈N.ps,y.length<=sizeLine:=λy hy=>by have:=(ok.names y hy).2.1; omega
 have as:Ats ([]:Frag) (λ_=>False) H (N.ps.map D.str) (N.ps.map V.str):=Ats.strs le
 obtain⟨n1,l1,_⟩:=IR ok.names
 obtain⟨n2,l2,d2⟩:=KP hx
 refine⟨ap,_,.str x,BC (N.ps.map .str),toPy (.str x),i,rfl,rfl,hH,as.rv n1,At.rv (K:=([]:Frag)) (M:=λ_=>False) (show At _ _ H (.str x) (.str x) from⟨rfl,le x (bY hi)⟩) n2,l1,l2,d2,⟨toPy (.str x),by rw [DJ,Op,Op,hi]; rfl,?_⟩,λm p hm e=>?_,q⟩
 ·show Bw (.str x) (.str x)=true
  rw [GP,beq_self_eq_true]
 ·rw [DJ,Op,Op] at e
  obtain⟨z,e1,rfl⟩:=a_.mp e
  obtain⟨y,e2,rfl⟩:=a_.mp e1
  show Bw (.str y) (.str x)=false
  rw [GP,beq_eq_false_iff_ne]
  intro z
  subst z
  have:=KU ok e2 hi
  omega
theorem Pr{N:Net}(ok:N.Ok){H:Hp}{ap:Addr}(hH:H ap=some (.tup (N.ps.map .str))){i k:Nat}{x:Str}{σ:L2.St}(h0:σ[0]?=some (some (.ref ap)))(hk:σ[k]?=some (some (.str x)))(hi:N.ps[i]?=some x)(Q:VK)(q:Q (.int (i:Int)) H):YO VA (BU 0) (NP (BU k) Qu) σ H Q :=
 ⟨.ref ap,h0,⟨ap,_,rfl,hH⟩,.str x,hk,Ws ok hH hi q⟩
noncomputable def OX:W2:=λss n P=>∃(N:Net) (d:D),ss=[.sh (.tup (N.ps.map .str)),.sh d]/\(d=.lst (N.ts.map Ag)\/d=.tup (N.ts.map Ag))/\N.Ok/\N.ps.length<=1000/\∀F,Rx N F->P (Me N.ps F) n
end Nt
set_option maxHeartbeats 400000
namespace Nt
open PySem PySem.Spec PyProof.Rows L2 Dp
theorem Xl{M:Net}(ok:M.Ok){x y:Str}{l:Int}(h:Ed M x y l):Ed M y x l:=by
 obtain⟨t,ht,rfl,hx⟩:=h.tie ok
 obtain⟨d1,d2⟩:=JR ht
 rcases hx with ⟨rfl,rfl⟩ | ⟨rfl,rfl⟩
 ·exact d2
 ·exact d1
theorem Wl{M:Net}(ok:M.Ok){x y:Str}{d:Int}(h:Wk M x y d):Wk M y x d:=by
 induction h with
 | nil=>exact .nil
 | snoc _ he ih =>
  have:=Wk.trans (Wk.snoc (Wk.nil (N:=M)) (Xl ok he)) ih
  rw [show ∀a l:Int,0+l+a=a+l from λa l=>by omega] at this
  exact this
theorem P6{N:Net}(ok:N.Ok)(g:Str->Int){a:Str}(ha:a∈N.ps):Cr N ((N.ps.map g).map .int) a=g a:=by
 obtain⟨j,hj⟩:=ce.mp ha
 unfold Cr
 rw [Oe (ME ok.rise) hj,Op,Op,hj]
 rfl
theorem Vh{M:Net}(ok:M.Ok)(g:Str->Int)(h0:∀x∈M.ps,0<=g x)(h:∀t∈M.ts,CU (g t.a - g t.b)<=t.len):E_ M (.tup ((M.ps.map g).map .int))=true:=by
 show (((((((M.ps.map g).map D.int).length:Nat):Int)==(M.ps.length:Int))&&((M.ps.map g).map D.int).all Kt)&&M.ts.all λt=>decide (CU (Cr M ((M.ps.map g).map .int) t.a - Cr M ((M.ps.map g).map .int) t.b)<=t.len))=true
 rw [Db,Db,beq_self_eq_true,bA,az]
 refine⟨cO.mpr λd hd=>?_,cO.mpr λt ht=>?_⟩
 ·obtain⟨i,hi,rfl⟩:=UF.mp hd
  obtain⟨x,hx,rfl⟩:=UF.mp hi
  exact decide_eq_true (h0 x hx)
 ·obtain⟨m1,m2,_⟩:=ok.tin t ht
  rw [P6 ok g m1,P6 ok g m2]
  exact decide_eq_true (h t ht)
theorem UN{M:Net}(ok:M.Ok){F:Str->Str->Option Int}(hF:Rx M F){x:Str}(hx:x∈M.ps){m:Int}{t:A0}(ht:t∈M.ts):CU (B5 m (F x t.a) - B5 m (F x t.b))<=t.len:=by
 obtain⟨m1,m2,_,l1,_⟩:=ok.tin t ht
 obtain⟨d1,d2⟩:=JR ht
 have up:∀{y z:Str} {l:Int},y∈M.ps->z∈M.ps->Ed M y z l->∀d,F x y=some d->∃d',F x z=some d'/\d'<=d+l:=λ{y z l} hy hz he d e=>by
  have hw:=Wk.snoc ((hF x hx y hy).1 d e).1 he
  cases ez:F x z with
  | none=>exact absurd ez ((hF x hx z hz).2 _ hw)
  | some d'=>exact⟨d',rfl,((hF x hx z hz).1 d' ez).2 _ hw⟩
 have u1:=up m1 m2 d1
 have u2:=up m2 m1 d2
 cases ea:F x t.a with
 | none =>
  cases eb:F x t.b with
  | none=>unfold CU B5; split <;> omega
  | some b=>obtain⟨d',z,_⟩:=u2 b eb; rw [ea] at z; cases z
 | some a =>
  cases eb:F x t.b with
  | none=>obtain⟨d',z,_⟩:=u1 a ea; rw [eb] at z; cases z
  | some b =>
   obtain⟨b',z1,h1⟩:=u1 a ea
   obtain⟨a',z2,h2⟩:=u2 b eb
   rw [eb] at z1
   rw [ea] at z2
   cases z1
   cases z2
   show CU ((if a<m then a else m) - (if b<m then b else m))<=t.len
   unfold CU
   split <;> split <;> split <;> omega
noncomputable def S7(N:Net)(F:Str->Str->Option Int)(x:Str)(m more:Int):List Int:=N.ps.map λz=>more+B5 m (F x z)
theorem VE{N:Net}(okn:okN N){gone:List A0}{F:Str->Str->Option Int}(hF:Rx (C_ N gone) F){t b:Int}(tm:Cp t b){u:A0}(hu:u∈N.ts){x y:Str}(hxy:(x=u.a/\y=u.b)\/(x=u.b/\y=u.a)){m more:Int}(hm0:0<m)(hm1:m<=10 ^ 13)(hm:u.len*t<m*b)(h0:0<=more)(h1:more<=10) :
  RD N (S7 N F x m more)/\Rh N t b gone u (S7 N F x m more)=decide (u.len*t<B5 m (F x y)*b)/\(¬u.len*t<B5 m (F x y)*b->∃d,Wk (C_ N gone) u.a u.b d/\d*b<=u.len*t):=by
 have ok:=okn.1
 have ok1:=MO ok gone
 obtain⟨ma,mb,hab,_⟩:=ok.tin u hu
 have hx:x∈N.ps:=by rcases hxy with ⟨rfl,_⟩ | ⟨rfl,_⟩ <;> assumption
 have hy:y∈N.ps:=by rcases hxy with ⟨_,rfl⟩ | ⟨_,rfl⟩ <;> assumption
 have pos:∀z∈N.ps,0<=B5 m (F x z)/\B5 m (F x z)<=m:=λz hz=>Xt (by omega) λd e=>((hF x hx z hz).1 d e).1.pos ok1
 have fxx:F x x=some 0:=by
  cases e:F x x with
  | none=>exact absurd e ((hF x hx x hx).2 0 .nil)
  | some d =>
   have l:=(hF x hx x hx).1 d e
   have:=l.2 0 .nil
   have:=l.1.pos ok1
   rw [show d=0 by omega]
 have cxx:B5 m (F x x)=0:=by rw [fxx]; show (if (0:Int)<m then 0 else m)=0; rw [if_pos hm0]
 have hy0:=pos y hy
 refine⟨⟨by unfold S7; rw [Db],λi hi=>?_⟩,?_,λhn=>?_⟩
 ·obtain⟨z,hz,rfl⟩:=UF.mp hi
  have:=pos z hz
  omega
 ·unfold Rh
  have hf:E_ (C_ N gone) (.tup ((S7 N F x m more).map .int))=true:=Vh ok1 (λz=>more+B5 m (F x z)) (λz hz=>by have:=pos z hz; omega) λs hs=>by
   have:=UN ok1 hF hx (m:=m) hs
   rw [show more+B5 m (F x s.a) - (more+B5 m (F x s.b))=B5 m (F x s.a) - B5 m (F x s.b) by omega]
   exact this
  rw [hf,bA]
  have pa:Cr N ((S7 N F x m more).map .int) u.a=more+B5 m (F x u.a):=P6 ok (λz=>more+B5 m (F x z)) ma
  have pb:Cr N ((S7 N F x m more).map .int) u.b=more+B5 m (F x u.b):=P6 ok (λz=>more+B5 m (F x z)) mb
  rw [pa,pb,show more+B5 m (F x u.a) - (more+B5 m (F x u.b))=B5 m (F x u.a) - B5 m (F x u.b) by omega]
  have:CU (B5 m (F x u.a) - B5 m (F x u.b))=B5 m (F x y):=by
   rcases hxy with ⟨rfl,rfl⟩ | ⟨rfl,rfl⟩
   ·rw [cxx]; unfold CU; split <;> omega
   ·rw [cxx]; unfold CU; split <;> omega
  rw [this]
 ·have hb:0<b:=by have:=tm.1; omega
  cases e:F x y with
  | none =>
   rw [e] at hn
   exact absurd hm hn
  | some d =>
   rw [e] at hn
   have hn':¬u.len*t<(if d<m then d else m)*b:=hn
   by_cases c:d<m
   ·rw [if_pos c] at hn'
    have w:=((hF x hx y hy).1 d e).1
    refine⟨d,?_,by omega⟩
    rcases hxy with ⟨rfl,rfl⟩ | ⟨rfl,rfl⟩
    ·exact w
    ·exact Wl ok1 w
   ·rw [if_neg c] at hn'
    exact absurd hm hn'
end Nt
set_option maxHeartbeats 4000000
namespace L2
open PySem PySem.Spec PyProof.Rows PySem.W
section
variable {prog:Program}{w:World}{A:Around}{E:Value->Shared->Prop}{s:Shared}
end
section
variable {X:Cx}
end
end L2
namespace Dp
open PySem PySem.Spec PyProof.Rows L2
section
variable {K:Frag}
end
section
variable {X:Cx}{e1 e2:Expr}{ws:FP}{p1 q1 p2 q2:Pos}
end
end Dp
namespace L2
open PySem PySem.Spec PyProof.Rows
section
variable {X:Cx}
end
end L2
namespace Dp
open PySem PySem.Spec PyProof.Rows L2
section
variable {X:Cx}{κ:Kd}{pos:Pos}
end
end Dp
namespace Nt
open PySem PySem.Spec PyProof.Rows L2 Dp
inductive Cn (K:List A0) (x:Str):Str->Prop
 | refl:Cn K x x
 | step {y z:Str}:Cn K x y->(∃t∈K,(t.a=y/\t.b=z)\/(t.b=y/\t.a=z))->Cn K x z
section
variable {ss:List Slot}{n:Nat}{Pd:D->Nat->Prop}
end
end Nt
namespace Dp
open PySem PySem.Spec PyProof.Rows L2
section
variable {X:Cx}{κe:Kd}{tg elt iter:Expr}{ifs:List Expr}{sc:Scope}{pos:Pos}{src:FP}{b:BW}{tt:Jk}{te:DW}
end
end Dp
namespace Nt
open PySem PySem.Spec PyProof.Rows L2 Dp
section
variable {ss:List Slot}{n:Nat}{Pd:D->Nat->Prop}
structure ak (N:Net) (ks:List Key) (ds:List D) (F:Str->Option Str):Prop where
 m:aA ks ds D.str F
 i:∀x,F x≠none->x∈N.ps
end
end Nt
namespace L2
open PySem PySem.Spec PyProof.Rows
open AutoSeq1 (wpAny_loadPart')
section
variable {prog:Program}{w:World}{A:Around}{E:Value->Shared->Prop}{s:Shared}
end
structure Z_ (κ:Bool) (e it a:Addr) (k:Nat) (h:Heap):Prop where
 e:∃old,IsEnum h e it (k:Int) old
 i:ItAt κ h it a k
section
variable {X:Cx}{e1:Expr}{es:List Expr}{j:Nat}{tpos p pos:Pos}{te:TE}
end
end L2
namespace Dp
open PySem PySem.Spec PyProof.Rows L2
section
variable {K:Frag}
end
section
variable {X:Cx}{e1:Expr}{es:List Expr}{j:Nat}{tpos p pos:Pos}{κ:Kd}{wa:DW}
end
end Dp
namespace L2
open PySem PySem.Spec PyProof.Rows
section
variable {X:Cx}{e1 tg:Expr}{p pos:Pos}{te:TE}
end
end L2
namespace Dp
open PySem PySem.Spec PyProof.Rows L2
section
variable {X:Cx}{e1 tg:Expr}{p pos:Pos}{κ:Kd}{wa:DW}
end
end Dp
namespace Nt
open PySem PySem.Spec PyProof.Rows L2 Dp
section
variable {ss:List Slot}{n:Nat}{Pd:D->Nat->Prop}
end
noncomputable def tj(t:A0)(x y:Str):Prop:=(t.a=x/\t.b=y)\/(t.b=x/\t.a=y)
inductive Us (K:List A0) (x:Str):Str->Nat->Prop
 | nil:Us K x x 0
 | snoc {y z:Str} {n:Nat} {t:A0}:Us K x y n->t∈K->tj t y z->Us K x z (n+1)
noncomputable def firm(N:Net)(t b:Int)(L:List A0):Prop:=∀pre z post,L=pre++z::post->¬Yu (sub N pre) t b z
structure Kept (N:Net) (t b:Int) (L:List A0):Prop where
 ok:okN N
 firm:firm N t b L
 ins:∀u∈L,u∈N.ts
 up:L.Pairwise λu v=>u.len<=v.len
 b1:1<=b
end Nt
namespace L2
open PySem PySem.Spec PyProof.Rows PySem.W
section
variable {prog:Program}{w:World}{A:Around}{E:Value->Shared->Prop}{I:Addr}{fp wr:List Addr}{N:Nat}{P:Nat->Value->Prop}{St:Nat->Heap->Prop}
end
section
variable {X:Cx}{pos:Pos}
end
end L2
namespace Dp
open PySem PySem.Spec PyProof.Rows L2
section
variable {X:Cx}{es:List Expr}{pos:Pos}
end
section
variable {X:Cx}{κ κe:Kd}{tg tg2 iter e:Expr}{sc:Scope}{pos cp p apos cpos:Pos}{x:Str}{src:FP}{b:BW}{we:DW}{i f:Nat}
end
end Dp
namespace Nt
open PySem PySem.Spec PyProof.Rows L2 Dp
section
variable {ss:List Slot}{n:Nat}{Pd:D->Nat->Prop}
end
noncomputable def SS(N:Net):List Str->List A0->Prop
 | x::y::r,us=>∃t us',us=t::us'/\t∈N.ts/\((t.a=x/\t.b=y)\/(t.b=x/\t.a=y))/\SS N (y::r) us'
 | [_],us=>us=[]
 | [],_=>False
noncomputable abbrev aK:=List (A0×List Str)
noncomputable def Wg(N:Net)(ts os:List A0):Prop:=os.Perm (N.ts.filter λt=>decide (t∉ts))/\Xx os
noncomputable def XH(k:Nat)(N1:Net)(T:aK):Prop:=∀p∈T,∃r us,p.2=p.1.a::r/\SS N1 p.2 us/\p.2.length<=k/\∀x∈p.2,x∈N1.ps
noncomputable abbrev WQ:=XH 500
structure am (N:Net) (ts1 ts2:List A0) (T1 T2:aK):Prop where
 ok:N.Ok
 lp:N.ps.length<=24
 lt:N.ts.length<60
 s1:ts1.Sublist N.ts
 s2:ts2.Sublist ts1
 o1:Wg N ts1 (T1.map (·.1))
 o2:Wg ⟨N.ps,ts1⟩ ts2 (T2.map (·.1))
 p1:WQ ⟨N.ps,ts1⟩ T1
 p2:WQ ⟨N.ps,ts2⟩ T2
section
variable {ss:List Slot}{n:Nat}{Pd:D->Nat->Prop}
theorem L1{N:Net}(ok:N.Ok){ts:List A0}(h:ts.Sublist N.ts):(⟨N.ps,ts⟩:Net).Ok:=⟨ok.names,ok.rise,λt ht=>ok.tin t (h.subset ht),ok.trise.sublist h⟩
theorem X0{α:Type}{f:α->D}{xs:List α}{pre post:List D}{d:D}(h:xs.map f=pre++d::post):∃t,xs[pre.length]?=some t/\d=f t:=by
 have e:(xs.map f)[pre.length]?=some d:=by rw [h,c6 (No _),fG]; rfl
 rw [Op] at e
 obtain⟨t,h1,h2⟩:=a_.mp e
 exact⟨t,h1,h2.symm⟩
theorem Hf{N:Net}(ok:N.Ok){i:Nat}{x:Str}(hi:N.ps[i]?=some x):B9 (.tup (N.ps.map .str))/\B9 (.str x)/\(∃z,(N.ps.map D.str)[i]?=some z/\Bw z (.str x)=true)/\∀(m:Nat) z,m<i->(N.ps.map D.str)[m]?=some z->Bw z (.str x)=false:=by
 refine⟨IR ok.names,KP (ok.names x (bY hi)),⟨.str x,by rw [Op,hi]; rfl,by rw [GP,beq_self_eq_true]⟩,λm z hm hz=>?_⟩
 rw [Op] at hz
 obtain⟨y,hy,rfl⟩:=a_.mp hz
 rw [GP,beq_eq_false_iff_ne]
 intro e
 subst e
 have:=KU ok hy hi
 omega
theorem Md{ps:List Str}{F:Str->Str->Option Int}{i:Nat}{x:Str}(hi:ps[i]?=some x):atI (ps.map λx=>D.lst (ps.map λy=>od (F x y))) (i:Int)=some (.lst (ps.map λy=>od (F x y))):=AR (by rw [Op,hi]; rfl)
theorem XS{ps:List Str}{F:Str->Str->Option Int}{j:Nat}{x y:Str}(hj:ps[j]?=some y):atI (ps.map λy=>od (F x y)) (j:Int)=some (od (F x y)):=AR (by rw [Op,hj]; rfl)
theorem Xu{α:Type}(l:List α){k:Nat}(h:k<l.length):Dp.cutD l (some (k:Int)) none=l.drop k:=by
 unfold Dp.cutD
 rw [HT.sIx_none,HT.sIx_nat,cj (by omega)]
 exact cx (by rw [cY]; exact No _)
end
end Nt
set_option maxHeartbeats 400000
namespace Dp
open PySem PySem.Spec PyProof.Rows L2
noncomputable def YH(i j:Nat)(ws:FP):Aj:=λD2 n ρ=>ws n ρ λds n1=>∃d e,ds=[d,e]/\D2.nx n1 ((ρ.set i (.sh d)).set j (.sh e))
theorem Xn{X:Cx}{κ:Kd}{pos:Pos}{i j:Nat}{x y:Str}{a b:Expr}{ws:FP}{px py pt:Pos}{kt k2 pt2}(hc:X.calm=true)(hN:X.N.Nodup)(hi:X.N[i]?=some x)(hj:X.N[j]?=some y)(hij:i≠j)
  (hx:X.env.scope.names.lookup x=some .local) (hy:X.env.scope.names.lookup y=some .local) (ha:YD X [a,b] ws)
  (hw:swappedStores [.Tuple [.Name x px,.Name y py] kt pt] (.Tuple [a,b] k2 pt2) X.env=pure (some [x,y]))
  (hs:autoParam (swapsWithSole [.Tuple [.Name x px,.Name y py] kt pt] (.Tuple [a,b] k2 pt2) pos.line X.env=pure false) zau3._auto_1):DS X κ (.Assign [.Tuple [.Name x px,.Name y py] kt pt] (.Tuple [a,b] k2 pt2) pos) (YH i j ws):=by
 obtain⟨t,a1,a2⟩:=ha
 refine⟨_,W9 hc hN hi hj hij hx hy a1 hw hs,λC M H n ρ σ D2 E R L w=>?_⟩
 refine a2 C M H n ρ σ _ _ R w λvs H1 ds n1 e1 f1 r1 p=>?_
 obtain⟨d,e,rfl,p⟩:=p
 obtain⟨u,r,rfl,h1,v,r',rfl,h2,h3⟩:=r1
 cases (show r'=[] from h3)
 exact⟨u,v,rfl,L.nx M H1 n1 _ _ (((R.step e1 f1).set h1).set h2) p⟩
end Dp
namespace Nt
open PySem PySem.Spec PyProof.Rows L2 Dp
noncomputable abbrev R8(N:Net)(t b:Int)(many:Nat):D:=.dic [.inr "net",.inr "times",.inr "many"] [C3 N,Bn t b,.int (many:Int)]
noncomputable def Zr:Option (List Int)->D
 | none=>.non
 | some p=>.tup (p.map .int)
noncomputable def E6:W2:=λss n P=>∃(N:Net) (t b:Int) (many:Nat) (gone:List A0) (F:Str->Str->Option Int) (u:A0),ss=[.fd,.sh (R8 N t b many),.sh (Me N.ps F),.sh (Ag u)]/\okN N/\Cp t b/\Rx (C_ N gone) F/\u∈N.ts/\3<=n/\∀(o:Option (List Int)) (n':Nat),(match o with | some p=>RD N p/\Rh N t b gone u p=true | none=>∃d,Wk (C_ N gone) u.a u.b d/\d*b<=u.len*t)->n - 3<=n'->P (Zr o) n'
noncomputable def EW:Aj:=(Ap (YH 4 5 (AE (Am BQ (Am FA (AG 1) (wC (D.str "net"))) (wC (D.int 0))) (AE (Am FA (AG 1) (wC (D.str "times"))) AW)))
 (Ap (A5 6 (Am A4 (Am A4 (Am (Rj Rz λi j=>D.int (i / j)) (Am Dt (Am BQ (AG 3) (wC (D.int 2))) (Am BQ (AG 5) (wC (D.int 0)))) (Am BQ (AG 5) (wC (D.int 1)))) (wC (D.int 1))) (Am Dt (Ad Bj (AD (Ay 0) (AD (AN (wC (D.int 2))) Af))) (wC (D.int 7)))))
 (Ap (A5 7 (Ad Bj (AD (Ay 0) (AD (AN (wC (D.int 2))) Af))))
 (Ap (A5 8 (Ad Bj (AD (Ay 0) (AD (AN (wC (D.int 3))) Af))))
 (Ap (A5 9 (Am BQ (AG 2) (NE (AG 4) (AE (Am BQ (AG 3) (AG 7)) AW))))
 (Ap (A5 10 (B6 [some 8,some 6,none] (BZ (AG 9)) (A1 2) FK (Am A4 (AG 0) (YE (As (Am (OB false) (AG 2) (wC D.non))) (AG 1) (Cj OA (AE (AG 2) (AE (AG 1) AW)))))))
 (Ap (A5 11 (Am CP (Am BQ (AG 10) (NE (AG 4) (AE (Am BQ (AG 3) (Am CP (wC (D.int 1)) (AG 7))) AW))) (AG 8)))
 (A2 (YE (As (Am (f2 λi j=>D.bl (decide (j<i))) (Am Dt (AG 11) (Am BQ (AG 5) (wC (D.int 1)))) (Am Dt (Am BQ (AG 3) (wC (D.int 2))) (Am BQ (AG 5) (wC (D.int 0)))))) (Cj DA (AE (AG 10) AW)) (wC D.non))))))))))
noncomputable def W1(m more:Int):D->D
 | .int v=>.int (more+if m<v then m else v)
 | _=>.int (more+m)
theorem W0(N:Net)(F:Str->Str->Option Int)(x:Str)(m more:Int):(N.ps.map λy=>od (F x y)).map (W1 m more)=(S7 N F x m more).map .int:=by
 unfold S7
 rw [bS,bS]
 refine bX λy _=>?_
 show W1 m more (od (F x y))=.int (more+B5 m (F x y))
 cases F x y with
 | none=>rfl
 | some v =>
  show D.int (more+if m<v then m else v)=.int (more+if v<m then v else m)
  congr 2
  split <;> split <;> omega
theorem JC{ss:List Slot}{n:Nat}{Pd:D->Nat->Prop}(h:E6 ss n Pd):EW (EE Pd) n (ss++Re 8 .no):=by
 obtain⟨N,t,b,many,gone,F,u,rfl,okn,tm,hF,hu,hn,q⟩:=h
 have ok:=okn.1
 have l25:=okn.2.1
 have tm':=tm
 obtain⟨b1,b2,t1,t2⟩:=tm'
 obtain⟨ma,mb,_,u1,u2⟩:=ok.tin u hu
 unfold EW
 refine⟨_,_,_,_,rfl,rfl,IG _ _ _,_,AR (j:=0) rfl,_,_,_,_,rfl,rfl,Jm _ _ _,_,_,rfl,?_⟩
 refine⟨_,AR (j:=2) rfl,_,AR (j:=0) rfl,UR t1 t2,_,AR (j:=1) rfl,⟨by omega,by omega⟩,2,rfl,by decide,by decide,by omega,λr r0 r1=>⟨.inr (by constructor <;> decide),?_⟩⟩
 refine⟨2,rfl,by decide,by decide,by omega,λside s0 s1=>?_⟩
 refine⟨3,rfl,by decide,by decide,by omega,λmore m0 m1=>?_⟩
 obtain⟨x,y,hxy,hx,hy⟩:∃x y,((x=u.a/\y=u.b)\/(x=u.b/\y=u.a))/\atI [D.str u.a,.str u.b,.int u.len] side=some (.str x)/\atI [D.str u.a,.str u.b,.int u.len] (1 - side)=some (.str y):=by
  rcases (by omega:side=0\/side=1) with rfl | rfl
  ·exact⟨u.a,u.b,.inl ⟨rfl,rfl⟩,rfl,rfl⟩
  ·exact⟨u.b,u.a,.inr ⟨rfl,rfl⟩,rfl,rfl⟩
 have mx:x∈N.ps:=by rcases hxy with ⟨rfl,_⟩ | ⟨rfl,_⟩ <;> assumption
 have my:y∈N.ps:=by rcases hxy with ⟨_,rfl⟩ | ⟨_,rfl⟩ <;> assumption
 obtain⟨ix,ex,_⟩:=Ii mx
 obtain⟨iy,ey,_⟩:=Ii my
 obtain⟨a1,a2,a3,a4⟩:=Hf ok ex
 obtain⟨c1,c2,c3,c4⟩:=Hf ok ey
 have e0:0<=u.len*t / b:=Int.ediv_nonneg (Int.mul_nonneg (by omega) (by omega)) (by omega)
 have e1:u.len*t / b<=u.len*t:=Int.ediv_le_self _ (Int.mul_nonneg (by omega) (by omega))
 have e2:u.len*t<=1000000*1000000:=Int.mul_le_mul u2 t2 (by omega) (by omega)
 have e3:u.len*t<(u.len*t / b+1)*b:=by
  have:=Int.lt_ediv_add_one_mul_self (u.len*t) (show 0<b by omega)
  exact this
 generalize hm:u.len*t / b+1+r*7=m
 have hmb:u.len*t<m*b:=by
  have:(u.len*t / b+1)*b<=m*b:=fL (by omega) (by omega)
  omega
 obtain⟨p1,p2,p3⟩:=VE okn hF tm hu hxy (m:=m) (more:=more) (by omega) (by omega) hmb m0 (by omega)
 refine⟨⟨_,rfl⟩,_,hx,_,_,ix,rfl,rfl,a1,a2,a3,a4,_,Md ex,?_⟩
 refine⟨by show (N.ps.map λy=>od (F x y)).length<=10000000; rw [Db]; omega,?_⟩
 refine Bc (W1 m more) (λρ=>∃s,ρ=[.sh (.int more),.sh (.int m),s]) _ _ _ _ ?_ ⟨_,rfl⟩ ?_
 ·rintro d hd ρ n' nx ⟨s,rfl⟩ hnx
  obtain⟨z,hz,rfl⟩:=UF.mp hd
  cases e:F x z with
  | none =>
   have k:=hnx [.sh (.int more),.sh (.int m),.sh .non] ⟨_,rfl⟩
   rw [e] at k
   exact⟨rfl,k⟩
  | some v =>
   have k:=hnx [.sh (.int more),.sh (.int m),.sh (.int v)] ⟨_,rfl⟩
   rw [e] at k
   exact⟨rfl,k⟩
 ·rw [bE,W0]
  have eat:atI ((S7 N F x m more).map D.int) (iy:Int)=some (.int (more+B5 m (F x y))):=AR (by unfold S7; rw [Op,Op,ey]; rfl)
  refine⟨⟨_,rfl⟩,_,hy,_,_,iy,rfl,rfl,c1,c2,c3,c4,_,eat,?_⟩
  refine⟨_,AR (j:=1) rfl,UR b1 b2,_,AR (j:=2) rfl,_,AR (j:=0) rfl,UR t1 t2,?_⟩
  show if decide (u.len*t<(more+B5 m (F x y) - more)*b)=true then _ else _
  rw [show more+B5 m (F x y) - more=B5 m (F x y) by omega]
  by_cases c:u.len*t<B5 m (F x y)*b
  ·rw [decide_eq_true c]
   rw [decide_eq_true c] at p2
   exact BX (q (some (S7 N F x m more)) (n - 1 - 1 - 1) ⟨p1,p2⟩ (by omega))
  ·rw [decide_eq_false c]
   exact BJ (q none (n - 1 - 1 - 1) (p3 c) (by omega))
noncomputable def KJ(N:Net)(t b:Int)(gone:List A0)(u:A0):Prop:=∃d,Wk (C_ N gone) u.a u.b d/\d*b<=u.len*t
noncomputable def Zs:Option (A0×List Int)->D
 | none=>.non
 | some (u,p)=>(Ca.fa u p).D
noncomputable def IF:W2:=λss n P=>∃(N:Net) (t b:Int) (many:Nat) (gone:List A0),ss=[.fd,.sh (R8 N t b many),.sh (D6 gone)]/\okN N/\Cp t b/\FN N gone/\gone≠[]/\1+3*gone.length<=n/\∀(o:Option (A0×List Int)) (n':Nat),(match o with | some (u,p)=>u∈gone/\RD N p/\Rh N t b gone u p=true | none=>∀u∈gone,KJ N t b gone u)->n - (1+3*gone.length)<=n'->P (Zs o) n'
noncomputable def SN:Aj:=(Ap (A5 7 (Ad E6 (AD (Ay 0) (AD (AN (AG 1)) (AD (AN (AG 4)) (AD (AN (AG 6)) Af))))))
 (Bl (As (Am (OB true) (AG 7) (wC D.non))) (A2 (BH (AE (wC (D.str "far")) (AE (AG 6) (AE (AG 7) AW))))) BA))
noncomputable def Df:Aj:=(Ap (A5 3 (Am FA (AG 1) (wC (D.str "net"))))
 (Ap (A5 4 (Ad OX (AD (AN (Am BQ (AG 3) (wC (D.int 0)))) (AD (AN (B6 [some 2,none] (BZ (Am BQ (AG 3) (wC (D.int 1)))) (A1 1) (As (Am (JI true) (AG 1) (AG 0))) (AG 1))) Af))))
 (Ap (A5 5 (Ad Bj (AD (Ay 0) (AD (AN (Cj DB (AE (AG 2) AW))) Af))))
 (Ap (Gr (BZ (Am A4 (OZ Fu (AG 2) (C1 (AG 5)) Bk) (OZ Fu (AG 2) Bk (C1 (AG 5))))) (A1 6) SN)
 (A2 (wC D.non))))))
theorem NV{N:Net}(okn:okN N){t b:Int}(tm:Cp t b){many:Nat}{gone:List A0}(hg:FN N gone){F:Str->Str->Option Int}(hF:Rx (C_ N gone) F){D2:E2}{k:Nat}{s2 s3 s5:Slot}(hs:∀u p n',u∈gone->RD N p->Rh N t b gone u p=true->k<=n'->D2.rt (Ca.fa u p).D n')(hn:∀n' s6 s7,(∀u∈gone,KJ N t b gone u)->k<=n'->D2.nx n' [.fd,.sh (R8 N t b many),s2,s3,.sh (Me N.ps F),s5,s6,s7]) :
  ∀(rest:List A0) (m:Nat) (s6 s7:Slot),(∀u∈rest,u∈gone)->(∀u∈gone,u∈rest\/KJ N t b gone u)->k+3*rest.length<=m->B8 (A1 6) SN D2 (rest.map Ag) m [.fd,.sh (R8 N t b many),s2,s3,.sh (Me N.ps F),s5,s6,s7]
 | [],m,s6,s7,_,h2,h3=>hn m s6 s7 (λu hu=>(h2 u hu).elim (λz=>absurd z a9) id) h3
 | u::rest,m,s6,s7,h1,h2,h3=>by
  have hu:=h1 u On
  rw [Tk] at h3
  unfold SN
  refine⟨N,t,b,many,gone,F,u,rfl,okn,tm,hF,hg.1 u hu,by omega,λo n' ho hn'=>?_⟩
  cases o with
  | some p=>exact⟨rfl,z3,hs u p n' hu ho.1 ho.2 (by omega)⟩
  | none =>
   refine⟨rfl,NV okn tm hg hF hs hn rest n' _ _ (λv hv=>h1 v (TM _ hv)) (λv hv=>?_) (by omega)⟩
   rcases h2 v hv with z | z
   ·rcases aq.mp z with rfl | z
    ·exact .inr ho
    ·exact .inl z
   ·exact .inr z
theorem K1{ss:List Slot}{n:Nat}{Pd:D->Nat->Prop}(h:IF ss n Pd):Df (EE Pd) n (ss++Re 5 .no):=by
 obtain⟨N,t,b,many,gone,rfl,okn,tm,hg,hne,hn,q⟩:=h
 have ok:=okn.1
 have l25:=okn.2.1
 have l60:=okn.2.2
 have szl:=PySem.sizeLine_eq
 unfold Df
 refine⟨_,_,_,_,rfl,rfl,IG _ _ _,_,AR (j:=0) rfl,_,AR (j:=1) rfl,by show (N.ts.map Ag).length<=10000000; rw [Db]; omega,?_⟩
 refine Fq (λd=>!((gone.map Ag).any λy=>Bw y d)) id (λρ=>∃s,ρ=[.sh (D6 gone),s]) _ _ _ _ ?_ ⟨_,rfl⟩ ?_
 ·rintro d hd ρ m nx sk ⟨s,rfl⟩ h1 h2
  obtain⟨x,hx,rfl⟩:=UF.mp hd
  refine⟨Cf ok hx,EH ok hg,_,rfl,?_⟩
  exact Dq (λc=>h1 _ ⟨_,rfl⟩ c) λc=>h2 _ ⟨_,rfl⟩ (b8.mpr c)
 ·rw [bE,fV]
  have e:(N.ts.map Ag).filter (λd=>!((gone.map Ag).any λy=>Bw y d))=(C_ N gone).ts.map Ag:=by
   rw [gU]
   congr 1
   refine f8 λx _=>?_
   show (!((gone.map Ag).any λy=>Bw y (Ag x)))=decide (¬x∈gone)
   rw [DD,decide_not]
  rw [e]
  refine⟨C_ N gone,_,rfl,.inl rfl,MO ok gone,by show N.ps.length<=1000; omega,λF hF=>?_⟩
  have l0:0<gone.length:=List.length_pos_iff.mpr hne
  have l1:=hg.2
  refine⟨_,_,rfl,rfl,_,rfl,by rw [Db]; omega,by rw [Db]; omega,by omega,λa a0 a1=>?_⟩
  rw [Db] at a1
  obtain⟨j,rfl⟩:=gP a0
  have hj:j<gone.length:=by omega
  have hd:Dp.cutD gone (some (j:Int)) none=gone.drop j:=Xu gone hj
  have ht:Dp.cutD gone none (some (j:Int))=gone.take j:=by
   unfold Dp.cutD
   rw [HT.sIx_none,HT.sIx_nat,cj (by omega),eK,eE]
  refine⟨by rw [Dv,Dv,Db,Db,hd,ht,cY,cN]; omega,?_⟩
  rw [Dv,Dv,hd,ht,← cA]
  have mem:∀u,u∈gone↔u∈gone.drop j++gone.take j:=λu=>by
   conv=>lhs; rw [← cb j gone]
   rw [bD,bD]
   exact Or.comm
  refine NV okn tm hg hF (k:=n - (1+3*gone.length)) (λu p n' hu hp hf hk=>q (some (u,p)) n' ⟨hu,hp,hf⟩ hk) (λn' s6 s7 hn' hk=>q none n' hn' hk) _ _ _ _ (λu hu=>(mem u).mpr hu) (λu hu=>.inl ((mem u).mp hu)) (by rw [Sc,cY,cN]; omega)
noncomputable def Ja(l:Nat):Nat:=40*2 ^ (l+1) - 40
theorem OR(l:Nat):Ja (l+1)=2*Ja l+40:=by
 unfold Ja
 have:=cV (l+1)
 rw [be]
 omega
noncomputable def CB(j:Nat):W2:=λss n P=>∃(N:Net) (t b:Int) (many:Nat) (kept gone left:List A0),ss=[.fd,.sh (R8 N t b many),.sh (D6 kept),.sh (D6 gone),.sh (D6 left)]/\okN N/\Cp t b/\N.ts.length<=6/\(kept++gone++left).Perm N.ts/\left.length<=j/\Ja left.length<=n/\∀(c:Ca) (n':Nat),Made N t b many kept gone left c->LB N c->n - Ja left.length<=n'->P c.D n'
noncomputable def Jp(Wr:W2):Aj:=(Ap (Bl (As (Am PP (AG 4) (BM AW))) (A2 (BH (AE (wC (D.str "enough")) AW))) BA)
 (Ap (A5 6 (Ad Bj (AD (Ay 0) (AD (AN (Cj DB (AE (AG 4) AW))) Af))))
 (Ap (A5 7 (Am BQ (AG 4) (AG 6)))
 (Ap (A5 8 (Am A4 (OZ Fu (AG 4) Bk (C1 (AG 6))) (OZ Fu (AG 4) (C1 (Am A4 (AG 6) (wC (D.int 1)))) Bk)))
 (Ap (A5 9 (Ad Wr (AD (Ay 0) (AD (AN (AG 1)) (AD (AN (Am A4 (AG 2) (BM (AE (AG 7) AW)))) (AD (AN (AG 3)) (AD (AN (AG 8)) Af)))))))
 (A2 (BH (AE (wC (D.str "split")) (AE (AG 7) (AE (AG 9) (AE (Ad Wr (AD (Ay 0) (AD (AN (AG 1)) (AD (AN (AG 2)) (AD (AN (Am A4 (AG 3) (BM (AE (AG 7) AW)))) (AD (AN (AG 8)) Af)))))) AW)))))))))))
noncomputable def L0:Aj:=(Ap (Bl (As (Am (f2 λi j=>D.bl (decide (j<=i))) (Cj DB (AE (AG 2) AW)) (Am FA (AG 1) (wC (D.str "many"))))) (A2 (BH (AE (wC (D.str "enough")) AW))) BA)
 (Ap (A5 5 (wC D.non))
 (Ap (Bl (As (Am Mi (AG 3) (BM AW))) (A5 5 (Ad IF (AD (Ay 0) (AD (AN (AG 1)) (AD (AN (AG 3)) Af))))) BA)
 (Bl (As (Am (OB true) (AG 5) (wC D.non))) (A2 (AG 5)) BA))))
noncomputable def F6(Wr:W2):Aj:=(Ap (Bl (EM (As (Am PP (AG 4) (BM AW))) (As (Am (f2 λi j=>D.bl (decide (j<i))) (Ad Bj (AD (Ay 0) (AD (AN (wC (D.int 8))) Af))) (wC (D.int 0))))) L0 BA)
 (Jp Wr))
noncomputable def F_:Aj:=(A2 (Ad (CB 7) (AD (Ay 0) (AD (AN (Od 1 2 3 "net" "times" "many")) (AD (AN (BM AW)) (AD (AN (BM AW)) (AD (AN (Cj Kb (AE (Am BQ (AG 1) (wC (D.int 1))) AW))) Af)))))))
noncomputable def Jj:W2:=λss n P=>∃(N:Net) (t b:Int) (many:Nat),ss=[.fd,.sh (C3 N),.sh (Bn t b),.sh (.int (many:Int))]/\okN N/\Cp t b/\N.ts.length<=6/\Ja 6<=n/\∀(c:Ca) (n':Nat),Made N t b many [] [] N.ts c->LB N c->n - Ja 6<=n'->P c.D n'
theorem Pu{N:Net}{kept gone left:List A0}(hp:(kept++gone++left).Perm N.ts)(h6:N.ts.length<=6):FN N kept/\FN N gone/\FN N left/\kept.length+gone.length+left.length<=6:=by
 have hl:=hp.length_eq
 rw [Sc,Sc] at hl
 exact⟨⟨λu hu=>hp.subset (cH _ (cH _ hu)),by omega⟩,⟨λu hu=>hp.subset (cH _ (bC _ hu)),by omega⟩,⟨λu hu=>hp.subset (bC _ hu),by omega⟩,by omega⟩
theorem Kc(l:List D):Bw (.lst l) (.lst [])=l.isEmpty:=by
 cases l <;> rfl
theorem IQ:B9 (.lst []):=⟨rfl,rfl,by decide⟩
theorem Q1{Wr:W2}{j:Nat}(hrec:∀ss n P,j≠0->CB (j - 1) ss n P->Wr ss n P){Pd:D->Nat->Prop}{N:Net}{t b:Int}{many:Nat}{kept gone left:List A0}(okn:okN N)(tm:Cp t b)(h6:N.ts.length<=6)(hp:(kept++gone++left).Perm N.ts)(hj:left.length<=j){m:Nat}(hm:Ja left.length<=m+30)(hl0:left=[]->∀u∈gone,KJ N t b gone u)
  (q:∀(c:Ca) (n':Nat),Made N t b many kept gone left c->LB N c->m+30 - Ja left.length<=n'->Pd c.D n') (s5:Slot):Jp Wr (EE Pd) m [.fd,.sh (R8 N t b many),.sh (D6 kept),.sh (D6 gone),.sh (D6 left),s5,.no,.no,.no,.no]:=by
 have ok:=okn.1
 have szl:=PySem.sizeLine_eq
 obtain⟨sk,sg,sl,l6⟩:=Pu hp h6
 unfold Jp
 refine⟨z0,EH ok sl,IQ,?_⟩
 cases left with
 | nil =>
  refine⟨z1,q .en m (.no (hl0 rfl)) trivial ?_⟩
  show m+30 - Ja 0<=m
  rw [show Ja 0=40 from rfl]
  omega
 | cons v r =>
  obtain⟨left,hleft⟩:∃left,v::r=left:=⟨_,rfl⟩
  have hlen:left.length=r.length+1:=by rw [← hleft]; rfl
  rw [hleft] at hp hj hm q sl l6
  rw [Kc]
  rw [show ((v::r).map Ag).isEmpty=false from rfl,hleft]
  have bs:Ja left.length=2*Ja r.length+40:=by rw [hlen]; exact OR _
  rw [bs] at hm q
  refine BJ ⟨_,_,rfl,rfl,_,rfl,by rw [Db]; omega,by rw [Db]; omega,by omega,λa a0 a1=>?_⟩
  rw [Db] at a1
  obtain⟨i,rfl⟩:=gP a0
  have hi:i<left.length:=by omega
  have hu:left[i]∈left:=cB hi
  have e1:(left.map Ag)[i]?=some (Ag left[i]):=by rw [Op,FM hi]; rfl
  generalize hux:left[i]=u at hu e1
  refine⟨_,AR e1,?_⟩
  have ht:Dp.cutD left none (some (i:Int))=left.take i:=by
   unfold Dp.cutD
   rw [HT.sIx_none,HT.sIx_nat,cj (by omega),eK,eE]
  have hd:Dp.cutD left (some ((i:Int)+1)) none=left.drop (i+1):=by
   unfold Dp.cutD
   rw [show (i:Int)+1=((i+1:Nat):Int) by omega,HT.sIx_none,HT.sIx_nat,cj (by omega)]
   exact cx (by rw [cY]; exact No _)
  refine⟨by rw [Dv,Dv,Db,Db,ht,hd,cN,cY]; omega,?_⟩
  rw [Dv,Dv,ht,hd,← cA]
  have hperm:left.Perm (u::(left.take i++left.drop (i+1))):=by
   have:left=left.take i++u::left.drop (i+1):=by
    conv=>lhs; rw [← cb i left,cC hi,hux]
   conv=>lhs; rw [this]
   exact List.perm_middle
  generalize left.take i++left.drop (i+1)=rest at hperm
  have hrl:rest.length=r.length:=by have:=hperm.length_eq; rw [Tk] at this; omega
  have huN:u∈N.ts:=hp.subset (bC _ hu)
  have p1:(kept++[u]++gone++rest).Perm N.ts:=by
   refine fM ?_ hp
   refine fM ?_ (e_ _ hperm.symm)
   simp only [bw,gq]
   exact e_ _ (List.perm_middle.symm)
  have p2:(kept++(gone++[u])++rest).Perm N.ts:=by
   refine fM ?_ hp
   refine fM ?_ (e_ _ hperm.symm)
   simp only [bw,gq]
   exact List.Perm.refl _
  have ek:kept.map Ag++[Ag u]=(kept++[u]).map Ag:=by rw [cA]; rfl
  have eg:gone.map Ag++[Ag u]=(gone++[u]).map Ag:=by rw [cA]; rfl
  refine⟨z1,by show (kept.map Ag).length+1<=_; rw [Db]; omega,?_⟩
  rw [ek]
  refine hrec _ _ _ (by omega) ⟨N,t,b,many,kept++[u],gone,rest,rfl,okn,tm,h6,p1,by omega,by rw [hrl]; omega,λc1 n1 mc1 oc1 hn1=>?_⟩
  refine⟨z1,by show (gone.map Ag).length+1<=_; rw [Db]; omega,?_⟩
  rw [eg]
  rw [hrl] at hn1
  refine hrec _ _ _ (by omega) ⟨N,t,b,many,kept,gone++[u],rest,rfl,okn,tm,h6,p2,by omega,by rw [hrl]; omega,λc2 n2 mc2 oc2 hn2=>?_⟩
  rw [hrl] at hn2
  exact⟨(by decide:4<=sizeLine),q (.sp u c1 c2) n2 (.sp hperm mc1 mc2) ⟨huN,oc1,oc2⟩ (by omega)⟩
theorem LP{Wr:W2}{j:Nat}{ss:List Slot}{n:Nat}{Pd:D->Nat->Prop}(hrec:∀ss n P,j≠0->CB (j - 1) ss n P->Wr ss n P)(h:CB j ss n Pd):F6 Wr (EE Pd) n (ss++Re 5 .no):=by
 obtain⟨N,t,b,many,kept,gone,left,rfl,okn,tm,h6,hp,hj,hn,q⟩:=h
 have ok:=okn.1
 obtain⟨sk,sg,sl,l6⟩:=Pu hp h6
 have b40:40<=Ja left.length:=by
  cases left.length with
  | zero=>exact No _
  | succ k=>rw [OR]; omega
 have fin:∀(m:Nat),n - 21<=m->(left=[]->∀u∈gone,KJ N t b gone u)->∀s5,Jp Wr (EE Pd) m [.fd,.sh (R8 N t b many),.sh (D6 kept),.sh (D6 gone),.sh (D6 left),s5,.no,.no,.no,.no]:=λm h1 h3 s5=>Q1 hrec okn tm h6 hp hj (by omega) h3 (λc n' mc oc hn'=>q c n' mc oc (by omega)) s5
 have first:∀m,n - 1<=m->L0 { EE Pd with nx:=Jp Wr (EE Pd) } m [.fd,.sh (R8 N t b many),.sh (D6 kept),.sh (D6 gone),.sh (D6 left),.no,.no,.no,.no,.no]:=λm hm=>by
  unfold L0
  refine⟨_,_,rfl,rfl,_,_,_,_,rfl,rfl,Pk _ _ _,?_⟩
  show if decide ((many:Int)<=(((kept.map Ag).length:Nat):Int))=true then _ else _
  by_cases c:many<=kept.length
  ·rw [decide_eq_true (by rw [Db]; omega)]
   exact BX ⟨z1,q .en m (.en c) trivial (by omega)⟩
  ·rw [decide_eq_false (by rw [Db]; omega)]
   refine BJ ⟨z0,EH ok sg,IQ,?_⟩
   rw [Kc]
   by_cases hg:gone=[]
   ·rw [show (gone.map Ag).isEmpty=true by rw [hg]; rfl]
    exact⟨rfl,fin m (by omega) (λ_ u hu=>by rw [hg] at hu; cases hu) _⟩
   ·rw [show (gone.map Ag).isEmpty=false by
     cases gone with
     | nil=>exact absurd rfl hg
     | cons _ _=>rfl]
    refine⟨N,t,b,many,gone,rfl,okn,tm,sg,hg,by omega,λo n' ho hn'=>?_⟩
    cases o with
    | some w =>
     obtain⟨u,p⟩:=w
     exact⟨rfl,q (.fa u p) n' (.fa ho.1 ho.2.2) ⟨sg.1 u ho.1,ho.2.1⟩ (by omega)⟩
    | none=>exact⟨rfl,fin n' (by omega) (λ_=>ho) _⟩
 unfold F6
 refine⟨z0,EH ok sl,IQ,?_⟩
 rw [Kc]
 cases hl:(left.map Ag).isEmpty with
 | true=>exact first n (by omega)
 | false =>
  refine BJ ⟨8,rfl,by decide,by decide,by omega,λr r0 r1=>?_⟩
  show if decide ((0:Int)<r)=true then _ else _
  refine Dq (λc=>first (n - 1) (No _)) λc=>fin (n - 1) (by omega) (λe=>by rw [e] at hl; cases hl) _
theorem Q8{ss:List Slot}{n:Nat}{Pd:D->Nat->Prop}(h:Jj ss n Pd):F_ (EE Pd) n (ss++Re 0 .no):=by
 obtain⟨N,t,b,many,rfl,okn,tm,h6,hn,q⟩:=h
 have mono:Ja N.ts.length<=Ja 6:=by
  unfold Ja
  have:=cR (show 0<2 by decide) (show N.ts.length+1<=7 by omega)
  omega
 unfold F_
 refine⟨_,_,_,rfl,rfl,rfl,z0,z0,_,AR (j:=1) rfl,N,t,b,many,[],[],N.ts,rfl,okn,tm,h6,List.Perm.refl _,by omega,by omega,λc n' mc oc hn'=>q c n' mc oc (by omega)⟩
noncomputable def Eb:W2:=λss n P=>ss=[.fd]/\1<=n/\∀t b:Int,1<=b->b<=t->t<=1000000->P (Bn t b) (n - 1)
noncomputable def ID:W2:=λss n P=>∃(N:Net) (t b:Int) (S:List A0),ss=[.sh (C3 N),.sh (Bn t b),.sh (D6 S)]/\okN N/\Cp t b/\S.Sublist N.ts/\∀r:Bool,(r=true↔We N t b S)->P (.bl r) n
noncomputable def FD:Aj:=(Ap (A5 1 (BM (AE (BH (AE (wC (D.int 1)) (AE (wC (D.int 1)) AW))) (AE (BH (AE (wC (D.int 3)) (AE (wC (D.int 2)) AW))) (AE (BH (AE (wC (D.int 2)) (AE (wC (D.int 1)) AW))) (AE (BH (AE (wC (D.int 3)) (AE (wC (D.int 1)) AW))) (AE (BH (AE (wC (D.int 5)) (AE (wC (D.int 2)) AW))) (AE (BH (AE (wC (D.int 1000)) (AE (wC (D.int 999)) AW))) (AE (BH (AE (Am (Rj LD λi j=>D.int (i ^ j.toNat)) (wC (D.int 10)) (wC (D.int 6))) (AE (wC (D.int 1)) AW))) (AE (BH (AE (wC (D.int 2)) (AE (wC (D.int 2)) AW))) AW))))))))))
 (A2 (Am BQ (AG 1) (Ad Bj (AD (Ay 0) (AD (AN (wC (D.int 8))) Af))))))
noncomputable def FH:Aj:=(Ap (A5 3 (Ad OX (AD (AN (Am BQ (AG 0) (wC (D.int 0)))) (AD (AN (AG 2)) Af))))
 (Ap (Gr (BZ (Am BQ (AG 0) (wC (D.int 1)))) (Rq 3 (CF (A1 4) (CF (A1 5) (CF (A1 6) Ll)))) (Ap (A5 7 (Am BQ (Am BQ (AG 3) (NE (Am BQ (AG 0) (wC (D.int 0))) (AE (AG 4) AW))) (NE (Am BQ (AG 0) (wC (D.int 0))) (AE (AG 5) AW))))
 (Bl (EM (As (Am (OB false) (AG 7) (wC D.non))) (As (Am (f2 λi j=>D.bl (decide (j<i))) (Am Dt (AG 7) (Am BQ (AG 1) (wC (D.int 1)))) (Am Dt (AG 6) (Am BQ (AG 1) (wC (D.int 0))))))) (A2 (wC (D.bl false))) BA)))
 (A2 (wC (D.bl true)))))
theorem Oz{ss:List Slot}{n:Nat}{Pd:D->Nat->Prop}(h:Eb ss n Pd):FD (EE Pd) n (ss++Re 1 .no):=by
 obtain⟨rfl,hn,q⟩:=h
 unfold FD
 refine⟨z2,z2,z2,z2,z2,z2,⟨by decide,by decide,by decide⟩,z2,z2,(by decide:8<=sizeLine),?_⟩
 refine⟨8,rfl,by decide,by decide,hn,λr r0 r1=>?_⟩
 rcases (by omega:r=0\/r=1\/r=2\/r=3\/r=4\/r=5\/r=6\/r=7) with rfl | rfl | rfl | rfl | rfl | rfl | rfl | rfl
 all_goals exact⟨_,rfl,q _ _ (by decide) (by decide) (by decide)⟩
theorem O3{ss:List Slot}{n:Nat}{Pd:D->Nat->Prop}(h:ID ss n Pd):FH (EE Pd) n (ss++Re 5 .no):=by
 obtain⟨N,t,b,S,rfl,okn,⟨b1,b2,t1,t2⟩,hs,p⟩:=h
 have ok:=okn.1
 have lp:=okn.2.1
 have ok1:=L1 ok hs
 unfold FH
 refine⟨_,AR (j:=0) rfl,⟨N.ps,S⟩,_,rfl,.inl rfl,ok1,by show N.ps.length<=1000; omega,λF hF=>?_⟩
 refine⟨_,AR (j:=1) rfl,?_⟩
 refine B0 (all:=N.ts.map Ag) (λpre m ρ=>m=n/\(∀(i:Nat) u,i<pre.length->N.ts[i]?=some u->∃d,Wk ⟨N.ps,S⟩ u.a u.b d/\d*b<=u.len*t)/\∃s4 s5 s6 s7,ρ=[.sh (C3 N),.sh (Bn t b),.sh (D6 S),.sh (Me N.ps F),s4,s5,s6,s7]) ?_ ?_ _ [] _ _ rfl ⟨rfl,λi u hi=>absurd hi (Nat.not_lt_zero _),_,_,_,_,rfl⟩
 ·rintro m ρ ⟨rfl,hall,s4,s5,s6,s7,rfl⟩
  refine p true ⟨λ_ u hu=>?_,λ_=>rfl⟩
  obtain⟨i,hi⟩:=ce.mp hu
  exact hall i u (by rw [Db]; exact(au.mp hi).1) hi
 ·rintro pre d post m ρ nx hall ⟨rfl,hpre,s4,s5,s6,s7,rfl⟩ hnx
  obtain⟨u,hu,rfl⟩:=X0 hall
  rw [Sc,aw] at hnx
  have hum:=bY hu
  obtain⟨ha,hb,_⟩:=ok.tin u hum
  obtain⟨ia,ea,la⟩:=Ii ha
  obtain⟨ib,eb,lb⟩:=Ii hb
  obtain⟨a1,a2,a3,a4⟩:=Hf ok ea
  obtain⟨b1',b2',b3',b4'⟩:=Hf ok eb
  refine⟨rfl,rfl,_,AR (j:=0) rfl,⟨_,rfl⟩,_,_,ia,rfl,rfl,a1,a2,a3,a4,_,Md ea,_,AR (j:=0) rfl,⟨_,rfl⟩,_,_,ib,rfl,rfl,b1',b2',b3',b4',_,XS eb,?_⟩
  have fin:=fun(h:∃d,Wk ⟨N.ps,S⟩ u.a u.b d/\d*b<=u.len*t)=>hnx m [.sh (C3 N),.sh (Bn t b),.sh (D6 S),.sh (Me N.ps F),.sh (.str u.a),.sh (.str u.b),.sh (.int u.len),.sh (od (F u.a u.b))] ⟨rfl,λi v hi hv=>by
   rcases (show i<pre.length\/i=pre.length by omega) with z | z
   ·exact hpre i v z hv
   ·rw [z,hu] at hv
    cases hv
    exact h,_,_,_,_,rfl⟩
  cases e:F u.a u.b with
  | none =>
   refine⟨rfl,?_⟩
   refine p false ⟨(λz=>by cases z),λk=>?_⟩
   obtain⟨d,w,_⟩:=k u hum
   exact absurd e ((hF u.a ha u.b hb).2 d w)
  | some d =>
   rw [e] at fin
   have lst:=(hF u.a ha u.b hb).1 d e
   refine⟨rfl,?_⟩
   refine⟨_,AR (j:=1) rfl,UR b1 b2,_,AR (j:=0) rfl,UR t1 t2,?_⟩
   show if decide (u.len*t<d*b)=true then _ else _
   by_cases c:u.len*t<d*b
   ·rw [decide_eq_true c]
    refine BX (p false ⟨(λz=>by cases z),λk=>?_⟩)
    obtain⟨d',w,hd'⟩:=k u hum
    have:=fL (lst.2 d' w) (show 0<=b by omega)
    omega
   ·rw [decide_eq_false c]
    exact BJ (fin ⟨d,lst.1,by omega⟩)
noncomputable def Se(xs:List Str)(k:Nat):A0:=⟨xs.getD 0 "",xs.getD (k+1) "",1+(1+(k:Int)) % 3⟩
noncomputable def BO(xs:List Str)(m:Nat):Net:=⟨xs,(bB m).map (Se xs)⟩
noncomputable def R0(k:Int):D->D
 | .int j=>.int (10 ^ (13:Int).toNat*(if (j==k)=true then 1 else 0))
 | d=>d
noncomputable def W_(m:Nat):D:=.tup ((By 0 (m+1)).map (R0 1))
noncomputable def IA:W2:=λss n P=>∃m:Nat,ss=[.fd,.sh (.int (m:Int))]/\1<=m/\m<=16/\2<=n/\∀(xs:List Str) (rows:List D),xs.length=m+1->(BO xs m).Ok->rows[0]?=some (W_ m)->P (.tup [C3 (BO xs m),.lst rows]) (n - 2)
noncomputable def WB:Aj:=(Ut 4 "list" T6 (AE (Cj DA (AE (B6 [some 5,none] (IZ (AE (Am A4 (AG 1) (wC (D.int 1))) AW)) (A1 1) FK (Am Dt (Am (Rj LD λi j=>D.int (i ^ j.toNat)) (wC (D.int 10)) (wC (D.int 13))) (Cj T4 (AE (Am (Ku false) (AG 1) (AG 0)) AW)))) AW)) AW))
noncomputable def F4:Aj:=(Ap (A5 2 (Ad GI (AD (Ay 0) (AD (AN (Am A4 (AG 1) (wC (D.int 1)))) Af))))
 (Ap (A5 3 (Cj DA (AE (B6 [some 2,none] (NF (AE (wC (D.int 1)) (AE (Am A4 (AG 1) (wC (D.int 1))) AW))) (A1 1) FK (BH (AE (Am BQ (AG 0) (wC (D.int 0))) (AE (Am BQ (AG 0) (AG 1)) (AE (Am A4 (wC (D.int 1)) (Am (Rj (λ_ j=>0<j) λi j=>D.int (i % j)) (AG 1) (wC (D.int 3)))) AW))))) AW)))
 (Ap (Jo 4 (BM AW))
 (Ap (Gr (NF (AE (wC (D.int 1)) (AE (Am A4 (AG 1) (wC (D.int 1))) AW))) (A1 5) WB)
 (Wn 4 (A2 (BH (AE (BH (AE (AG 2) (AE (AG 3) AW))) (AE (AG 4) AW)))))))))
theorem Rf{xs:List Str}{i:Nat}(h:i<xs.length):xs.getD i ""=xs[i]:=by
 rw [ax,FM h]
 rfl
theorem U3{xs:List Str}{m:Nat}(hl:xs.length=m+1)(hn:∀x∈xs,Ur x)(hr:rising xs):(BO xs m).Ok:=by
 have lt:∀i j (hi:i<xs.length) (hj:j<xs.length),i<j->cs xs[i]<cs xs[j]:=λi j hi hj h=>dC.mp hr i j hi hj h
 refine⟨hn,hr,λt ht=>?_,?_⟩
 ·obtain⟨k,hk,rfl⟩:=UF.mp ht
  have hk:=bU.mp hk
  unfold Se
  rw [Rf (by omega:0<xs.length),Rf (by omega:k+1<xs.length)]
  exact⟨cB _,cB _,lt _ _ _ _ (by omega),by show 1<=1+(1+(k:Int)) % 3; omega,by show 1+(1+(k:Int)) % 3<=_; omega⟩
 ·refine f7.mpr (List.Pairwise.imp_of_mem (λ{i j} hi hj h=>?_) List.pairwise_lt_range)
  have hi:=bU.mp hi
  have hj:=bU.mp hj
  refine .inr ⟨rfl,?_⟩
  show cs (xs.getD (i+1) "")<cs (xs.getD (j+1) "")
  rw [Rf (by omega:i+1<xs.length),Rf (by omega:j+1<xs.length)]
  exact lt _ _ _ _ (by omega)
section
variable {ss:List Slot}{n:Nat}{Pd:D->Nat->Prop}
theorem Q2(h:IA ss n Pd):F4 (EE Pd) n (ss++Re 4 .no):=by
 obtain⟨m,rfl,hm1,hm,hn,p⟩:=h
 have szl:=PySem.sizeLine_eq
 unfold F4
 refine⟨m+1,by rw [Int.natCast_succ],by omega,hn,λxs hl hx hr=>?_⟩
 refine⟨1,(m:Int)+1,rfl,⟨by omega,by omega,by omega,by omega⟩,by rw [B7]; omega,?_⟩
 rw [show ((m:Int)+1 - 1).toNat=m by omega]
 refine Bc (λd=>match d with | .int j=>Ag ⟨xs.getD 0 "",xs.getD j.toNat "",1+j % 3⟩ | d=>d) (λρ=>∃s,ρ=[.sh (.tup (xs.map .str)),s]) _ _ _ _ ?_ ⟨_,rfl⟩ ?_
 ·rintro d hd ρ n' nx ⟨s,rfl⟩ hnx
  obtain⟨k,hk,rfl⟩:=EN hd
  have e0:(xs.map D.str)[0]?=some (.str (xs.getD 0 "")):=by rw [Op,FM (by omega),Rf (by omega:0<xs.length)]; rfl
  have e1:(xs.map D.str)[1+k]?=some (.str (xs.getD (1+k) "")):=by rw [Op,FM (by omega),Rf (by omega:1+k<xs.length)]; rfl
  refine⟨_,AR e0,_,by rw [show (1:Int)+(k:Int)=((1+k:Nat):Int) by omega]; exact AR e1,by show (0:Int)<3; decide,z3,?_⟩
  have:=hnx [.sh (.tup (xs.map .str)),.sh (.int (1+(k:Int)))] ⟨_,rfl⟩
  have e2:(1+(k:Int)).toNat=1+k:=by omega
  have this:nx (Ag ⟨xs.getD 0 "",xs.getD (1+(k:Int)).toNat "",1+(1+(k:Int)) % 3⟩) n' _:=this
  rw [e2] at this
  exact this
 ·have e:[]++(By 1 m).map (λd=>match d with | .int j=>Ag ⟨xs.getD 0 "",xs.getD j.toNat "",1+j % 3⟩ | d=>d)=(BO xs m).ts.map Ag:=by
   show _=((bB m).map (Se xs)).map Ag
   unfold By
   rw [bE,bS,bS]
   refine bX λk _=>?_
   show Ag ⟨xs.getD 0 "",xs.getD (1+(k:Int)).toNat "",1+(1+(k:Int)) % 3⟩=Ag (Se xs k)
   rw [show (1+(k:Int)).toNat=k+1 by omega]
   rfl
  rw [e]
  refine⟨z0,1,(m:Int)+1,rfl,⟨by omega,by omega,by omega,by omega⟩,?_⟩
  rw [show ((m:Int)+1 - 1).toNat=m by omega]
  refine B0 (all:=By 1 m) (λpre n' ρ=>n'=n - 2/\∃(rows:List D) (s5:Slot),rows.length=pre.length/\(pre≠[]->rows[0]?=some (W_ m))/\ρ=[.fd,.sh (.int (m:Int)),.sh (.tup (xs.map .str)),.sh (.tup ((BO xs m).ts.map Ag)),.ow (.lst rows),s5]) ?_ ?_ _ [] _ _ rfl ⟨rfl,[],_,rfl,λz=>absurd rfl z,rfl⟩
  ·rintro n' ρ ⟨rfl,rows,s5,_,h0,rfl⟩
   refine⟨_,rfl,(by decide:2<=sizeLine),(by decide:2<=sizeLine),?_⟩
   refine p xs rows hl (U3 hl hx hr) (h0 λz=>?_)
   have:=congrArg eS z
   rw [B7] at this
   cases m with
   | zero=>omega
   | succ _=>cases this
  ·rintro pre d post n' ρ nx hall ⟨rfl,rows,s5,hrl,h0,rfl⟩ hnx
   obtain⟨rfl,hp⟩:=HM hall
   unfold WB
   refine⟨_,rfl,rfl,(m:Int)+1,rfl,⟨by omega,by omega⟩,by rw [B7]; omega,?_⟩
   rw [show ((m:Int)+1).toNat=m+1 by omega]
   refine Bc (R0 (1+(pre.length:Int))) (λρ=>∃s,ρ=[.sh (.int (1+(pre.length:Int))),s]) _ _ _ _ ?_ ⟨_,rfl⟩ ?_
   ·rintro d hd ρ n' nx ⟨s,rfl⟩ hnx
    obtain⟨k,hk,rfl⟩:=EN hd
    exact⟨⟨by decide,by decide,by decide⟩,.inl ⟨by decide,by decide⟩,hnx [_,_] ⟨_,rfl⟩⟩
   ·rw [bE]
    refine⟨_,_,rfl,rfl,by omega,hnx _ _ ⟨rfl,_,_,by rw [Sc,Sc,hrl]; rfl,λ_=>?_,rfl⟩⟩
    cases rows with
    | nil =>
     have hz:pre.length=0:=hrl.symm
     rw [hz]
     rfl
    | cons y ys =>
     have:pre≠[]:=λz=>by rw [z] at hrl; cases hrl
     exact h0 this
end
noncomputable abbrev QS:D:=.tup [.str "enough"]
noncomputable abbrev Wx(v:A0)(c d:D):D:=.tup [.str "split",Ag v,c,d]
noncomputable def Hl(x:D)(vs:List A0):D:=vs.foldr (λv c=>Wx v QS c) x
noncomputable def HI:List A0->Nat->D
 | [],_=>QS
 | u::us,m=>if m=1 then QS else Wx u (HI us (min (m - 2) (2 ^ (us.length+1) - 1))) (HI us (m - 1 - min (m - 2) (2 ^ (us.length+1) - 1)))
noncomputable def Ec(j:Nat):W2:=λss n P=>∃(us:List A0) (m:Nat),ss=[.sh (.tup (us.map Ag)),.sh (.int (m:Int))]/\us.length<=j/\us.length<=20/\m % 2=1/\m+1<=2 ^ (us.length+1)/\P (HI us m) n
noncomputable def GH:W2:=λss n P=>ss=[.fd]/\4<=n/\∀n',n - 4<=n'->P (.bl true) n'
noncomputable def F9:Aj:=(Ap (A5 1 (Am A4 (wC (D.int 13)) (Ad Bj (AD (Ay 0) (AD (AN (wC (D.int 4))) Af)))))
 (Ap (YJ (Ad IA (AD (Ay 0) (AD (AN (AG 1)) Af))) (Rq 2 (CF (A1 2) (CF (A1 3) Ll))))
 (Ap (A5 4 (BH (AE (wC (D.str "far")) (AE (Am BQ (Am BQ (AG 2) (wC (D.int 1))) (wC (D.int 0))) (AE (Am BQ (AG 3) (wC (D.int 0))) AW)))))
 (Ap (Gr (BZ (Wm (Am BQ (AG 2) (wC (D.int 1))) (Oc (wC (D.int 1))))) (A1 5) (A5 4 (BH (AE (wC (D.str "split")) (AE (AG 5) (AE (BH (AE (wC (D.str "enough")) AW)) (AE (AG 4) AW)))))))
 (Ap (A5 6 (Ad Ee (AD (AN (AG 2)) (AD (AN (Ad Eb (AD (Ay 0) Af))) (AD (AN (wC (D.int 1))) (AD (AN (AG 4)) Af))))))
 (A2 (I_ (FL "bool" (AG 6)) (Am (Ku false) (AG 6) (Am Ri (AG 1) (wC (D.int 15)))))))))))
noncomputable def Sb(Wr:W2):Aj:=(A2 (BH (AE (wC (D.str "split")) (AE (Am BQ (AG 0) (wC (D.int 0))) (AE (Ad Wr (AD (AN (OZ Fu (AG 0) (C1 (wC (D.int 1))) Bk)) (AD (AN (AG 2)) Af))) (AE (Ad Wr (AD (AN (OZ Fu (AG 0) (C1 (wC (D.int 1))) Bk)) (AD (AN (Am CP (Am CP (AG 1) (wC (D.int 1))) (AG 2))) Af))) AW))))))
noncomputable def FE(Wr:W2):Aj:=(Ap (Bl (As (Am (Ku false) (AG 1) (wC (D.int 1)))) (A2 (BH (AE (wC (D.str "enough")) AW))) BA)
 (Ap (A5 2 (Cj OA (AE (Am CP (AG 1) (wC (D.int 2))) (AE (Am CP (Am (Rj LD λi j=>D.int (i*2 ^ j.toNat)) (wC (D.int 1)) (Cj DB (AE (AG 0) AW))) (wC (D.int 1))) AW))))
 (Sb Wr)))
noncomputable def F3:Aj:=(Ap (A5 1 (Am BQ (BM (AE (wC (D.int 2001)) (AE (wC (D.int 3997)) (AE (wC (D.int 3999)) (AE (wC (D.int 4001)) (AE (wC (D.int 4003)) AW)))))) (Ad Bj (AD (Ay 0) (AD (AN (wC (D.int 5))) Af)))))
 (Ap (A5 2 (Am BQ (Ad IA (AD (Ay 0) (AD (AN (wC (D.int 12))) Af))) (wC (D.int 0))))
 (Ap (A5 3 (Ad Ee (AD (AN (AG 2)) (AD (AN (Ad Eb (AD (Ay 0) Af))) (AD (AN (wC (D.int 0))) (AD (AN (Ad (Ec 12) (AD (AN (Am BQ (AG 2) (wC (D.int 1)))) (AD (AN (AG 1)) Af)))) Af))))))
 (A2 (I_ (FL "bool" (AG 3)) (Am (Ku false) (AG 3) (Am Ri (AG 1) (wC (D.int 4000)))))))))
theorem T8:Bw (.str "enough") (.str "enough")=true:=by decide +kernel
theorem Y7:Bw (.str "far") (.str "far")=true:=by decide +kernel
theorem Y6:Bw (.str "split") (.str "split")=true:=by decide +kernel
theorem S8{N:Net}(ok:N.Ok){v:A0}(h:v∈N.ts):Pl (Ag v)/\Cw (Ag v)<=1:=by
 have it:=DY ok _ (UF.mpr ⟨v,h,rfl⟩)
 exact⟨⟨it.1.mono (by decide),by have:=it.2.2; omega⟩,it.2.2⟩
theorem Lf:fine (10 ^ 40) QS/\Cw QS=1:=⟨⟨(show ∀c∈cs "enough",c<1114112 by decide +kernel),trivial⟩,rfl⟩
theorem WV{N:Net}(ok:N.Ok){v:A0}(h:v∈N.ts){c d:D}{k:Nat}(hc:fine (10 ^ 40) c/\Cw c<=k)(hd:fine (10 ^ 40) d/\Cw d<=k)(hk:1<=k):fine (10 ^ 40) (Wx v c d)/\Cw (Wx v c d)<=k+1:=by
 obtain⟨⟨p1,_⟩,p3⟩:=S8 ok h
 refine⟨⟨(show ∀c∈cs "split",c<1114112 by decide +kernel),p1,hc.1,hd.1,trivial⟩,?_⟩
 show max 0 (max (Cw (Ag v)) (max (Cw c) (max (Cw d) 0)))+1<=k+1
 have:=hc.2
 have:=hd.2
 omega
theorem Nk{N:Net}{t b:Int}{many k:Nat}{kept gone:List A0}{v:A0}(hv:v∈N.ts)(hk:v∉kept)(hg:v∉gone)(c d:D):Eh N t b many (k+1) kept gone (Wx v c d)=(Eh N t b many k (kept++[v]) gone c&&Eh N t b many k kept (gone++[v]) d):=by
 show (Bw (.str "split") (.str "split")&&Uq N (Ag v) _)=_
 rw [Y6,bA,Es hv,decide_eq_false hk,decide_eq_false hg]
 rfl
theorem QW{N:Net}{t b:Int}{x:D}:∀(vs gone:List A0) (k:Nat),(∀v∈vs,v∈N.ts)->(gone++vs).Nodup->(∀k,Eh N t b 1 (k+1) [] (gone++vs) x=true)->Eh N t b 1 k [] gone (Hl x vs)=decide (vs.length+1<=k)
 | [],gone,0,_,_,_=>by unfold Eh; rfl
 | [],gone,k+1,_,_,h=>by
  rw [cL] at h
  show Eh N t b 1 (k+1) [] gone x=_
  rw [h k,decide_eq_true (by show 0+1<=k+1; omega)]
 | v::vs,gone,0,_,_,_=>by unfold Eh; rfl
 | v::vs,gone,k+1,hin,hnd,h=>by
  have hv:v∉gone:=λz=>(c_.mp hnd).2.2 v z v On rfl
  show Eh N t b 1 (k+1) [] gone (Wx v QS (Hl x vs))=_
  rw [Nk (hin v On) a9 hv]
  rw [show gone++v::vs=gone++[v]++vs by rw [bw]; rfl] at hnd h
  rw [QW vs (gone++[v]) k (λu hu=>hin u (TM _ hu)) hnd h]
  cases k with
  | zero=>rw [show Eh N t b 1 0 ([]++[v]) gone QS=false by unfold Eh; rfl,eJ]; exact(decide_eq_false (by rw [Tk]; omega)).symm
  | succ k =>
   rw [show Eh N t b 1 (k+1) ([]++[v]) gone QS=true from T8▸rfl,bA]
   exact decide_eq_decide.mpr (by rw [Tk]; omega)
theorem OH{x:D}(hx:∀k,DC k x=1):∀(vs:List A0) (k:Nat),DC k (Hl x vs)<=2*vs.length+1
 | [],k=>by show DC k x<=_; rw [hx k]; exact No _
 | v::vs,0=>by show 1<=_; omega
 | v::vs,k+1=>by
  have:=OH hx vs k
  show 1+DC k QS+DC k (Hl x vs)<=_
  rw [show DC k QS=1 by cases k <;> rfl,Tk]
  omega
theorem QX{N:Net}(ok:N.Ok){x:D}(hx:fine (10 ^ 40) x/\Cw x<=2):∀vs:List A0,(∀v∈vs,v∈N.ts)->fine (10 ^ 40) (Hl x vs)/\Cw (Hl x vs)<=vs.length+2
 | [],_=>hx
 | v::vs,h=>WV ok (h v On) ⟨Lf.1,by rw [Lf.2]; omega⟩ (QX ok hx vs λu hu=>h u (TM _ hu)) (by omega)
theorem Qv{m p:Nat}(h1:m % 2=1)(h2:m≠1)(h3:m+1<=4*p)(h0:1<=p):(min (m - 2) (2*p - 1)) % 2=1/\min (m - 2) (2*p - 1)+1<=2*p/\(m - 1 - min (m - 2) (2*p - 1)) % 2=1/\m - 1 - min (m - 2) (2*p - 1)+1<=2*p/\1+min (m - 2) (2*p - 1)+(m - 1 - min (m - 2) (2*p - 1))=m:=by
 by_cases c:m - 2<=2*p - 1
 ·rw [cj c]; omega
 ·rw [Nat.min_eq_right (by omega)]; omega
theorem NT{us:List A0}{m:Nat}(h1:m % 2=1)(h2:m≠1)(h3:m+1<=2 ^ (us.length+1+1)):(min (m - 2) (2 ^ (us.length+1) - 1)) % 2=1/\min (m - 2) (2 ^ (us.length+1) - 1)+1<=2 ^ (us.length+1)/\(m - 1 - min (m - 2) (2 ^ (us.length+1) - 1)) % 2=1/\m - 1 - min (m - 2) (2 ^ (us.length+1) - 1)+1<=2 ^ (us.length+1)/\1+min (m - 2) (2 ^ (us.length+1) - 1)+(m - 1 - min (m - 2) (2 ^ (us.length+1) - 1))=m:=by
 have p:=cV us.length
 rw [be,be] at h3
 rw [show 2 ^ (us.length+1)=2*2 ^ us.length by rw [be]; omega]
 exact Qv h1 h2 (by omega) p
theorem L6{N:Net}(ok:N.Ok){t b:Int}:∀(us:List A0) (m:Nat),m % 2=1->m+1<=2 ^ (us.length+1)->(∀u∈us,u∈N.ts)->(fine (10 ^ 40) (HI us m)/\Cw (HI us m)<=us.length+1)/\(∀k,us.length<=k->DC k (HI us m)=m)/\∀k kept gone,us.length<k->(kept++us).Nodup->(gone++us).Nodup->Eh N t b 0 k kept gone (HI us m)=true
 | [],m,h1,h3,_=>by
  have:m=1:=by
   have h3:m+1<=2:=h3
   omega
  subst this
  refine⟨⟨Lf.1,eD Lf.2⟩,λk _=>by cases k <;> rfl,λk kept gone hk _ _=>?_⟩
  cases k with
  | zero=>cases hk
  | succ k=>exact T8▸rfl
 | u::us,m,h1,h3,hin=>by
  by_cases h2:m=1
  ·subst h2
   rw [show HI (u::us) 1=QS from if_pos rfl]
   refine⟨⟨Lf.1,by rw [Lf.2]; omega⟩,λk _=>by cases k <;> rfl,λk kept gone hk _ _=>?_⟩
   cases k with
   | zero=>cases hk
   | succ k=>exact T8▸rfl
  ·obtain⟨a1,a2,a3,a4,a5⟩:=NT (us:=us) h1 h2 h3
   have hin':∀v∈us,v∈N.ts:=λv hv=>hin v (TM _ hv)
   obtain⟨f1,f2,f3⟩:=L6 ok (t:=t) (b:=b) us _ a1 a2 hin'
   obtain⟨g1,g2,g3⟩:=L6 ok (t:=t) (b:=b) us _ a3 a4 hin'
   have e:HI (u::us) m=Wx u (HI us (min (m - 2) (2 ^ (us.length+1) - 1))) (HI us (m - 1 - min (m - 2) (2 ^ (us.length+1) - 1))):=if_neg h2
   rw [e]
   refine⟨WV ok (hin u On) f1 g1 (Nat.le_add_left 1 _),λk hk=>?_,λk kept gone hk nk ng=>?_⟩
   ·cases k with
    | zero=>cases hk
    | succ k =>
     have hk:us.length<=k:=gf hk
     show 1+DC k _+DC k _=m
     rw [f2 k hk,g2 k hk]
     exact a5
   ·cases k with
    | zero=>cases hk
    | succ k =>
     have hk:us.length<k:=Nat.lt_of_succ_lt_succ hk
     have sk:kept++u::us=kept++[u]++us:=by rw [bw]; rfl
     have sg:gone++u::us=gone++[u]++us:=by rw [bw]; rfl
     have ik:u∉kept:=λz=>(c_.mp nk).2.2 u z u On rfl
     have ig:u∉gone:=λz=>(c_.mp ng).2.2 u z u On rfl
     have ok':(kept++us).Nodup:=nk.sublist (gJ (gi _ _) _)
     have og':(gone++us).Nodup:=ng.sublist (gJ (gi _ _) _)
     rw [sk] at nk
     rw [sg] at ng
     rw [Nk (hin u On) ik ig,f3 k _ _ hk nk og',g3 k _ _ hk ok' ng]
     rfl
section
variable {ss:List Slot}{n:Nat}{Pd:D->Nat->Prop}
theorem Jv{Wr:W2}{j:Nat}(hrec:∀ss n P,j≠0->Ec (j - 1) ss n P->Wr ss n P)(h:Ec j ss n Pd):FE Wr (EE Pd) n (ss++Re 1 .no):=by
 obtain⟨us,m,rfl,hj,h20,h1,h3,q⟩:=h
 have szl:=PySem.sizeLine_eq
 unfold FE
 show if ((m:Int)==1)=true then _ else _
 by_cases h2:m=1
 ·rw [show ((m:Int)==1)=true from beq_iff_eq.mpr (by omega)]
  refine BX ⟨z1,?_⟩
  rw [h2] at q
  cases us with
  | nil=>exact q
  | cons u us=>rw [show HI (u::us) 1=QS from if_pos rfl] at q; exact q
 ·rw [show ((m:Int)==1)=false from beq_eq_false_iff_ne.mpr (by omega)]
  cases us with
  | nil =>
   have h3:m+1<=2:=h3
   omega
  | cons u us =>
   obtain⟨a1,a2,a3,a4,a5⟩:=NT (us:=us) h1 h2 h3
   have hl:us.length+1<=20:=h20
   have hj:us.length+1<=j:=hj
   rw [show HI (u::us) m=_ from if_neg h2] at q
   refine BJ ⟨_,_,rfl,rfl,⟨by show (0:Int)<=_; omega,?_,by decide⟩,?_⟩
   ·show (((u::us).map Ag).length:Int)<=1000000
    rw [Db,Tk]
    omega
   have et:(((u::us).map Ag).length:Int).toNat=us.length+1:=by rw [Db,Tk]; omega
   have ef:(if 1*2 ^ (((u::us).map Ag).length:Int).toNat - 1<(m:Int) - 2 then 1*2 ^ (((u::us).map Ag).length:Int).toNat - 1 else (m:Int) - 2)=((min (m - 2) (2 ^ (us.length+1) - 1):Nat):Int):=by
    rw [et]
    have p:=cV (us.length+1)
    have e2:(2:Int) ^ (us.length+1)=((2 ^ (us.length+1):Nat):Int):=by rw [Int.natCast_pow]; rfl
    rw [e2]
    generalize 2 ^ (us.length+1)=y at p
    have:2<=m:=by omega
    split <;> omega
   have hc:Dp.cutD ((u::us).map Ag) (some 1) none=us.map Ag:=by
    have:=OK ((u::us).map Ag) 1
    rw [cj (by rw [Db,Tk]; omega)] at this
    exact this
   show Sb Wr (EE Pd) n [.sh (.tup ((u::us).map Ag)),.sh (.int (m:Int)),.sh (.int (if 1*2 ^ (((u::us).map Ag).length:Int).toNat - 1<(m:Int) - 2 then 1*2 ^ (((u::us).map Ag).length:Int).toNat - 1 else (m:Int) - 2))]
   rw [ef]
   generalize hf:min (m - 2) (2 ^ (us.length+1) - 1)=f at a1 a2 a3 a4 a5 q
   unfold Sb
   refine⟨_,AR (j:=0) rfl,?_⟩
   refine hrec _ _ _ (by omega) ⟨us,f,congrArg (λz=>[Slot.sh (.tup z),.sh (.int (f:Int))]) hc,by omega,by omega,a1,a2,?_⟩
   have e2:(m:Int) - 1 - (f:Int)=((m - 1 - f:Nat):Int):=by omega
   refine hrec _ _ _ (by omega) ⟨us,m - 1 - f,?_,by omega,by omega,a3,a4,(by decide:4<=sizeLine),q⟩
   rw [← hc,← e2]
theorem Tq{xs:List Str}{m:Nat}(hl:xs.length=m+1)(hm:1<=m)(ok:(BO xs m).Ok){t b:Int}(tm:Cp t b):∀k,Eh (BO xs m) t b 1 (k+1) [] (BO xs m).ts (.tup [.str "far",Ag (Se xs 0),W_ m])=true:=by
 intro k
 have h0:Se xs 0∈(BO xs m).ts:=UF.mpr ⟨0,bU.mpr (by omega),rfl⟩
 show (Bw (.str "far") (.str "far")&&Uq _ _ _)=true
 rw [Y7,bA,Es h0,decide_eq_true h0,bA]
 have e0:C_ (BO xs m) (BO xs m).ts=⟨xs,[]⟩:=by
  unfold C_
  rw [List.filter_eq_nil_iff.mpr λa ha=>by simp [ha]]
  rfl
 rw [e0]
 obtain⟨m,rfl⟩:∃k,m=k+1:=⟨m - 1,by omega⟩
 match xs,hl,ok with
 | x0::x1::r,hl,ok =>
  have hr:rising (x0::x1::r):=ok.rise
  have hne:x0≠x1:=λz=>by
   have:=(bj.mp hr).1 x1 On
   rw [z] at this
   exact EV _ this
  have hp:(By 0 (m+1+1)).map (R0 1)=.int 0::.int (10 ^ 13)::((bB m).map (λi=>i+1+1)).map (fun(i:Nat)=>R0 1 (.int (0+(i:Int)))):=by
   unfold By
   rw [dW,dW,bS,av,av,av,bS,bS,bS]
   rfl
  have hge:∀y∈(By 0 (m+1+1)).map (R0 1),Kt y=true:=λy hy=>by
   obtain⟨d,hd,rfl⟩:=UF.mp hy
   obtain⟨k,_,rfl⟩:=EN hd
   refine decide_eq_true ?_
   show (0:Int)<=10 ^ (13:Int).toNat*(if ((0+(k:Int))==1)=true then 1 else 0)
   split <;> decide
  have v0:Cr ⟨x0::x1::r,[]⟩ ((By 0 (m+1+1)).map (R0 1)) x0=0:=by
   unfold Cr
   rw [hp]
   show XQ ((if (bJ x0:Key)=.inr x0 then some (D.int 0) else _).getD .non)=0
   rw [if_pos rfl]
   rfl
  have v1:Cr ⟨x0::x1::r,[]⟩ ((By 0 (m+1+1)).map (R0 1)) x1=10 ^ 13:=by
   unfold Cr
   rw [hp]
   show XQ ((if (bJ x0:Key)=.inr x1 then some (D.int 0) else if (bJ x1:Key)=.inr x1 then some (D.int (10 ^ 13)) else _).getD .non)=10 ^ 13
   rw [if_neg (λz=>hne (cJ z)),if_pos rfl]
   rfl
  show (((((((By 0 (m+1+1)).map (R0 1)).length:Int)==((x0::x1::r).length:Int))&&((By 0 (m+1+1)).map (R0 1)).all Kt)&&true)&&decide ((1+(1+(0:Int)) % 3)*t<CU (Cr ⟨x0::x1::r,[]⟩ ((By 0 (m+1+1)).map (R0 1)) x0 - Cr ⟨x0::x1::r,[]⟩ ((By 0 (m+1+1)).map (R0 1)) x1)*b))=true
  rw [v0,v1,cO.mpr hge,Db,B7,hl,beq_self_eq_true]
  refine decide_eq_true ?_
  rw [show CU (0 - 10 ^ 13)=10 ^ 13 by decide]
  obtain⟨b1,_,_,t2⟩:=tm
  show 2*t<_
  omega
theorem Px{xs:List Str}{m:Nat}(hl:xs.length=m+1)(hm:m<=16)(ok:(BO xs m).Ok):okN (BO xs m)/\(BO xs m).ts.length=m:=by
 have e:(BO xs m).ts.length=m:=by show ((bB m).map _).length=m; rw [Db,bz]
 exact⟨⟨ok,by show xs.length<=25; omega,by omega⟩,e⟩
theorem Y2(m:Nat):fine (10 ^ 40) (W_ m)/\Cw (W_ m)<=1:=by
 have h:∀y∈(By 0 (m+1)).map (R0 1),fine (10 ^ 40) y/\Cw y=0:=λy hy=>by
  obtain⟨d,hd,rfl⟩:=UF.mp hy
  obtain⟨k,_,rfl⟩:=EN hd
  refine⟨?_,rfl⟩
  show (10 ^ (13:Int).toNat*(if ((0+(k:Int))==1)=true then 1 else 0):Int).natAbs<=_
  split <;> decide
 refine⟨DZ λy hy=>(h y hy).1,?_⟩
 have:=dps_le (k:=0).mpr λy hy=>eD (h y hy).2
 show Fx _+1<=1
 omega
theorem Q7(h:GH ss n Pd):F9 (EE Pd) n (ss++Re 6 .no):=by
 obtain⟨rfl,hn,p⟩:=h
 have szl:=PySem.sizeLine_eq
 unfold F9
 refine⟨4,rfl,by decide,by decide,by omega,λr r0 r1=>?_⟩
 obtain⟨k,rfl⟩:∃k:Nat,r=(k:Int):=⟨r.toNat,by omega⟩
 have ek:(13:Int)+(k:Int)=((13+k:Nat):Int):=by omega
 refine⟨13+k,congrArg (λz=>[Slot.fd,.sh (.int z)]) ek,by omega,by omega,by omega,λxs rows hl ok hr=>?_⟩
 obtain⟨okn,hlen⟩:=Px hl (by omega) ok
 generalize hm:13+k=m at hl ok hr okn hlen
 have h0:Se xs 0∈(BO xs m).ts:=UF.mpr ⟨0,bU.mpr (by omega),rfl⟩
 have hts:((BO xs m).ts.map Ag)[0]?=some (Ag (Se xs 0)):=by
  show (((bB m).map (Se xs)).map Ag)[0]?=_
  rw [Op,Op,d8 (by omega)]
  rfl
 refine⟨rfl,rfl,_,AR (j:=1) rfl,_,AR hts,_,AR hr,z3,?_⟩
 refine⟨_,AR (j:=1) rfl,1,rfl,rfl,?_⟩
 generalize hx:(D.tup [.str "far",Ag (Se xs 0),W_ m])=x
 refine B0 (all:=((BO xs m).ts.map Ag).reverse) (λpre n' ρ=>n'=n - 1 - 2/\∃s5,ρ=[.fd,.sh (.int (13+(k:Int))),.sh (C3 (BO xs m)),.sh (.lst rows),.sh (pre.foldl (λc v=>.tup [.str "split",v,QS,c]) x),s5,.no]) ?_ ?_ _ [] _ _ rfl ⟨rfl,_,rfl⟩
 ·rintro n' ρ ⟨rfl,s5,rfl⟩
  rw [List.foldl_reverse,List.foldr_map]
  have hd:(BO xs m).ts.foldr (λv c=>D.tup [.str "split",Ag v,QS,c]) x=Hl x (BO xs m).ts:=rfl
  rw [hd]
  refine⟨rfl,by omega,λt b b1 bt t1=>?_⟩
  have tm:Cp t b:=⟨b1,by omega,by omega,t1⟩
  have fx:fine (10 ^ 40) x/\Cw x<=2:=by
   obtain⟨q1,q2⟩:=Y2 m
   obtain⟨⟨q3,_⟩,q4⟩:=S8 ok h0
   rw [← hx]
   refine⟨⟨(show ∀c∈cs "far",c<1114112 by decide +kernel),q3,q1,trivial⟩,?_⟩
   show max 0 (max (Cw (Ag (Se xs 0))) (max (Cw (W_ m)) 0))+1<=2
   omega
  have df:=QX ok fx (BO xs m).ts λ_ z=>z
  have val:FT (BO xs m) t b 1 (Hl x (BO xs m).ts)=decide ((13:Int)+(k:Int)<15):=by
   unfold FT
   rw [QW (BO xs m).ts [] 15 (λ_ z=>z) (Dd ok.trise) (λk=>by rw [← hx]; exact Tq hl (by omega) ok tm k),hlen,decide_eq_true (show DC 14 (Hl x (BO xs m).ts)<=4000 by
    have:=OH (x:=x) (λk=>by rw [← hx]; cases k <;> rfl) (BO xs m).ts 14
    omega),dN]
   exact decide_eq_decide.mpr (by omega)
  refine⟨BO xs m,t,b,1,_,rfl,okn,tm,⟨df.1,by have:=df.2; omega⟩,?_⟩
  rw [val]
  show Pd (.bl (decide ((13:Int)+(k:Int)<15)==decide ((13:Int)+(k:Int)<15))) _
  rw [beq_self_eq_true]
  exact p _ (by omega)
 ·rintro pre d post n' ρ nx hall ⟨rfl,s5,rfl⟩ hnx
  refine⟨z1,(by decide:4<=sizeLine),hnx _ _ ⟨rfl,.sh d,?_⟩⟩
  rw [List.foldl_append]
  rfl
theorem Qz(h:GH ss n Pd):F3 (EE Pd) n (ss++Re 3 .no):=by
 obtain⟨rfl,hn,p⟩:=h
 have szl:=PySem.sizeLine_eq
 unfold F3
 refine⟨(by decide:5<=sizeLine),5,rfl,by decide,by decide,by omega,λr r0 r1=>?_⟩
 obtain⟨m,em,hm⟩:∃m:Nat,atI [D.int 2001,.int 3997,.int 3999,.int 4001,.int 4003] r=some (.int (m:Int))/\(m=2001\/m=3997\/m=3999\/m=4001\/m=4003):=by
  rcases (by omega:r=0\/r=1\/r=2\/r=3\/r=4) with rfl | rfl | rfl | rfl | rfl
  ·exact⟨2001,rfl,by decide⟩
  ·exact⟨3997,rfl,by decide⟩
  ·exact⟨3999,rfl,by decide⟩
  ·exact⟨4001,rfl,by decide⟩
  ·exact⟨4003,rfl,by decide⟩
 refine⟨_,em,12,rfl,by decide,by decide,by omega,λxs rows hl ok hr=>?_⟩
 obtain⟨okn,hlen⟩:=Px hl (by decide) ok
 refine⟨_,AR (j:=0) rfl,?_⟩
 refine⟨rfl,by omega,λt b b1 bt t1=>?_⟩
 have tm:Cp t b:=⟨b1,by omega,by omega,t1⟩
 have odd:m % 2=1:=by omega
 have low:m+1<=2 ^ ((BO xs 12).ts.length+1):=by rw [hlen]; omega
 refine⟨_,AR (j:=1) rfl,(BO xs 12).ts,m,rfl,by omega,by omega,odd,low,?_⟩
 obtain⟨f1,f2,f3⟩:=L6 ok (t:=t) (b:=b) (BO xs 12).ts m odd low λ_ z=>z
 have val:FT (BO xs 12) t b 0 (HI (BO xs 12).ts m)=decide ((m:Int)<4000):=by
  unfold FT
  rw [f3 15 [] [] (by omega) (Dd ok.trise) (Dd ok.trise),f2 14 (by omega),bA]
  exact decide_eq_decide.mpr (by omega)
 refine⟨BO xs 12,t,b,0,_,rfl,okn,tm,⟨f1.1,by have:=f1.2; omega⟩,?_⟩
 rw [val]
 show Pd (.bl (decide ((m:Int)<4000)==decide ((m:Int)<4000))) _
 rw [beq_self_eq_true]
 exact p _ (by omega)
end
noncomputable def IE:W2:=λss n P=>∃(N:Net) (S:List A0) (u:A0),ss=[.sh (C3 N),.sh (D6 S),.sh (Ag u)]/\okN N/\(⟨N.ps,S⟩:Net).Ok/\u∈N.ts/\∀p:List Int,RD N p->P (.tup (p.map .int)) n
noncomputable def N_(N:Net)(c:Ca):Prop:=LB N c/\c.dep<=8/\c.cnt<=130
noncomputable def H_:W2:=λss n P=>∃(N:Net) (t b:Int) (many:Nat) (u:A0) (c:Ca),ss=[.fd,.sh (R8 N t b many),.sh (Ag u),.sh c.D]/\okN N/\Cp t b/\N.ts.length<=5/\u∈N.ts/\LB N c/\c.dep<=6/\c.cnt<=63/\4000<=n/\∀(cs:List Ca) (n':Nat),(∀c∈cs,N_ N c)->cs.length<=2->n - 4000<=n'->P (.lst (cs.map Ca.D)) n'
noncomputable def NA:W2:=λss n P=>∃(N:Net) (t b:Int) (many:Nat) (u:A0),ss=[.fd,.sh (R8 N t b many),.sh (Ag u)]/\okN N/\Cp t b/\N.ts.length<=5/\u∈N.ts/\4000<=n/\∀(cs:List Ca) (n':Nat),(∀c∈cs,N_ N c)->cs.length<=2->n - 4000<=n'->P (.lst (cs.map Ca.D)) n'
noncomputable def F8:Aj:=(Ap (A5 3 (Am BQ (Ad OX (AD (AN (Am BQ (AG 0) (wC (D.int 0)))) (AD (AN (AG 1)) Af))) (NE (Am BQ (AG 0) (wC (D.int 0))) (AE (Am BQ (AG 2) (wC (D.int 0))) AW))))
 (A2 (Cj DA (AE (B6 [none] (BZ (AG 3)) (A1 0) FK (YE (As (Am (OB true) (AG 0) (wC D.non))) (wC (D.int 0)) (Am (Rj LD λi j=>D.int (i ^ j.toNat)) (wC (D.int 10)) (wC (D.int 13))))) AW))))
noncomputable def FC:Aj:=(Ap (A5 4 (B6 [some 2,none] (BZ (Am BQ (Am FA (AG 1) (wC (D.str "net"))) (wC (D.int 1)))) (A1 1) (As (Am Mi (AG 1) (AG 0))) (AG 1)))
 (Ap (A5 5 (Ad (CB 7) (AD (Ay 0) (AD (AN (AG 1)) (AD (AN (BM (AE (AG 2) AW))) (AD (AN (BM AW)) (AD (AN (AG 4)) Af)))))))
 (A2 (BM (AE (BH (AE (wC (D.str "split")) (AE (AG 2) (AE (AG 5) (AE (AG 3) AW))))) (AE (BH (AE (wC (D.str "split")) (AE (AG 2) (AE (AG 3) (AE (Ad (CB 7) (AD (Ay 0) (AD (AN (AG 1)) (AD (AN (BM AW)) (AD (AN (BM (AE (AG 2) AW))) (AD (AN (AG 4)) Af)))))) AW))))) AW))))))
noncomputable def TN:Aj:=(Ap (A5 8 (B6 [some 7,none] (BZ (AG 4)) (A1 1) (As (Am Mi (AG 1) (AG 0))) (AG 1)))
 (Ap (A5 5 (Ad (CB 7) (AD (Ay 0) (AD (AN (AG 1)) (AD (AN (BM (AE (AG 7) (AE (AG 2) AW)))) (AD (AN (BM AW)) (AD (AN (AG 8)) Af)))))))
 (Ap (A5 9 (BH (AE (wC (D.str "split")) (AE (AG 2) (AE (AG 5) (AE (BH (AE (wC (D.str "far")) (AE (AG 2) (AE (Ad IE (AD (AN (AG 3)) (AD (AN (BM (AE (AG 7) AW))) (AD (AN (AG 2)) Af)))) AW)))) AW))))))
 (Ut 6 "list" T6 (AE (BH (AE (wC (D.str "split")) (AE (AG 7) (AE (AG 9) (AE (Ad (CB 7) (AD (Ay 0) (AD (AN (AG 1)) (AD (AN (BM AW)) (AD (AN (BM (AE (AG 7) AW))) (AD (AN (Am A4 (BM (AE (AG 2) AW)) (AG 8))) Af)))))) AW))))) AW)))))
noncomputable def Gk:Aj:=(Ap (A5 3 (Am FA (AG 1) (wC (D.str "net"))))
 (Ap (A5 4 (B6 [some 2,none] (BZ (Am BQ (AG 3) (wC (D.int 1)))) (A1 1) (As (Am Mi (AG 1) (AG 0))) (AG 1)))
 (Ap (A5 5 (Ad (CB 7) (AD (Ay 0) (AD (AN (AG 1)) (AD (AN (BM (AE (AG 2) AW))) (AD (AN (BM AW)) (AD (AN (AG 4)) Af)))))))
 (Ap (Jo 6 (BM (AE (BH (AE (wC (D.str "split")) (AE (AG 2) (AE (AG 5) (AE (BH (AE (wC (D.str "far")) (AE (AG 2) (AE (Ad IE (AD (AN (AG 3)) (AD (AN (BM AW)) (AD (AN (AG 2)) Af)))) AW)))) AW))))) AW)))
 (Ap (Gr (BZ (OZ Fu (AG 4) Bk (C1 (wC (D.int 1))))) (A1 7) TN)
 (V9 6))))))
noncomputable def Ct(l:List A0)(u:A0):List A0:=l.filter λv=>decide (v≠u)
theorem HY{u:A0}:∀{l:List A0},l.Nodup->u∈l->(u::Ct l u).Perm l
 | v::l,hn,hu=>by
  obtain⟨h1,h2⟩:=bZ.mp hn
  by_cases e:v=u
  ·subst e
   have:Ct (v::l) v=l:=by
    unfold Ct
    rw [gN (by simp)]
    exact List.filter_eq_self.mpr λw hw=>decide_eq_true λz=>h1 (z▸hw)
   rw [this]
  ·have:Ct (v::l) u=v::Ct l u:=gM (decide_eq_true e)
   rw [this]
   exact(List.Perm.swap _ _ _).trans ((HY h2 ((aq.mp hu).resolve_left λz=>e z.symm)).cons v)
theorem KI{N:Net}(ok:N.Ok){l:List A0}(hl:∀v∈l,v∈N.ts){u:A0}(hu:u∈N.ts){P:List D->Nat->Prop}{n:Nat}(p:P ((Ct l u).map Ag) n):ER (A1 1) (As (Am Mi (AG 1) (AG 0))) (AG 1) P (l.map Ag) [] n [.sh (Ag u),.no]:=by
 refine Fq (λd=>!Bw d (Ag u)) id (λρ=>∃s,ρ=[.sh (Ag u),s]) _ _ _ _ ?_ ⟨_,rfl⟩ ?_
 ·rintro d hd ρ m nx sk ⟨s,rfl⟩ h1 h2
  obtain⟨v,hv,rfl⟩:=UF.mp hd
  refine⟨Cf ok (hl v hv),Cf ok hu,?_⟩
  exact Dq (λc=>h1 _ ⟨_,rfl⟩ c) λc=>h2 _ ⟨_,rfl⟩ (b8.mpr c)
 ·rw [bE,fV]
  have e:(l.map Ag).filter (λd=>!Bw d (Ag u))=(Ct l u).map Ag:=by
   unfold Ct
   rw [gU]
   congr 1
   refine f8 λv _=>?_
   show (!Bw (Ag v) (Ag u))=_
   rw [cF,Bool.not_eq_true',decide_eq_true_eq,b8,ne_eq,JQ]
  rw [e]
  exact p
section
variable {ss:List Slot}{n:Nat}{Pd:D->Nat->Prop}
theorem Q6(h:IE ss n Pd):F8 (EE Pd) n (ss++Re 1 .no):=by
 obtain⟨N,S,u,rfl,okn,ok1,hu,p⟩:=h
 have ok:=okn.1
 have l25:=okn.2.1
 obtain⟨ma,_⟩:=ok.tin u hu
 obtain⟨ix,ex,_⟩:=Ii ma
 obtain⟨a1,a2,a3,a4⟩:=Hf ok ex
 unfold F8
 refine⟨_,AR (j:=0) rfl,⟨N.ps,S⟩,_,rfl,.inl rfl,ok1,by show N.ps.length<=1000; omega,λF hF=>?_⟩
 refine⟨_,AR (j:=0) rfl,⟨_,rfl⟩,_,AR (j:=0) rfl,_,_,ix,rfl,rfl,a1,a2,a3,a4,_,Md ex,?_⟩
 refine⟨by show (N.ps.map λy=>od (F u.a y)).length<=10000000; rw [Db]; omega,?_⟩
 refine Bc (λd=>match d with | .non=>.int (10 ^ (13:Int).toNat) | _=>.int 0) (λρ=>∃s,ρ=[s]) _ _ _ _ ?_ ⟨_,rfl⟩ ?_
 ·rintro d hd ρ n' nx ⟨s,rfl⟩ hnx
  obtain⟨z,hz,rfl⟩:=UF.mp hd
  cases e:F u.a z with
  | none =>
   have k:=hnx [.sh .non] ⟨_,rfl⟩
   rw [e] at k
   exact⟨rfl,⟨by decide,by decide,by decide⟩,k⟩
  | some v =>
   have k:=hnx [.sh (.int v)] ⟨_,rfl⟩
   rw [e] at k
   exact⟨rfl,k⟩
 ·rw [bE]
  have e:(N.ps.map λy=>od (F u.a y)).map (λd=>match d with | .non=>D.int (10 ^ (13:Int).toNat) | _=>.int 0)=(N.ps.map λy=>match F u.a y with | none=>(10:Int) ^ 13 | some _=>0).map .int:=by
   rw [bS,bS]
   refine bX λy _=>?_
   show (match od (F u.a y) with | .non=>D.int (10 ^ (13:Int).toNat) | _=>.int 0)=.int (match F u.a y with | none=>(10:Int) ^ 13 | some _=>0)
   cases F u.a y <;> rfl
  rw [e]
  refine p _ ⟨by rw [Db],λx hx=>?_⟩
  obtain⟨y,_,rfl⟩:=UF.mp hx
  cases F u.a y with
  | none=>decide
  | some v=>show (0:Int)<=0/\(0:Int)<=10 ^ 14; decide
theorem Oy(h:H_ ss n Pd):FC (EE Pd) n (ss++Re 2 .no):=by
 obtain⟨N,t,b,many,u,c,rfl,okn,tm,h5,hu,hc,hcd,hcc,hn,p⟩:=h
 have ok:=okn.1
 have nd:=Dd ok.trise
 have pm:=HY nd hu
 have pl:=pm.length_eq
 rw [Tk] at pl
 have bd:Ja (Ct N.ts u).length<=1240:=by
  have:Ja 4=1240:=by decide
  rw [← this]
  unfold Ja
  have:=cR (show 0<2 by decide) (show (Ct N.ts u).length+1<=5 by omega)
  omega
 have fit:∀{kept gone:List A0} {d:Ca},Made N t b many kept gone (Ct N.ts u) d->d.dep<=5/\d.cnt<=31:=λmd=>by
  obtain⟨d1,d2⟩:=md.dep
  have:=cR (show 0<2 by decide) (show (Ct N.ts u).length+1<=5 by omega)
  exact⟨by omega,by omega⟩
 unfold FC
 refine⟨_,_,_,_,rfl,rfl,IG _ _ _,_,AR (j:=1) rfl,by show (N.ts.map Ag).length<=10000000; rw [Db]; omega,KI ok (λ_ z=>z) hu ?_⟩
 refine⟨z1,z0,N,t,b,many,[u],[],Ct N.ts u,rfl,okn,tm,by omega,pm,by omega,by omega,λc1 n1 m1 o1 hn1=>?_⟩
 refine⟨(by decide:4<=sizeLine),z0,z1,N,t,b,many,[],[u],Ct N.ts u,rfl,okn,tm,by omega,pm,by omega,by omega,λc2 n2 m2 o2 hn2=>?_⟩
 obtain⟨f1,f2⟩:=fit m1
 obtain⟨f3,f4⟩:=fit m2
 refine⟨(by decide:4<=sizeLine),(by decide:2<=sizeLine),p [.sp u c1 c,.sp u c c2] n2 (λd hd=>?_) (No 2) (by omega)⟩
 simp only [aq,a9,or_false] at hd
 rcases hd with rfl | rfl
 ·exact⟨⟨hu,o1,hc⟩,by show 1+max _ _<=_; omega,by show 1+_+_<=_; omega⟩
 ·exact⟨⟨hu,hc,o2⟩,by show 1+max _ _<=_; omega,by show 1+_+_<=_; omega⟩
theorem Sr(h:NA ss n Pd):Gk (EE Pd) n (ss++Re 7 .no):=by
 obtain⟨N,t,b,many,u,rfl,okn,tm,h5,hu,hn,p⟩:=h
 have ok:=okn.1
 have nd:=Dd ok.trise
 have pm:=HY nd hu
 have pl:=pm.length_eq
 rw [Tk] at pl
 have b4:Ja 4=1240:=by decide
 have bl:∀{k:Nat},k<=4->Ja k<=1240/\2 ^ (k+1)<=32:=λ{k} hk=>by
  have:=cR (show 0<2 by decide) (show k+1<=5 by omega)
  rw [← b4]
  unfold Ja
  exact⟨by omega,by omega⟩
 have fit:∀{kept gone left:List A0} {d:Ca},left.length<=4->Made N t b many kept gone left d->d.dep<=5/\d.cnt<=31:=λhl md=>by
  obtain⟨d1,d2⟩:=md.dep
  have:=(bl hl).2
  exact⟨by omega,by omega⟩
 have bd:=(bl (k:=(Ct N.ts u).length) (by omega)).1
 have hro:∀v∈Ct N.ts u,v∈N.ts:=λv hv=>(fA.mp hv).1
 unfold Gk
 refine⟨_,_,_,_,rfl,rfl,IG _ _ _,?_⟩
 refine⟨_,AR (j:=1) rfl,by show (N.ts.map Ag).length<=10000000; rw [Db]; omega,KI ok (λ_ z=>z) hu ?_⟩
 refine⟨z1,z0,N,t,b,many,[u],[],Ct N.ts u,rfl,okn,tm,by omega,pm,by omega,by omega,λc1 n1 m1 o1 hn1=>?_⟩
 obtain⟨f1,f2⟩:=fit (by omega) m1
 refine⟨z0,N,[],u,rfl,okn,L1 ok (List.nil_sublist _),hu,λp1 hp1=>⟨z3,(by decide:4<=sizeLine),z1,?_⟩⟩
 have fa1:N_ N (.sp u c1 (.fa u p1)):=⟨⟨hu,o1,hu,hp1⟩,by show 1+max _ 1<=_; omega,by show 1+_+1<=_; omega⟩
 have hcut:Dp.cutD ((Ct N.ts u).map Ag) none (some 1)=((Ct N.ts u).take 1).map Ag:=by
  have:=PV ((Ct N.ts u).map Ag) 1
  rw [Db] at this
  rw [gw]
  refine this.trans ?_
  cases Ct N.ts u <;> rfl
 show B8 (A1 7) TN _ (Dp.cutD ((Ct N.ts u).map Ag) none (some 1)) _ _
 rw [hcut]
 cases hrest:Ct N.ts u with
 | nil=>exact⟨_,rfl,p [.sp u c1 (.fa u p1)] n1 (λd hd=>by rw [ay.mp hd]; exact fa1) (show 1<=2 by decide) (by omega)⟩
 | cons v r =>
  have hv:v∈N.ts:=hro v (by rw [hrest]; exact On)
  have ndo:(Ct N.ts u).Nodup:=nd.sublist List.filter_sublist
  have pm2:=HY ndo (u:=v) (by rw [hrest]; exact On)
  have pl2:=pm2.length_eq
  rw [Tk] at pl2
  rw [hrest] at pm2
  rw [hrest] at pl pl2 pm hro bd hn1
  have hin:∀w∈v::r,w∈N.ts:=hro
  generalize hX:Ct (v::r) v=X at pm2 pl2
  have q1:([v,u]++[]++X).Perm N.ts:=(List.Perm.swap _ _ _).trans ((pm2.cons u).trans pm)
  have q2:([]++[v]++(u::X)).Perm N.ts:=q1
  have hl1:(v::r).length<=4:=by omega
  have bx:=(bl (k:=X.length) (by omega)).1
  have by':=(bl (k:=(u::X).length) (by rw [Tk]; omega)).1
  unfold TN
  refine⟨by show ((v::r).map Ag).length<=10000000; rw [Db]; omega,KI ok hin hv ?_⟩
  rw [hX]
  refine⟨z2,z0,N,t,b,many,[v,u],[],X,rfl,okn,tm,by omega,q1,by omega,by omega,λc2 n2 m2 o2 hn2=>?_⟩
  obtain⟨g1,g2⟩:=fit (by omega) m2
  refine⟨z1,N,[v],u,rfl,okn,L1 ok (List.singleton_sublist.mpr hv),hu,λp2 hp2=>⟨z3,(by decide:4<=sizeLine),?_⟩⟩
  refine⟨_,rfl,rfl,z0,z1,z1,by show 1+(X.map Ag).length<=_; rw [Db,PySem.sizeLine_eq]; omega,N,t,b,many,[],[v],u::X,rfl,okn,tm,by omega,q2,by rw [Tk]; omega,by omega,λc3 n3 m3 o3 hn3=>?_⟩
  obtain⟨g3,g4⟩:=fit (by rw [Tk]; omega) m3
  refine⟨(by decide:4<=sizeLine),_,_,rfl,rfl,(show 1<sizeLine by decide),?_⟩
  have fa2:N_ N (.sp v (.sp u c2 (.fa u p2)) c3):=⟨⟨hv,⟨hu,o2,hu,hp2⟩,o3⟩,by show 1+max (1+max _ 1) _<=_; omega,by show 1+(1+_+1)+_<=_; omega⟩
  refine⟨_,rfl,p [.sp u c1 (.fa u p1),.sp v (.sp u c2 (.fa u p2)) c3] n3 (λd hd=>?_) (No 2) (by omega)⟩
  simp only [aq,a9,or_false] at hd
  rcases hd with rfl | rfl
  ·exact fa1
  ·exact fa2
end
noncomputable def G9(r:List Nat):Nat:=match r.getLast? with
 | none=>0
 | some l=>l+1
noncomputable def ES(n:Nat)(r:List Nat):List (List Nat):=(bB (n - G9 r)).map λi=>r++[G9 r+i]
noncomputable def rows(n:Nat):Nat->List (List Nat)
 | 0=>[[]]
 | k+1=>(rows n k).flatMap (ES n)
theorem XU{r:List Nat}(h:r.Pairwise (·<·)):∀x∈r,x<G9 r:=λx hx=>by
 unfold G9
 cases e:r.getLast? with
 | none=>rw [gC.mp e] at hx; cases hx
 | some l =>
  obtain⟨ys,rfl⟩:=gD.mp e
  show x<l+1
  rcases bD.mp hx with z | z
  ·have:=(du.mp h).2.2 x z l On
   omega
  ·rw [ay.mp z]; omega
theorem EQ{n:Nat}:∀(k:Nat) (r:List Nat),r∈rows n k↔r.length=k/\r.Pairwise (·<·)/\∀i∈r,i<n
 | 0,r=>by
  constructor
  ·intro h
   rw [ay.mp h]
   exact⟨rfl,dZ,λi hi=>by cases hi⟩
  ·rintro ⟨h,_⟩
   rw [eN.mp h]
   exact On
 | k+1,r=>by
  unfold rows
  rw [eZ]
  constructor
  ·rintro ⟨r',h',hr⟩
   obtain⟨h1,h2,h3⟩:=(EQ k r').mp h'
   obtain⟨i,hi,rfl⟩:=UF.mp hr
   have hi:=bU.mp hi
   refine⟨by rw [Sc,h1]; rfl,du.mpr ⟨h2,gL _ _,λx hx y hy=>?_⟩,λx hx=>?_⟩
   ·rw [ay.mp hy]
    have:=XU h2 x hx
    omega
   ·rcases bD.mp hx with z | z
    ·exact h3 x z
    ·rw [ay.mp z]; omega
  ·rintro ⟨h1,h2,h3⟩
   have hne:r≠[]:=λz=>by rw [z] at h1; cases h1
   obtain⟨r',l,rfl⟩:∃r' l,r=r'++[l]:=⟨r.dropLast,r.getLast hne,(List.dropLast_concat_getLast hne).symm⟩
   rw [Sc,aw] at h1
   obtain⟨p1,_,p3⟩:=du.mp h2
   have hl:=h3 l (bC _ On)
   refine⟨r',(EQ k r').mpr ⟨by omega,p1,λi hi=>h3 i (cH _ hi)⟩,?_⟩
   have hb:G9 r'<=l:=by
    unfold G9
    cases e:r'.getLast? with
    | none=>exact TW _
    | some x =>
     show x+1<=l
     exact p3 x (List.mem_of_getLast? e) l On
   refine UF.mpr ⟨l - G9 r',bU.mpr (by omega),?_⟩
   rw [show G9 r'+(l - G9 r')=l by omega]
theorem Ju{n:Nat}(h6:n<=6):∀k,(rows n k).length<=6 ^ k
 | 0=>No _
 | k+1=>by
  have ih:=Ju h6 k
  unfold rows
  have:∀l:List (List Nat),(l.flatMap (ES n)).length<=l.length*6:=λl=>by
   induction l with
   | nil=>exact No _
   | cons a l il =>
    rw [List.flatMap_cons,Sc,Tk]
    have:(ES n a).length<=6:=by unfold ES; rw [Db,bz]; omega
    omega
  have:=this (rows n k)
  rw [be]
  omega
noncomputable def dT:A0:=⟨"","",0⟩
noncomputable def pick(ts:List A0)(o:Nat)(r:List Nat):List A0:=r.map λi=>ts.getD (i - o) dT
theorem JL{a:A0}{ts:List A0}{o:Nat}{r:List Nat}(h:∀i∈r,o+1<=i):pick (a::ts) o r=pick ts (o+1) r:=by
 unfold pick
 refine bX λi hi=>?_
 have:=h i hi
 rw [show i - o=(i - (o+1))+1 by omega]
 rfl
theorem J5:∀(ts:List A0) (o:Nat) (r:List Nat),r.Pairwise (·<·)->(∀i∈r,o<=i/\i<o+ts.length)->(pick ts o r).Sublist ts
 | [],o,r,_,h=>by
  cases r with
  | nil=>exact h_ _
  | cons i r=>have:=h i On; simp only [cG] at this; omega
 | a::ts,o,r,hp,h=>by
  cases r with
  | nil=>exact List.nil_sublist _
  | cons i r =>
   obtain⟨h1,h2⟩:=bj.mp hp
   have hi:=h i On
   rw [Tk] at h
   by_cases e:i=o
   ·have hr:∀x∈r,o+1<=x:=λx hx=>by have:=h1 x hx; omega
    have ih:=J5 ts (o+1) r h2 λx hx=>⟨hr x hx,by have:=(h x (TM _ hx)).2; omega⟩
    have e2:pick (a::ts) o (i::r)=a::pick (a::ts) o r:=by
     unfold pick
     rw [av,e,fG]
     rfl
    rw [e2,JL hr]
    exact ih.cons_cons a
   ·have hr:∀x∈i::r,o+1<=x:=λx hx=>by
     rcases aq.mp hx with rfl | z
     ·omega
     ·have:=h1 x z; omega
    rw [JL hr]
    exact(J5 ts (o+1) (i::r) hp λx hx=>⟨hr x hx,by have:=(h x hx).2; omega⟩).cons a
theorem Sd:∀{ts S:List A0},S.Sublist ts->∀o:Nat,∃r:List Nat,r.Pairwise (·<·)/\(∀i∈r,o<=i/\i<o+ts.length)/\S=pick ts o r:=by
 intro ts S h
 induction h with
 | slnil=>exact λo=>⟨[],dZ,(λi hi=>by cases hi),rfl⟩
 | cons a _ ih =>
  intro o
  obtain⟨r,h1,h2,h3⟩:=ih (o+1)
  refine⟨r,h1,λi hi=>?_,?_⟩
  ·have:=h2 i hi
   rw [Tk]
   omega
  ·rw [JL λi hi=>(h2 i hi).1]
   exact h3
 | cons_cons a _ ih =>
  intro o
  obtain⟨r,h1,h2,h3⟩:=ih (o+1)
  refine⟨o::r,bj.mpr ⟨λi hi=>by have:=(h2 i hi).1; omega,h1⟩,λi hi=>?_,?_⟩
  ·rw [Tk]
   rcases aq.mp hi with rfl | z
   ·omega
   ·have:=h2 i z; omega
  ·rw [h3,← JL (a:=a) λi hi=>(h2 i hi).1]
   unfold pick
   rw [av,fG]
   rfl
theorem rows_all{ts:List A0}{k:Nat}{S:List A0}:S∈(rows ts.length k).map (pick ts 0)↔S.Sublist ts/\S.length=k:=by
 rw [UF]
 constructor
 ·rintro ⟨r,hr,rfl⟩
  obtain⟨h1,h2,h3⟩:=(EQ k r).mp hr
  refine⟨J5 ts 0 r h2 λi hi=>⟨TW _,by have:=h3 i hi; omega⟩,?_⟩
  unfold pick
  rw [Db]
  exact h1
 ·rintro ⟨hs,hl⟩
  obtain⟨r,h1,h2,rfl⟩:=Sd hs 0
  refine⟨r,(EQ k r).mpr ⟨by unfold pick at hl; rw [Db] at hl; exact hl,h1,λi hi=>by have:=(h2 i hi).2; omega⟩,rfl⟩
noncomputable def EC(r:List Nat):D:=.tup (r.map fun(i:Nat)=>.int (i:Int))
noncomputable def E7:W2:=λss n P=>∃(ts:List A0) (k:Nat),ss=[.sh (D6 ts),.sh (.int (k:Int))]/\ts.length<=6/\k<=6/\P (.lst ((rows ts.length k).map λr=>D6 (pick ts 0 r))) n
noncomputable def JO:Aj:=(Ap (A5 6 (YE (As (Am Mi (AG 5) (BH AW))) (Am A4 (Am BQ (AG 5) (Oc (wC (D.int 1)))) (wC (D.int 1))) (wC (D.int 0))))
 (Ut 4 "list" T5 (AE (B6 [some 5,none] (NF (AE (AG 6) (AE (Cj DB (AE (AG 0) AW)) AW))) (A1 1) FK (Am A4 (AG 0) (BH (AE (AG 1) AW)))) AW)))
noncomputable def QE:Aj:=(Ap (Jo 4 (BM AW))
 (Ap (Gr (BZ (AG 2)) (A1 5) JO)
 (Wn 4 (A5 2 (AG 4)))))
noncomputable def Dy:Aj:=(Ap (A5 2 (BM (AE (BH AW) AW)))
 (Ap (Gr (IZ (AE (AG 1) AW)) (A1 3) QE)
 (A2 (B6 [some 0,none] (BZ (AG 2)) (A1 1) FK (B6 [some 0,none] (BZ (AG 1)) (A1 1) FK (Am BQ (AG 0) (AG 1)))))))
theorem VW{r:List Nat}(h:∀i∈r,i<6):B9 (EC r):=by
 have hf:∀d∈r.map (fun(i:Nat)=>D.int (i:Int)),fine 6 d/\Cw d=0:=λd hd=>by
  obtain⟨i,hi,rfl⟩:=UF.mp hd
  exact⟨by show Int.natAbs _<=6; have:=h i hi; omega,rfl⟩
 refine IP (B:=6) (by decide) (DZ λd hd=>(hf d hd).1) ?_
 have:Fx (r.map fun(i:Nat)=>D.int (i:Int))<=0:=dps_le.mpr λd hd=>eD (hf d hd).2
 show Fx _+1<=100
 omega
noncomputable def Z1(r:List Nat):D->D
 | .int i=>EC (r++[i.toNat])
 | _=>.non
theorem O4{D2:E2}{n:Nat}{ts:List A0}{r:List Nat}{acc:List (List Nat)}{s1 s2 s3 s6:Slot}(h6:ts.length<=6)(hr:∀i∈r,i<ts.length)(hl:r.length<=10)(ha:acc.length<=1000000)(h:∀s6,D2.nx n [.sh (D6 ts),s1,s2,s3,.ow (.lst ((acc++ES ts.length r).map EC)),.sh (EC r),s6]):JO D2 n [.sh (D6 ts),s1,s2,s3,.ow (.lst (acc.map EC)),.sh (EC r),s6]:=by
 have szl:=PySem.sizeLine_eq
 have hb:G9 r<=ts.length:=by
  unfold G9
  cases e:r.getLast? with
  | none=>exact TW _
  | some l=>have:=hr l (List.mem_of_getLast? e); exact this
 have rest:(Ut 4 "list" T5 (AE (B6 [some 5,none] (NF (AE (AG 6) (AE (Cj DB (AE (AG 0) AW)) AW))) (A1 1) FK (Am A4 (AG 0) (BH (AE (AG 1) AW)))) AW)) D2 n [.sh (D6 ts),s1,s2,s3,.ow (.lst (acc.map EC)),.sh (EC r),.sh (.int ((G9 r:Nat):Int))]:=by
  refine⟨_,rfl,rfl,_,_,rfl,rfl,_,_,rfl,⟨by omega,by omega,by omega,by rw [Db]; omega⟩,by rw [B7,Db]; omega,?_⟩
  refine Bc (Z1 r) (λρ=>∃s,ρ=[.sh (EC r),s]) _ _ _ _ ?_ ⟨_,rfl⟩ ?_
  ·rintro d hd ρ n' nx ⟨s,rfl⟩ hnx
   obtain⟨k,hk,rfl⟩:=EN hd
   have e:Z1 r (.int ((G9 r:Int)+(k:Int)))=.tup (r.map (fun(i:Nat)=>D.int (i:Int))++[.int ((G9 r:Int)+(k:Int))]):=by
    show EC (r++[((G9 r:Int)+(k:Int)).toNat])=_
    unfold EC
    rw [cA,show ((G9 r:Int)+(k:Int)).toNat=G9 r+k by omega]
    show D.tup (_++[D.int ((G9 r+k:Nat):Int)])=_
    rw [show ((G9 r+k:Nat):Int)=(G9 r:Int)+(k:Int) by omega]
   have z:=hnx [.sh (EC r),.sh (.int ((G9 r:Int)+(k:Int)))] ⟨_,rfl⟩
   rw [e] at z
   exact⟨z1,by rw [Db]; show _+1<=_; omega,z⟩
  ·have e:(By (G9 r:Int) (((ts.map Ag).length:Int) - (G9 r:Int)).toNat).map (Z1 r)=(ES ts.length r).map EC:=by
    unfold By ES
    rw [bS,bS,Db,show ((ts.length:Int) - (G9 r:Int)).toNat=ts.length - G9 r by omega]
    refine bX λk _=>?_
    show EC (r++[((G9 r:Int)+(k:Int)).toNat])=_
    rw [show ((G9 r:Int)+(k:Int)).toNat=G9 r+k by omega]
    rfl
   rw [bE,e]
   refine⟨_,_,rfl,rfl,?_,?_⟩
   ·have:(ES ts.length r).length<=6:=by unfold ES; rw [Db,bz]; omega
    rw [Db,Db]; omega
   ·have z:=h (.sh (.int ((G9 r:Nat):Int)))
    rw [cA] at z
    exact z
 unfold JO
 refine⟨z0,VW λi hi=>by have:=hr i hi; omega,⟨rfl,rfl,by decide⟩,?_⟩
 cases e:r.getLast? with
 | none =>
  have:r=[]:=gC.mp e
  subst this
  exact rest
 | some l =>
  have hbl:G9 r=l+1:=by unfold G9; rw [e]
  obtain⟨ys,rfl⟩:=gD.mp e
  have en:Bw (EC (ys++[l])) (.tup [])=false:=by
   cases ys <;> rfl
  rw [en]
  refine⟨1,rfl,.int (l:Int),?_,?_⟩
  ·rw [cA]
   exact OT _ _
  ·rw [hbl] at rest
   exact rest
theorem Pz{D2:E2}{n:Nat}{ts:List A0}{s1 s2 s3:Slot}(h6:ts.length<=6):∀(rest acc:List (List Nat)) (s5 s6:Slot),(∀r∈rest,(∀i∈r,i<ts.length)/\r.length<=10)->acc.length+6*rest.length<=1000000->(∀s5 s6,D2.nx n [.sh (D6 ts),s1,s2,s3,.ow (.lst ((acc++rest.flatMap (ES ts.length)).map EC)),s5,s6]) ->
  B8 (A1 5) JO D2 (rest.map EC) n [.sh (D6 ts),s1,s2,s3,.ow (.lst (acc.map EC)),s5,s6]
 | [],acc,s5,s6,_,_,h=>by
  have z:=h s5 s6
  rw [List.flatMap_nil,cL] at z
  exact z
 | r::rest,acc,s5,s6,h1,h2,h=>by
  rw [Tk] at h2
  have le:(ES ts.length r).length<=6:=by unfold ES; rw [Db,bz]; omega
  obtain⟨r1,r2⟩:=h1 r On
  refine O4 h6 r1 r2 (by omega) λs6'=>?_
  refine Pz h6 rest (acc++ES ts.length r) _ _ (λx hx=>h1 x (TM _ hx)) (by rw [Sc]; omega) λs5 s6=>?_
  have z:=h s5 s6
  rw [List.flatMap_cons,← bw] at z
  exact z
noncomputable def UT(ts:List A0):D->D
 | .int i=>Ag (ts.getD i.toNat dT)
 | _=>.non
noncomputable def Z6(ts:List A0):D->D
 | .tup xs=>.lst (xs.map (UT ts))
 | _=>.non
theorem Xw(ts:List A0)(r:List Nat):Z6 ts (EC r)=D6 (pick ts 0 r):=by
 show D.lst ((r.map fun(i:Nat)=>D.int (i:Int)).map (UT ts))=.lst ((r.map λi=>ts.getD (i - 0) dT).map Ag)
 rw [bS,bS]
 rfl
theorem MJ{ss:List Slot}{n:Nat}{Pd:D->Nat->Prop}(h:E7 ss n Pd):Dy (EF Pd) n (ss++Re 5 .no):=by
 obtain⟨ts,k,rfl,h6,hk,q⟩:=h
 have szl:=PySem.sizeLine_eq
 have len:∀j,j<=6->(rows ts.length j).length<=46656:=λj hj=>bF (Ju h6 j) (bF (cR (by decide) hj) (by decide))
 unfold Dy
 refine⟨z0,z1,_,rfl,⟨by omega,by omega⟩,?_⟩
 rw [bv]
 refine B0 (all:=By 0 k) (λpre m ρ=>m=n/\pre.length<=k/\∃s3 s4 s5 s6,ρ=[.sh (D6 ts),.sh (.int (k:Int)),.sh (.lst ((rows ts.length pre.length).map EC)),s3,s4,s5,s6]) ?_ ?_ _ [] _ _ rfl ⟨rfl,TW _,_,_,_,_,rfl⟩
 ·rintro m ρ ⟨rfl,_,s3,s4,s5,s6,rfl⟩
  rw [B7]
  refine⟨by rw [Db]; have:=len k hk; omega,?_⟩
  refine Bc (Z6 ts) (λρ=>∃s,ρ=[.sh (D6 ts),s]) _ _ _ _ ?_ ⟨_,rfl⟩ ?_
  ·rintro d hd ρ n' nx ⟨s,rfl⟩ hnx
   obtain⟨r,hr,rfl⟩:=UF.mp hd
   obtain⟨g1,g2,g3⟩:=(EQ k r).mp hr
   refine⟨by show (r.map fun(i:Nat)=>D.int (i:Int)).length<=10000000; rw [Db]; omega,?_⟩
   refine Bc (UT ts) (λρ=>∃s,ρ=[.sh (D6 ts),s]) _ _ _ _ ?_ ⟨_,rfl⟩ ?_
   ·rintro d hd ρ n'' nx' ⟨s,rfl⟩ hnx'
    obtain⟨i,hi,rfl⟩:=UF.mp hd
    have hlt:=g3 i hi
    have z:=hnx' [.sh (D6 ts),.sh (.int (i:Int))] ⟨_,rfl⟩
    refine⟨Ag (ts.getD i dT),AR ?_,z⟩
    rw [Op,ax,FM hlt]
    rfl
   ·rw [bE]
    exact hnx _ ⟨_,rfl⟩
  ·rw [bE,bS]
   have e:(rows ts.length k).map (Z6 ts∘EC)=(rows ts.length k).map λr=>D6 (pick ts 0 r):=bX λr _=>Xw ts r
   rw [e]
   exact q
 ·rintro pre d post m ρ nx hall ⟨rfl,hp,s3,s4,s5,s6,rfl⟩ hnx
  obtain⟨_,hlt⟩:=HM hall
  have lj:=len pre.length (by omega)
  unfold QE
  refine⟨z0,?_⟩
  refine Pz h6 (rows ts.length pre.length) [] _ _ (λr hr=>?_) (by show 0+_<=_; omega) λs5 s6=>?_
  ·obtain⟨g1,_,g3⟩:=(EQ pre.length r).mp hr
   exact⟨g3,by omega⟩
  ·rw [bE]
   refine⟨_,rfl,?_⟩
   exact hnx _ _ ⟨rfl,by rw [Sc,aw]; omega,_,_,_,_,by rw [Sc,aw]; rfl⟩
noncomputable def ah(N:Net)(t b:Int)(L:Nat):Prop:=(∃S:List A0,S.Sublist N.ts/\We N t b S/\S.length=L)/\∀S:List A0,S.Sublist N.ts->We N t b S->L<=S.length
noncomputable def IC:W2:=λss n P=>∃(N:Net) (t b:Int),ss=[.sh (C3 N),.sh (Bn t b)]/\okN N/\Cp t b/\b<=t/\N.ts.length<=6/\∀L:Nat,ah N t b L->L<=6->P (.int (L:Int)) n
noncomputable def FG:Aj:=(Ap (A5 2 (wC (D.int 0)))
 (Ap (SA (As (Am (JI true) (wC (D.bl true)) (B6 [some 0,some 1,none] (BZ (Ad E7 (AD (AN (Cj Kb (AE (Am BQ (AG 0) (wC (D.int 1))) AW))) (AD (AN (AG 2)) Af)))) (A1 2) FK (Ad ID (AD (AN (AG 0)) (AD (AN (AG 1)) (AD (AN (AG 2)) Af))))))) (A5 2 (Am A4 (AG 2) (wC (D.int 1)))))
 (A2 (AG 2))))
theorem LW{α:Type}{f:α->D}{v:α->Bool}{b:BW}{te:DW}{P:List D->Nat->Prop}(I:List Slot->Prop):∀(l:List α) (acc:List D) (n:Nat) (ρ:List Slot),
  (∀a∈l,∀(ρ:List Slot) (n:Nat) (nx:D->Nat->List Slot->Prop),I ρ->(∀ρ',I ρ'->nx (.bl (v a)) n ρ')->b (f a) ρ λρ1=>te n ρ1 λy n2=>nx y n2 ρ1)->I ρ->P (acc++l.map λa=>.bl (v a)) n->ER b FK te P (l.map f) acc n ρ
 | [],acc,n,ρ,_,_,h=>by rw [de,cL] at h; exact h
 | a::l,acc,n,ρ,ht,hρ,h=>ht a On ρ n (λy n2 ρ1=>ER b FK te P (l.map f) (acc++[y]) n2 ρ1) hρ λρ' hρ' =>
  LW I l (acc++[.bl (v a)]) n ρ' (λx hx=>ht x (TM _ hx)) hρ' (by rw [bw]; exact h)
theorem X1{α:Type}(p:α->Bool)(l:List α):((l.map λa=>D.bl (p a)).any λy=>Bw y (.bl true))=l.any p:=by
 induction l with
 | nil=>rfl
 | cons a r ih =>
  rw [av,dM,dM,ih]
  congr 1
  cases p a <;> rfl
theorem Td{N:Net}(ok:N.Ok){t b:Int}(hbt:b<=t):We N t b N.ts:=λu hu=>by
 refine⟨u.len,?_,Int.mul_le_mul_of_nonneg_left hbt (by have:=(ok.tin u hu).2.2.2.1; omega)⟩
 have:=Wk.snoc (Wk.nil (N:=N) (s:=u.a)) (JR hu).1
 rw [cW] at this
 exact this
noncomputable def kB(N:Net)(t b:Int)(S:List A0):Bool:=@decide (We N t b S) (dL _)
theorem kB_iff{N:Net}{t b:Int}{S:List A0}:kB N t b S=true↔We N t b S:=by
 unfold kB
 exact @decide_eq_true_iff _ (dL _)
theorem O1{ss:List Slot}{n:Nat}{Pd:D->Nat->Prop}(h:IC ss n Pd):FG (EE Pd) n (ss++Re 1 .no):=by
 obtain⟨N,t,b,rfl,okn,tm,hbt,h6,q⟩:=h
 have ok:=okn.1
 unfold FG
 refine⟨λm n' ρ=>n'=n/\∃k:Nat,ρ=[.sh (C3 N),.sh (Bn t b),.sh (.int (k:Int))]/\k<=N.ts.length/\m=N.ts.length - k/\∀S:List A0,S.Sublist N.ts->We N t b S->k<=S.length,⟨_,rfl,0,rfl,TW _,rfl,λ_ _ _=>TW _⟩,?_⟩
 rintro m n' ρ ⟨rfl,k,rfl,hk,rfl,hS⟩
 have len:(rows N.ts.length k).length<=46656:=bF (Ju h6 k) (bF (cR (by decide) (show k<=6 by omega)) (by decide))
 refine⟨_,AR (j:=1) rfl,N.ts,k,rfl,h6,by omega,by rw [Db]; omega,?_⟩
 refine LW (v:=λr=>kB N t b (pick N.ts 0 r)) (λρ=>∃s,ρ=[.sh (C3 N),.sh (Bn t b),s]) (rows N.ts.length k) [] _ _ ?_ ⟨_,rfl⟩ ?_
 ·rintro r hr ρ n' nx ⟨s,rfl⟩ hnx
  have hsub:=(rows_all (ts:=N.ts) (k:=k) (S:=pick N.ts 0 r)).mp (UF.mpr ⟨r,hr,rfl⟩)
  refine⟨N,t,b,pick N.ts 0 r,rfl,okn,tm,hsub.1,λx hx=>?_⟩
  have z:=hnx [.sh (C3 N),.sh (Bn t b),.sh (D6 (pick N.ts 0 r))] ⟨_,rfl⟩
  rw [show kB N t b (pick N.ts 0 r)=x by rw [cF,kB_iff,hx]] at z
  exact z
 ·rw [bE]
  obtain⟨y1,y2,y3⟩:=RS (λr=>kB N t b (pick N.ts 0 r)) (rows N.ts.length k)
  refine⟨⟨rfl,rfl,TW _⟩,⟨y1,y2,by show bn _+1<=100; rw [y3]; decide⟩,_,rfl,?_⟩
  rw [X1]
  show if (!((rows N.ts.length k).any λr=>kB N t b (pick N.ts 0 r)))=true then _ else _
  cases e:(rows N.ts.length k).any λr=>kB N t b (pick N.ts 0 r) with
  | true =>
   obtain⟨r,hr,hkb⟩:=cu.mp e
   have hsub:=(rows_all (ts:=N.ts) (k:=k) (S:=pick N.ts 0 r)).mp (UF.mpr ⟨r,hr,rfl⟩)
   exact BJ (q k ⟨⟨_,hsub.1,kB_iff.mp hkb,hsub.2⟩,hS⟩ (by omega))
  | false =>
   have no:∀S:List A0,S.Sublist N.ts->We N t b S->k+1<=S.length:=λS s1 s2=>by
    have h1:=hS S s1 s2
    by_cases hl:S.length=k
    ·obtain⟨r,hr,er⟩:=UF.mp (rows_all.mpr ⟨s1,hl⟩)
     have:=List.any_eq_false.mp e r hr
     rw [er] at this
     exact absurd (kB_iff.mpr s2) this
    ·omega
   have hfull:=no N.ts (h_ _) (Td ok hbt)
   refine BX ⟨λn2 ρ'=>n2=n'/\ρ'=[.sh (C3 N),.sh (Bn t b),.sh (.int ((k+1:Nat):Int))],?_,rfl,rfl⟩
   rintro n2 ρ' ⟨rfl,rfl⟩
   exact⟨N.ts.length - (k+1),by omega,rfl,k+1,rfl,hfull,rfl,no⟩
noncomputable def Wu:Aj:=(Ap (A5 12 (Cj Tz (AE (AG 11) AW)))
 (Ap (A5 13 (Ad Ee (AD (AN (AG 3)) (AD (AN (AG 4)) (AD (AN (AG 5)) (AD (AN (AG 11)) Af))))))
 (Ap (Bl (EM (CH (As (FL "bool" (AG 13)))) (As (Am (Ku true) (AG 13) (Ad IB (AD (AN (AG 3)) (AD (AN (AG 4)) (AD (AN (AG 5)) (AD (AN (AG 11)) Af)))))))) (A2 (wC (D.bl false))) BA)
 (Bl (As (Am (Ku true) (Cj Tz (AE (AG 11) AW)) (AG 12))) (A2 (wC (D.bl false))) BA))))
noncomputable def Wq:Aj:=(Ap (Ut 7 "list" T5 (AE (Ad H_ (AD (Ay 1) (AD (AN (AG 8)) (AD (AN (AG 9)) (AD (AN (AG 6)) Af))))) AW))
 (Ut 7 "list" T5 (AE (Ad NA (AD (Ay 1) (AD (AN (AG 8)) (AD (AN (AG 9)) Af)))) AW)))
noncomputable def ZF:Aj:=(Ap (Ut 7 "list" T6 (AE (Ad (E8 10) (AD (Ay 1) (AD (AN (AG 6)) Af))) AW))
 (Bl (As (Am (Ku false) (Ad Bj (AD (Ay 1) (AD (AN (wC (D.int 4))) Af))) (wC (D.int 0)))) (Ut 7 "list" T6 (AE (Ad (E8 10) (AD (Ay 1) (AD (AN (Am BQ (IY 7) (Oc (wC (D.int 1))))) Af))) AW)) BA))
noncomputable def PK:Aj:=(Ap (Gr (IZ (AE (wC (D.int 10)) AW)) (A1 10) ZF)
 (V_ 7 (A1 11) Wu))
noncomputable def Oo:Aj:=(Ap (Jo 7 (BM (AE (wC D.non) (AE (wC (D.bl true)) (AE (wC (D.int 0)) (AE (wC (D.str "")) (AE (wC (D.str "enough")) (AE (BH AW) (AE (BM AW) (AE (BH (AE (wC (D.str "enough")) (AE (wC (D.int 0)) AW))) (AE (BM (AE (wC (D.str "enough")) AW)) (AE (BH (AE (wC (D.str "Enough")) AW)) (AE (BH (AE (wC D.non) AW)) (AE (BH (AE (AG 6) AW)) (AE (AG 6) AW)))))))))))))))
 (Ap (Jo 7 (Am Y5 (IY 7) (BM (AE (BH (AE (BM AW) AW)) (AE (BH (AE (BM (AE (wC (D.str "enough")) AW)) AW)) (AE (BH (AE (BM AW) (AE (AG 3) (AE (wC (D.int 1)) AW)))) (AE (BH (AE (BH (AE (wC (D.str "enough")) AW)) AW)) (AE (BH (AE (BM (AE (wC (D.str "split")) AW)) (AE (wC (D.int 0)) (AE (AG 6) (AE (AG 6) AW))))) AW))))))))
 (Ap (A5 8 (Od 3 4 5 "net" "times" "many"))
 (Ap (Gr (BZ (OZ Fu (Am BQ (AG 3) (wC (D.int 1))) Bk (C1 (wC (D.int 2))))) (A1 9) Wq)
 PK))))
noncomputable def PZ:Aj:=(Ap (A5 6 (Ad Jj (AD (Ay 1) (AD (AN (AG 3)) (AD (AN (AG 4)) (AD (AN (AG 5)) Af))))))
 Oo)
noncomputable def Lz:Aj:=(Ap (A5 3 (Ad Qi (AD (Ay 1) (AD (AN (wC (D.int 5))) (AD (AN (wC (D.int 5))) Af)))))
 (Ap (A5 4 (Ad Eb (AD (Ay 1) Af)))
 (Ap (A5 5 (Ad IC (AD (AN (AG 3)) (AD (AN (AG 4)) Af))))
 (Ap (A5 5 (Cj QP (AE (wC (D.int 0)) (AE (Am CP (AG 5) (Ad Bj (AD (Ay 1) (AD (AN (wC (D.int 2))) Af)))) AW))))
 PZ))))
noncomputable def Lq:Aj:=(Ap (Bl (EM (CH (As (Ad GH (AD (Ay 1) Af)))) (LG (As (Am (Ku false) (Ad Bj (AD (Ay 1) (AD (AN (wC (D.int 8))) Af))) (wC (D.int 0)))) (CH (As (Ad GH (AD (Ay 1) Af)))))) (A2 (wC (D.bl false))) BA)
 (Ap (Gr (IZ (AE (wC (D.int 2)) AW)) (A1 2) Lz)
 (A2 (wC (D.bl true)))))
noncomputable def Gd(x:D):Prop:=fine (10 ^ 30+2) x/\GW x<=200000/\Cw x<=10
theorem Ho{N:Net}(ok:N.Ok)(h5:N.ps.length<=5):∀c:Ca,LB N c->GW c.D<=740*c.cnt+500
 | .en,_=>by show ("enough" : Str).length+1+0<=740*1+500; rw [show ("enough" : Str).length=6 by decide +kernel]; decide
 | .fa u p,⟨hu,hp⟩=>by
  obtain⟨ha,hb,_⟩:=ok.tin u hu
  have la:=(ok.names _ ha).2.1
  have lb:=(ok.names _ hb).2.1
  have hl:=hp.1
  have hs:∀q:List Int,Dn (q.map D.int)=201*q.length:=λq=>by
   induction q with
   | nil=>rfl
   | cons x q ih=>rw [av]; show 200+1+Dn (q.map D.int)=_; rw [ih,Tk]; omega
  have:=hs p
  show ("far" : Str).length+1+((u.a.length+1+(u.b.length+1+(200+1+0)))+1+(Dn (p.map D.int)+1+0))<=740*1+500
  rw [show ("far" : Str).length=3 by decide +kernel]
  omega
 | .sp u c d,⟨hu,hc,hd⟩=>by
  obtain⟨ha,hb,_⟩:=ok.tin u hu
  have la:=(ok.names _ ha).2.1
  have lb:=(ok.names _ hb).2.1
  have h1:=Ho ok h5 c hc
  have h2:=Ho ok h5 d hd
  show ("split" : Str).length+1+((u.a.length+1+(u.b.length+1+(200+1+0)))+1+(GW c.D+1+(GW d.D+1+0)))<=740*(1+c.cnt+d.cnt)+500
  rw [show ("split" : Str).length=5 by decide +kernel]
  omega
theorem WT{N:Net}(ok:N.Ok)(h5:N.ps.length<=5){c:Ca}(h:N_ N c):Gd c.D:=by
 obtain⟨h1,h2,h3⟩:=h
 obtain⟨l1,l2⟩:=JZ ok c h1
 have:=Ho ok h5 c h1
 exact⟨l1.mono (by decide),by omega,by omega⟩
theorem Sg{N:Net}{t b:Int}{many:Nat}{x:D}(h:Cw x<=10):FT N t b many x=Eh N t b many 15 [] [] x:=by
 unfold FT
 have:DC 14 x+1<=2048:=PX 14 10 x h
 rw [decide_eq_true (show DC 14 x<=4000 by omega),dN]
theorem Py{D2:E2}{n:Nat}{N:Net}{t b:Int}{many:Nat}(okn:okN N)(tm:Cp t b){s2 s6 s7 s8 s9 s10:Slot}:∀(l:List D) (s11 s12 s13:Slot),(∀x∈l,Gd x)->(∀s11 s12 s13,D2.nx n [.no,.fd,s2,.sh (C3 N),.sh (Bn t b),.sh (.int (many:Int)),s6,s7,s8,s9,s10,s11,s12,s13]) ->
  B8 (A1 11) Wu D2 l n [.no,.fd,s2,.sh (C3 N),.sh (Bn t b),.sh (.int (many:Int)),s6,s7,s8,s9,s10,s11,s12,s13]
 | [],s11,s12,s13,_,h=>h s11 s12 s13
 | x::l,s11,s12,s13,hx,h=>by
  obtain⟨g1,g2,g3⟩:=hx x On
  have sh:Sh x:=U5 (B:=10 ^ 30+2) (by decide) g1 (by omega) (by omega)
  have pl:Pl x:=⟨g1.mono (by decide),by omega⟩
  unfold Wu
  refine⟨_,rfl,sh,N,t,b,many,x,rfl,okn,tm,pl,?_⟩
  refine⟨N,t,b,many,x,rfl,okn,tm,pl,g3,?_⟩
  rw [Sg g3]
  generalize hr:Eh N t b many 15 [] [] x=r
  show if (!(r==r))=true then _ else _
  rw [beq_self_eq_true]
  refine BJ ⟨_,rfl,sh,?_⟩
  generalize hA:Oq x=A
  show if (!(A==A))=true then _ else _
  rw [beq_self_eq_true]
  exact BJ (Py okn tm l _ _ _ (λy hy=>hx y (TM _ hy)) h)
theorem Q5{D2:E2}{n:Nat}{N:Net}{t b:Int}{many:Nat}{k:D}{l:List D}(okn:okN N)(tm:Cp t b)(hk:fine (10 ^ 30) k)(hk2:GW k<=47200)(hk3:Cw k<=8)(hl:∀x∈l,Gd x)(hl2:l.length<=60)(hn:700<=n){s2 s8 s9 s10 s11 s12 s13:Slot}
  (h:∀n' s7 s10 s11 s12 s13,n - 700<=n'->D2.nx n' [.no,.fd,s2,.sh (C3 N),.sh (Bn t b),.sh (.int (many:Int)),.sh k,s7,s8,s9,s10,s11,s12,s13]) :
  PK D2 n [.no,.fd,s2,.sh (C3 N),.sh (Bn t b),.sh (.int (many:Int)),.sh k,.ow (.lst l),s8,s9,s10,s11,s12,s13]:=by
 have szl:=PySem.sizeLine_eq
 unfold PK
 refine⟨10,rfl,by decide,?_⟩
 refine B0 (all:=By 0 10) (λpre m ρ=>n - 70*pre.length<=m/\∃(l:List D) (s10:Slot),(∀x∈l,Gd x)/\l.length<=60+2*pre.length/\ρ=[.no,.fd,s2,.sh (C3 N),.sh (Bn t b),.sh (.int (many:Int)),.sh k,.ow (.lst l),s8,s9,s10,s11,s12,s13]) ?_ ?_ _ [] _ _ rfl ⟨Nat.sub_le _ _,l,_,hl,hl2,rfl⟩
 ·rintro m ρ ⟨hm,l,s10,hl,_,rfl⟩
  rw [B7] at hm
  refine⟨l,rfl,λa=>?_⟩
  exact Py (D2:={ D2 with nx:=_ }) okn tm l _ _ _ hl λs11 s12 s13=>⟨rfl,h m _ s10 s11 s12 s13 (by omega)⟩
 ·rintro pre d post m ρ nx hall ⟨hm,l,s10,hl,hl2,rfl⟩ hnx
  obtain⟨rfl,hp⟩:=HM hall
  rw [Sc,aw] at hnx
  unfold ZF
  refine⟨_,rfl,rfl,k,10 ^ 30,rfl,hk,No _,by decide,by omega,by omega,by omega,λy n1 hy hn1=>?_⟩
  obtain⟨y1,y2,y3⟩:=hy
  have gy:Gd y:=⟨y1.mono (by decide),by omega,by omega⟩
  have gl:∀x∈l++[y],Gd x:=λx hx=>(bD.mp hx).elim (hl x) λz=>by rw [ay.mp z]; exact gy
  refine⟨_,_,rfl,rfl,by omega,?_⟩
  refine⟨4,rfl,by decide,by decide,by omega,λr r0 r1=>?_⟩
  show if (r==0)=true then _ else _
  refine Dq (λ_=>?_) λ_=>hnx _ _ ⟨by omega,_,_,gl,by rw [Sc,aw]; omega,rfl⟩
  refine⟨_,rfl,rfl,1,rfl,y,OT _ _,y,10 ^ 30+1,rfl,y1,by decide,by decide,by omega,by omega,by omega,λz n2 hz hn2=>?_⟩
  obtain⟨w1,w2,w3⟩:=hz
  have gz:Gd z:=⟨w1,by omega,by omega⟩
  refine⟨_,_,rfl,rfl,by rw [Sc,aw]; omega,hnx _ _ ⟨by omega,_,_,λx hx=>(bD.mp hx).elim (gl x) λe=>by rw [ay.mp e]; exact gz,by rw [Sc,Sc,aw,aw]; omega,rfl⟩⟩
theorem Xj{N:Net}(okn:okN N):fine 1000001 (C3 N)/\GW (C3 N)<=48000/\Cw (C3 N)<=3:=SK (QL okn.1) (DY okn.1) (by rw [Db]; have:=okn.2.1; omega) (by rw [Db]; have:=okn.2.2; omega)
theorem Vb{N:Net}(okn:okN N){k:D}(hk:fine (10 ^ 30) k)(hk2:GW k<=47200)(hk3:Cw k<=8):∀x∈[D.non,.bl true,.int 0,.str "",.str "enough",.tup [],.lst [],.tup [.str "enough",.int 0],.lst [.str "enough"],.tup [.str "Enough"],.tup [.non],.tup [k],k]++[.tup [.lst []],.tup [.lst [.str "enough"]],.tup [.lst [],C3 N,.int 1],.tup [.tup [.str "enough"]],.tup [.lst [.str "split"],.int 0,k,k]],Gd x:=by
 have k1:fine (10 ^ 30+2) k:=hk.mono (by decide)
 obtain⟨n1,n2,n3⟩:=Xj okn
 have n1:fine (10 ^ 30+2) (C3 N):=n1.mono (by decide)
 have st:∀x∈[("" : Str),"enough","Enough","split"],(∀c∈cs x,c<1114112)/\x.length<=9:=by decide +kernel
 have s1:=st "" (by simp)
 have s2:=st "enough" (by simp)
 have s3:=st "Enough" (by simp)
 have s4:=st "split" (by simp)
 have z:(0:Int).natAbs<=10 ^ 30+2:=TW _
 have o:(1:Int).natAbs<=10 ^ 30+2:=by decide
 intro x hx
 simp only [dn,bE,aq,a9,or_false] at hx
 rcases hx with rfl | rfl | rfl | rfl | rfl | rfl | rfl | rfl | rfl | rfl | rfl | rfl | rfl | rfl | rfl | rfl | rfl | rfl
 ·exact⟨trivial,TW _,TW _⟩
 ·exact⟨trivial,TW _,TW _⟩
 ·exact⟨z,by show 200<=200000; decide,TW _⟩
 ·exact⟨s1.1,by have:=s1.2; show ("" : Str).length<=_; omega,TW _⟩
 ·exact⟨s2.1,by have:=s2.2; show ("enough" : Str).length<=_; omega,TW _⟩
 ·exact⟨trivial,TW _,by show 0+1<=10; decide⟩
 ·exact⟨trivial,TW _,by show 0+1<=10; decide⟩
 ·exact⟨⟨s2.1,z,trivial⟩,by have:=s2.2; show ("enough" : Str).length+1+(200+1+0)<=_; omega,by show max 0 (max 0 0)+1<=10; decide⟩
 ·exact⟨⟨s2.1,trivial⟩,by have:=s2.2; show ("enough" : Str).length+1+0<=_; omega,by show max 0 0+1<=10; decide⟩
 ·exact⟨⟨s3.1,trivial⟩,by have:=s3.2; show ("Enough" : Str).length+1+0<=_; omega,by show max 0 0+1<=10; decide⟩
 ·exact⟨⟨trivial,trivial⟩,by show 0+1+0<=200000; decide,by show max 0 0+1<=10; decide⟩
 ·exact⟨⟨k1,trivial⟩,by show GW k+1+0<=_; omega,by show max (Cw k) 0+1<=10; omega⟩
 ·exact⟨k1,by omega,by omega⟩
 ·exact⟨⟨trivial,trivial⟩,by show 0+1+0<=200000; decide,by show max (0+1) 0+1<=10; decide⟩
 ·exact⟨⟨⟨s2.1,trivial⟩,trivial⟩,by have:=s2.2; show (("enough" : Str).length+1+0)+1+0<=_; omega,by show max (max 0 0+1) 0+1<=10; decide⟩
 ·exact⟨⟨trivial,n1,o,trivial⟩,by show 0+1+(GW (C3 N)+1+(200+1+0))<=_; omega,by show max (0+1) (max (Cw (C3 N)) (max 0 0))+1<=10; omega⟩
 ·exact⟨⟨⟨s2.1,trivial⟩,trivial⟩,by have:=s2.2; show (("enough" : Str).length+1+0)+1+0<=_; omega,by show max (max 0 0+1) 0+1<=10; decide⟩
 ·exact⟨⟨⟨s4.1,trivial⟩,z,k1,k1,trivial⟩,by have:=s4.2; show (("split" : Str).length+1+0)+1+(200+1+(GW k+1+(GW k+1+0)))<=_; omega,by show max (max 0 0+1) (max 0 (max (Cw k) (max (Cw k) 0)))+1<=10; omega⟩
theorem Q3{D2:E2}{n:Nat}{N:Net}{t b:Int}{many:Nat}{c:Ca}(okn:okN N)(h5:N.ps.length<=5)(t5:N.ts.length<=5)(tm:Cp t b)(hc:LB N c)(hcd:c.dep<=6)(hcc:c.cnt<=63)(hn:17000<=n){s2 s7 s8 s9 s10 s11 s12 s13:Slot}
  (h:∀n' s7 s8 s9 s10 s11 s12 s13,n - 17000<=n'->D2.nx n' [.no,.fd,s2,.sh (C3 N),.sh (Bn t b),.sh (.int (many:Int)),.sh c.D,s7,s8,s9,s10,s11,s12,s13]) :
  Oo D2 n [.no,.fd,s2,.sh (C3 N),.sh (Bn t b),.sh (.int (many:Int)),.sh c.D,s7,s8,s9,s10,s11,s12,s13]:=by
 have ok:=okn.1
 have szl:=PySem.sizeLine_eq
 obtain⟨l1,l2⟩:=JZ ok c hc
 have l3:=Ho ok h5 c hc
 have gb:=Vb okn (k:=c.D) (l1.mono (by decide)) (by omega) (by omega)
 unfold Oo
 refine⟨z0,z0,z2,z1,z1,z1,z1,(by decide:13<=sizeLine),?_⟩
 refine⟨z0,z1,z1,z1,z0,z3,z1,z1,z1,(by decide:4<=sizeLine),(by decide:5<=sizeLine),(by show 13+5<=sizeLine; decide),?_⟩
 refine⟨_,_,_,rfl,rfl,rfl,?_⟩
 refine⟨_,AR (j:=1) rfl,?_⟩
 have hcut:Dp.cutD (N.ts.map Ag) none (some 2)=(N.ts.take 2).map Ag:=by
  have:=PV (N.ts.map Ag) 2
  rw [Db] at this
  rw [gw]
  refine this.trans ?_
  rcases N.ts with _ | ⟨a,_ | ⟨b,r⟩⟩ <;> first | rfl | (congr 1; simp only [Tk]; omega)
 show B8 (A1 9) Wq _ (Dp.cutD (N.ts.map Ag) none (some 2)) _ _
 rw [hcut]
 refine B0 (all:=(N.ts.take 2).map Ag) (λpre m ρ=>n - 8000*pre.length<=m/\∃(l:List D) (s9:Slot),(∀x∈l,Gd x)/\l.length<=18+4*pre.length/\ρ=[.no,.fd,s2,.sh (C3 N),.sh (Bn t b),.sh (.int (many:Int)),.sh c.D,.ow (.lst l),.sh (R8 N t b many),s9,s10,s11,s12,s13]) ?_ ?_ _ [] _ _ rfl ⟨Nat.sub_le _ _,_,_,gb,No _,rfl⟩
 ·rintro m ρ ⟨hm,l,s9,hl,hl2,rfl⟩
  have e2:((N.ts.take 2).map Ag).length<=2:=by rw [Db,cN]; omega
  exact Q5 okn tm (l1.mono (by decide)) (by omega) (by omega) hl (by omega) (by omega) λn' s7 s10 s11 s12 s13 hn'=>h n' _ _ _ _ _ _ _ (by omega)
 ·rintro pre d post m ρ nx hall ⟨hm,l,s9,hl,hl2,rfl⟩ hnx
  have hd:d∈(N.ts.take 2).map Ag:=by rw [hall]; simp
  obtain⟨u,hu,rfl⟩:=UF.mp hd
  have hu:=fH hu
  have hp:pre.length<2:=by
   have:=congrArg eS hall
   rw [Db,cN,Sc,Tk] at this
   omega
  rw [Sc,aw] at hnx
  unfold Wq
  refine⟨_,rfl,rfl,N,t,b,many,u,c,rfl,okn,tm,t5,hu,hc,hcd,hcc,by omega,λcs n1 f1 f2 hn1=>?_⟩
  have g1:∀x∈l++cs.map Ca.D,Gd x:=λx hx=>(bD.mp hx).elim (hl x) λz=>by
   obtain⟨d,hd,rfl⟩:=UF.mp z
   exact WT ok h5 (f1 d hd)
  refine⟨_,_,rfl,rfl,by rw [Db]; omega,?_⟩
  refine⟨_,rfl,rfl,N,t,b,many,u,rfl,okn,tm,t5,hu,by omega,λds n2 f3 f4 hn2=>?_⟩
  have g2:∀x∈l++cs.map Ca.D++ds.map Ca.D,Gd x:=λx hx=>(bD.mp hx).elim (g1 x) λz=>by
   obtain⟨d,hd,rfl⟩:=UF.mp z
   exact WT ok h5 (f3 d hd)
  refine⟨_,_,rfl,rfl,by rw [Sc,Db,Db]; omega,hnx _ _ ⟨by omega,_,_,g2,by rw [Sc,Sc,Db,Db]; omega,rfl⟩⟩
theorem Q0{D2:E2}{n:Nat}(hn:23000<=n){s2 s3 s4 s5 s6 s7 s8 s9 s10 s11 s12 s13:Slot}
  (h:∀n' s3 s4 s5 s6 s7 s8 s9 s10 s11 s12 s13,n - 23000<=n'->D2.nx n' [.no,.fd,s2,s3,s4,s5,s6,s7,s8,s9,s10,s11,s12,s13]) :
  Lz D2 n [.no,.fd,s2,s3,s4,s5,s6,s7,s8,s9,s10,s11,s12,s13]:=by
 have b6:Ja 6=5080:=by decide
 unfold Lz
 refine⟨5,5,rfl,by decide,by decide,by omega,λN n1 ok hp ht hn1=>?_⟩
 have okn:okN N:=⟨ok,by omega,by omega⟩
 refine⟨rfl,by omega,λt b b1 bt t1=>?_⟩
 have tm:Cp t b:=⟨b1,by omega,by omega,t1⟩
 refine⟨N,t,b,rfl,okn,tm,bt,by omega,λL few hL=>?_⟩
 refine⟨2,rfl,by decide,by decide,by omega,λr r0 r1=>?_⟩
 obtain⟨many,hmany⟩:∃many:Nat,(if (0:Int)<(L:Int) - r then (L:Int) - r else 0)=(many:Int):=⟨(if (0:Int)<(L:Int) - r then (L:Int) - r else 0).toNat,by split <;> omega⟩
 show PZ D2 _ [.no,.fd,s2,.sh (C3 N),.sh (Bn t b),.sh (.int (if (0:Int)<(L:Int) - r then (L:Int) - r else 0)),s6,s7,s8,s9,s10,s11,s12,s13]
 rw [hmany]
 unfold PZ
 refine⟨N,t,b,many,rfl,okn,tm,by omega,by omega,λc n2 mc oc hn2=>?_⟩
 obtain⟨d1,d2⟩:=mc.dep
 have p2:=cR (show 0<2 by decide) (show N.ts.length+1<=6 by omega)
 exact Q3 okn hp ht tm oc (by omega) (by omega) (by omega) λn' s7 s8 s9 s10 s11 s12 s13 hn'=>h n' _ _ _ _ _ _ _ _ _ _ _ (by omega)
theorem O2:Lq { nx:=λ_ _=>False,rt:=λd _=>d=.bl true } 60000 (.no::.fd::Re 12 .no):=by
 have main:∀m,59000<=m->(Ap (Gr (IZ (AE (wC (D.int 2)) AW)) (A1 2) Lz) (A2 (wC (D.bl true))):Aj) { nx:=λ_ _=>False,rt:=λd _=>d=.bl true } m (.no::.fd::Re 12 .no):=λm hm=>by
  refine⟨2,rfl,by decide,?_⟩
  refine B0 (all:=By 0 2) (λpre m ρ=>59000 - 23000*pre.length<=m/\∃s2 s3 s4 s5 s6 s7 s8 s9 s10 s11 s12 s13,ρ=[.no,.fd,s2,s3,s4,s5,s6,s7,s8,s9,s10,s11,s12,s13]) ?_ ?_ _ [] _ _ rfl ⟨hm,_,_,_,_,_,_,_,_,_,_,_,_,rfl⟩
  ·rintro m ρ ⟨_,s2,s3,s4,s5,s6,s7,s8,s9,s10,s11,s12,s13,rfl⟩
   rfl
  ·rintro pre d post m ρ nx hall ⟨hm,s2,s3,s4,s5,s6,s7,s8,s9,s10,s11,s12,s13,rfl⟩ hnx
   obtain⟨_,hp⟩:=HM hall
   rw [Sc,aw] at hnx
   exact Q0 (by omega) λn' s3 s4 s5 s6 s7 s8 s9 s10 s11 s12 s13 hn'=>hnx _ _ ⟨by omega,_,_,_,_,_,_,_,_,_,_,_,_,rfl⟩
 unfold Lq
 refine⟨rfl,by decide,λn1 hn1=>?_⟩
 refine BJ ⟨8,rfl,by decide,by decide,by omega,λr r0 r1=>?_⟩
 show if (r==0)=true then _ else _
 refine Dq (λ_=>⟨rfl,by omega,λn2 hn2=>BJ (main n2 (by omega))⟩) λ_=>main _ (by omega)
end Nt
set_option maxHeartbeats 4000000
namespace K62
open PySem PySem.Spec PyProof.Rows L2 Dp Nt
section
variable (P:Program)(w:World)(K:Frag)(mg:Str->Option Value)(base:Heap)
noncomputable abbrev G_:Prop:=Got P w K mg base "is_whole" 1 ["thing"] .sh Kr
noncomputable abbrev Ci:Prop:=Got P w K mg base "is_tuple_of" 1 ["count","thing"] .sh Dk
noncomputable abbrev Uh:Prop:=Got P w K mg base "only" 1 ["net","ties"] .sh M_
noncomputable abbrev GD:Prop:=Got P w K mg base "is_tie_of" 2 ["net","thing"] .sh Ui
noncomputable abbrev Ls:Prop:=Got P w K mg base "without" 2 ["net","ties"] .sh Jd
noncomputable abbrev Hu:Prop:=Got P w K mg base "are_prices" 2 ["net","thing"] .sh Jg
noncomputable abbrev GC:Prop:=Got P w K mg base "price_gap" 1 ["net","prices","a","b"] .sh Uj
noncomputable abbrev Lu:Prop:=Got P w K mg base "is_fair" 3 ["net","thing"] .sh Qk
noncomputable abbrev Iv:Prop:=Got P w K mg base "is_within" 1 ["length","times","number"] .sh Je
noncomputable abbrev GB:Prop:=Got P w K mg base "prices_fault" 4 ["net","times","tie","thing"] .sh GU
noncomputable abbrev Iu:Prop:=Got P w K mg base "shows_far" 5 ["net","times","out","thing"] .sh Jf
noncomputable abbrev Ko:Prop:=Got P w K mg base "shows_by" 21 ["net","times","many","kept","out","deep","thing"] .sh (IW 15)
noncomputable abbrev Kp:Prop:=Got P w K mg base "count_of" 17 ["case"] .sh (Eg 14)
noncomputable abbrev Jc:Prop:=Got P w K mg base "shows" 22 ["net","times","many","thing"] .sh Ee
noncomputable abbrev BB:Prop:=Got P w K mg base "_law_next" 1 ["_law_feed_here","_law_many"] .sh Bj
noncomputable abbrev Hx:Prop:=Got P w K mg base "_law_names" 1 [] .sh Jh
noncomputable abbrev EJ:Prop:=Got P w K mg base "_law_places" 2 ["_law_feed_here","_law_many"] .sh GI
noncomputable abbrev Gp:Prop:=Got P w K mg base "_law_length" 2 ["_law_feed_here","_law_sort"] .sh Qj
noncomputable abbrev Iw:Prop:=Got P w K mg base "_law_ties" 3 ["_law_feed_here","_law_places_here","_law_most"] .sh M9
noncomputable abbrev Kq:Prop:=Got P w K mg base "_law_net" 4 ["_law_feed_here","_law_most","_law_ties_here"] .sh Qi
noncomputable abbrev DH:Prop:=Got P w K mg base "_law_times" 2 ["_law_feed_here"] .sh Eb
noncomputable abbrev E5:Prop:=Got P w K mg base "_law_far" 1 ["_law_places_here","_law_ties_here"] .sh OX
noncomputable abbrev Hz:Prop:=Got P w K mg base "_law_keeps" 2 ["_law_net_here","_law_times_here","_law_some"] .sh ID
noncomputable abbrev GG:Prop:=Got P w K mg base "_law_choices" 1 ["_law_ties_here","_law_many"] .fr E7
noncomputable abbrev Hy:Prop:=Got P w K mg base "_law_least" 3 ["_law_net_here","_law_times_here"] .sh IC
noncomputable abbrev EK:Prop:=Got P w K mg base "_law_is_tie" 1 ["_law_net_here","_law_thing"] .sh Ef
noncomputable abbrev Gq:Prop:=Got P w K mg base "_law_is_far" 2 ["_law_world","_law_gone","_law_tie","_law_prices_here"] .sh Ji
noncomputable abbrev Hw:Prop:=Got P w K mg base "_law_shows" 13 ["_law_world","_law_kept","_law_gone","_law_thing","_law_deep"] .sh (DN 10)
noncomputable abbrev Ea:Prop:=Got P w K mg base "_law_read_case" 14 ["_law_net_here","_law_times_here","_law_many","_law_thing"] .sh IB
noncomputable abbrev Gn:Prop:=Got P w K mg base "_law_prices" 2 ["_law_feed_here","_law_world","_law_spans","_law_tie"] .sh E6
noncomputable abbrev FJ:Prop:=Got P w K mg base "_law_far_case" 3 ["_law_feed_here","_law_world","_law_gone"] .sh IF
noncomputable abbrev D1:Prop:=Got P w K mg base "_law_made" 11 ["_law_feed_here","_law_world","_law_kept","_law_gone","_law_left"] .sh (CB 7)
noncomputable abbrev Iz:Prop:=Got P w K mg base "_law_case" 12 ["_law_feed_here","_law_net_here","_law_times_here","_law_many"] .sh Jj
noncomputable abbrev I0:Prop:=Got P w K mg base "_law_bent" 13 ["_law_feed_here","_law_thing"] .sh (E8 10)
noncomputable abbrev GF:Prop:=Got P w K mg base "_law_star" 3 ["_law_feed_here","_law_many"] .sh IA
noncomputable abbrev Iy:Prop:=Got P w K mg base "_law_held" 2 ["_law_net_here","_law_kept","_law_tie"] .sh IE
noncomputable abbrev Di:Prop:=Got P w K mg base "_law_split_twice" 12 ["_law_feed_here","_law_world","_law_tie","_law_case_here"] .fr H_
noncomputable abbrev C5:Prop:=Got P w K mg base "_law_held_by_kept" 12 ["_law_feed_here","_law_world","_law_tie"] .fr NA
noncomputable abbrev D4:Prop:=Got P w K mg base "_law_deep_right" 23 ["_law_feed_here"] .sh GH
noncomputable abbrev Hv:Prop:=Got P w K mg base "_law_sized" 15 ["_law_ties_here","_law_many"] .sh (Ec 12)
noncomputable abbrev D0:Prop:=Got P w K mg base "_law_wide_right" 23 ["_law_feed_here"] .sh GH
end
section
variable {P:Program}{w:World}{K:Frag}{mg:Str->Option Value}{base:Heap}
theorem NU:Ar ["thing"] ["thing"] (AV Gv):=by constructor <;> first | rfl | decide +kernel
theorem Nl{f:Addr}{fd:FuncData}(T:Txt K mg)(F:Fun K "is_whole" "is_whole" Gv f fd):BG P w K mg base CW 1 f fd ["thing"] (C7 K .sh Kr 1):=by
 exact Dr F NU (by decide) (λcdv A outer s H E hr=>(AL (AT (Cz (Ba JN (dv 0) rfl T.n_isinstance rfl T.n_int (by decide +kernel)) (Cy (Xr (Ba Cm (dv 0) rfl T.n_isinstance rfl T.n_bool (by decide +kernel)))))))) (λss n Pd hl hw=>NY hw)
theorem Jq:Ar ["count","thing"] ["count","thing"] (AV D7):=by constructor <;> first | rfl | decide +kernel
theorem J_{f:Addr}{fd:FuncData}(T:Txt K mg)(F:Fun K "is_tuple_of" "is_tuple_of" D7 f fd):BG P w K mg base CW 1 f fd ["count","thing"] (C7 K .sh Dk 2):=by
 exact Dr F Jq (by decide) (λcdv A outer s H E hr=>(AL (AT (Cz (Ba kit_tuple (dv 1) rfl T.n_isinstance rfl T.n_tuple (by decide +kernel)) (Cy (BY CO E4 (Ah Au BS rfl T.n_len PySem.boot_len (AO (dv 1) AU)) (dv 0) (AZ _))))))) (λss n Pd hl hw=>J0 hw)
theorem U6:Ar ["net","ties"] ["net","ties"] (AV Ow):=by constructor <;> first | rfl | decide +kernel
theorem VQ{f:Addr}{fd:FuncData}(T:Txt K mg)(F:Fun K "only" "only" Ow f fd):BG P w K mg base CW 1 f fd ["net","ties"] (C7 K .sh M_ 2):=by
 exact Dr F U6 (by decide) (λcdv A outer s H E hr=>(AL (AT (Al (AB (AX AQ Aq (dv 0) AC) (AB (BP Bh Dh rfl T.n_tuple eL (AO (Ah Pb V4 rfl T.n_sorted boot_sorted (AO (Y9 1) AU)) AU)) AK)))))) (λss n Pd hl hw=>Q4 hw)
theorem MA:Ar ["net","thing"] ["net","thing"] (AV FZ):=by constructor <;> first | rfl | decide +kernel
theorem MU{f:Addr}{fd:FuncData}(T:Txt K mg)(G_is_whole:G_ P w K mg base)(F:Fun K "is_tie_of" "is_tie_of" FZ f fd):BG P w K mg base CW 2 f fd ["net","thing"] (C7 K .sh Ui 2):=by
 exact Dr F MA (by decide) (λcdv A outer s H E hr=>(AL (AT (Cz (BY (Fo hr) Dz (dv 1) (AX AQ Aq (dv 0) AC) (by with_unfolding_all rfl)) (Cy (AJ G_is_whole (hr.mono (by decide)) rfl (AA (AH (AX AQ Aq (dv 1) AC)) AM))))))) (λss n Pd hl hw=>MI hw)
theorem Ou:Ar ["net","ties"] ["net","ties"] (AV II):=by constructor <;> first | rfl | decide +kernel
theorem PC{f:Addr}{fd:FuncData}(T:Txt K mg)(G_only:Uh P w K mg base)(F:Fun K "without" "without" II f fd):BG P w K mg base CW 2 f fd ["net","ties"] (C7 K .sh Jd 2):=by
 exact Dr F Ou (by decide) (λcdv A outer s H E hr=>(AL (AT (AJ G_only (hr.mono (by decide)) rfl (AA (AH (dv 0)) (AA (ZA (B2 rfl [("ties" : Str),("tie" : Str)] [some 1,none] (B1 (AX AQ Aq (dv 0) AC)) (λ_ _ _ _ _=>(Av (i:=1) (show bh [("ties" : Str),("tie" : Str)] by decide +kernel) rfl (Rs rfl))) (λ_ _ _ _ _=>(Hk (Ai (DL hr) Dz (dv 1) (dv 0) (by with_unfolding_all rfl)))) (λ_ _ _ _ _=>(dv 1)) (by kernel_rfl))) AM)))))) (λss n Pd hl hw=>MF hw)
theorem Ky:Ar ["net","thing"] ["net","thing"] (AV Ej):=by constructor <;> first | rfl | decide +kernel
theorem K3{f:Addr}{fd:FuncData}(T:Txt K mg)(G_is_tuple_of:Ci P w K mg base)(G_is_whole:G_ P w K mg base)(F:Fun K "are_prices" "are_prices" Ej f fd):BG P w K mg base CW 2 f fd ["net","thing"] (C7 K .sh Jg 2):=by
 exact Dr F Ky (by decide) (λcdv A outer s H E hr=>(AL (AT (Cz (AJ G_is_tuple_of (hr.mono (by decide)) rfl (AA (AH (Ah Au BS rfl T.n_len PySem.boot_len (AO (AX AQ Aq (dv 0) AC) AU))) (AA (AH (dv 1)) AM))) (Cy (Ah (OP rfl) Wd rfl T.n_all gs (AO (B2 rfl [("price" : Str)] [none] (B1 (dv 1)) (λ_ _ _ _ _=>(Av (i:=0) (show bh [("price" : Str)] by decide +kernel) rfl (Rs rfl))) (λ_ _ _ _ _=>CA) (λ_ _ _ _ _=>(Cz (AJ G_is_whole (hr.mono (by decide)) rfl (AA (AH (dv 0)) AM)) (Cy (BY G4 Km (dv 0) AC (AZ _))))) (by kernel_rfl)) AU))))))) (λss n Pd hl hw=>J1 hw)
theorem L9:Ar ["net","prices","a","b"] ["net","prices","a","b"] (AV FX):=by constructor <;> first | rfl | decide +kernel
theorem MR{f:Addr}{fd:FuncData}(T:Txt K mg)(F:Fun K "price_gap" "price_gap" FX f fd):BG P w K mg base CW 1 f fd ["net","prices","a","b"] (C7 K .sh Uj 4):=by
 exact Dr F L9 (by decide) (λcdv A outer s H E hr=>(AL (AT (Ah Kj Ue rfl T.n_abs boot_abs (AO (AY A8 BL (AX AQ Aq (dv 1) (G8 hr (AX AQ Aq (dv 0) AC) (AO (dv 2) AU))) (AX AQ Aq (dv 1) (G8 hr (AX AQ Aq (dv 0) AC) (AO (dv 3) AU)))) AU))))) (λss n Pd hl hw=>Kz hw)
theorem Ov:Ar ["net","thing"] ["net","thing"] (AV IJ):=by constructor <;> first | rfl | decide +kernel
theorem PD{f:Addr}{fd:FuncData}(T:Txt K mg)(G_are_prices:Hu P w K mg base)(G_price_gap:GC P w K mg base)(F:Fun K "is_fair" "is_fair" IJ f fd):BG P w K mg base CW 3 f fd ["net","thing"] (C7 K .sh Qk 2):=by
 exact Dr F Ov (by decide) (λcdv A outer s H E hr=>(AF (Ax (BK (Az (AJ G_are_prices (hr.mono (by decide)) rfl (AA (AH (dv 0)) (AA (AH (dv 1)) AM))))) (AL (AT BR)) Ab)
 (AL (AT (Ah (OP rfl) Wd rfl T.n_all gs (AO (B2 rfl [("net" : Str),("thing" : Str),("a" : Str),("b" : Str),("length" : Str)] [some 0,some 1,none,none,none] (B1 (AX AQ Aq (dv 0) AC)) (λ_ _ _ _ _=>(Mp rfl (Bx (Av (i:=2) (show bh [("net" : Str),("thing" : Str),("a" : Str),("b" : Str),("length" : Str)] by decide +kernel) rfl (Rs rfl)) (Bx (Av (i:=3) (show bh [("net" : Str),("thing" : Str),("a" : Str),("b" : Str),("length" : Str)] by decide +kernel) rfl (Rs rfl)) (Bx (Av (i:=4) (show bh [("net" : Str),("thing" : Str),("a" : Str),("b" : Str),("length" : Str)] by decide +kernel) rfl (Rs rfl)) JU))))) (λ_ _ _ _ _=>CA) (λ_ _ _ _ _=>(BY O_ Ua (AJ G_price_gap (hr.mono (by decide)) rfl (AA (AH (dv 0)) (AA (AH (dv 1)) (AA (AH (dv 2)) (AA (AH (dv 3)) AM))))) (dv 4) (AZ _))) (by kernel_rfl)) AU)))))) (λss n Pd hl hw=>NZ hw)
theorem L_:Ar ["length","times","number"] ["length","times","number"] (AV FY):=by constructor <;> first | rfl | decide +kernel
theorem MT{f:Addr}{fd:FuncData}(T:Txt K mg)(F:Fun K "is_within" "is_within" FY f fd):BG P w K mg base CW 1 f fd ["length","times","number"] (C7 K .sh Je 3):=by
 exact Dr F L_ (by decide) (λcdv A outer s H E hr=>(AL (AT (BY O_ Ua (AY B_ C0 (dv 0) (AX AQ Aq (dv 1) AC)) (AY B_ C0 (dv 2) (AX AQ Aq (dv 1) AC)) (AZ _))))) (λss n Pd hl hw=>MH hw)
theorem JB:Ar ["net","times","tie","thing"] ["net","times","tie","thing"] (AV DQ):=by constructor <;> first | rfl | decide +kernel
theorem JF{f:Addr}{fd:FuncData}(T:Txt K mg)(G_is_fair:Lu P w K mg base)(G_is_within:Iv P w K mg base)(G_price_gap:GC P w K mg base)(F:Fun K "prices_fault" "prices_fault" DQ f fd):BG P w K mg base CW 4 f fd ["net","times","tie","thing"] (C7 K .sh GU 4):=by
 exact Dr F JB (by decide) (λcdv A outer s H E hr=>(AF (Ax (BK (Az (AJ G_is_fair (hr.mono (by decide)) rfl (AA (AH (dv 0)) (AA (AH (dv 3)) AM))))) (AL (AT AS)) Ab)
 (AL (AT (OI (Az (AJ G_is_within (hr.mono (by decide)) rfl (AA (AH (AJ G_price_gap (hr.mono (by decide)) rfl (AA (AH (dv 0)) (AA (AH (dv 3)) (AA (AH (AX AQ Aq (dv 2) AC)) (AA (AH (AX AQ Aq (dv 2) AC)) AM)))))) (AA (AH (dv 1)) (AA (AH (AX AQ Aq (dv 2) AC)) AM))))) AS Bm))))) (λss n Pd hl hw=>HQ hw)
theorem L8:Ar ["net","times","out","thing"] ["net","times","out","thing"] (AV FW):=by constructor <;> first | rfl | decide +kernel
theorem MQ{f:Addr}{fd:FuncData}(T:Txt K mg)(G_is_tie_of:GD P w K mg base)(G_prices_fault:GB P w K mg base)(G_without:Ls P w K mg base)(F:Fun K "shows_far" "shows_far" FW f fd):BG P w K mg base CW 5 f fd ["net","times","out","thing"] (C7 K .sh Jf 4):=by
 exact Dr F L8 (by decide) (λcdv A outer s H E hr=>(AF (Ax (DTW.dt (Bi (BK (Az (AJ G_is_tie_of (hr.mono (by decide)) rfl (AA (AH (dv 0)) (AA (AH (AX AQ Aq (dv 3) AC)) AM))))) (Bb (Ai (DL hr) Dz (AX AQ Aq (dv 3) AC) (dv 2) (by with_unfolding_all rfl))))) (AL (AT BR)) Ab)
 (AL (AT (BY MP Ub (AJ G_prices_fault (hr.mono (by decide)) rfl (AA (AH (AJ G_without (hr.mono (by decide)) rfl (AA (AH (dv 0)) (AA (AH (dv 2)) AM)))) (AA (AH (dv 1)) (AA (AH (AX AQ Aq (dv 3) AC)) (AA (AH (AX AQ Aq (dv 3) AC)) AM))))) Bm (AZ _)))))) (λss n Pd hl hw=>Jw hw)
theorem sc_shows_by:Ar ["net","times","many","kept","out","deep","thing","tie"] ["net","times","many","kept","out","deep","thing"] (AV Gu):=by constructor <;> first | rfl | decide +kernel
theorem Ie{f:Addr}{fd:FuncData}(T:Txt K mg)(G_is_tie_of:GD P w K mg base)(G_is_tuple_of:Ci P w K mg base)(G_shows_far:Iu P w K mg base)(F:Fun K "shows_by" "shows_by" Gu f fd)(m:mg "shows_by"=some (.ref f))(b:Binds K fd ["net","times","many","kept","out","deep","thing"] []):∀j,BG P w K mg base CW (6+j) f fd ["net","times","many","kept","out","deep","thing"] (C7 K .sh (IW j) 7)
 | 0=>by
  have G_shows_by:Got P w K mg base "shows_by" 5 ["net","times","many","kept","out","deep","thing"] .sh (λ_ _ _=>False):=Cd F m b (λ_ _ _ h=>h.elim) (F.ok (k:=4) sc_shows_by (λvs H Q E h=>h.1) (λcdv A outer s H vs Q E hr h=>by obtain⟨_,_,_,_,_,_,_,_,_,hw,_⟩:=h; exact hw.elim))
  exact Dr (k:=5) F sc_shows_by (by decide) (λcdv A outer s H E hr=>(AF (Ax (Ai CO E4 (dv 5) AC (AZ _)) (AL (AT BR)) Ab)
 (AF (Ax (Ai (Cs hr) FI (dv 6) (Al (AB AS AK)) (AZ _)) (AL (AT (BY G4 Km (Ah Au BS rfl T.n_len PySem.boot_len (AO (dv 3) AU)) (dv 2) (AZ _)))) Ab)
 (AF (Ax (DTW.dt (Fw (Az (AJ G_is_tuple_of (hr.mono (by omega)) rfl (AA (AH AC) (AA (AH (dv 6)) AM)))) (GQ (Ai (Cs hr) FI (AX AQ Aq (dv 6) AC) AS (AZ _))))) (AL (AT (AJ G_shows_far (hr.mono (by omega)) rfl (AA (AH (dv 0)) (AA (AH (dv 1)) (AA (AH (dv 4)) (AA (AH (dv 6)) AM))))))) Ab)
 (AF (Ax (DTW.dt (Bi (BK (Az (AJ G_is_tuple_of (hr.mono (by omega)) rfl (AA (AH AC) (AA (AH (dv 6)) AM))))) (Bb (Ai (EG hr) Gm (AX AQ Aq (dv 6) AC) AS (AZ _))))) (AL (AT BR)) Ab)
 (AF (Ae (i:=7) sc_shows_by.nd rfl (Rs rfl) (AX AQ Aq (dv 6) AC))
 (AF (Ax (DTW.dt (Bi (BK (Az (AJ G_is_tie_of (hr.mono (by omega)) rfl (AA (AH (dv 0)) (AA (AH (dv 7)) AM))))) (Bi (Ai (Fo hr) Dz (dv 7) (dv 3) (by with_unfolding_all rfl)) (Bb (Ai (Fo hr) Dz (dv 7) (dv 4) (by with_unfolding_all rfl)))))) (AL (AT BR)) Ab)
 (AF (Ax (BK (Az (AJ G_shows_by (hr.mono (No _)) rfl (AA (AH (dv 0)) (AA (AH (dv 1)) (AA (AH (dv 2)) (AA (AH (AY Aa An (dv 3) (Ao (AB (dv 7) AK)))) (AA (AH (dv 4)) (AA (AH (AY A8 BL (dv 5) AC)) (AA (AH (AX AQ Aq (dv 6) AC)) AM)))))))))) (AL (AT BR)) Ab)
 (AL (AT (AJ G_shows_by (hr.mono (No _)) rfl (AA (AH (dv 0)) (AA (AH (dv 1)) (AA (AH (dv 2)) (AA (AH (dv 3)) (AA (AH (AY Aa An (dv 4) (Ao (AB (dv 7) AK)))) (AA (AH (AY A8 BL (dv 5) AC)) (AA (AH (AX AQ Aq (dv 6) AC)) AM)))))))))))))))))) (λss n Pd hl hw=>GY (λ_ _ _ h _=>absurd rfl h) hw)
 | j+1=>by
  have G_shows_by:Got P w K mg base "shows_by" (6+j) ["net","times","many","kept","out","deep","thing"] .sh (IW j):=Cd F m b (λ_ _ _ h=>by obtain⟨_,_,_,_,_,_,_,_,e,_⟩:=h; rw [e]; rfl) (Ie T G_is_tie_of G_is_tuple_of G_shows_far F m b j)
  exact Dr (k:=6+j) F sc_shows_by (by decide) (λcdv A outer s H E hr=>(AF (Ax (Ai CO E4 (dv 5) AC (AZ _)) (AL (AT BR)) Ab)
 (AF (Ax (Ai (Cs hr) FI (dv 6) (Al (AB AS AK)) (AZ _)) (AL (AT (BY G4 Km (Ah Au BS rfl T.n_len PySem.boot_len (AO (dv 3) AU)) (dv 2) (AZ _)))) Ab)
 (AF (Ax (DTW.dt (Fw (Az (AJ G_is_tuple_of (hr.mono (by omega)) rfl (AA (AH AC) (AA (AH (dv 6)) AM)))) (GQ (Ai (Cs hr) FI (AX AQ Aq (dv 6) AC) AS (AZ _))))) (AL (AT (AJ G_shows_far (hr.mono (by omega)) rfl (AA (AH (dv 0)) (AA (AH (dv 1)) (AA (AH (dv 4)) (AA (AH (dv 6)) AM))))))) Ab)
 (AF (Ax (DTW.dt (Bi (BK (Az (AJ G_is_tuple_of (hr.mono (by omega)) rfl (AA (AH AC) (AA (AH (dv 6)) AM))))) (Bb (Ai (EG hr) Gm (AX AQ Aq (dv 6) AC) AS (AZ _))))) (AL (AT BR)) Ab)
 (AF (Ae (i:=7) sc_shows_by.nd rfl (Rs rfl) (AX AQ Aq (dv 6) AC))
 (AF (Ax (DTW.dt (Bi (BK (Az (AJ G_is_tie_of (hr.mono (by omega)) rfl (AA (AH (dv 0)) (AA (AH (dv 7)) AM))))) (Bi (Ai (Fo hr) Dz (dv 7) (dv 3) (by with_unfolding_all rfl)) (Bb (Ai (Fo hr) Dz (dv 7) (dv 4) (by with_unfolding_all rfl)))))) (AL (AT BR)) Ab)
 (AF (Ax (BK (Az (AJ G_shows_by (hr.mono (No _)) rfl (AA (AH (dv 0)) (AA (AH (dv 1)) (AA (AH (dv 2)) (AA (AH (AY Aa An (dv 3) (Ao (AB (dv 7) AK)))) (AA (AH (dv 4)) (AA (AH (AY A8 BL (dv 5) AC)) (AA (AH (AX AQ Aq (dv 6) AC)) AM)))))))))) (AL (AT BR)) Ab)
 (AL (AT (AJ G_shows_by (hr.mono (No _)) rfl (AA (AH (dv 0)) (AA (AH (dv 1)) (AA (AH (dv 2)) (AA (AH (dv 3)) (AA (AH (AY Aa An (dv 4) (Ao (AB (dv 7) AK)))) (AA (AH (AY A8 BL (dv 5) AC)) (AA (AH (AX AQ Aq (dv 6) AC)) AM)))))))))))))))))) (λss n Pd hl hw=>GY (j:=j+1) (λ_ _ _ _ h=>h) hw)
theorem FV:Ar ["case"] ["case"] (AV Gw):=by constructor <;> first | rfl | decide +kernel
theorem Ig{f:Addr}{fd:FuncData}(T:Txt K mg)(G_is_tuple_of:Ci P w K mg base)(F:Fun K "count_of" "count_of" Gw f fd)(m:mg "count_of"=some (.ref f))(b:Binds K fd ["case"] []):∀j,BG P w K mg base CW (3+j) f fd ["case"] (C7 K .sh (Eg j) 1)
 | 0=>by
  have G_count_of:Got P w K mg base "count_of" 2 ["case"] .sh (λ_ _ _=>False):=Cd F m b (λ_ _ _ h=>h.elim) (F.ok (k:=1) FV (λvs H Q E h=>h.1) (λcdv A outer s H vs Q E hr h=>by obtain⟨_,_,_,_,_,_,_,_,_,hw,_⟩:=h; exact hw.elim))
  exact Dr (k:=2) F FV (by decide) (λcdv A outer s H E hr=>(AF (Ax (BK (Az (AJ G_is_tuple_of (hr.mono (by omega)) rfl (AA (AH AC) (AA (AH (dv 0)) AM))))) (AL (AT AC)) Ab)
 (AL (AT (AY Aa An (AY Aa An AC (AJ G_count_of (hr.mono (No _)) rfl (AA (AH (AX AQ Aq (dv 0) AC)) AM))) (AJ G_count_of (hr.mono (No _)) rfl (AA (AH (AX AQ Aq (dv 0) AC)) AM))))))) (λss n Pd hl hw=>GZ (λ_ _ _ h _=>absurd rfl h) hw)
 | j+1=>by
  have G_count_of:Got P w K mg base "count_of" (3+j) ["case"] .sh (Eg j):=Cd F m b (λ_ _ _ h=>by obtain⟨_,e,_⟩:=h; rw [e]; rfl) (Ig T G_is_tuple_of F m b j)
  exact Dr (k:=3+j) F FV (by decide) (λcdv A outer s H E hr=>(AF (Ax (BK (Az (AJ G_is_tuple_of (hr.mono (by omega)) rfl (AA (AH AC) (AA (AH (dv 0)) AM))))) (AL (AT AC)) Ab)
 (AL (AT (AY Aa An (AY Aa An AC (AJ G_count_of (hr.mono (No _)) rfl (AA (AH (AX AQ Aq (dv 0) AC)) AM))) (AJ G_count_of (hr.mono (No _)) rfl (AA (AH (AX AQ Aq (dv 0) AC)) AM))))))) (λss n Pd hl hw=>GZ (j:=j+1) (λ_ _ _ _ h=>h) hw)
theorem Sj:Ar ["net","times","many","thing"] ["net","times","many","thing"] (AV MD):=by constructor <;> first | rfl | decide +kernel
theorem TQ{f:Addr}{fd:FuncData}(T:Txt K mg)(G_count_of:Kp P w K mg base)(G_shows_by:Ko P w K mg base)(F:Fun K "shows" "shows" MD f fd):BG P w K mg base CW 22 f fd ["net","times","many","thing"] (C7 K .sh Ee 4):=by
 obtain⟨_,g_MOST_CASES⟩:=T.g_MOST_CASES
 obtain⟨_,g_MOST_DEEP⟩:=T.g_MOST_DEEP
 exact Dr F Sj (by decide) (λcdv A outer s H E hr=>(AL (AT (Cz (AJ G_shows_by (hr.mono (by decide)) rfl (AA (AH (dv 0)) (AA (AH (dv 1)) (AA (AH (dv 2)) (AA (AH (Ao AK)) (AA (AH (Ao AK)) (AA (AH (QZ rfl g_MOST_DEEP)) (AA (AH (dv 3)) AM)))))))) (Cy (BY O_ Ua (AJ G_count_of (hr.mono (by decide)) rfl (AA (AH (dv 3)) AM)) (QZ rfl g_MOST_CASES) (AZ _))))))) (λss n Pd hl hw=>O0 hw)
theorem sc__law_names:Ar ["_law_names_here"] [] (AV En):=by constructor <;> first | rfl | decide +kernel
theorem K5{f:Addr}{fd:FuncData}(T:Txt K mg)(F:Fun K "_law_names" "_law_names" En f fd):BG P w K mg base CW 1 f fd [] (C7 K .sh Jh 0):=by
 exact Dr F sc__law_names (by decide) (λcdv A outer s H E hr=>(AF (Ae (i:=0) sc__law_names.nd rfl (Rs rfl) (Ao (AB AS (AB AS (AB AS (AB AS (AB AS (AB AS (AB AS (AB AS (AB AS (AB AS (AB AS (AB AS (AB AS (AB AS (AB AS (AB AS (AB AS AK)))))))))))))))))))
 (AL (AT (AY Aa An (dv 0) (Ao (AB AS (AB AS (AB AS (AB AS (AB AS (AB AS (AB AS (AB AS (AB AS AK))))))))))))))) (λss n Pd hl hw=>K0 hw)
theorem sc__law_places:Ar ["_law_feed_here","_law_many","_law_names_here","_law_at","_law_step"] ["_law_feed_here","_law_many"] (AV D9):=by constructor <;> first | rfl | decide +kernel
theorem KC{f:Addr}{fd:FuncData}(T:Txt K mg)(G__law_names:Hx P w K mg base)(G__law_next:BB P w K mg base)(F:Fun K "_law_places" "_law_places" D9 f fd):BG P w K mg base CW 2 f fd ["_law_feed_here","_law_many"] (C7 K .sh GI 2):=by
 exact Dr F sc__law_places (by decide) (λcdv A outer s H E hr=>(AF (Ae (i:=2) sc__law_places.nd rfl (cI rfl) (Rl G__law_names (hr.mono (by decide)) rfl))
 (AF (Ae (i:=3) sc__law_places.nd rfl (cI rfl) (AJ G__law_next (hr.mono (by decide)) rfl (AA (Aw 0) (AA (AH AC) AM))))
 (AF (Ae (i:=4) sc__law_places.nd rfl (cI rfl) (AX AQ Aq (Ao (AB AC (AB AC (AB AC (AB AC AK))))) (AJ G__law_next (hr.mono (by decide)) rfl (AA (Aw 0) (AA (AH AC) AM)))))
 (AL (AT (BP Bh Dh rfl T.n_tuple eL (AO (Ah Pc V5 rfl T.n_sorted boot_sorted (AO (B2 rfl [("_law_names_here" : Str),("_law_at" : Str),("_law_step" : Str),("_law_k" : Str)] [some 2,some 3,some 4,none] (DI.c (DM rfl T.n_range (AO (dv 1) AU))) (λ_ _ _ _ _=>(Av (i:=3) (show bh [("_law_names_here" : Str),("_law_at" : Str),("_law_step" : Str),("_law_k" : Str)] by decide +kernel) rfl (Rs rfl))) (λ_ _ _ _ _=>CA) (λ_ _ _ _ _=>(AX AQ Aq (dv 0) (AY DX CG (AY Aa An (dv 1) (AY B_ C0 (dv 2) (dv 3))) AC))) (by kernel_rfl)) AU)) AU)))))))) (λss n Pd hl hw=>Jy hw)
theorem Jr:Ar ["_law_feed_here","_law_sort"] ["_law_feed_here","_law_sort"] (AV D_):=by constructor <;> first | rfl | decide +kernel
theorem KD{f:Addr}{fd:FuncData}(T:Txt K mg)(G__law_next:BB P w K mg base)(F:Fun K "_law_length" "_law_length" D_ f fd):BG P w K mg base CW 2 f fd ["_law_feed_here","_law_sort"] (C7 K .sh Qj 2):=by
 exact Dr F Jr (by decide) (λcdv A outer s H E hr=>(AF (Ax (Ai CO E4 (dv 1) AC (AZ _)) (AL (AT (AY A8 BL (AY G3 CG AC AC) (AJ G__law_next (hr.mono (by decide)) rfl (AA (Aw 0) (AA (AH AC) AM)))))) Ab)
 (AL (AT (AY Aa An AC (AJ G__law_next (hr.mono (by decide)) rfl (AA (Aw 0) (AA (AH (AX AQ Aq (Ao (AB AC (AB AC (AB AC AK)))) (dv 1))) AM)))))))) (λss n Pd hl hw=>Jz hw)
theorem sc__law_ties:Ar ["_law_feed_here","_law_places_here","_law_most","_law_found","_law_sort","_law_k","_law_a","_law_b"] ["_law_feed_here","_law_places_here","_law_most"] (AV Fa):=by constructor <;> first | rfl | decide +kernel
theorem MV{f:Addr}{fd:FuncData}(T:Txt K mg)(G__law_length:Gp P w K mg base)(G__law_next:BB P w K mg base)(F:Fun K "_law_ties" "_law_ties" Fa f fd):BG P w K mg base CW 3 f fd ["_law_feed_here","_law_places_here","_law_most"] (C7 K .sh M9 3):=by
 exact Dr F sc__law_ties (by decide) (λcdv A outer s H E hr=>(AF (GR (i:=3) sc__law_ties.nd rfl (cI rfl) UL)
 (AF (Ae (i:=4) sc__law_ties.nd rfl (Rs rfl) (AJ G__law_next (hr.mono (by decide)) rfl (AA (Aw 0) (AA (AH AC) AM))))
 (AF (Ce bK rfl (DM rfl T.n_range (AO (AJ G__law_next (hr.mono (by decide)) rfl (AA (Aw 0) (AA (AH (AY Aa An (dv 2) AC)) AM))) AU)) (Av (i:=5) sc__law_ties.nd rfl (Rs rfl)) (AL (Ax (Ai Cb EZ (Ah Au BS rfl T.n_len PySem.boot_len (AO (dv 1) AU)) AC (AZ _)) (AF (Ae (i:=6) sc__law_ties.nd rfl (Rs rfl) (AJ G__law_next (hr.mono (by decide)) rfl (AA (Aw 0) (AA (AH (Ah Au BS rfl T.n_len PySem.boot_len (AO (dv 1) AU))) AM))))
 (AF (Ae (i:=7) sc__law_ties.nd rfl (Rs rfl) (AY DX CG (AY Aa An (AY Aa An (dv 6) AC) (AJ G__law_next (hr.mono (by decide)) rfl (AA (Aw 0) (AA (AH (AY A8 BL (Ah Au BS rfl T.n_len PySem.boot_len (AO (dv 1) AU)) AC)) AM)))) (Ah Au BS rfl T.n_len PySem.boot_len (AO (dv 1) AU))))
 (AL (Vq (i:=3) hr (pv 3) (Al (AB (AX AQ Aq (dv 1) (Ah (GS rfl) M6 rfl T.n_min boot_min (AO (dv 6) (AO (dv 7) AU)))) (AB (AX AQ Aq (dv 1) (Ah (Lk rfl) UZ rfl T.n_max boot_max (AO (dv 6) (AO (dv 7) AU)))) AK))) (AJ G__law_length (hr.mono (by decide)) rfl (AA (Aw 0) (AA (AH (AX AQ Aq (Ao (AB (dv 4) (AB (AY DX CG (dv 5) AC) AK))) (AY HU CG (dv 4) AC))) AM))))))) Ab)))
 (AL (AT (BP Bh Dh rfl T.n_tuple eL (AO (B2 rfl [("_law_found" : Str),("_law_pair" : Str)] [some 3,none] (B1 (Ah (Pa rfl) V3 rfl T.n_sorted boot_sorted (AO (Y9 3) AU))) (λ_ _ _ _ _=>(Av (i:=1) (show bh [("_law_found" : Str),("_law_pair" : Str)] by decide +kernel) rfl (Rs rfl))) (λ_ _ _ _ _=>CA) (λ_ _ _ _ _=>(AY Aa An (dv 1) (Al (AB (Vy hr (Y9 0) (dv 1)) AK)))) (by kernel_rfl)) AU)))))))) (λss n Pd hl hw=>MG hw)
theorem sc__law_net:Ar ["_law_feed_here","_law_most","_law_ties_here","_law_places_here"] ["_law_feed_here","_law_most","_law_ties_here"] (AV Gx):=by constructor <;> first | rfl | decide +kernel
theorem Nm{f:Addr}{fd:FuncData}(T:Txt K mg)(G__law_next:BB P w K mg base)(G__law_places:EJ P w K mg base)(G__law_ties:Iw P w K mg base)(F:Fun K "_law_net" "_law_net" Gx f fd):BG P w K mg base CW 4 f fd ["_law_feed_here","_law_most","_law_ties_here"] (C7 K .sh Qi 3):=by
 exact Dr F sc__law_net (by decide) (λcdv A outer s H E hr=>(AF (Ae (i:=3) sc__law_net.nd rfl (Rs rfl) (AJ G__law_places (hr.mono (by decide)) rfl (AA (Aw 0) (AA (AH (AJ G__law_next (hr.mono (by decide)) rfl (AA (Aw 0) (AA (AH (AY Aa An (dv 1) AC)) AM)))) AM))))
 (AL (AT (Al (AB (dv 3) (AB (AJ G__law_ties (hr.mono (by decide)) rfl (AA (Aw 0) (AA (AH (dv 3)) (AA (AH (dv 2)) AM)))) AK))))))) (λss n Pd hl hw=>NX hw)
theorem sc__law_times:Ar ["_law_feed_here","_law_some"] ["_law_feed_here"] (AV Ek):=by constructor <;> first | rfl | decide +kernel
theorem K4{f:Addr}{fd:FuncData}(T:Txt K mg)(G__law_next:BB P w K mg base)(F:Fun K "_law_times" "_law_times" Ek f fd):BG P w K mg base CW 2 f fd ["_law_feed_here"] (C7 K .sh Eb 1):=by
 exact Dr F sc__law_times (by decide) (λcdv A outer s H E hr=>(AF (Ae (i:=1) sc__law_times.nd rfl (Rs rfl) (Ao (AB (Al (AB AC (AB AC AK))) (AB (Al (AB AC (AB AC AK))) (AB (Al (AB AC (AB AC AK))) (AB (Al (AB AC (AB AC AK))) (AB (Al (AB AC (AB AC AK))) (AB (Al (AB AC (AB AC AK))) (AB (Al (AB (AY G3 CG AC AC) (AB AC AK))) (AB (Al (AB AC (AB AC AK))) AK))))))))))
 (AL (AT (AX AQ Aq (dv 1) (AJ G__law_next (hr.mono (by decide)) rfl (AA (Aw 0) (AA (AH AC) AM)))))))) (λss n Pd hl hw=>Oz hw)
theorem aY(n:Nat):-2 ^ 62<=(n:Int):=by omega
theorem aX{n:Nat}(h:n<=1000):(n:Int)<2 ^ 62:=by omega
theorem sc__law_far:Ar ["_law_places_here","_law_ties_here","_law_many","_law_spans","_law_k","_law_a","_law_b","_law_length_here","_law_mid","_law_by"] ["_law_places_here","_law_ties_here"] (AV Gy):=by constructor <;> first | rfl | decide +kernel
theorem Nn{f:Addr}{fd:FuncData}(T:Txt K mg)(F:Fun K "_law_far" "_law_far" Gy f fd):BG P w K mg base CW 1 f fd ["_law_places_here","_law_ties_here"] (C7 K .sh OX 2):=by
 refine F.ok (k:=0) sc__law_far (λvs H Q E h=>h.1) (λcdv A outer s H vs Q E hr h=>?_)
 obtain⟨hl,F0,U,V',M,n,ss,Pd,ra,⟨N,dt,rfl,hdt,ok,lp,p⟩,q⟩:=h
 obtain⟨dom,fU,uV,vM,fd0,pa⟩:=ra
 cases pa with
 | cons r1 pa =>
 cases pa with
 | cons r2 pa =>
 cases pa
 obtain⟨v,e1,h1⟩:=r1.1
 cases e1
 obtain⟨v2,e2,h2⟩:=r2.1
 cases e2
 rename_i v2
 obtain⟨ap,us,rfl,hpn,hps⟩:=h1
 have nd:=sc__law_far.nd
 have szl:=PySem.sizeLine_eq
 refine⟨_,BI (Er (i:=2) nd rfl (cI rfl) (Fn Au rfl T.n_len boot_len (A3 (pv 0) BV)))
  (BI (P4 (i:=3) rfl [("_law_many" : Str),("_law_k" : Str)] [some 2,none] (DK rfl T.n_range (A3 (pv 2) BV)) (by kernel_rfl) nd rfl (Rs rfl) rfl)
  (BI (G1 bK rfl (DK rfl T.n_range (A3 (pv 2) BV)) (C9 (i:=4) nd rfl (Rs rfl)) (Bz (Fl A6 (G2 (Bo ix_list (pv 3) (pv 4) (λ_ _=>rfl)) (pv 4) set_list))))
  (BI (G1 bK rfl (MM (pv 1)) (S_ rfl (HS (C9 (i:=5) nd rfl (Rs rfl)) (HS (C9 (i:=6) nd rfl (Rs rfl)) (HS (C9 (i:=7) nd rfl (Rs rfl)) QA))))
   (BI (Fl (pv 7) (G2 (Bo ix_list (pv 3) (J7 PySem.F.slot_tuple_index PySem.F.type_tuple_index (KL hr) (pv 0) (A3 (pv 5) BV)) (λ_ _=>rfl)) (J7 PySem.F.slot_tuple_index PySem.F.type_tuple_index (KL hr) (pv 0) (A3 (pv 6) BV)) set_list))
   (Bz (Fl (pv 7) (G2 (Bo ix_list (pv 3) (J7 PySem.F.slot_tuple_index PySem.F.type_tuple_index (KL hr) (pv 0) (A3 (pv 6) BV)) (λ_ _=>rfl)) (J7 PySem.F.slot_tuple_index PySem.F.type_tuple_index (KL hr) (pv 0) (A3 (pv 5) BV)) set_list)))))
  (BI (G1 bK rfl (DK rfl T.n_range (A3 (pv 2) BV)) (C9 (i:=8) nd rfl (Rs rfl)) (Bz
   (G1 bK rfl (DK rfl T.n_range (A3 (pv 2) BV)) (C9 (i:=5) nd rfl (Rs rfl)) (Bz
   (G1 bK rfl (DK rfl T.n_range (A3 (pv 2) BV)) (C9 (i:=6) nd rfl (Rs rfl)) (Bz
    (Nd (O5 (C8 GL (Bo ix_list (Bo ix_list (pv 3) (pv 5) (λ_ _=>rfl)) (pv 8) (λ_ _=>rfl)) J8 rfl) (MK (C8 GL (Bo ix_list (Bo ix_list (pv 3) (pv 8) (λ_ _=>rfl)) (pv 6) (λ_ _=>rfl)) J8 rfl))).pt
     (BI (Er (i:=9) nd rfl (Rs rfl) (Bt op_add (Bo ix_list (Bo ix_list (pv 3) (pv 5) (λ_ _=>rfl)) (pv 8) (λ_ _=>rfl)) (Bo ix_list (Bo ix_list (pv 3) (pv 8) (λ_ _=>rfl)) (pv 6) (λ_ _=>rfl))))
     (Bz (Nd (WO (C8 MP (Bo ix_list (Bo ix_list (pv 3) (pv 5) (λ_ _=>rfl)) (pv 6) (λ_ _=>rfl)) J8 rfl) (S3 (C8 op_lt (pv 9) (Bo ix_list (Bo ix_list (pv 3) (pv 5) (λ_ _=>rfl)) (pv 6) (λ_ _=>rfl)) rfl))).pt
      (Bz (Fl (pv 9) (G2 (Bo ix_list (pv 3) (pv 5) (λ_ _=>rfl)) (pv 6) set_list))) HR))) HR)))))))
  (Bz (G0 (pv 3))))))),?_⟩
 cases (Pw hps)
 have hpn:H ap=some (.tup (N.ps.map .str)):=hpn
 have hln:N.ps.length=(N.ps.map V.str).length:=(Db ..).symm
 refine⟨_,rfl,_,N.ps.length,rfl,.inr ⟨_,SqT.of hpn,hln⟩,?_⟩
 have b1:-2 ^ 62<=(N.ps.length:Int):=aY _
 have b2:(N.ps.length:Int)<2 ^ 62:=aX lp
 refine⟨_,rfl,_,rfl,b1,b2,λl hl' hk cl C s' H0 fp=>⟨_,_,_,λi m σ' H'=>i<=N.ps.length/\m=N.ps.length - i/\∃(as:List Addr) (x:Option V),as.length=i/\as.Nodup/\σ'=[some (.int N.ps.length),x]/\Mat H l as N.ps.length (λ_ _=>none) H',
  C9 (i:=1) (show bh [("_law_many" : Str),("_law_k" : Str)] by decide +kernel) rfl (Rs rfl),P_,Bt XJ (IK (A3 J8 BV)) (pv 0),⟨N.ps.length,?_⟩,?_⟩⟩
 ·exact⟨TW _,rfl,[],_,rfl,cq,rfl,λb o e=>by rw [Ac (BE e hl')]; exact e,hl',Ak,λi a h=>by cases h⟩
 rintro i m σ' H' ⟨hi,rfl,as,x,hal,hnd,rfl,st⟩
 rw [bv]
 by_cases hlt:i<N.ps.length
 ·refine .inr ⟨hlt,λy H2 ⟨e1,e2⟩=>?_⟩
  subst e1 e2
  have nl:∀b,H2 b=none->l≠b:=λb e z=>by rw [← z,st.top] at e; cases e
  refine⟨by show 1<=sizeLine; omega,λp' hp=>⟨_,rfl,p',N.ps.length,[.non],rfl,rfl,Ak,by omega,by omega,by show 1*_<=_; rw [bv]; omega,λr hr'=>⟨as.map .ref,?_,?_,N.ps.length - (i+1),by omega,by omega,rfl,as++[r],_,?_,?_,rfl,st.more hp hr' ?_⟩⟩⟩
  ·have nr:l≠r:=λz=>by rw [← z,Ac (nl p' hp),st.top] at hr'; cases hr'
   rw [Ac nr,Ac (nl p' hp)]
   exact st.top
  ·rw [Db]; omega
  ·rw [Sc,aw,hal]
  ·have hn:H2 r=none:=by
    have:r≠p':=λz=>by rw [z,Ak] at hr'; cases hr'
    rwa [Ac this] at hr'
   rw [c_]
   refine⟨hnd,bZ.mpr ⟨a9,cq⟩,λa ha b hb e=>?_⟩
   rw [ay.mp hb] at e
   rw [e] at ha
   exact st.fresh hn ha
  ·rw [bv,List.flatten_replicate_singleton]
   unfold HL
   show (bB N.ps.length).map (λ_=>V.non)=_
   rw [List.map_const',bz]
 ·have e:i=N.ps.length:=by omega
  refine .inl ⟨show N.ps.length<=i by omega,?_⟩
  rw [e] at hal
  clear hlt e hi
  obtain⟨at_,ws,rfl,hts,hJ⟩:∃(at_:Addr) (ws:List V),v2=.ref at_/\Ats K M H (N.ts.map Ag) ws/\(H at_=some (.lst ws)\/H at_=some (.tup ws)):=by
   rcases hdt with rfl | rfl
   ·obtain⟨a,us,rfl,⟨_,h⟩,hs⟩:=h2
    exact⟨a,us,rfl,hs,.inl h⟩
   ·obtain⟨a,us,rfl,h,hs⟩:=h2
    exact⟨a,us,rfl,hs,.inr h⟩
  have lws:ws.length=N.ts.length:=by rw [hts.length,Db]
  refine⟨_,rfl,_,rfl,b1,b2,?_⟩
  refine GO (lo:=0) (n:=N.ps.length) (λk σ H'=>∃(x4 x5 x6 x7 x8 x9:Option V) (g:Mx),σ=[some (.ref ap),some (.ref at_),some (.int N.ps.length),some (.ref l),x4,x5,x6,x7,x8,x9]/\Mat H l as N.ps.length g H'/\Dg N k g) ⟨_,_,_,_,_,_,_,rfl,st,Dg.zero⟩ ?_ ?_
  ·rintro k σ H' hk ⟨x4,x5,x6,x7,x8,x9,g,rfl,st,dg⟩
   refine st.wr hal hnd hk hk (λQ q=>st.row hal hk rfl (λQ q=>⟨_,rfl,?_⟩) q) (λQ q=>⟨_,rfl,?_⟩) λH3 st3=>⟨_,_,_,_,_,_,_,rfl,st3,dg.succ hk⟩
   ·rw [cW]; exact q
   ·rw [cW]; exact q
  rintro σ H' ⟨x4,x5,x6,x7,x8,x9,g,rfl,st,dg⟩
  obtain⟨J,hJ⟩:∃J:It,(J=Uo K at_/\∀H':Hp,(∀b o,H b=some o->H' b=some o)->SqL K H' at_ ws)\/(J=Um K at_/\∀H':Hp,(∀b o,H b=some o->H' b=some o)->SqT K H' at_ ws):=by
   rcases hJ with h | h
   ·exact⟨_,.inl ⟨rfl,λH' o=>SqL.of (o _ _ h)⟩⟩
   ·exact⟨_,.inr ⟨rfl,λH' o=>SqT.of (o _ _ h)⟩⟩
  unfold Oi
  dsimp only
  refine SW (i:=1) (J:=J) (xs:=ws) rfl (λi σ H'=>∃(x4 x5 x6 x7 x8 x9:Option V) (g:Mx),σ=[some (.ref ap),some (.ref at_),some (.int N.ps.length),some (.ref l),x4,x5,x6,x7,x8,x9]/\Mat H l as N.ps.length g H'/\Tm N (N.ts.take i) g) ⟨_,_,_,_,_,_,_,rfl,st,dg.tm⟩
   (hJ.imp (λh=>⟨h.1,λi σ H' z=>h.2 _ (by obtain⟨_,_,_,_,_,_,_,_,st,_⟩:=z; exact st.old)⟩) λh=>⟨h.1,λi σ H' z=>h.2 _ (by obtain⟨_,_,_,_,_,_,_,_,st,_⟩:=z; exact st.old)⟩) ?_ ?_
  ·rintro i x σ H' hx ⟨x4,x5,x6,x7,x8,x9,g,rfl,st,tm⟩
   have hi:i<N.ts.length:=by rw [← lws]; exact(au.mp hx).1
   obtain⟨x',hx',hAt⟩:=hts.get (i:=i) (d:=Ag N.ts[i]) (by rw [Op,FM hi]; rfl)
   rw [hx] at hx'
   cases hx'
   have hmem:N.ts[i]∈N.ts:=cB hi
   have hsnoc:N.ts.take (i+1)=N.ts.take i++[N.ts[i]]:=by rw [List.take_succ,FM hi]; rfl
   have hpre:(N.ts.take (i+1)).Pairwise Fv:=ok.trise.sublist (List.take_sublist _ _)
   rw [hsnoc] at hpre
   have hin:∀s∈N.ts.take i,s∈N.ts:=λs hs=>fH hs
   generalize N.ts[i]=t at hAt hmem hsnoc hpre
   obtain⟨m1,m2,m3,_⟩:=ok.tin t hmem
   obtain⟨ia,ha,la⟩:=Ii m1
   obtain⟨ib,hb,lb⟩:=Ii m2
   obtain⟨tt,us3,rfl,htt,hit⟩:=hAt
   obtain⟨va,r3,rfl,⟨rfl,_⟩,vb,r4,rfl,⟨rfl,_⟩,vl,r5,rfl,rfl,e5⟩:=hit
   cases (show r5=[] from e5)
   refine⟨tt,_,rfl,SqT.of (st.old _ _ htt),rfl,_,_,rfl,_,_,rfl,_,_,rfl,rfl,?_⟩
   refine⟨_,rfl,st.wr hal hnd la lb (λQ q=>st.row hal la rfl (Pr ok (st.old _ _ hpn) rfl rfl ha) q) (Pr ok (st.old _ _ hpn) rfl rfl hb) λH3 st3=>?_⟩
   refine⟨_,rfl,st3.wr hal hnd lb la (λQ q=>st3.row hal lb rfl (Pr ok (st3.old _ _ hpn) rfl rfl hb) q) (Pr ok (st3.old _ _ hpn) rfl rfl ha) λH4 st4=>?_⟩
   refine⟨_,_,_,_,_,_,_,rfl,st4,?_⟩
   rw [hsnoc]
   exact tm.put ok hmem hpre hin ha hb
  rintro σ H' ⟨x4,x5,x6,x7,x8,x9,g,rfl,st,tm⟩
  rw [lws,gH] at tm
  refine⟨_,rfl,_,rfl,b1,b2,?_⟩
  refine GO (lo:=0) (n:=N.ps.length) (λm σ H'=>∃(x4 x5 x6 x7 x8 x9:Option V) (g:Mx),σ=[some (.ref ap),some (.ref at_),some (.int N.ps.length),some (.ref l),x4,x5,x6,x7,x8,x9]/\Mat H l as N.ps.length g H'/\Fm (EI N) (AI N) N.ps.length m g) ⟨_,_,_,_,_,_,_,rfl,st,tm.fm ok⟩ ?_ ?_
  ·rintro m σ H' hm ⟨x4,x5,x6,x7,x8,x9,g0,rfl,st,fm⟩
   refine⟨_,rfl,_,rfl,b1,b2,?_⟩
   refine GO (lo:=0) (n:=N.ps.length) (λa σ H'=>∃(x5 x6 x9:Option V) (g:Mx),σ=[some (.ref ap),some (.ref at_),some (.int N.ps.length),some (.ref l),x4,x5,x6,x7,some (.int (0+(m:Int))),x9]/\Mat H l as N.ps.length g H'/\Rm (AI N) N.ps.length m g0 a 0 g) ⟨_,_,_,_,rfl,st,fm.start⟩ ?_ ?_
   ·rintro a σ H' ha ⟨x5,x6,x9,g,rfl,st,rm⟩
    refine⟨_,rfl,_,rfl,b1,b2,?_⟩
    refine GO (lo:=0) (n:=N.ps.length) (λb σ H'=>∃(x6 x9:Option V) (g:Mx),σ=[some (.ref ap),some (.ref at_),some (.int N.ps.length),some (.ref l),x4,some (.int (0+(a:Int))),x6,x7,some (.int (0+(m:Int))),x9]/\Mat H l as N.ps.length g H'/\Rm (AI N) N.ps.length m g0 a b g) ⟨_,_,_,rfl,st,rm⟩ ?_ ?_
    ·rintro b σ H' hb ⟨x6,x9,g,rfl,st,rm⟩
     have z:=λk:Nat=>cW (k:Int)
     rcases c1:g a m with _ | x
     ·refine st.rd2 hal ha hm rfl rfl (z _) rfl (z _) c1 ⟨rfl,_,rfl,Dq (λc=>absurd c (by simp [ov])) λ_=>Dq (λc=>absurd c (by decide)) λ_=>⟨_,_,_,rfl,st,rm.skip λd1 d2 e1 e2=>?_⟩⟩
      rw [c1] at e1; cases e1
     refine st.rd2 hal ha hm rfl rfl (z _) rfl (z _) c1 ⟨rfl,_,rfl,Dq (λ_=>?_) λc=>absurd (show (!decide (ov (some x)=V.non))=true by simp [ov]) c⟩
     rcases c2:g m b with _ | y
     ·refine st.rd2 hal hm hb rfl rfl (z _) rfl (z _) c2 ⟨rfl,_,rfl,Dq (λc=>absurd c (by simp [ov])) λ_=>⟨_,_,_,rfl,st,rm.skip λd1 d2 e1 e2=>?_⟩⟩
      rw [c2] at e2; cases e2
     refine st.rd2 hal hm hb rfl rfl (z _) rfl (z _) c2 ⟨rfl,_,rfl,Dq (λ_=>?_) λc=>absurd (show (!decide (ov (some y)=V.non))=true by simp [ov]) c⟩
     refine st.rd2 hal ha hm rfl rfl (z _) rfl (z _) c1 (st.rd2 hal hm hb rfl rfl (z _) rfl (z _) c2 ⟨x,y,rfl,rfl,?_⟩)
     rcases c3:g a b with _ | u
     ·refine st.rd2 hal ha hb rfl rfl (z _) rfl (z _) c3 ⟨rfl,_,rfl,Dq (λ_=>Dq (λ_=>?_) λc=>absurd rfl c) λc=>absurd (show decide (ov none=V.non)=true by simp [ov]) c⟩
      refine⟨_,rfl,st.wr hal hnd ha hb (λQ q=>st.row hal ha rfl (λQ q=>⟨_,rfl,by rw [cW]; exact q⟩) q) (λQ q=>⟨_,rfl,by rw [cW]; exact q⟩) λH3 st3=>⟨_,_,_,rfl,st3,rm.put AI.trans c1 c2 λv e=>?_⟩⟩
      rw [c3] at e; cases e
     refine st.rd2 hal ha hb rfl rfl (z _) rfl (z _) c3 ⟨rfl,_,rfl,Dq (λc=>absurd c (by simp [ov])) λ_=>?_⟩
     refine⟨_,rfl,st.rd2 hal ha hb rfl rfl (z _) rfl (z _) c3 ⟨x+y,u,rfl,rfl,_,rfl,Dq (λc=>?_) λc=>?_⟩⟩
     ·have c:=of_decide_eq_true c
      refine⟨_,rfl,st.wr hal hnd ha hb (λQ q=>st.row hal ha rfl (λQ q=>⟨_,rfl,by rw [cW]; exact q⟩) q) (λQ q=>⟨_,rfl,by rw [cW]; exact q⟩) λH3 st3=>⟨_,_,_,rfl,st3,rm.put AI.trans c1 c2 λv e=>?_⟩⟩
      rw [c3] at e; cases e; omega
     ·have c:¬x+y<u:=λz=>c (decide_eq_true z)
      refine⟨_,_,_,rfl,st,rm.skip λd1 d2 e1 e2=>⟨u,c3,?_⟩⟩
      rw [c1] at e1; rw [c2] at e2; cases e1; cases e2; omega
    ·rintro σ H' ⟨x6,x9,g,rfl,st,rm⟩
     exact⟨_,_,_,_,rfl,st,rm.next⟩
   ·rintro σ H' ⟨x5,x6,x9,g,rfl,st,rm⟩
    exact⟨_,_,_,_,_,_,_,rfl,st,rm.done (EI.pos ok) hm fm⟩
  rintro σ H' ⟨x4,x5,x6,x7,x8,x9,g,rfl,st,fm⟩
  refine⟨_,rfl,q (.ref l) H' (Me N.ps (ofM N.ps g)) n (λb o e=>⟨o,st.old b o e,λ_=>rfl,λ_ _=>rfl⟩) (λg' hg=>?_) (show At K M H' (Me N.ps (ofM N.ps g)) (.ref l) from st.at_ dom hal (HN ok.rise)) (p _ (fm.far ok))⟩
  rcases fd0 g' hg with ⟨tg,a,r,cells,hf,hcf,hc,rest⟩ | ⟨ks',ds',vs',tg,r,hf,h2,h3,h4⟩
  ·exact .inl ⟨tg,a,r,cells,st.old _ _ hf,hcf,⟨hc.1,st.old _ _ hc.2⟩,rest⟩
  ·exact .inr ⟨ks',ds',vs',tg,r,st.old _ _ hf,h2,h3.pres ⟨λb o e _=>st.old b o e,λ_ z=>.inl z,λb vs e=>st.old b _ e⟩,h4⟩
theorem sc__law_keeps:Ar ["_law_net_here","_law_times_here","_law_some","_law_spans","_law_a","_law_b","_law_length_here","_law_by"] ["_law_net_here","_law_times_here","_law_some"] (AV Ep):=by constructor <;> first | rfl | decide +kernel
theorem K7{f:Addr}{fd:FuncData}(T:Txt K mg)(G__law_far:E5 P w K mg base)(F:Fun K "_law_keeps" "_law_keeps" Ep f fd):BG P w K mg base CW 2 f fd ["_law_net_here","_law_times_here","_law_some"] (C7 K .sh ID 3):=by
 exact Dr F sc__law_keeps (by decide) (λcdv A outer s H E hr=>(AF (Ae (i:=3) sc__law_keeps.nd rfl (Rs rfl) (AJ G__law_far (hr.mono (by decide)) rfl (AA (AH (AX AQ Aq (dv 0) AC)) (AA (AH (dv 2)) AM))))
 (AF (Ce bK rfl (Fy (AX AQ Aq (dv 0) AC)) (Mp rfl (Bx (Av (i:=4) sc__law_keeps.nd rfl (Rs rfl)) (Bx (Av (i:=5) sc__law_keeps.nd rfl (Rs rfl)) (Bx (Av (i:=6) sc__law_keeps.nd rfl (Rs rfl)) JU)))) (AF (Ae (i:=7) sc__law_keeps.nd rfl (Rs rfl) (AX AQ Aq (AX AQ Aq (dv 3) (G8 hr (AX AQ Aq (dv 0) AC) (AO (dv 4) AU))) (G8 hr (AX AQ Aq (dv 0) AC) (AO (dv 5) AU))))
 (AL (Ax (DTW.dt (Bi (Ai MP Ub (dv 7) Bm (AZ _)) (Bb (Ai Cb EZ (AY B_ C0 (dv 7) (AX AQ Aq (dv 1) AC)) (AY B_ C0 (dv 6) (AX AQ Aq (dv 1) AC)) (AZ _))))) (AL (AT BR)) Ab))))
 (AL (AT BR))))) (λss n Pd hl hw=>O3 hw)
theorem sc__law_choices:Ar ["_law_ties_here","_law_many","_law_found","_law_k","_law_longer","_law_row","_law_begin"] ["_law_ties_here","_law_many"] (AV DR):=by constructor <;> first | rfl | decide +kernel
theorem JG{f:Addr}{fd:FuncData}(T:Txt K mg)(F:Fun K "_law_choices" "_law_choices" DR f fd):BG P w K mg base CW 1 f fd ["_law_ties_here","_law_many"] (C7 K .fr E7 2):=by
 exact Dr F sc__law_choices (by decide) (λcdv A outer s H E hr=>(AF (Ae (i:=2) sc__law_choices.nd rfl (Rs rfl) (Ao (AB (Al AK) AK)))
 (AF (Ce bK rfl (DM rfl T.n_range (AO (dv 1) AU)) (Av (i:=3) sc__law_choices.nd rfl (Rs rfl)) (AF (GR (i:=4) sc__law_choices.nd rfl (Rs rfl) (Ao AK))
 (AF (Ce bK rfl (Fy (dv 2)) (Av (i:=5) sc__law_choices.nd rfl (cI rfl)) (AF (Ae (i:=6) sc__law_choices.nd rfl (Rs rfl) (OI (Ai (EG hr) Gm (dv 5) (Al AK) (AZ _)) (AY Aa An (AX AQ Aq (dv 5) (Ez AC)) AC) AC))
 (AL (Ke 4 PySem.F.plainAttrs_list PySem.F.slot_list_extend PySem.F.type_list_extend IM Ud (pv 4) (AB (B2 rfl [("_law_row" : Str),("_law_at" : Str)] [some 5,none] (DI.c (IV rfl T.n_range (AO (dv 6) (AO (Ah Au BS rfl T.n_len PySem.boot_len (AO (dv 0) AU)) AU)))) (λ_ _ _ _ _=>(Av (i:=1) (show bh [("_law_row" : Str),("_law_at" : Str)] by decide +kernel) rfl (Rs rfl))) (λ_ _ _ _ _=>CA) (λ_ _ _ _ _=>(AY Aa An (dv 0) (Al (AB (dv 1) AK)))) (by kernel_rfl)) AK)))))
 (QU 4 (AL (Ae (i:=2) sc__law_choices.nd rfl (Rs rfl) (dv 4)))))))
 (AL (AT (B2 rfl [("_law_ties_here" : Str),("_law_row" : Str)] [some 0,none] (B1 (dv 2)) (λ_ _ _ _ _=>(Av (i:=1) (show bh [("_law_ties_here" : Str),("_law_row" : Str)] by decide +kernel) rfl (Rs rfl))) (λ_ _ _ _ _=>CA) (λ_ _ _ _ _=>(B2 rfl [("_law_ties_here" : Str),("_law_at" : Str)] [some 0,none] (B1 (dv 1)) (λ_ _ _ _ _=>(Av (i:=1) (show bh [("_law_ties_here" : Str),("_law_at" : Str)] by decide +kernel) rfl (Rs rfl))) (λ_ _ _ _ _=>CA) (λ_ _ _ _ _=>(AX AQ Aq (dv 0) (dv 1))) (by kernel_rfl))) (by kernel_rfl))))))) (λss n Pd hl hw=>MJ hw)
theorem sc__law_least:Ar ["_law_net_here","_law_times_here","_law_many"] ["_law_net_here","_law_times_here"] (AV Eo):=by constructor <;> first | rfl | decide +kernel
theorem K6{f:Addr}{fd:FuncData}(T:Txt K mg)(G__law_choices:GG P w K mg base)(G__law_keeps:Hz P w K mg base)(F:Fun K "_law_least" "_law_least" Eo f fd):BG P w K mg base CW 3 f fd ["_law_net_here","_law_times_here"] (C7 K .sh IC 2):=by
 exact Dr F sc__law_least (by decide) (λcdv A outer s H E hr=>(AF (Ae (i:=2) sc__law_least.nd rfl (Rs rfl) AC)
 (AF (UG bK (Ai (DL hr) Dz BR (B2 rfl [("_law_net_here" : Str),("_law_times_here" : Str),("_law_some" : Str)] [some 0,some 1,none] (B1 (AJ G__law_choices (hr.mono (by decide)) rfl (AA (AH (BP CT Jb rfl T.n_list gX (AO (AX AQ Aq (dv 0) AC) AU))) (AA (AH (dv 2)) AM)))) (λ_ _ _ _ _=>(Av (i:=2) (show bh [("_law_net_here" : Str),("_law_times_here" : Str),("_law_some" : Str)] by decide +kernel) rfl (Rs rfl))) (λ_ _ _ _ _=>CA) (λ_ _ _ _ _=>(AJ G__law_keeps (hr.mono (by decide)) rfl (AA (AH (dv 0)) (AA (AH (dv 1)) (AA (AH (dv 2)) AM))))) (by kernel_rfl)) (by with_unfolding_all rfl)) (AL (Ae (i:=2) sc__law_least.nd rfl (Rs rfl) (AY Aa An (dv 2) AC))))
 (AL (AT (dv 2)))))) (λss n Pd hl hw=>O1 hw)
theorem Js:Ar ["_law_net_here","_law_thing"] ["_law_net_here","_law_thing"] (AV EA):=by constructor <;> first | rfl | decide +kernel
theorem KG{f:Addr}{fd:FuncData}(T:Txt K mg)(F:Fun K "_law_is_tie" "_law_is_tie" EA f fd):BG P w K mg base CW 1 f fd ["_law_net_here","_law_thing"] (C7 K .sh Ef 2):=by
 exact Dr F Js (by decide) (λcdv A outer s H E hr=>(AF (Ax (DTW.dt (Bi (BK (Az (Ba kit_tuple (dv 1) rfl T.n_isinstance rfl T.n_tuple (by decide +kernel)))) (Bi (Ai LS Rt (Ah Au BS rfl T.n_len PySem.boot_len (AO (dv 1) AU)) AC (AZ _)) (Bb (Az (Ba Cm (AX AQ Aq (dv 1) AC) rfl T.n_isinstance rfl T.n_bool (by decide +kernel))))))) (AL (AT BR)) Ab)
 (AL (AT (BY (Fo hr) Dz (dv 1) (AX AQ Aq (dv 0) AC) (by with_unfolding_all rfl)))))) (λss n Pd hl hw=>JD hw)
theorem sc__law_is_far:Ar ["_law_world","_law_gone","_law_tie","_law_prices_here","_law_net_here","_law_price","_law_by","_law_a","_law_b","_law_length_here","_law_apart"] ["_law_world","_law_gone","_law_tie","_law_prices_here"] (AV EB):=by constructor <;> first | rfl | decide +kernel
theorem KH{f:Addr}{fd:FuncData}(T:Txt K mg)(G__law_is_tie:EK P w K mg base)(F:Fun K "_law_is_far" "_law_is_far" EB f fd):BG P w K mg base CW 2 f fd ["_law_world","_law_gone","_law_tie","_law_prices_here"] (C7 K .sh Ji 4):=by
 exact Dr F sc__law_is_far (by decide) (λcdv A outer s H E hr=>(AF (Ae (i:=4) sc__law_is_far.nd rfl (Rs rfl) (De hr (pv 0) AS))
 (AF (Ax (DTW.dt (Bi (BK (Az (AJ G__law_is_tie (hr.mono (by decide)) rfl (AA (AH (dv 4)) (AA (AH (dv 2)) AM))))) (Bb (Ai (DL hr) Dz (dv 2) (dv 1) (by with_unfolding_all rfl))))) (AL (AT BR)) Ab)
 (AF (Ax (DTW.dt (Bi (BK (Az (Ba kit_tuple (dv 3) rfl T.n_isinstance rfl T.n_tuple (by decide +kernel)))) (Bb (Ai LS Rt (Ah Au BS rfl T.n_len PySem.boot_len (AO (dv 3) AU)) (Ah Au BS rfl T.n_len PySem.boot_len (AO (AX AQ Aq (dv 4) AC) AU)) (AZ _))))) (AL (AT BR)) Ab)
 (AF (Ce bK rfl (Fy (dv 3)) (Av (i:=5) sc__law_is_far.nd rfl (Rs rfl)) (AL (Ax (DTW.dt (Bi (Az (Ba Cm (dv 5) rfl T.n_isinstance rfl T.n_bool (by decide +kernel))) (Bi (BK (Az (Ba JN (dv 5) rfl T.n_isinstance rfl T.n_int (by decide +kernel)))) (Bb (Ai (J9 hr) OW (dv 5) AC (AZ _)))))) (AL (AT BR)) Ab)))
 (AF (Ae (i:=6) sc__law_is_far.nd rfl (Rs rfl) (Rk rfl (AO (AX AQ Aq (dv 4) AC) (AO (dv 3) AU)) rfl T.n_dict rfl T.n_zip))
 (AF (Ce bK rfl (Fy (AX AQ Aq (dv 4) AC)) (Mp rfl (Bx (Av (i:=7) sc__law_is_far.nd rfl (Rs rfl)) (Bx (Av (i:=8) sc__law_is_far.nd rfl (Rs rfl)) (Bx (Av (i:=9) sc__law_is_far.nd rfl (Rs rfl)) JU)))) (AL (Ax (DTW.dt (Fw (Ai (DL hr) Dz (Al (AB (dv 7) (AB (dv 8) (AB (dv 9) AK)))) (dv 1) (by with_unfolding_all rfl)) (GQ (Ai Cb EZ (Ah Kj Ue rfl T.n_abs boot_abs (AO (AY A8 BL (CS hr (dv 6) (dv 7)) (CS hr (dv 6) (dv 8))) AU)) (dv 9) (AZ _))))) (AL (AT BR)) Ab)))
 (AF (Ae (i:=10) sc__law_is_far.nd rfl (Rs rfl) (Ah Kj Ue rfl T.n_abs boot_abs (AO (AY A8 BL (CS hr (dv 6) (AX AQ Aq (dv 2) AC)) (CS hr (dv 6) (AX AQ Aq (dv 2) AC))) AU)))
 (AL (AT (BY Cb EZ (AY B_ C0 (dv 10) (AX AQ Aq (De hr (pv 0) AS) AC)) (AY B_ C0 (AX AQ Aq (dv 2) AC) (AX AQ Aq (De hr (pv 0) AS) AC)) (AZ _)))))))))))) (λss n Pd hl hw=>JE hw)
theorem sc__law_shows:Ar ["_law_world","_law_kept","_law_gone","_law_thing","_law_deep","_law_tie"] ["_law_world","_law_kept","_law_gone","_law_thing","_law_deep"] (AV Em):=by constructor <;> first | rfl | decide +kernel
theorem Gb{f:Addr}{fd:FuncData}(T:Txt K mg)(G__law_is_far:Gq P w K mg base)(G__law_is_tie:EK P w K mg base)(F:Fun K "_law_shows" "_law_shows" Em f fd)(m:mg "_law_shows"=some (.ref f))(b:Binds K fd ["_law_world","_law_kept","_law_gone","_law_thing","_law_deep"] []):∀j,BG P w K mg base CW (3+j) f fd ["_law_world","_law_kept","_law_gone","_law_thing","_law_deep"] (C7 K .sh (DN j) 5)
 | 0=>by
  have G__law_shows:Got P w K mg base "_law_shows" 2 ["_law_world","_law_kept","_law_gone","_law_thing","_law_deep"] .sh (λ_ _ _=>False):=Cd F m b (λ_ _ _ h=>h.elim) (F.ok (k:=1) sc__law_shows (λvs H Q E h=>h.1) (λcdv A outer s H vs Q E hr h=>by obtain⟨_,_,_,_,_,_,_,_,_,hw,_⟩:=h; exact hw.elim))
  exact Dr (k:=2) F sc__law_shows (by decide) (λcdv A outer s H E hr=>(AF (QV hr (pv 0) (AY A8 BL (JY hr (pv 0)) AC))
 (AF (Ax (DTW.dt (Bi (Ai (J9 hr) OW (JY hr (pv 0)) AC (AZ _)) (Bb (Ai Cb EZ (dv 4) AC (AZ _))))) (AL (AT BR)) Ab)
 (AF (Ax (DTW.dt (Bi (BK (Az (Ba kit_tuple (dv 3) rfl T.n_isinstance rfl T.n_tuple (by decide +kernel)))) (Bb (Ai CO E4 (Ah Au BS rfl T.n_len PySem.boot_len (AO (dv 3) AU)) AC (AZ _))))) (AL (AT BR)) Ab)
 (AF (Ax (Ai (Cs hr) FI (AX AQ Aq (dv 3) AC) AS (AZ _)) (AL (AT (Cz (BY CO E4 (Ah Au BS rfl T.n_len PySem.boot_len (AO (dv 3) AU)) AC (AZ _)) (Cy (BY G4 Km (Ah Au BS rfl T.n_len PySem.boot_len (AO (dv 1) AU)) (De hr (pv 0) AS) (AZ _)))))) Ab)
 (AF (Ax (Ai (Cs hr) FI (AX AQ Aq (dv 3) AC) AS (AZ _)) (AL (AT (Cz (BY CO E4 (Ah Au BS rfl T.n_len PySem.boot_len (AO (dv 3) AU)) AC (AZ _)) (Cy (AJ G__law_is_far (hr.mono (by omega)) rfl (AA (EU 0) (AA (AH (dv 2)) (AA (AH (AX AQ Aq (dv 3) AC)) (AA (AH (AX AQ Aq (dv 3) AC)) AM))))))))) Ab)
 (AF (Ax (DTW.dt (Bi (Ai (EG hr) Gm (AX AQ Aq (dv 3) AC) AS (AZ _)) (Bi (Ai LS Rt (Ah Au BS rfl T.n_len PySem.boot_len (AO (dv 3) AU)) AC (AZ _)) (Bb (BK (Az (AJ G__law_is_tie (hr.mono (by omega)) rfl (AA (AH (De hr (pv 0) AS)) (AA (AH (AX AQ Aq (dv 3) AC)) AM))))))))) (AL (AT BR)) Ab)
 (AF (Ae (i:=5) sc__law_shows.nd rfl (Rs rfl) (AX AQ Aq (dv 3) AC))
 (AF (Ax (Ai (Fo hr) Dz (dv 5) (AY Aa An (dv 1) (dv 2)) (by with_unfolding_all rfl)) (AL (AT BR)) Ab)
 (AF (Ax (BK (Az (AJ G__law_shows (hr.mono (No _)) rfl (AA (EU 0) (AA (AH (AY Aa An (dv 1) (Ao (AB (dv 5) AK)))) (AA (AH (dv 2)) (AA (AH (AX AQ Aq (dv 3) AC)) (AA (AH (AY Aa An (dv 4) AC)) AM)))))))) (AL (AT BR)) Ab)
 (AL (AT (AJ G__law_shows (hr.mono (No _)) rfl (AA (EU 0) (AA (AH (dv 1)) (AA (AH (AY Aa An (dv 2) (Ao (AB (dv 5) AK)))) (AA (AH (AX AQ Aq (dv 3) AC)) (AA (AH (AY Aa An (dv 4) AC)) AM)))))))))))))))))) (λss n Pd hl hw=>Fk (λ_ _ _ h _=>absurd rfl h) hw)
 | j+1=>by
  have G__law_shows:Got P w K mg base "_law_shows" (3+j) ["_law_world","_law_kept","_law_gone","_law_thing","_law_deep"] .sh (DN j):=Cd F m b (λ_ _ _ h=>by obtain⟨_,_,_,_,_,_,_,_,_,e,_⟩:=h; rw [e]; rfl) (Gb T G__law_is_far G__law_is_tie F m b j)
  exact Dr (k:=3+j) F sc__law_shows (by decide) (λcdv A outer s H E hr=>(AF (QV hr (pv 0) (AY A8 BL (JY hr (pv 0)) AC))
 (AF (Ax (DTW.dt (Bi (Ai (J9 hr) OW (JY hr (pv 0)) AC (AZ _)) (Bb (Ai Cb EZ (dv 4) AC (AZ _))))) (AL (AT BR)) Ab)
 (AF (Ax (DTW.dt (Bi (BK (Az (Ba kit_tuple (dv 3) rfl T.n_isinstance rfl T.n_tuple (by decide +kernel)))) (Bb (Ai CO E4 (Ah Au BS rfl T.n_len PySem.boot_len (AO (dv 3) AU)) AC (AZ _))))) (AL (AT BR)) Ab)
 (AF (Ax (Ai (Cs hr) FI (AX AQ Aq (dv 3) AC) AS (AZ _)) (AL (AT (Cz (BY CO E4 (Ah Au BS rfl T.n_len PySem.boot_len (AO (dv 3) AU)) AC (AZ _)) (Cy (BY G4 Km (Ah Au BS rfl T.n_len PySem.boot_len (AO (dv 1) AU)) (De hr (pv 0) AS) (AZ _)))))) Ab)
 (AF (Ax (Ai (Cs hr) FI (AX AQ Aq (dv 3) AC) AS (AZ _)) (AL (AT (Cz (BY CO E4 (Ah Au BS rfl T.n_len PySem.boot_len (AO (dv 3) AU)) AC (AZ _)) (Cy (AJ G__law_is_far (hr.mono (by omega)) rfl (AA (EU 0) (AA (AH (dv 2)) (AA (AH (AX AQ Aq (dv 3) AC)) (AA (AH (AX AQ Aq (dv 3) AC)) AM))))))))) Ab)
 (AF (Ax (DTW.dt (Bi (Ai (EG hr) Gm (AX AQ Aq (dv 3) AC) AS (AZ _)) (Bi (Ai LS Rt (Ah Au BS rfl T.n_len PySem.boot_len (AO (dv 3) AU)) AC (AZ _)) (Bb (BK (Az (AJ G__law_is_tie (hr.mono (by omega)) rfl (AA (AH (De hr (pv 0) AS)) (AA (AH (AX AQ Aq (dv 3) AC)) AM))))))))) (AL (AT BR)) Ab)
 (AF (Ae (i:=5) sc__law_shows.nd rfl (Rs rfl) (AX AQ Aq (dv 3) AC))
 (AF (Ax (Ai (Fo hr) Dz (dv 5) (AY Aa An (dv 1) (dv 2)) (by with_unfolding_all rfl)) (AL (AT BR)) Ab)
 (AF (Ax (BK (Az (AJ G__law_shows (hr.mono (No _)) rfl (AA (EU 0) (AA (AH (AY Aa An (dv 1) (Ao (AB (dv 5) AK)))) (AA (AH (dv 2)) (AA (AH (AX AQ Aq (dv 3) AC)) (AA (AH (AY Aa An (dv 4) AC)) AM)))))))) (AL (AT BR)) Ab)
 (AL (AT (AJ G__law_shows (hr.mono (No _)) rfl (AA (EU 0) (AA (AH (dv 1)) (AA (AH (AY Aa An (dv 2) (Ao (AB (dv 5) AK)))) (AA (AH (AX AQ Aq (dv 3) AC)) (AA (AH (AY Aa An (dv 4) AC)) AM)))))))))))))))))) (λss n Pd hl hw=>Fk (j:=j+1) (λ_ _ _ _ h=>h) hw)
theorem HJ:Ar ["_law_net_here","_law_times_here","_law_many","_law_thing"] ["_law_net_here","_law_times_here","_law_many","_law_thing"] (AV CZ):=by constructor <;> first | rfl | decide +kernel
theorem HV{f:Addr}{fd:FuncData}(T:Txt K mg)(G__law_shows:Hw P w K mg base)(F:Fun K "_law_read_case" "_law_read_case" CZ f fd):BG P w K mg base CW 14 f fd ["_law_net_here","_law_times_here","_law_many","_law_thing"] (C7 K .sh IB 4):=by
 exact Dr F HJ (by decide) (λcdv A outer s H E hr=>(AL (AT (UM G__law_shows (hr.mono (by decide)) rfl (pv 0) (pv 1) (pv 2) (pv 3) XR (by decide))))) (λss n Pd hl hw=>Gz hw)
theorem sc__law_prices:Ar ["_law_feed_here","_law_world","_law_spans","_law_tie","_law_places_here","_law_times_here","_law_least_here","_law_side","_law_more","_law_row","_law_prices_here","_law_apart"] ["_law_feed_here","_law_world","_law_spans","_law_tie"] (AV D8):=by constructor <;> first | rfl | decide +kernel
theorem KA{f:Addr}{fd:FuncData}(T:Txt K mg)(G__law_next:BB P w K mg base)(F:Fun K "_law_prices" "_law_prices" D8 f fd):BG P w K mg base CW 2 f fd ["_law_feed_here","_law_world","_law_spans","_law_tie"] (C7 K .sh E6 4):=by
 exact Dr F sc__law_prices (by decide) (λcdv A outer s H E hr=>(AF (Xn (i:=4) (j:=5) rfl sc__law_prices.nd rfl rfl (by decide) rfl rfl (AB (AX AQ Aq (CS hr (dv 1) AS) AC) (AB (CS hr (dv 1) AS) AK)) rfl)
 (AF (Ae (i:=6) sc__law_prices.nd rfl (cI rfl) (AY Aa An (AY Aa An (AY HU CG (AY B_ C0 (AX AQ Aq (dv 3) AC) (AX AQ Aq (dv 5) AC)) (AX AQ Aq (dv 5) AC)) AC) (AY B_ C0 (AJ G__law_next (hr.mono (by decide)) rfl (AA (Aw 0) (AA (AH AC) AM))) AC)))
 (AF (Ae (i:=7) sc__law_prices.nd rfl (Rs rfl) (AJ G__law_next (hr.mono (by decide)) rfl (AA (Aw 0) (AA (AH AC) AM))))
 (AF (Ae (i:=8) sc__law_prices.nd rfl (cI rfl) (AJ G__law_next (hr.mono (by decide)) rfl (AA (Aw 0) (AA (AH AC) AM))))
 (AF (Ae (i:=9) sc__law_prices.nd rfl (Rs rfl) (AX AQ Aq (dv 2) (G8 hr (dv 4) (AO (AX AQ Aq (dv 3) (dv 7)) AU))))
 (AF (JS (i:=10) sc__law_prices.nd rfl (Rs rfl) rfl [("_law_more" : Str),("_law_least_here" : Str),("_law_one" : Str)] [some 8,some 6,none] (B1 (dv 9)) (λ_ _ _ _ _=>(Av (i:=2) (show bh [("_law_more" : Str),("_law_least_here" : Str),("_law_one" : Str)] by decide +kernel) rfl (Rs rfl))) (λ_ _ _ _ _=>CA) (λ_ _ _ _ _=>(AY Aa An (dv 0) (OI (Ai MP Ub (dv 2) Bm (AZ _)) (dv 1) (Ah (GS rfl) M6 rfl T.n_min boot_min (AO (dv 2) (AO (dv 1) AU)))))) (by kernel_rfl))
 (AF (Ae (i:=11) sc__law_prices.nd rfl (Rs rfl) (AY A8 BL (AX AQ Aq (dv 10) (G8 hr (dv 4) (AO (AX AQ Aq (dv 3) (AY A8 BL AC (dv 7))) AU))) (dv 8)))
 (AL (AT (OI (Ai Cb EZ (AY B_ C0 (dv 11) (AX AQ Aq (dv 5) AC)) (AY B_ C0 (AX AQ Aq (dv 3) AC) (AX AQ Aq (dv 5) AC)) (AZ _)) (BP Bh Dh rfl T.n_tuple eL (AO (dv 10) AU)) Bm))))))))))) (λss n Pd hl hw=>JC hw)
theorem sc__law_far_case:Ar ["_law_feed_here","_law_world","_law_gone","_law_net_here","_law_spans","_law_at","_law_tie","_law_prices_here"] ["_law_feed_here","_law_world","_law_gone"] (AV Cq):=by constructor <;> first | rfl | decide +kernel
theorem IL{f:Addr}{fd:FuncData}(T:Txt K mg)(G__law_far:E5 P w K mg base)(G__law_next:BB P w K mg base)(G__law_prices:Gn P w K mg base)(F:Fun K "_law_far_case" "_law_far_case" Cq f fd):BG P w K mg base CW 3 f fd ["_law_feed_here","_law_world","_law_gone"] (C7 K .sh IF 3):=by
 exact Dr F sc__law_far_case (by decide) (λcdv A outer s H E hr=>(AF (Ae (i:=3) sc__law_far_case.nd rfl (Rs rfl) (CS hr (dv 1) AS))
 (AF (Ae (i:=4) sc__law_far_case.nd rfl (Rs rfl) (AJ G__law_far (hr.mono (by decide)) rfl (AA (AH (AX AQ Aq (dv 3) AC)) (AA (AH (B2 rfl [("_law_gone" : Str),("_law_one" : Str)] [some 2,none] (B1 (AX AQ Aq (dv 3) AC)) (λ_ _ _ _ _=>(Av (i:=1) (show bh [("_law_gone" : Str),("_law_one" : Str)] by decide +kernel) rfl (Rs rfl))) (λ_ _ _ _ _=>(Hk (Ai (DL hr) Dz (dv 1) (dv 0) (by with_unfolding_all rfl)))) (λ_ _ _ _ _=>(dv 1)) (by kernel_rfl))) AM))))
 (AF (Ae (i:=5) sc__law_far_case.nd rfl (Rs rfl) (AJ G__law_next (hr.mono (by decide)) rfl (AA (Aw 0) (AA (AH (Ah Au BS rfl T.n_len PySem.boot_len (AO (dv 2) AU))) AM))))
 (AF (Ce bK rfl (Fy (AY Aa An (Bp Ck Bq (dv 2) (A9 (dv 5)) A_) (Bp Ck Bq (dv 2) A_ (A9 (dv 5))))) (Av (i:=6) sc__law_far_case.nd rfl (Rs rfl)) (AF (Ae (i:=7) sc__law_far_case.nd rfl (Rs rfl) (AJ G__law_prices (hr.mono (by decide)) rfl (AA (Aw 0) (AA (AH (dv 1)) (AA (AH (dv 4)) (AA (AH (dv 6)) AM))))))
 (AL (Ax (Ai GL M5 (dv 7) Bm (AZ _)) (AL (AT (Al (AB AS (AB (dv 6) (AB (dv 7) AK)))))) Ab))))
 (AL (AT Bm))))))) (λss n Pd hl hw=>K1 hw)
theorem sc__law_made:Ar ["_law_feed_here","_law_world","_law_kept","_law_gone","_law_left","_law_found","_law_at","_law_tie","_law_rest","_law_first"] ["_law_feed_here","_law_world","_law_kept","_law_gone","_law_left"] (AV Fc):=by constructor <;> first | rfl | decide +kernel
theorem HW{f:Addr}{fd:FuncData}(T:Txt K mg)(G__law_far_case:FJ P w K mg base)(G__law_next:BB P w K mg base)(F:Fun K "_law_made" "_law_made" Fc f fd)(m:mg "_law_made"=some (.ref f))(b:Binds K fd ["_law_feed_here","_law_world","_law_kept","_law_gone","_law_left"] []):∀j,BG P w K mg base CW (4+j) f fd ["_law_feed_here","_law_world","_law_kept","_law_gone","_law_left"] (C7 K .sh (CB j) 5)
 | 0=>by
  have G__law_made:Got P w K mg base "_law_made" 3 ["_law_feed_here","_law_world","_law_kept","_law_gone","_law_left"] .sh (λ_ _ _=>False):=Cd F m b (λ_ _ _ h=>h.elim) (F.ok (k:=2) sc__law_made (λvs H Q E h=>h.1) (λcdv A outer s H vs Q E hr h=>by obtain⟨_,_,_,_,_,_,_,_,_,hw,_⟩:=h; exact hw.elim))
  exact Dr (k:=3) F sc__law_made (by decide) (λcdv A outer s H E hr=>(AF (Ax (DTW.dt (Bi (Ai (Cs hr) FI (dv 4) (Ao AK) (AZ _)) (Bb (Ai Cb EZ (AJ G__law_next (hr.mono (by omega)) rfl (AA (Aw 0) (AA (AH AC) AM))) AC (AZ _))))) (AF (Ax (Ai G4 Km (Ah Au BS rfl T.n_len PySem.boot_len (AO (dv 2) AU)) (CS hr (dv 1) AS) (AZ _)) (AL (AT (Al (AB AS AK)))) Ab)
 (AF (Ae (i:=5) sc__law_made.nd rfl (Rs rfl) Bm)
 (AF (Ax (Ai (EG hr) Gm (dv 3) (Ao AK) (AZ _)) (AL (Ae (i:=5) sc__law_made.nd rfl (Rs rfl) (AJ G__law_far_case (hr.mono (by omega)) rfl (AA (Aw 0) (AA (AH (dv 1)) (AA (AH (dv 3)) AM)))))) Ab)
 (AL (Ax (Ai GL M5 (dv 5) Bm (AZ _)) (AL (AT (dv 5))) Ab))))) Ab)
 (AF (Ax (Ai (Cs hr) FI (dv 4) (Ao AK) (AZ _)) (AL (AT (Al (AB AS AK)))) Ab)
 (AF (Ae (i:=6) sc__law_made.nd rfl (Rs rfl) (AJ G__law_next (hr.mono (by omega)) rfl (AA (Aw 0) (AA (AH (Ah Au BS rfl T.n_len PySem.boot_len (AO (dv 4) AU))) AM))))
 (AF (Ae (i:=7) sc__law_made.nd rfl (Rs rfl) (AX AQ Aq (dv 4) (dv 6)))
 (AF (Ae (i:=8) sc__law_made.nd rfl (Rs rfl) (AY Aa An (Bp Ck Bq (dv 4) A_ (A9 (dv 6))) (Bp Ck Bq (dv 4) (A9 (AY Aa An (dv 6) AC)) A_)))
 (AF (Ae (i:=9) sc__law_made.nd rfl (Rs rfl) (AJ G__law_made (hr.mono (No _)) rfl (AA (Aw 0) (AA (AH (dv 1)) (AA (AH (AY Aa An (dv 2) (Ao (AB (dv 7) AK)))) (AA (AH (dv 3)) (AA (AH (dv 8)) AM)))))))
 (AL (AT (Al (AB AS (AB (dv 7) (AB (dv 9) (AB (AJ G__law_made (hr.mono (No _)) rfl (AA (Aw 0) (AA (AH (dv 1)) (AA (AH (dv 2)) (AA (AH (AY Aa An (dv 3) (Ao (AB (dv 7) AK)))) (AA (AH (dv 8)) AM)))))) AK)))))))))))))) (λss n Pd hl hw=>LP (λ_ _ _ h _=>absurd rfl h) hw)
 | j+1=>by
  have G__law_made:Got P w K mg base "_law_made" (4+j) ["_law_feed_here","_law_world","_law_kept","_law_gone","_law_left"] .sh (CB j):=Cd F m b (λ_ _ _ h=>by obtain⟨_,_,_,_,_,_,_,e,_⟩:=h; rw [e]; rfl) (HW T G__law_far_case G__law_next F m b j)
  exact Dr (k:=4+j) F sc__law_made (by decide) (λcdv A outer s H E hr=>(AF (Ax (DTW.dt (Bi (Ai (Cs hr) FI (dv 4) (Ao AK) (AZ _)) (Bb (Ai Cb EZ (AJ G__law_next (hr.mono (by omega)) rfl (AA (Aw 0) (AA (AH AC) AM))) AC (AZ _))))) (AF (Ax (Ai G4 Km (Ah Au BS rfl T.n_len PySem.boot_len (AO (dv 2) AU)) (CS hr (dv 1) AS) (AZ _)) (AL (AT (Al (AB AS AK)))) Ab)
 (AF (Ae (i:=5) sc__law_made.nd rfl (Rs rfl) Bm)
 (AF (Ax (Ai (EG hr) Gm (dv 3) (Ao AK) (AZ _)) (AL (Ae (i:=5) sc__law_made.nd rfl (Rs rfl) (AJ G__law_far_case (hr.mono (by omega)) rfl (AA (Aw 0) (AA (AH (dv 1)) (AA (AH (dv 3)) AM)))))) Ab)
 (AL (Ax (Ai GL M5 (dv 5) Bm (AZ _)) (AL (AT (dv 5))) Ab))))) Ab)
 (AF (Ax (Ai (Cs hr) FI (dv 4) (Ao AK) (AZ _)) (AL (AT (Al (AB AS AK)))) Ab)
 (AF (Ae (i:=6) sc__law_made.nd rfl (Rs rfl) (AJ G__law_next (hr.mono (by omega)) rfl (AA (Aw 0) (AA (AH (Ah Au BS rfl T.n_len PySem.boot_len (AO (dv 4) AU))) AM))))
 (AF (Ae (i:=7) sc__law_made.nd rfl (Rs rfl) (AX AQ Aq (dv 4) (dv 6)))
 (AF (Ae (i:=8) sc__law_made.nd rfl (Rs rfl) (AY Aa An (Bp Ck Bq (dv 4) A_ (A9 (dv 6))) (Bp Ck Bq (dv 4) (A9 (AY Aa An (dv 6) AC)) A_)))
 (AF (Ae (i:=9) sc__law_made.nd rfl (Rs rfl) (AJ G__law_made (hr.mono (No _)) rfl (AA (Aw 0) (AA (AH (dv 1)) (AA (AH (AY Aa An (dv 2) (Ao (AB (dv 7) AK)))) (AA (AH (dv 3)) (AA (AH (dv 8)) AM)))))))
 (AL (AT (Al (AB AS (AB (dv 7) (AB (dv 9) (AB (AJ G__law_made (hr.mono (No _)) rfl (AA (Aw 0) (AA (AH (dv 1)) (AA (AH (dv 2)) (AA (AH (AY Aa An (dv 3) (Ao (AB (dv 7) AK)))) (AA (AH (dv 8)) AM)))))) AK)))))))))))))) (λss n Pd hl hw=>LP (j:=j+1) (λ_ _ _ _ h=>h) hw)
theorem MC:Ar ["_law_feed_here","_law_net_here","_law_times_here","_law_many"] ["_law_feed_here","_law_net_here","_law_times_here","_law_many"] (AV Fh):=by constructor <;> first | rfl | decide +kernel
theorem MZ{f:Addr}{fd:FuncData}(T:Txt K mg)(G__law_made:D1 P w K mg base)(F:Fun K "_law_case" "_law_case" Fh f fd):BG P w K mg base CW 12 f fd ["_law_feed_here","_law_net_here","_law_times_here","_law_many"] (C7 K .sh Jj 4):=by
 exact Dr F MC (by decide) (λcdv A outer s H E hr=>(AL (AT (AJ G__law_made (hr.mono (by decide)) rfl (AA (Aw 0) (AA (AH (OJ (pv 1) (pv 2) (pv 3) TU)) (AA (AH (Ao AK)) (AA (AH (Ao AK)) (AA (AH (BP CT Jb rfl T.n_list gX (AO (AX AQ Aq (dv 1) AC) AU))) AM))))))))) (λss n Pd hl hw=>Q8 hw)
theorem sc__law_bent:Ar ["_law_feed_here","_law_thing","_law_at","_law_some"] ["_law_feed_here","_law_thing"] (AV Fi):=by constructor <;> first | rfl | decide +kernel
theorem HX{f:Addr}{fd:FuncData}(T:Txt K mg)(G__law_next:BB P w K mg base)(F:Fun K "_law_bent" "_law_bent" Fi f fd)(m:mg "_law_bent"=some (.ref f))(b:Binds K fd ["_law_feed_here","_law_thing"] []):∀j,BG P w K mg base CW (3+j) f fd ["_law_feed_here","_law_thing"] (C7 K .sh (E8 j) 2)
 | 0=>by
  have G__law_bent:Got P w K mg base "_law_bent" 2 ["_law_feed_here","_law_thing"] .sh (λ_ _ _=>False):=Cd F m b (λ_ _ _ h=>h.elim) (F.ok (k:=1) sc__law_bent (λvs H Q E h=>h.1) (λcdv A outer s H vs Q E hr h=>by obtain⟨_,_,_,_,_,_,_,_,_,hw,_⟩:=h; exact hw.elim))
  exact Dr (k:=2) F sc__law_bent (by decide) (λcdv A outer s H E hr=>(AF (Ax (DTW.dt (Fw (Az (Ba kit_tuple (dv 1) rfl T.n_isinstance rfl T.n_tuple (by decide +kernel))) (Fw (Ai Cb EZ (Ah Au BS rfl T.n_len PySem.boot_len (AO (dv 1) AU)) AC (AZ _)) (GQ (Ai Cb EZ (AJ G__law_next (hr.mono (by omega)) rfl (AA (Aw 0) (AA (AH AC) AM))) AC (AZ _)))))) (AF (Ae (i:=2) sc__law_bent.nd rfl (Rs rfl) (AJ G__law_next (hr.mono (by omega)) rfl (AA (Aw 0) (AA (AH (Ah Au BS rfl T.n_len PySem.boot_len (AO (dv 1) AU))) AM))))
 (AL (AT (AY Aa An (AY Aa An (Bp Ck Bq (dv 1) A_ (A9 (dv 2))) (Al (AB (AJ G__law_bent (hr.mono (No _)) rfl (AA (Aw 0) (AA (AH (AX AQ Aq (dv 1) (dv 2))) AM))) AK))) (Bp Ck Bq (dv 1) (A9 (AY Aa An (dv 2) AC)) A_))))) Ab)
 (AF (Ax (Az (Ba kit_tuple (dv 1) rfl T.n_isinstance rfl T.n_tuple (by decide +kernel))) (AF (Ae (i:=3) sc__law_bent.nd rfl (Rs rfl) (Ao (AB (BP CT Jb rfl T.n_list gX (AO (dv 1) AU)) (AB (AY Aa An (dv 1) (Bp Ck Bq (dv 1) A_ (A9 AC))) (AB (Bp Ck Bq (dv 1) (A9 AC) A_) (AB (Bp Ck Bq (dv 1) A_ (A9 (Ez AC))) (AB (PU (dv 1) (Ez AC)) (AB (Al AK) (AB Bm (AB (AY Aa An (dv 1) (Al (AB AC AK))) AK))))))))))
 (AF (Ae (i:=3) sc__law_bent.nd rfl (Rs rfl) (AY Aa An (dv 3) (Ao (AB (Al (AB AS AK)) (AB (AY Aa An (Al (AB AS AK)) (Bp Ck Bq (dv 1) (A9 AC) A_)) (AB (AY Aa An (Al (AB AS AK)) (Bp Ck Bq (dv 1) (A9 AC) A_)) AK))))))
 (AL (AT (AX AQ Aq (dv 3) (AJ G__law_next (hr.mono (by omega)) rfl (AA (Aw 0) (AA (AH AC) AM)))))))) Ab)
 (AF (Ax (Az (Ba QI (dv 1) rfl T.n_isinstance rfl T.n_str (by decide +kernel))) (AL (AT (AX AQ Aq (Ao (AB AS (AB AS (AB AS (AB AS (AB AS (AB AS (AB Bm (AB AC (AB (Ao AK) (AB (Al (AB AS AK)) AK))))))))))) (AJ G__law_next (hr.mono (by omega)) rfl (AA (Aw 0) (AA (AH AC) AM)))))) Ab)
 (AF (Ax (DTW.dt (Bi (Az (Ba Cm (dv 1) rfl T.n_isinstance rfl T.n_bool (by decide +kernel))) (Bb (BK (Az (Ba JN (dv 1) rfl T.n_isinstance rfl T.n_int (by decide +kernel))))))) (AL (AT (Al (AB AS AK)))) Ab)
 (AL (AT (AX AQ Aq (Ao (AB (AY Aa An (dv 1) AC) (AB (AY A8 BL (dv 1) AC) (AB (BY CO E4 (dv 1) AC (AZ _)) (AB Bm (AB (BP Li UX rfl T.n_str boot_str (AO (dv 1) AU)) (AB (AY A8 BL (Ez AC) (dv 1)) (AB (AY G3 CG AC AC) (AB AC AK))))))))) (AJ G__law_next (hr.mono (by omega)) rfl (AA (Aw 0) (AA (AH AC) AM))))))))))) (λss n Pd hl hw=>LQ (λ_ _ _ h _=>absurd rfl h) hw)
 | j+1=>by
  have G__law_bent:Got P w K mg base "_law_bent" (3+j) ["_law_feed_here","_law_thing"] .sh (E8 j):=Cd F m b (λ_ _ _ h=>by obtain⟨_,_,e,_⟩:=h; rw [e]; rfl) (HX T G__law_next F m b j)
  exact Dr (k:=3+j) F sc__law_bent (by decide) (λcdv A outer s H E hr=>(AF (Ax (DTW.dt (Fw (Az (Ba kit_tuple (dv 1) rfl T.n_isinstance rfl T.n_tuple (by decide +kernel))) (Fw (Ai Cb EZ (Ah Au BS rfl T.n_len PySem.boot_len (AO (dv 1) AU)) AC (AZ _)) (GQ (Ai Cb EZ (AJ G__law_next (hr.mono (by omega)) rfl (AA (Aw 0) (AA (AH AC) AM))) AC (AZ _)))))) (AF (Ae (i:=2) sc__law_bent.nd rfl (Rs rfl) (AJ G__law_next (hr.mono (by omega)) rfl (AA (Aw 0) (AA (AH (Ah Au BS rfl T.n_len PySem.boot_len (AO (dv 1) AU))) AM))))
 (AL (AT (AY Aa An (AY Aa An (Bp Ck Bq (dv 1) A_ (A9 (dv 2))) (Al (AB (AJ G__law_bent (hr.mono (No _)) rfl (AA (Aw 0) (AA (AH (AX AQ Aq (dv 1) (dv 2))) AM))) AK))) (Bp Ck Bq (dv 1) (A9 (AY Aa An (dv 2) AC)) A_))))) Ab)
 (AF (Ax (Az (Ba kit_tuple (dv 1) rfl T.n_isinstance rfl T.n_tuple (by decide +kernel))) (AF (Ae (i:=3) sc__law_bent.nd rfl (Rs rfl) (Ao (AB (BP CT Jb rfl T.n_list gX (AO (dv 1) AU)) (AB (AY Aa An (dv 1) (Bp Ck Bq (dv 1) A_ (A9 AC))) (AB (Bp Ck Bq (dv 1) (A9 AC) A_) (AB (Bp Ck Bq (dv 1) A_ (A9 (Ez AC))) (AB (PU (dv 1) (Ez AC)) (AB (Al AK) (AB Bm (AB (AY Aa An (dv 1) (Al (AB AC AK))) AK))))))))))
 (AF (Ae (i:=3) sc__law_bent.nd rfl (Rs rfl) (AY Aa An (dv 3) (Ao (AB (Al (AB AS AK)) (AB (AY Aa An (Al (AB AS AK)) (Bp Ck Bq (dv 1) (A9 AC) A_)) (AB (AY Aa An (Al (AB AS AK)) (Bp Ck Bq (dv 1) (A9 AC) A_)) AK))))))
 (AL (AT (AX AQ Aq (dv 3) (AJ G__law_next (hr.mono (by omega)) rfl (AA (Aw 0) (AA (AH AC) AM)))))))) Ab)
 (AF (Ax (Az (Ba QI (dv 1) rfl T.n_isinstance rfl T.n_str (by decide +kernel))) (AL (AT (AX AQ Aq (Ao (AB AS (AB AS (AB AS (AB AS (AB AS (AB AS (AB Bm (AB AC (AB (Ao AK) (AB (Al (AB AS AK)) AK))))))))))) (AJ G__law_next (hr.mono (by omega)) rfl (AA (Aw 0) (AA (AH AC) AM)))))) Ab)
 (AF (Ax (DTW.dt (Bi (Az (Ba Cm (dv 1) rfl T.n_isinstance rfl T.n_bool (by decide +kernel))) (Bb (BK (Az (Ba JN (dv 1) rfl T.n_isinstance rfl T.n_int (by decide +kernel))))))) (AL (AT (Al (AB AS AK)))) Ab)
 (AL (AT (AX AQ Aq (Ao (AB (AY Aa An (dv 1) AC) (AB (AY A8 BL (dv 1) AC) (AB (BY CO E4 (dv 1) AC (AZ _)) (AB Bm (AB (BP Li UX rfl T.n_str boot_str (AO (dv 1) AU)) (AB (AY A8 BL (Ez AC) (dv 1)) (AB (AY G3 CG AC AC) (AB AC AK))))))))) (AJ G__law_next (hr.mono (by omega)) rfl (AA (Aw 0) (AA (AH AC) AM))))))))))) (λss n Pd hl hw=>LQ (j:=j+1) (λ_ _ _ _ h=>h) hw)
theorem sc__law_star:Ar ["_law_feed_here","_law_many","_law_places_here","_law_ties_here","_law_prices_here","_law_k"] ["_law_feed_here","_law_many"] (AV Fb):=by constructor <;> first | rfl | decide +kernel
theorem MW{f:Addr}{fd:FuncData}(T:Txt K mg)(G__law_places:EJ P w K mg base)(F:Fun K "_law_star" "_law_star" Fb f fd):BG P w K mg base CW 3 f fd ["_law_feed_here","_law_many"] (C7 K .sh IA 2):=by
 exact Dr F sc__law_star (by decide) (λcdv A outer s H E hr=>(AF (Ae (i:=2) sc__law_star.nd rfl (cI rfl) (AJ G__law_places (hr.mono (by decide)) rfl (AA (Aw 0) (AA (AH (AY Aa An (dv 1) AC)) AM))))
 (AF (Ae (i:=3) sc__law_star.nd rfl (Rs rfl) (BP Bh Dh rfl T.n_tuple eL (AO (B2 rfl [("_law_places_here" : Str),("_law_k" : Str)] [some 2,none] (DI.c (IV rfl T.n_range (AO AC (AO (AY Aa An (dv 1) AC) AU)))) (λ_ _ _ _ _=>(Av (i:=1) (show bh [("_law_places_here" : Str),("_law_k" : Str)] by decide +kernel) rfl (Rs rfl))) (λ_ _ _ _ _=>CA) (λ_ _ _ _ _=>(Al (AB (AX AQ Aq (dv 0) AC) (AB (AX AQ Aq (dv 0) (dv 1)) (AB (AY Aa An AC (AY DX CG (dv 1) AC)) AK))))) (by kernel_rfl)) AU)))
 (AF (GR (i:=4) sc__law_star.nd rfl (Rs rfl) (Ao AK))
 (AF (Ce bK rfl (IV rfl T.n_range (AO AC (AO (AY Aa An (dv 1) AC) AU))) (Av (i:=5) sc__law_star.nd rfl (cI rfl)) (AL (Ke 4 PySem.F.plainAttrs_list PySem.F.slot_list_append PySem.F.type_list_append EO Qg (pv 4) (AB (BP Bh Dh rfl T.n_tuple eL (AO (B2 rfl [("_law_k" : Str),("_law_j" : Str)] [some 5,none] (DI.c (DM rfl T.n_range (AO (AY Aa An (dv 1) AC) AU))) (λ_ _ _ _ _=>(Av (i:=1) (show bh [("_law_k" : Str),("_law_j" : Str)] by decide +kernel) rfl (Rs rfl))) (λ_ _ _ _ _=>CA) (λ_ _ _ _ _=>(AY B_ C0 (AY G3 CG AC AC) (BP Rp X5 rfl T.n_int boot_int (AO (BY CO E4 (dv 1) (dv 0) (AZ _)) AU)))) (by kernel_rfl)) AU)) AK))))
 (QU 4 (AL (AT (Al (AB (Al (AB (dv 2) (AB (dv 3) AK))) (AB (dv 4) AK))))))))))) (λss n Pd hl hw=>Q2 hw)
theorem sc__law_held:Ar ["_law_net_here","_law_kept","_law_tie","_law_row"] ["_law_net_here","_law_kept","_law_tie"] (AV Fe):=by constructor <;> first | rfl | decide +kernel
theorem MX{f:Addr}{fd:FuncData}(T:Txt K mg)(G__law_far:E5 P w K mg base)(F:Fun K "_law_held" "_law_held" Fe f fd):BG P w K mg base CW 2 f fd ["_law_net_here","_law_kept","_law_tie"] (C7 K .sh IE 3):=by
 exact Dr F sc__law_held (by decide) (λcdv A outer s H E hr=>(AF (Ae (i:=3) sc__law_held.nd rfl (Rs rfl) (AX AQ Aq (AJ G__law_far (hr.mono (by decide)) rfl (AA (AH (AX AQ Aq (dv 0) AC)) (AA (AH (dv 1)) AM))) (G8 hr (AX AQ Aq (dv 0) AC) (AO (AX AQ Aq (dv 2) AC) AU))))
 (AL (AT (BP Bh Dh rfl T.n_tuple eL (AO (B2 rfl [("_law_one" : Str)] [none] (B1 (dv 3)) (λ_ _ _ _ _=>(Av (i:=0) (show bh [("_law_one" : Str)] by decide +kernel) rfl (Rs rfl))) (λ_ _ _ _ _=>CA) (λ_ _ _ _ _=>(OI (Ai GL M5 (dv 0) Bm (AZ _)) AC (AY G3 CG AC AC))) (by kernel_rfl)) AU)))))) (λss n Pd hl hw=>Q6 hw)
theorem sc__law_split_twice:Ar ["_law_feed_here","_law_world","_law_tie","_law_case_here","_law_rest","_law_first"] ["_law_feed_here","_law_world","_law_tie","_law_case_here"] (AV CC):=by constructor <;> first | rfl | decide +kernel
theorem GX{f:Addr}{fd:FuncData}(T:Txt K mg)(G__law_made:D1 P w K mg base)(F:Fun K "_law_split_twice" "_law_split_twice" CC f fd):BG P w K mg base CW 12 f fd ["_law_feed_here","_law_world","_law_tie","_law_case_here"] (C7 K .fr H_ 4):=by
 exact Dr F sc__law_split_twice (by decide) (λcdv A outer s H E hr=>(AF (JS (i:=4) sc__law_split_twice.nd rfl (Rs rfl) rfl [("_law_tie" : Str),("_law_one" : Str)] [some 2,none] (B1 (AX AQ Aq (CS hr (dv 1) AS) AC)) (λ_ _ _ _ _=>(Av (i:=1) (show bh [("_law_tie" : Str),("_law_one" : Str)] by decide +kernel) rfl (Rs rfl))) (λ_ _ _ _ _=>(Hk (Ai (EG hr) Gm (dv 1) (dv 0) (AZ _)))) (λ_ _ _ _ _=>(dv 1)) (by kernel_rfl))
 (AF (Ae (i:=5) sc__law_split_twice.nd rfl (Rs rfl) (AJ G__law_made (hr.mono (by decide)) rfl (AA (Aw 0) (AA (AH (dv 1)) (AA (AH (Ao (AB (dv 2) AK))) (AA (AH (Ao AK)) (AA (AH (dv 4)) AM)))))))
 (AL (AT (Ao (AB (Al (AB AS (AB (dv 2) (AB (dv 5) (AB (dv 3) AK))))) (AB (Al (AB AS (AB (dv 2) (AB (dv 3) (AB (AJ G__law_made (hr.mono (by decide)) rfl (AA (Aw 0) (AA (AH (dv 1)) (AA (AH (Ao AK)) (AA (AH (Ao (AB (dv 2) AK))) (AA (AH (dv 4)) AM)))))) AK))))) AK)))))))) (λss n Pd hl hw=>Oy hw)
theorem sc__law_held_by_kept:Ar ["_law_feed_here","_law_world","_law_tie","_law_net_here","_law_rest","_law_first","_law_found","_law_one","_law_left","_law_inner"] ["_law_feed_here","_law_world","_law_tie"] (AV B4):=by constructor <;> first | rfl | decide +kernel
theorem Fp{f:Addr}{fd:FuncData}(T:Txt K mg)(G__law_held:Iy P w K mg base)(G__law_made:D1 P w K mg base)(F:Fun K "_law_held_by_kept" "_law_held_by_kept" B4 f fd):BG P w K mg base CW 12 f fd ["_law_feed_here","_law_world","_law_tie"] (C7 K .fr NA 3):=by
 exact Dr F sc__law_held_by_kept (by decide) (λcdv A outer s H E hr=>(AF (Ae (i:=3) sc__law_held_by_kept.nd rfl (Rs rfl) (CS hr (dv 1) AS))
 (AF (JS (i:=4) sc__law_held_by_kept.nd rfl (Rs rfl) rfl [("_law_tie" : Str),("_law_one" : Str)] [some 2,none] (B1 (AX AQ Aq (dv 3) AC)) (λ_ _ _ _ _=>(Av (i:=1) (show bh [("_law_tie" : Str),("_law_one" : Str)] by decide +kernel) rfl (Rs rfl))) (λ_ _ _ _ _=>(Hk (Ai (EG hr) Gm (dv 1) (dv 0) (AZ _)))) (λ_ _ _ _ _=>(dv 1)) (by kernel_rfl))
 (AF (Ae (i:=5) sc__law_held_by_kept.nd rfl (Rs rfl) (AJ G__law_made (hr.mono (by decide)) rfl (AA (Aw 0) (AA (AH (dv 1)) (AA (AH (Ao (AB (dv 2) AK))) (AA (AH (Ao AK)) (AA (AH (dv 4)) AM)))))))
 (AF (GR (i:=6) sc__law_held_by_kept.nd rfl (Rs rfl) (Ao (AB (Al (AB AS (AB (dv 2) (AB (dv 5) (AB (Al (AB AS (AB (dv 2) (AB (AJ G__law_held (hr.mono (by decide)) rfl (AA (AH (dv 3)) (AA (AH (Ao AK)) (AA (AH (dv 2)) AM)))) AK)))) AK))))) AK)))
 (AF (Ce bK rfl (Fy (Bp Ck Bq (dv 4) A_ (A9 AC))) (Av (i:=7) sc__law_held_by_kept.nd rfl (cI rfl)) (AF (JS (i:=8) sc__law_held_by_kept.nd rfl (Rs rfl) rfl [("_law_one" : Str),("_law_other" : Str)] [some 7,none] (B1 (dv 4)) (λ_ _ _ _ _=>(Av (i:=1) (show bh [("_law_one" : Str),("_law_other" : Str)] by decide +kernel) rfl (Rs rfl))) (λ_ _ _ _ _=>(Hk (Ai (EG hr) Gm (dv 1) (dv 0) (AZ _)))) (λ_ _ _ _ _=>(dv 1)) (by kernel_rfl))
 (AF (Ae (i:=5) sc__law_held_by_kept.nd rfl (Rs rfl) (AJ G__law_made (hr.mono (by decide)) rfl (AA (Aw 0) (AA (AH (dv 1)) (AA (AH (Ao (AB (dv 7) (AB (dv 2) AK)))) (AA (AH (Ao AK)) (AA (AH (dv 8)) AM)))))))
 (AF (Ae (i:=9) sc__law_held_by_kept.nd rfl (Rs rfl) (Al (AB AS (AB (dv 2) (AB (dv 5) (AB (Al (AB AS (AB (dv 2) (AB (AJ G__law_held (hr.mono (by decide)) rfl (AA (AH (dv 3)) (AA (AH (Ao (AB (dv 7) AK))) (AA (AH (dv 2)) AM)))) AK)))) AK))))))
 (AL (Ke 6 PySem.F.plainAttrs_list PySem.F.slot_list_append PySem.F.type_list_append EO Qg (pv 6) (AB (Al (AB AS (AB (dv 7) (AB (dv 9) (AB (AJ G__law_made (hr.mono (by decide)) rfl (AA (Aw 0) (AA (AH (dv 1)) (AA (AH (Ao AK)) (AA (AH (Ao (AB (dv 7) AK))) (AA (AH (AY Aa An (Ao (AB (dv 2) AK)) (dv 8))) AM)))))) AK))))) AK)))))))
 (AL (Vr 6 (pv 6))))))))) (λss n Pd hl hw=>Sr hw)
theorem sc__law_deep_right:Ar ["_law_feed_here","_law_many","_law_net_here","_law_prices_here","_law_case_here","_law_tie","_law_found"] ["_law_feed_here"] (AV CK):=by constructor <;> first | rfl | decide +kernel
theorem G6{f:Addr}{fd:FuncData}(T:Txt K mg)(G__law_next:BB P w K mg base)(G__law_star:GF P w K mg base)(G__law_times:DH P w K mg base)(G_shows:Jc P w K mg base)(F:Fun K "_law_deep_right" "_law_deep_right" CK f fd):BG P w K mg base CW 23 f fd ["_law_feed_here"] (C7 K .sh GH 1):=by
 exact Dr F sc__law_deep_right (by decide) (λcdv A outer s H E hr=>(AF (Ae (i:=1) sc__law_deep_right.nd rfl (Rs rfl) (AY Aa An AC (AJ G__law_next (hr.mono (by decide)) rfl (AA (Aw 0) (AA (AH AC) AM)))))
 (AF (Xo (AJ G__law_star (hr.mono (by decide)) rfl (AA (Aw 0) (AA (AH (dv 1)) AM))) (Mp rfl (Bx (Av (i:=2) sc__law_deep_right.nd rfl (Rs rfl)) (Bx (Av (i:=3) sc__law_deep_right.nd rfl (Rs rfl)) JU))))
 (AF (Ae (i:=4) sc__law_deep_right.nd rfl (Rs rfl) (Al (AB AS (AB (AX AQ Aq (AX AQ Aq (dv 2) AC) AC) (AB (AX AQ Aq (dv 3) AC) AK)))))
 (AF (Ce bK rfl (Fy (PU (AX AQ Aq (dv 2) AC) (Ez AC))) (Av (i:=5) sc__law_deep_right.nd rfl (Rs rfl)) (AL (Ae (i:=4) sc__law_deep_right.nd rfl (Rs rfl) (Al (AB AS (AB (dv 5) (AB (Al (AB AS AK)) (AB (dv 4) AK))))))))
 (AF (Ae (i:=6) sc__law_deep_right.nd rfl (Rs rfl) (AJ G_shows (hr.mono (by decide)) rfl (AA (AH (dv 2)) (AA (AH (AJ G__law_times (hr.mono (by decide)) rfl (AA (Aw 0) AM))) (AA (AH AC) (AA (AH (dv 4)) AM))))))
 (AL (AT (Cz (Ba Cm (dv 6) rfl T.n_isinstance rfl T.n_bool (by decide +kernel)) (Cy (BY CO E4 (dv 6) (BY (J9 hr) OW (dv 1) AC (AZ _)) (AZ _)))))))))))) (λss n Pd hl hw=>Q7 hw)
theorem sc__law_sized:Ar ["_law_ties_here","_law_many","_law_first"] ["_law_ties_here","_law_many"] (AV El):=by constructor <;> first | rfl | decide +kernel
theorem Ga{f:Addr}{fd:FuncData}(T:Txt K mg)(F:Fun K "_law_sized" "_law_sized" El f fd)(m:mg "_law_sized"=some (.ref f))(b:Binds K fd ["_law_ties_here","_law_many"] []):∀j,BG P w K mg base CW (3+j) f fd ["_law_ties_here","_law_many"] (C7 K .sh (Ec j) 2)
 | 0=>by
  have G__law_sized:Got P w K mg base "_law_sized" 2 ["_law_ties_here","_law_many"] .sh (λ_ _ _=>False):=Cd F m b (λ_ _ _ h=>h.elim) (F.ok (k:=1) sc__law_sized (λvs H Q E h=>h.1) (λcdv A outer s H vs Q E hr h=>by obtain⟨_,_,_,_,_,_,_,_,_,hw,_⟩:=h; exact hw.elim))
  exact Dr (k:=2) F sc__law_sized (by decide) (λcdv A outer s H E hr=>(AF (Ax (Ai CO E4 (dv 1) AC (AZ _)) (AL (AT (Al (AB AS AK)))) Ab)
 (AF (Ae (i:=2) sc__law_sized.nd rfl (Rs rfl) (Ah (GS rfl) M6 rfl T.n_min boot_min (AO (AY A8 BL (dv 1) AC) (AO (AY A8 BL (AY TK CG AC (Ah Au BS rfl T.n_len PySem.boot_len (AO (dv 0) AU))) AC) AU))))
 (AL (AT (Al (AB AS (AB (AX AQ Aq (dv 0) AC) (AB (AJ G__law_sized (hr.mono (No _)) rfl (AA (AH (Bp Ck Bq (dv 0) (A9 AC) A_)) (AA (AH (dv 2)) AM))) (AB (AJ G__law_sized (hr.mono (No _)) rfl (AA (AH (Bp Ck Bq (dv 0) (A9 AC) A_)) (AA (AH (AY A8 BL (AY A8 BL (dv 1) AC) (dv 2))) AM))) AK)))))))))) (λss n Pd hl hw=>Jv (λ_ _ _ h _=>absurd rfl h) hw)
 | j+1=>by
  have G__law_sized:Got P w K mg base "_law_sized" (3+j) ["_law_ties_here","_law_many"] .sh (Ec j):=Cd F m b (λ_ _ _ h=>by obtain⟨_,_,e,_⟩:=h; rw [e]; rfl) (Ga T  F m b j)
  exact Dr (k:=3+j) F sc__law_sized (by decide) (λcdv A outer s H E hr=>(AF (Ax (Ai CO E4 (dv 1) AC (AZ _)) (AL (AT (Al (AB AS AK)))) Ab)
 (AF (Ae (i:=2) sc__law_sized.nd rfl (Rs rfl) (Ah (GS rfl) M6 rfl T.n_min boot_min (AO (AY A8 BL (dv 1) AC) (AO (AY A8 BL (AY TK CG AC (Ah Au BS rfl T.n_len PySem.boot_len (AO (dv 0) AU))) AC) AU))))
 (AL (AT (Al (AB AS (AB (AX AQ Aq (dv 0) AC) (AB (AJ G__law_sized (hr.mono (No _)) rfl (AA (AH (Bp Ck Bq (dv 0) (A9 AC) A_)) (AA (AH (dv 2)) AM))) (AB (AJ G__law_sized (hr.mono (No _)) rfl (AA (AH (Bp Ck Bq (dv 0) (A9 AC) A_)) (AA (AH (AY A8 BL (AY A8 BL (dv 1) AC) (dv 2))) AM))) AK)))))))))) (λss n Pd hl hw=>Jv (j:=j+1) (λ_ _ _ _ h=>h) hw)
theorem sc__law_wide_right:Ar ["_law_feed_here","_law_many","_law_net_here","_law_found"] ["_law_feed_here"] (AV CJ):=by constructor <;> first | rfl | decide +kernel
theorem G5{f:Addr}{fd:FuncData}(T:Txt K mg)(G__law_next:BB P w K mg base)(G__law_sized:Hv P w K mg base)(G__law_star:GF P w K mg base)(G__law_times:DH P w K mg base)(G_shows:Jc P w K mg base)(F:Fun K "_law_wide_right" "_law_wide_right" CJ f fd):BG P w K mg base CW 23 f fd ["_law_feed_here"] (C7 K .sh GH 1):=by
 exact Dr F sc__law_wide_right (by decide) (λcdv A outer s H E hr=>(AF (Ae (i:=1) sc__law_wide_right.nd rfl (Rs rfl) (AX AQ Aq (Ao (AB AC (AB AC (AB AC (AB AC (AB AC AK)))))) (AJ G__law_next (hr.mono (by decide)) rfl (AA (Aw 0) (AA (AH AC) AM)))))
 (AF (Ae (i:=2) sc__law_wide_right.nd rfl (Rs rfl) (AX AQ Aq (AJ G__law_star (hr.mono (by decide)) rfl (AA (Aw 0) (AA (AH AC) AM))) AC))
 (AF (Ae (i:=3) sc__law_wide_right.nd rfl (Rs rfl) (AJ G_shows (hr.mono (by decide)) rfl (AA (AH (dv 2)) (AA (AH (AJ G__law_times (hr.mono (by decide)) rfl (AA (Aw 0) AM))) (AA (AH AC) (AA (AH (AJ G__law_sized (hr.mono (by decide)) rfl (AA (AH (AX AQ Aq (dv 2) AC)) (AA (AH (dv 1)) AM)))) AM))))))
 (AL (AT (Cz (Ba Cm (dv 3) rfl T.n_isinstance rfl T.n_bool (by decide +kernel)) (Cy (BY CO E4 (dv 3) (BY (J9 hr) OW (dv 1) AC (AZ _)) (AZ _)))))))))) (λss n Pd hl hw=>Qz hw)
end
section
variable {P:Program}{w:World}{K:Frag}{mg:Str->Option Value}{base:Heap}
theorem MB:Ar ["_law_script"] ["_law_script"] (AV Fg):=by constructor <;> first | rfl | decide +kernel
theorem MY{f:Addr}{fd:FuncData}(T:Txt K mg)(F:Fun K "_law_feed" "_law_feed" Fg f fd):BG P w K mg base CW 1 f fd ["_law_script"] (L4 K):=by
 refine F.ok MB (λvs H Q E h=>?_) (λcdv A outer s H vs Q E hr h=>?_)
 ·obtain⟨a,ns,rfl,_⟩:=h
  rfl
 ·obtain⟨a,ns,rfl,⟨hl,hS⟩,q⟩:=h
  refine⟨_,Bz (G0 (IK (A3 (LR CT rfl T.n_list gX (A3 (Ng sl_list (pv 0) P9 (P8 A6)) BV)) (A3 A6 (A3 A6 BV))))),?_⟩
  refine⟨_,rfl,63,rfl,a,_,rfl,hS,λp hp=>⟨p,_,rfl,.inl (SqL.of Ak),λc hc=>⟨by show 3<=sizeLine; decide,λg hg=>?_⟩⟩⟩
  rw [ZC hl] at hg ⊢
  have ncg:c≠g:=λz=>by rw [← z,Ak] at hg; cases hg
  exact q c g _ ncg (by rw [Ac ncg,Ak]) Ak
theorem sc_law:Ar ["_law_script","_law_feed_here","_law_turn","_law_net_here","_law_times_here","_law_many","_law_case_here","_law_some","_law_world","_law_tie","_law_k","_law_thing","_law_kept","_law_found"] ["_law_script"] (AV Jt):=by constructor <;> first | rfl | decide +kernel
theorem XO{f ff:Addr}{fd fdf:FuncData}(T:Txt K mg)(Gf:BG P w K mg base CW 1 ff fdf ["_law_script"] (L4 K))(mf:mg "_law_feed"=some (.ref ff))(kf:keepIn K (.ref ff)=true)(bf:Binds K fdf ["_law_script"] [])
  (G__law_bent:I0 P w K mg base) (G__law_case:Iz P w K mg base) (G__law_deep_right:D4 P w K mg base) (G__law_held_by_kept:C5 P w K mg base) (G__law_least:Hy P w K mg base) (G__law_net:Kq P w K mg base) (G__law_next:BB P w K mg base) (G__law_read_case:Ea P w K mg base) (G__law_split_twice:Di P w K mg base) (G__law_times:DH P w K mg base) (G__law_wide_right:D0 P w K mg base) (G_shows:Jc P w K mg base) (F:Fun K "law" "law" Jt f fd):BG P w K mg base CW 24 f fd ["_law_script"] (NS K):=by
 exact Y1 (n0:=60000) F sc_law rfl (by decide) (λcdv A outer s H E hr=>Er (i:=1) sc_law.nd rfl (Rs rfl) (MN Gf (hr.mono (by decide)) rfl mf kf bf .nil QD (A3 (pv 0) BV)))
  (λcdv A outer s H E hr=>(AF (Ax (DTW.dt (Bi (BK (Az (AJ G__law_deep_right (hr.mono (by decide)) rfl (AA (Aw 1) AM)))) (Bb (DTW.dt (Fw (Ai CO E4 (AJ G__law_next (hr.mono (by decide)) rfl (AA (Aw 1) (AA (AH AC) AM))) AC (AZ _)) (GQ (BK (Az (AJ G__law_wide_right (hr.mono (by decide)) rfl (AA (Aw 1) AM)))))))))) (AL (AT BR)) Ab)
 (AF (Ce bK rfl (DM rfl T.n_range (AO AC AU)) (Av (i:=2) sc_law.nd rfl (Rs rfl)) (AF (Ae (i:=3) sc_law.nd rfl (Rs rfl) (AJ G__law_net (hr.mono (by decide)) rfl (AA (Aw 1) (AA (AH AC) (AA (AH AC) AM)))))
 (AF (Ae (i:=4) sc_law.nd rfl (Rs rfl) (AJ G__law_times (hr.mono (by decide)) rfl (AA (Aw 1) AM)))
 (AF (Ae (i:=5) sc_law.nd rfl (Rs rfl) (AJ G__law_least (hr.mono (by decide)) rfl (AA (AH (dv 3)) (AA (AH (dv 4)) AM))))
 (AF (Ae (i:=5) sc_law.nd rfl (Rs rfl) (Ah (Lk rfl) UZ rfl T.n_max boot_max (AO AC (AO (AY A8 BL (dv 5) (AJ G__law_next (hr.mono (by decide)) rfl (AA (Aw 1) (AA (AH AC) AM)))) AU))))
 (AF (Ae (i:=6) sc_law.nd rfl (Rs rfl) (AJ G__law_case (hr.mono (by decide)) rfl (AA (Aw 1) (AA (AH (dv 3)) (AA (AH (dv 4)) (AA (AH (dv 5)) AM))))))
 (AF (GR (i:=7) sc_law.nd rfl (Rs rfl) (Ao (AB Bm (AB BR (AB AC (AB AS (AB AS (AB (Al AK) (AB (Ao AK) (AB (Al (AB AS (AB AC AK))) (AB (Ao (AB AS AK)) (AB (Al (AB AS AK)) (AB (Al (AB Bm AK)) (AB (Al (AB (dv 6) AK)) (AB (dv 6) AK)))))))))))))))
 (AF (GR (i:=7) sc_law.nd rfl (Rs rfl) (AY QF Lr (Y9 7) (Ao (AB (Al (AB (Ao AK) AK)) (AB (Al (AB (Ao (AB AS AK)) AK)) (AB (Al (AB (Ao AK) (AB (dv 3) (AB AC AK)))) (AB (Al (AB (Al (AB AS AK)) AK)) (AB (Al (AB (Ao (AB AS AK)) (AB AC (AB (dv 6) (AB (dv 6) AK))))) AK))))))))
 (AF (Ae (i:=8) sc_law.nd rfl (Rs rfl) (OJ (pv 3) (pv 4) (pv 5) TU))
 (AF (Ce bK rfl (Fy (Bp Ck Bq (AX AQ Aq (dv 3) AC) A_ (A9 AC))) (Av (i:=9) sc_law.nd rfl (Rs rfl)) (AF (Ke 7 PySem.F.plainAttrs_list PySem.F.slot_list_extend PySem.F.type_list_extend IM Ud (pv 7) (AB (AJ G__law_split_twice (hr.mono (by decide)) rfl (AA (Aw 1) (AA (AH (dv 8)) (AA (AH (dv 9)) (AA (AH (dv 6)) AM))))) AK))
 (AL (Ke 7 PySem.F.plainAttrs_list PySem.F.slot_list_extend PySem.F.type_list_extend IM Ud (pv 7) (AB (AJ G__law_held_by_kept (hr.mono (by decide)) rfl (AA (Aw 1) (AA (AH (dv 8)) (AA (AH (dv 9)) AM)))) AK)))))
 (AF (Ce bK rfl (DM rfl T.n_range (AO AC AU)) (Av (i:=10) sc_law.nd rfl (Rs rfl)) (AF (Ke 7 PySem.F.plainAttrs_list PySem.F.slot_list_append PySem.F.type_list_append EO Qg (pv 7) (AB (AJ G__law_bent (hr.mono (by decide)) rfl (AA (Aw 1) (AA (AH (dv 6)) AM))) AK))
 (AL (Ax (Ai CO E4 (AJ G__law_next (hr.mono (by decide)) rfl (AA (Aw 1) (AA (AH AC) AM))) AC (AZ _)) (AL (Ke 7 PySem.F.plainAttrs_list PySem.F.slot_list_append PySem.F.type_list_append EO Qg (pv 7) (AB (AJ G__law_bent (hr.mono (by decide)) rfl (AA (Aw 1) (AA (AH (AX AQ Aq (Y9 7) (Ez AC))) AM))) AK))) Ab))))
 (AL (Vs bK rfl (pv 7) (Av (i:=11) sc_law.nd rfl (Rs rfl)) (AF (Ae (i:=12) sc_law.nd rfl (Rs rfl) (Ah (Lj hr) UY rfl T.n_repr boot_repr (AO (dv 11) AU)))
 (AF (Ae (i:=13) sc_law.nd rfl (Rs rfl) (AJ G_shows (hr.mono (by decide)) rfl (AA (AH (dv 3)) (AA (AH (dv 4)) (AA (AH (dv 5)) (AA (AH (dv 11)) AM))))))
 (AF (Ax (DTW.dt (Bi (BK (Az (Ba Cm (dv 13) rfl T.n_isinstance rfl T.n_bool (by decide +kernel)))) (Bb (Ai LS Rt (dv 13) (AJ G__law_read_case (hr.mono (by decide)) rfl (AA (AH (dv 3)) (AA (AH (dv 4)) (AA (AH (dv 5)) (AA (AH (dv 11)) AM))))) (AZ _))))) (AL (AT BR)) Ab)
 (AL (Ax (Ai LS Rt (Ah (Lj hr) UY rfl T.n_repr boot_repr (AO (dv 11) AU)) (dv 12) (AZ _)) (AL (AT BR)) Ab))))))))))))))))))
 (AL (AT BR))))) O2
end
theorem Do{β:Type}{n:Nat}(g k:List Value->β)(us:List Value)(h:us.length=n+1)(c:∀(a:Value) (r:List Value),r.length=n->g (a::r)=k (a::r)):g us=k us:=by
 cases us with
 | nil=>cases h
 | cons a r=>exact c a r (Nat.succ.inj h)
theorem len0{β:Type}(g k:List Value->β)(us:List Value)(h:us.length=0)(c:g []=k []):g us=k us:=by
 cases us with
 | nil=>exact c
 | cons a r=>cases h
theorem aW{d:FuncData}{ps:List Str}(c:bindArgs d ⟨[],[]⟩=pure (ps.zip []))(us:List Value)(h:us.length=0):bindArgs d ⟨us,[]⟩=pure (ps.zip us):=len0 (λr=>bindArgs d ⟨r,[]⟩) (λr=>pure (ps.zip (r))) us h c
theorem YG{d:FuncData}{ps:List Str}(c:∀a0:Value,bindArgs d ⟨[a0],[]⟩=pure (ps.zip [a0]))(us:List Value)(h:us.length=1):bindArgs d ⟨us,[]⟩=pure (ps.zip us):=Do (λr=>bindArgs d ⟨r,[]⟩) (λr=>pure (ps.zip (r))) us h λa0 r h=>len0 (λr=>bindArgs d ⟨a0::r,[]⟩) (λr=>pure (ps.zip (a0::r))) r h (c a0)
theorem Oa{d:FuncData}{ps:List Str}(c:∀a0 a1:Value,bindArgs d ⟨[a0,a1],[]⟩=pure (ps.zip [a0,a1]))(us:List Value)(h:us.length=2):bindArgs d ⟨us,[]⟩=pure (ps.zip us):=Do (λr=>bindArgs d ⟨r,[]⟩) (λr=>pure (ps.zip (r))) us h λa0 r h=>Do (λr=>bindArgs d ⟨a0::r,[]⟩) (λr=>pure (ps.zip (a0::r))) r h λa1 r h=>len0 (λr=>bindArgs d ⟨a0::a1::r,[]⟩) (λr=>pure (ps.zip (a0::a1::r))) r h (c a0 a1)
theorem Xz{d:FuncData}{ps:List Str}(c:∀a0 a1 a2:Value,bindArgs d ⟨[a0,a1,a2],[]⟩=pure (ps.zip [a0,a1,a2]))(us:List Value)(h:us.length=3):bindArgs d ⟨us,[]⟩=pure (ps.zip us):=Do (λr=>bindArgs d ⟨r,[]⟩) (λr=>pure (ps.zip (r))) us h λa0 r h=>Do (λr=>bindArgs d ⟨a0::r,[]⟩) (λr=>pure (ps.zip (a0::r))) r h λa1 r h=>Do (λr=>bindArgs d ⟨a0::a1::r,[]⟩) (λr=>pure (ps.zip (a0::a1::r))) r h λa2 r h=>len0 (λr=>bindArgs d ⟨a0::a1::a2::r,[]⟩) (λr=>pure (ps.zip (a0::a1::a2::r))) r h (c a0 a1 a2)
theorem V1{d:FuncData}{ps:List Str}(c:∀a0 a1 a2 a3:Value,bindArgs d ⟨[a0,a1,a2,a3],[]⟩=pure (ps.zip [a0,a1,a2,a3]))(us:List Value)(h:us.length=4):bindArgs d ⟨us,[]⟩=pure (ps.zip us):=Do (λr=>bindArgs d ⟨r,[]⟩) (λr=>pure (ps.zip (r))) us h λa0 r h=>Do (λr=>bindArgs d ⟨a0::r,[]⟩) (λr=>pure (ps.zip (a0::r))) r h λa1 r h=>Do (λr=>bindArgs d ⟨a0::a1::r,[]⟩) (λr=>pure (ps.zip (a0::a1::r))) r h λa2 r h=>Do (λr=>bindArgs d ⟨a0::a1::a2::r,[]⟩) (λr=>pure (ps.zip (a0::a1::a2::r))) r h λa3 r h=>len0 (λr=>bindArgs d ⟨a0::a1::a2::a3::r,[]⟩) (λr=>pure (ps.zip (a0::a1::a2::a3::r))) r h (c a0 a1 a2 a3)
theorem aH{d:FuncData}{ps:List Str}(c:∀a0 a1 a2 a3 a4:Value,bindArgs d ⟨[a0,a1,a2,a3,a4],[]⟩=pure (ps.zip [a0,a1,a2,a3,a4]))(us:List Value)(h:us.length=5):bindArgs d ⟨us,[]⟩=pure (ps.zip us):=Do (λr=>bindArgs d ⟨r,[]⟩) (λr=>pure (ps.zip (r))) us h λa0 r h=>Do (λr=>bindArgs d ⟨a0::r,[]⟩) (λr=>pure (ps.zip (a0::r))) r h λa1 r h=>Do (λr=>bindArgs d ⟨a0::a1::r,[]⟩) (λr=>pure (ps.zip (a0::a1::r))) r h λa2 r h=>Do (λr=>bindArgs d ⟨a0::a1::a2::r,[]⟩) (λr=>pure (ps.zip (a0::a1::a2::r))) r h λa3 r h=>Do (λr=>bindArgs d ⟨a0::a1::a2::a3::r,[]⟩) (λr=>pure (ps.zip (a0::a1::a2::a3::r))) r h λa4 r h=>len0 (λr=>bindArgs d ⟨a0::a1::a2::a3::a4::r,[]⟩) (λr=>pure (ps.zip (a0::a1::a2::a3::a4::r))) r h (c a0 a1 a2 a3 a4)
theorem aV{d:FuncData}{ps:List Str}(c:∀a0 a1 a2 a3 a4 a5 a6:Value,bindArgs d ⟨[a0,a1,a2,a3,a4,a5,a6],[]⟩=pure (ps.zip [a0,a1,a2,a3,a4,a5,a6]))(us:List Value)(h:us.length=7):bindArgs d ⟨us,[]⟩=pure (ps.zip us):=Do (λr=>bindArgs d ⟨r,[]⟩) (λr=>pure (ps.zip (r))) us h λa0 r h=>Do (λr=>bindArgs d ⟨a0::r,[]⟩) (λr=>pure (ps.zip (a0::r))) r h λa1 r h=>Do (λr=>bindArgs d ⟨a0::a1::r,[]⟩) (λr=>pure (ps.zip (a0::a1::r))) r h λa2 r h=>Do (λr=>bindArgs d ⟨a0::a1::a2::r,[]⟩) (λr=>pure (ps.zip (a0::a1::a2::r))) r h λa3 r h=>Do (λr=>bindArgs d ⟨a0::a1::a2::a3::r,[]⟩) (λr=>pure (ps.zip (a0::a1::a2::a3::r))) r h λa4 r h=>Do (λr=>bindArgs d ⟨a0::a1::a2::a3::a4::r,[]⟩) (λr=>pure (ps.zip (a0::a1::a2::a3::a4::r))) r h λa5 r h=>Do (λr=>bindArgs d ⟨a0::a1::a2::a3::a4::a5::r,[]⟩) (λr=>pure (ps.zip (a0::a1::a2::a3::a4::a5::r))) r h λa6 r h=>len0 (λr=>bindArgs d ⟨a0::a1::a2::a3::a4::a5::a6::r,[]⟩) (λr=>pure (ps.zip (a0::a1::a2::a3::a4::a5::a6::r))) r h (c a0 a1 a2 a3 a4 a5 a6)
noncomputable def Ht(K:Frag)(x:Str)(st:Stmt):Prop:=∃(f:Addr) (oc:Value) (od an:Option Addr) (sl:Array (Option Value)) (kV dc pm cd ct:Value),nsIn K mainGlobals x=some (some (.ref f))/\K.lookup f=some ⟨oc,od,.func (fnOf x x (Du st) (CQ st) (AV st) .none kV dc pm an cd ct),sl⟩/\codeIn K cd x=true/\keepIn K (.ref f)=true
noncomputable def Hn(K:Frag)(x:Str):Prop:=nsIn K mainGlobals x=some none
noncomputable def Hi(K:Frag)(x:Str)(i:Int):Prop:=∃t,nsIn K mainGlobals x=some (some (.int i t))
theorem Ht.mk{K:Frag}{x:Str}{st:Stmt}{f:Addr}{oc:Value}{od an:Option Addr}{sl:Array (Option Value)}{kV dc pm cd ct:Value}(a:nsIn K mainGlobals x=some (some (.ref f)))(l:K.lookup f=some ⟨oc,od,.func (fnOf x x (Du st) (CQ st) (AV st) .none kV dc pm an cd ct),sl⟩)(c:codeIn K cd x=true)(k:keepIn K (.ref f)=true):Ht K x st:=⟨f,oc,od,an,sl,kV,dc,pm,cd,ct,a,l,c,k⟩
theorem Hi.mk{K:Frag}{x:Str}{i:Int}{t:Tok}(a:nsIn K mainGlobals x=some (some (.int i t))):Hi K x i:=⟨t,a⟩
theorem Hn.mk{K:Frag}{x:Str}(a:nsIn K mainGlobals x=some none):Hn K x:=a
section
variable {P:Program}{w:World}{K:Frag}{mg:Str->Option Value}{h base:Heap}{x:Str}{st:Stmt}
theorem Ht.fn(X:K.In h)(G:h.Ns mainGlobals mg)(H:Ht K x st):∃f fd,mg x=some (.ref f)/\Fun K x x st f fd:=by
 obtain⟨f,oc,od,an,sl,kV,dc,pm,cd,ct,a,l,c,k⟩:=H
 exact⟨f,_,mg_of X G a,To (st:=st) l c k⟩
theorem Ht.got{k:Nat}{ps:List Str}{κ:Kd}{W:W2}(X:K.In h)(G:h.Ns mainGlobals mg)(H:Ht K x st)(hW:∀ss n P,W ss n P->ss.length=ps.length)
  (hb:∀(kV doc pm:Value) (an:Option Addr) (cdv ct:Value) (us:List Value),us.length=ps.length->bindArgs (fnOf x x (Du st) (CQ st) (AV st) .none kV doc pm an cdv ct) ⟨us,[]⟩=pure (ps.zip us))
  (ok:∀{f:Addr} {fd:FuncData},Fun K x x st f fd->mg x=some (.ref f)->Binds K fd ps []->BG P w K mg base CW k f fd ps (C7 K κ W ps.length)):Got P w K mg base x k ps κ W:=by
 obtain⟨f,fd,m,F⟩:=H.fn X G
 have b:=F.binds hb
 exact Cd F m b hW (ok F m b)
end
theorem all_mk{l:PySem.W.OpenLaw}{w:World}{K:Frag}{h:Heap}{mg:Str->Option Value}{fa:Addr}(X:K.In h)(G:h.Ns mainGlobals mg)(hfa:mg "law"=some (.ref fa))
  (h0:Ht K "is_whole" Gv) (h1:Ht K "is_tuple_of" D7) (h2:Ht K "only" Ow) (h3:Ht K "is_tie_of" FZ) (h4:Ht K "without" II) (h5:Ht K "are_prices" Ej) (h6:Ht K "price_gap" FX) (h7:Ht K "is_fair" IJ) (h8:Ht K "is_within" FY) (h9:Ht K "prices_fault" DQ) (h10:Ht K "shows_far" FW) (h11:Ht K "shows_by" Gu) (h12:Ht K "count_of" Gw) (h13:Ht K "shows" MD) (h14:Ht K "_law_feed" Fg) (h15:Ht K "_law_next" Ds) (h16:Ht K "_law_names" En) (h17:Ht K "_law_places" D9) (h18:Ht K "_law_length" D_) (h19:Ht K "_law_ties" Fa) (h20:Ht K "_law_net" Gx) (h21:Ht K "_law_times" Ek) (h22:Ht K "_law_far" Gy) (h23:Ht K "_law_keeps" Ep) (h24:Ht K "_law_choices" DR) (h25:Ht K "_law_least" Eo) (h26:Ht K "_law_is_tie" EA) (h27:Ht K "_law_is_far" EB) (h28:Ht K "_law_shows" Em) (h29:Ht K "_law_read_case" CZ) (h30:Ht K "_law_prices" D8) (h31:Ht K "_law_far_case" Cq) (h32:Ht K "_law_made" Fc) (h33:Ht K "_law_case" Fh) (h34:Ht K "_law_bent" Fi) (h35:Ht K "_law_star" Fb) (h36:Ht K "_law_held" Fe) (h37:Ht K "_law_split_twice" CC) (h38:Ht K "_law_held_by_kept" B4) (h39:Ht K "_law_deep_right" CK) (h40:Ht K "_law_sized" El) (h41:Ht K "_law_wide_right" CJ) (h42:Ht K "law" Jt)
  (z0:Hn K "abs") (z1:Hn K "all") (z2:Hn K "bool") (z3:Hn K "dict") (z4:Hn K "int") (z5:Hn K "isinstance") (z6:Hn K "len") (z7:Hn K "list") (z8:Hn K "max") (z9:Hn K "min") (z10:Hn K "range") (z11:Hn K "repr") (z12:Hn K "sorted") (z13:Hn K "str") (z14:Hn K "tuple") (z15:Hn K "zip") (v0:Hi K "MOST_DEEP" 15) (v1:Hi K "MOST_CASES" 4000)
  : ∃fd:FuncData,(∀(s:Shared) (v:Value),BindsTo s fd ⟨[v],[]⟩ [("_law_script",v)])/\∀base:Heap,K.In base->base.Ns mainGlobals mg->BG l.prog w K mg base CW 24 fa fd ["_law_script"] (NS K):=by
 have T:Txt K mg:=⟨mg_none_of X G z0,mg_none_of X G z1,mg_none_of X G z2,mg_none_of X G z3,mg_none_of X G z4,mg_none_of X G z5,mg_none_of X G z6,mg_none_of X G z7,mg_none_of X G z8,mg_none_of X G z9,mg_none_of X G z10,mg_none_of X G z11,mg_none_of X G z12,mg_none_of X G z13,mg_none_of X G z14,mg_none_of X G z15,(let ⟨t,e⟩:=v0; ⟨t,mg_of X G e⟩),(let ⟨t,e⟩:=v1; ⟨t,mg_of X G e⟩)⟩
 obtain⟨ff,ffd,mf,Ff⟩:=h14.fn X G
 have bf:=Ff.binds (ps:=["_law_script"]) λ_ _ _ _ _ _=>YG λ_=>rfl
 obtain⟨f,oc,od,an,sl,kV,dc,pm,cd,ct,a,l',c,k⟩:=h42
 have e:=hfa.symm.trans (mg_of X G a)
 cases e
 refine⟨fnOf "law" "law" (Du Jt) (CQ Jt) (AV Jt) .none kV dc pm an cd ct,λs v=>.of_eq rfl,λbase _ _=>?_⟩
 have G_is_whole:G_ l.prog w K mg base:=h0.got X G (λ_ _ _ h=>RC h) (λ_ _ _ _ _ _=>YG λ_=>rfl) λF m b=>Nl T  F
 have G_is_tuple_of:Ci l.prog w K mg base:=h1.got X G (λ_ _ _ h=>by obtain⟨_,_,e,_⟩:=h; rw [e]; rfl) (λ_ _ _ _ _ _=>Oa λ_ _=>rfl) λF m b=>J_ T  F
 have G_only:Uh l.prog w K mg base:=h2.got X G (λ_ _ _ h=>by obtain⟨_,_,_,e,_⟩:=h; rw [e]; rfl) (λ_ _ _ _ _ _=>Oa λ_ _=>rfl) λF m b=>VQ T  F
 have G_is_tie_of:GD l.prog w K mg base:=h3.got X G (λ_ _ _ h=>by obtain⟨_,_,e,_⟩:=h; rw [e]; rfl) (λ_ _ _ _ _ _=>Oa λ_ _=>rfl) λF m b=>MU T G_is_whole F
 have G_without:Ls l.prog w K mg base:=h4.got X G (λ_ _ _ h=>by obtain⟨_,_,e,_⟩:=h; rw [e]; rfl) (λ_ _ _ _ _ _=>Oa λ_ _=>rfl) λF m b=>PC T G_only F
 have G_are_prices:Hu l.prog w K mg base:=h5.got X G (λ_ _ _ h=>by obtain⟨_,_,e,_⟩:=h; rw [e]; rfl) (λ_ _ _ _ _ _=>Oa λ_ _=>rfl) λF m b=>K3 T G_is_tuple_of G_is_whole F
 have G_price_gap:GC l.prog w K mg base:=h6.got X G (λ_ _ _ h=>by obtain⟨_,_,_,_,e,_⟩:=h; rw [e]; rfl) (λ_ _ _ _ _ _=>V1 λ_ _ _ _=>rfl) λF m b=>MR T  F
 have G_is_fair:Lu l.prog w K mg base:=h7.got X G (λ_ _ _ h=>by obtain⟨_,_,e,_⟩:=h; rw [e]; rfl) (λ_ _ _ _ _ _=>Oa λ_ _=>rfl) λF m b=>PD T G_are_prices G_price_gap F
 have G_is_within:Iv l.prog w K mg base:=h8.got X G (λ_ _ _ h=>by obtain⟨_,_,_,_,e,_⟩:=h; rw [e]; rfl) (λ_ _ _ _ _ _=>Xz λ_ _ _=>rfl) λF m b=>MT T  F
 have G_prices_fault:GB l.prog w K mg base:=h9.got X G (λ_ _ _ h=>by obtain⟨_,_,_,_,_,e,_⟩:=h; rw [e]; rfl) (λ_ _ _ _ _ _=>V1 λ_ _ _ _=>rfl) λF m b=>JF T G_is_fair G_is_within G_price_gap F
 have G_shows_far:Iu l.prog w K mg base:=h10.got X G (λ_ _ _ h=>by obtain⟨_,_,_,_,_,_,_,e,_⟩:=h; rw [e]; rfl) (λ_ _ _ _ _ _=>V1 λ_ _ _ _=>rfl) λF m b=>MQ T G_is_tie_of G_prices_fault G_without F
 have G_shows_by:Ko l.prog w K mg base:=h11.got X G (λ_ _ _ h=>by obtain⟨_,_,_,_,_,_,_,_,e,_⟩:=h; rw [e]; rfl) (λ_ _ _ _ _ _=>aV λ_ _ _ _ _ _ _=>rfl) λF m b=>Ie T G_is_tie_of G_is_tuple_of G_shows_far F m b 15
 have G_count_of:Kp l.prog w K mg base:=h12.got X G (λ_ _ _ h=>by obtain⟨_,e,_⟩:=h; rw [e]; rfl) (λ_ _ _ _ _ _=>YG λ_=>rfl) λF m b=>Ig T G_is_tuple_of F m b 14
 have G_shows:Jc l.prog w K mg base:=h13.got X G (λ_ _ _ h=>by obtain⟨_,_,_,_,_,e,_⟩:=h; rw [e]; rfl) (λ_ _ _ _ _ _=>V1 λ_ _ _ _=>rfl) λF m b=>TQ T G_count_of G_shows_by F
 have Gf:=MY (P:=l.prog) (w:=w) (base:=base) T Ff
 have G__law_next:BB l.prog w K mg base:=h15.got X G (λ_ _ _ h=>by obtain⟨_,e,_⟩:=h; rw [e]; rfl) (λ_ _ _ _ _ _=>Oa λ_ _=>rfl) λF m b=>VS F T.n_len
 have G__law_names:Hx l.prog w K mg base:=h16.got X G (λ_ _ _ h=>by obtain⟨e,_⟩:=h; rw [e]; rfl) (λ_ _ _ _ _ _=>aW rfl) λF m b=>K5 T  F
 have G__law_places:EJ l.prog w K mg base:=h17.got X G (λ_ _ _ h=>by obtain⟨_,e,_⟩:=h; rw [e]; rfl) (λ_ _ _ _ _ _=>Oa λ_ _=>rfl) λF m b=>KC T G__law_names G__law_next F
 have G__law_length:Gp l.prog w K mg base:=h18.got X G (λ_ _ _ h=>by obtain⟨_,e,_⟩:=h; rw [e]; rfl) (λ_ _ _ _ _ _=>Oa λ_ _=>rfl) λF m b=>KD T G__law_next F
 have G__law_ties:Iw l.prog w K mg base:=h19.got X G (λ_ _ _ h=>by obtain⟨_,_,e,_⟩:=h; rw [e]; rfl) (λ_ _ _ _ _ _=>Xz λ_ _ _=>rfl) λF m b=>MV T G__law_length G__law_next F
 have G__law_net:Kq l.prog w K mg base:=h20.got X G (λ_ _ _ h=>by obtain⟨_,_,e,_⟩:=h; rw [e]; rfl) (λ_ _ _ _ _ _=>Xz λ_ _ _=>rfl) λF m b=>Nm T G__law_next G__law_places G__law_ties F
 have G__law_times:DH l.prog w K mg base:=h21.got X G (λ_ _ _ h=>by obtain⟨e,_⟩:=h; rw [e]; rfl) (λ_ _ _ _ _ _=>YG λ_=>rfl) λF m b=>K4 T G__law_next F
 have G__law_far:E5 l.prog w K mg base:=h22.got X G (λ_ _ _ h=>by obtain⟨_,_,e,_⟩:=h; rw [e]; rfl) (λ_ _ _ _ _ _=>Oa λ_ _=>rfl) λF m b=>Nn T F
 have G__law_keeps:Hz l.prog w K mg base:=h23.got X G (λ_ _ _ h=>by obtain⟨_,_,_,_,e,_⟩:=h; rw [e]; rfl) (λ_ _ _ _ _ _=>Xz λ_ _ _=>rfl) λF m b=>K7 T G__law_far F
 have G__law_choices:GG l.prog w K mg base:=h24.got X G (λ_ _ _ h=>by obtain⟨_,_,e,_⟩:=h; rw [e]; rfl) (λ_ _ _ _ _ _=>Oa λ_ _=>rfl) λF m b=>JG T  F
 have G__law_least:Hy l.prog w K mg base:=h25.got X G (λ_ _ _ h=>by obtain⟨_,_,_,e,_⟩:=h; rw [e]; rfl) (λ_ _ _ _ _ _=>Oa λ_ _=>rfl) λF m b=>K6 T G__law_choices G__law_keeps F
 have G__law_is_tie:EK l.prog w K mg base:=h26.got X G (λ_ _ _ h=>by obtain⟨_,_,e,_⟩:=h; rw [e]; rfl) (λ_ _ _ _ _ _=>Oa λ_ _=>rfl) λF m b=>KG T  F
 have G__law_is_far:Gq l.prog w K mg base:=h27.got X G (λ_ _ _ h=>by obtain⟨_,_,_,_,_,_,_,e,_⟩:=h; rw [e]; rfl) (λ_ _ _ _ _ _=>V1 λ_ _ _ _=>rfl) λF m b=>KH T G__law_is_tie F
 have G__law_shows:Hw l.prog w K mg base:=h28.got X G (λ_ _ _ h=>by obtain⟨_,_,_,_,_,_,_,_,_,e,_⟩:=h; rw [e]; rfl) (λ_ _ _ _ _ _=>aH λ_ _ _ _ _=>rfl) λF m b=>Gb T G__law_is_far G__law_is_tie F m b 10
 have G__law_read_case:Ea l.prog w K mg base:=h29.got X G (λ_ _ _ h=>by obtain⟨_,_,_,_,_,e,_⟩:=h; rw [e]; rfl) (λ_ _ _ _ _ _=>V1 λ_ _ _ _=>rfl) λF m b=>HV T G__law_shows F
 have G__law_prices:Gn l.prog w K mg base:=h30.got X G (λ_ _ _ h=>by obtain⟨_,_,_,_,_,_,_,e,_⟩:=h; rw [e]; rfl) (λ_ _ _ _ _ _=>V1 λ_ _ _ _=>rfl) λF m b=>KA T G__law_next F
 have G__law_far_case:FJ l.prog w K mg base:=h31.got X G (λ_ _ _ h=>by obtain⟨_,_,_,_,_,e,_⟩:=h; rw [e]; rfl) (λ_ _ _ _ _ _=>Xz λ_ _ _=>rfl) λF m b=>IL T G__law_far G__law_next G__law_prices F
 have G__law_made:D1 l.prog w K mg base:=h32.got X G (λ_ _ _ h=>by obtain⟨_,_,_,_,_,_,_,e,_⟩:=h; rw [e]; rfl) (λ_ _ _ _ _ _=>aH λ_ _ _ _ _=>rfl) λF m b=>HW T G__law_far_case G__law_next F m b 7
 have G__law_case:Iz l.prog w K mg base:=h33.got X G (λ_ _ _ h=>by obtain⟨_,_,_,_,e,_⟩:=h; rw [e]; rfl) (λ_ _ _ _ _ _=>V1 λ_ _ _ _=>rfl) λF m b=>MZ T G__law_made F
 have G__law_bent:I0 l.prog w K mg base:=h34.got X G (λ_ _ _ h=>by obtain⟨_,_,e,_⟩:=h; rw [e]; rfl) (λ_ _ _ _ _ _=>Oa λ_ _=>rfl) λF m b=>HX T G__law_next F m b 10
 have G__law_star:GF l.prog w K mg base:=h35.got X G (λ_ _ _ h=>by obtain⟨_,e,_⟩:=h; rw [e]; rfl) (λ_ _ _ _ _ _=>Oa λ_ _=>rfl) λF m b=>MW T G__law_places F
 have G__law_held:Iy l.prog w K mg base:=h36.got X G (λ_ _ _ h=>by obtain⟨_,_,_,e,_⟩:=h; rw [e]; rfl) (λ_ _ _ _ _ _=>Xz λ_ _ _=>rfl) λF m b=>MX T G__law_far F
 have G__law_split_twice:Di l.prog w K mg base:=h37.got X G (λ_ _ _ h=>by obtain⟨_,_,_,_,_,_,e,_⟩:=h; rw [e]; rfl) (λ_ _ _ _ _ _=>V1 λ_ _ _ _=>rfl) λF m b=>GX T G__law_made F
 have G__law_held_by_kept:C5 l.prog w K mg base:=h38.got X G (λ_ _ _ h=>by obtain⟨_,_,_,_,_,e,_⟩:=h; rw [e]; rfl) (λ_ _ _ _ _ _=>Xz λ_ _ _=>rfl) λF m b=>Fp T G__law_held G__law_made F
 have G__law_deep_right:D4 l.prog w K mg base:=h39.got X G (λ_ _ _ h=>by obtain⟨e,_⟩:=h; rw [e]; rfl) (λ_ _ _ _ _ _=>YG λ_=>rfl) λF m b=>G6 T G__law_next G__law_star G__law_times G_shows F
 have G__law_sized:Hv l.prog w K mg base:=h40.got X G (λ_ _ _ h=>by obtain⟨_,_,e,_⟩:=h; rw [e]; rfl) (λ_ _ _ _ _ _=>Oa λ_ _=>rfl) λF m b=>Ga T  F m b 12
 have G__law_wide_right:D0 l.prog w K mg base:=h41.got X G (λ_ _ _ h=>by obtain⟨e,_⟩:=h; rw [e]; rfl) (λ_ _ _ _ _ _=>YG λ_=>rfl) λF m b=>G5 T G__law_next G__law_sized G__law_star G__law_times G_shows F
 exact XO T Gf mf Ff.kp bf G__law_bent G__law_case G__law_deep_right G__law_held_by_kept G__law_least G__law_net G__law_next G__law_read_case G__law_split_twice G__law_times G__law_wide_right G_shows (To (st:=Jt) l' c k)
theorem walk{l:PySem.W.OpenLaw}{q:Program}{loose:List Str}{XP:(Str->Option Value)->Heap->Prop}{YP:World->Heap->Prop}{d:DefRec}{K:Params->Frag}(hn:l.most=some 63)(hdf:d.params.defaults=[])
  (hY:∀(w:World) (h:Heap),YP w h->(K w.params).In h)
  (F:∀(w:World) (mg:Str->Option Value) (fa:Addr) (h:Heap),(K w.params).In h->h.Ns mainGlobals mg->mg d.name=some (.ref fa) ->
   ∃fd:FuncData,(∀(s:Shared) (u:Value),BindsTo s fd ⟨[u],[]⟩ [("_law_script",u)])/\∀base:Heap,(K w.params).In base->base.Ns mainGlobals mg->BG l.prog w (K w.params) mg base CW 24 fa fd ["_law_script"] (NS (K w.params))) :
  PySem.W.WalkO q loose XP YP l.row.toRowW d [] (λf vs=>PySem.call f vs) :=
 L2.Pm (n:=63) (k:=24) (x := "_law_script") (CX:=λ_=>CW) (sp:=λw=>NS (K w.params)) hn (by decide) hdf ⟨rfl,by decide,by decide,rfl⟩ hY F (λ_ _ a ns hl _ hS=>⟨a,ns,rfl,⟨hl,hS⟩,λ_=>rfl⟩) λ_ _ _ _ _ z=>z
end K62
end _p
namespace PySem.W.Fast
theorem tw13205162363291147242:True:=⟨⟩
theorem tw14341010363696747882:True:=⟨⟩
theorem tw9745451830551364928:True:=⟨⟩
theorem tw5974831419398787014:True:=⟨⟩
theorem tw5077242129318068819:True:=⟨⟩
theorem tw6502750439277240385:True:=⟨⟩
theorem tw5828779121879962891:True:=⟨⟩
theorem tw10298104176833865720:True:=⟨⟩
theorem tw8210399918454853281:True:=⟨⟩
theorem tw3625769477750679511:True:=⟨⟩
theorem tw18152292850423040313:True:=⟨⟩
theorem tw9652690165504519703:True:=⟨⟩
theorem tw4723038349316007393:True:=⟨⟩
theorem tw12488044720777076258:True:=⟨⟩
end PySem.W.Fast
open _p
open PySem PySem.W PyProof.Rows
set_option maxRecDepth 100000 in
set_option maxHeartbeats 0 in
theorem PySem.Challenge.cw_thinnet_k62_cases_bent_holds : PySem.Challenge.rw_thinnet_k62_cases_bent.Holds := by
 w_on; o_law; k_head; (case hw=>w_witness2)
 k_fill
 refine K62.walk (l:=PySem.Challenge.rw_thinnet_k62_cases_bent) rfl rfl (λw h Y=>PySem.W.kIn_of Y) ?F
 case F =>
  intro w mg fa h KX G hmg
  refine' K62.all_mk KX G hmg ?_ ?_ ?_ ?_ ?_ ?_ ?_ ?_ ?_ ?_ ?_ ?_ ?_ ?_ ?_ ?_ ?_ ?_ ?_ ?_ ?_ ?_ ?_ ?_ ?_ ?_ ?_ ?_ ?_ ?_ ?_ ?_ ?_ ?_ ?_ ?_ ?_ ?_ ?_ ?_ ?_ ?_ ?_ ?_ ?_ ?_ ?_ ?_ ?_ ?_ ?_ ?_ ?_ ?_ ?_ ?_ ?_ ?_ ?_ ?_ ?_
  all_goals first
   | (refine' K62.Ht.mk ?a ?l ?c ?k; (case a=>k_is); (case l=>k_is); (case c=>k_is); (case k=>k_is))
   | (refine' K62.Hi.mk ?a; (case a=>k_is))
   | (refine' K62.Hn.mk ?a; (case a=>k_is))
#print axioms PySem.Challenge.cw_thinnet_k62_cases_bent_holds

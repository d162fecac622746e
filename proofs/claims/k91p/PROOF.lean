import PyProof.Rows.All
import Wide.All
import OpenK.AllK
import Wide.FinOn
import Lean
import PyProof.EqAt
import PyProof.EqKinds
import PyProof.TupleCall
import PyProof.P3In
import PyProof.NeData
import PyProof.ReprLen
import PyProof.CompUse
import KE.KSortTup
import PyProof.SumAny
import PyProof.Rows.SeqCalls
import KE.KRevIter
import PyProof.TupleOfGen
import PyProof.CollectIter
import PyProof.Draws
import PyProof.EnumMake
import KE.KEqDict
import KE.KDictSum
import PyProof.ConsumeS
import PyProof.WalkInts
import PyProof.ListNew
import PyProof.AttrMissHeap
import PyProof.FactsAll.dict
import PyProof.FactsAll.zip
import PySem.Challenge.RW_thinnet_k91_whole_thinned_again_and_agai
open PySem.W (Frag nsIn keepIn fnOf codeIn mg_of mg_none_of)
set_option Elab.async false
set_option linter.all false
set_option maxRecDepth 100000
open Array renaming length_toList->cn,getElem?_eq_some_iff->iH,getElem?_eq_getElem->iU,getElem?_eq_none->i6
open Array.Perm renaming refl->ir
open Bool renaming false_ne_true->bw,and_eq_true->bz,false_eq_true->c_,eq_iff_iff->d7,eq_false_iff->eO,and_true->iD,or_false->jF
open Classical renaming propDecidable->dk,byContradiction->eI
open False renaming elim->dg
open ForInStep renaming yield->fV
open Int renaming mul_assoc->d_,mul_le_mul_of_nonneg_left->eP,toNat_natCast->fA,le_refl->fH,mul_comm->fM,mul_le_mul->gE,mul_le_mul_of_nonneg_right->gs,add_assoc->iI,add_mul->i8
open List renaming getElem?_eq_getElem->Go,length_map->No,mem_cons_self->On,mem_singleton->Re,mem_cons_of_mem->TM,mem_cons->TW,mem_map->Tk,size_toArray->UF,length_cons->ZB,getElem?_eq_some_iff->bh,length_append->bi,replicate->bj,map_cons->bm,getD_eq_getElem?_getD->bp,mem_append_right->bq,not_mem_nil->bu,getElem?_map->bv,mem_append->b_,length_singleton->cA,nodup_cons->cD,toArray->cE,range->cF,append_nil->cH,nil_append->cK,map_append->cN,append_assoc->cb,lt_irrefl->ce,getElem?_append_right->cf,Nodup->cm,mem_range->cq,nodup_nil->cr,mem_append_left->c0,drop_eq_getElem_cons->c9,pairwise_cons->dA,mem_filter->dC,length_take->dG,mem_of_getElem?->dJ,map_map->dN,getElem_mem->dO,length_filter_le->dP,length_nil->dR,nodup_append->dX,length_drop->de,length_range->d6,length_set->d9,mem_flatMap->eA,any_eq_true->eB,mem_iff_getElem?->eF,getElem?_zip_eq_some->eJ,length_zip->eM,length_eq_zero_iff->eQ,getLast?_cons_cons->eR,filterMap_cons->eS,length_reverse->eU,lookup_cons->eV,all_eq_true->eW,cons_ne_nil->eX,flatMap_cons->fB,getElem?_append_left->fC,mem_of_mem_take->fE,mem_of_mem_drop->fF,length->fG,map_nil->fJ,drop_length->fK,take_length->fL,length_zipWith->fN,filter_cons_of_neg->fP,any_cons->fR,find?_cons->fT,forIn_cons->fW,reverse_cons->fb,pairwise_map->fc,lt_trans->ft,zipWith->f6,length_erase_of_mem->f9,getElem?_replicate->gF,pairwise_singleton->gG,filter_cons_of_pos->gH,take_of_length_le->gL,find?_cons_of_pos->gM,find?_cons_of_neg->gN,length_pos_of_mem->gO,all_cons->gP,sum_cons->gR,cons_append->gW,getElem?_zipWith->gY,singleton_append->gZ,getElem?_eq_none->gc,of_mem_zip->gh,all_map->gj,map_congr_left->gu,toList_toArray->gw,filter_sublist->gx,forIn_nil->gz,filterMap_map->hG,zip_cons_cons->hV,forIn_toArray->hZ,perm_ext_iff_of_nodup->iG,getElem?_set->iN,take_add_one->iQ,pairwise_iff_getElem->iS,mem_of_find?_eq_some->iT,map_reverse->ik,getElem?_cons_succ->im,getElem?_set_self->iw,range_succ_eq_map->iz,length_replicate->i9,take_append_drop->jA,getLast?_reverse->jC
open List.Pairwise renaming nil->iL,imp_of_mem->ig
open List.Sublist renaming refl->jS
open List.cons renaming injEq->iu
open Nat renaming le_refl->Rs,zero_le->bn,ne_of_lt->b8,le_trans->cG,lt_of_lt_of_le->cJ,lt_irrefl->cy,le_succ->dQ,lt_succ_of_lt->dn,ne_of_gt->fI,lt_of_le_of_lt->fS,lt_succ_self->fj,sub_self->f7,not_lt->gC,min_le_right->gS,le_of_lt->gf,mod_lt->gm,mul_le_mul_left->gv,succ_le_succ->iY,le_of_eq->iZ,le_add_right->ii,min_eq_left->iq
open Nat.succ renaming inj->jR
open Ne renaming symm->ci
open Option renaming map_eq_some_iff->cU,isSome_map->iM,isNone->jI
open Option.some renaming inj->bg
open Or renaming inl->be,inr->di
open PyProof.Rows renaming slot_tuple_getitem->cM,callWith_type1->cY,listUpdate_at->e9,get?_update_seq->fX,boot_tuple->fm,AllBare->gX,boot_all->ge,listItems_at->gn,entry_tuple_getitem->gt,seqEpoch_at->g8,boot_sorted->g9,args_tuple_getitem->hU,lt_int->iy
open PyProof.Rows.KeyOrd renaming kle_refl->dY,kle_of_klt->gJ,kle_trans->gU,kle_antisymm->jK
open PySem renaming wpAny_bind->Ch,Addr->Db,Value->Ev,Shared->Op,wpAny_pure->Sc,FuncData->bo,Heap->b9,Expr->cC,Program->cL,World->cQ,Stmt->cS,wpAny_field->cT,wpAny_newObj_type->cW,sizeLine_eq->cX,wpAny_holding->cu,Around->cw,IsPair->cx,wpAny_callSpecial?_slot->cz,wpAny_mono->c7,wpAny_seqItems->dB,codeAny_builtin->dE,wpAny_pyIter_tuple->dI,wpAny_loadPart'->dM,plainId_quiet->dS,wpAny_pyIter_list->dW,wpAny_Call_Name_kw->da,wpAny_call_entry->df,Builtin->dh,wpAny_setField_rec->eE,NameKind->eK,wpAny_truthy_bool->eN,Scope->eZ,wpAny_typeOf->eh,tupleKind_room_in1->em,wpAny_passesOwn->eo,IsZip->fD,wpAny_getItem_str_slice->fO,wpAny_letGo->fY,builtinLookup_eq_fast->fi,wpAny_rule->fk,PyData->fw,typeIs_str->gA,Keyword->gB,wpAny_tryCatch->gD,wpAny_attempt->gQ,wpAny_execs_nil->gg,IsPart->gi,post_val_or_str->gk,wpAny_updateSeq_pair->gl,wpAny_updateSeq->gp,typeLookup_type->gq,wpAny_newTuple->g7,PassesOwn->g_,wpAny_onRaise->iB,wpAny_newList->iE,wpAny_sequenceKey->iJ,slot_list_getitem->iK,BindsTo->iV,codeAny_mono->iW,noFill_tuple_add->iX,wpAny_isInstance->ic,wpAny_pyIter_zip->ie,wpAny_specialOf->ip,wpAny_of_eq->i4
open PySem.Around renaming under_plainId->cv,under->jO
open PySem.Builtin.Builtins renaming bindParams->h_
open PySem.Builtin.Dict renaming updateFrom->io,pairItems->i7
open PySem.Builtin.List renaming listExtendWith->en,listTooLong->fu,listSameRef->ij
open PySem.Builtin.Slice renaming slicePlaces->c8,sliceAdjust->eG,sliceApplied->e7,sliceFields->iR
open PySem.Builtin.SmallTypes renaming ownedTupleIsFree->cO,nextOf->cP,ownedTupleHandOut->fz
open PySem.Builtin.Tuple renaming tupleExact->ca,tupleItemsOf->fo,tupleIsExact->iC
open PySem.Calls renaming spliced_cons->eC,spliced_nil->e_,callWith_builtin->gK,Name_function_global->iA,evalArgs_plain->jD
open PySem.Code renaming isGuard->jP
open PySem.Expr renaming Call->f8
open PySem.F renaming slot_zip_next->eL,slot_tuple_iterator_next->e8,args_zip_next_1->gI,entry_zip_next->gT,args_tuple_iterator_next_1->gy,entry_tuple_iterator_next->hX,called_tuple->jB
open PySem.Heap renaming get?_push_of_some->FM,get?_push_size->Uf,lt_size->XV,get?_update_other->cB,size_push->dH,SameBut->fe,get?_update_self->fg,IsTuple->ia,IsList->i5
open PySem.Heap.IsSliceOf renaming new->jQ
open PySem.Heap.SameBut renaming update->jJ
open PySem.NameKind renaming free->cg,cell->fq
open PySem.Obj renaming mapSeq->cj
open PySem.PassesOwn renaming never->cI
open PySem.PyData renaming depthAll->dD,eqv->dL,canLayAll0->dq,hasDict->fh,eqvAll->iF,hasDictAll->iP,leavesShortAll->i_
open PySem.SeqAt.EqAt renaming int_str->jM,str_int->jN
open PySem.Shared renaming heap->fZ
open PySem.Str renaming ofString->cZ,length_append->iO
open PySem.Value renaming none->cR,ref->cV,bool->eY,str->eg,type->f_,notImplemented->jE,int->jL
open Sum renaming inr->dZ,inl->fQ
open Sum.inl renaming injEq->jG,inj->jT
open Sum.inr renaming inj->dU,injEq->jH
open True renaming intro->ef
namespace _p
namespace L2
open PySem PySem.Spec PyProof.Rows
abbrev Key:=Sum Int Str
def Lb:Key->Ev->Bool
 | .inl k,v=>Value.isInt k v
 | .inr x,v=>Value.isStrOf x v
def ag(w:cQ):Key->Int
 | .inl k=>hashInt k
 | .inr x=>hashStr w x
theorem BJ:∀{k:Key} {v:Ev},Lb k v=true->(∃i t,k=fQ i/\v=jL i t)\/(∃x t,k=dZ x/\v=eg x t)
 | .inl i,v,h=>by
  obtain⟨t,e⟩:=Value.isInt_shape (k:=i) (v:=v) h;exact .inl ⟨i,t,rfl,e⟩
 | .inr x,v,h=>by
  obtain⟨t,e⟩:=Value.isStrOf_shape (x:=x) (v:=v) h;exact .inr ⟨x,t,rfl,e⟩
theorem R7(i:Int)(t:Tok):Lb (.inl i) (.int i t)=true:=by simp [Lb,Value.isInt]
theorem R6(x:Str)(t:Tok):Lb (.inr x) (.str x t)=true:=by simp [Lb,Value.isStrOf]
theorem X9(a b:Int):decide ((fQ a:Key)=fQ b)=(a==b):=by
 by_cases e:a=b
 ·subst e; simp
 ·have h:¬(fQ a:Key)=fQ b:=λq=>e (jT q)
  rw [decide_eq_false h];exact(beq_eq_false_iff_ne.mpr e).symm
theorem X6(a b:Str):decide ((dZ a:Key)=dZ b)=decide (a=b):=by
 by_cases e:a=b
 ·subst e; simp
 ·have h:¬(dZ a:Key)=dZ b:=λq=>e (dU q)
  rw [decide_eq_false h,decide_eq_false e]
theorem X8(a:Int)(b:Str):decide ((fQ a:Key)=dZ b)=false:=decide_eq_false (λq=>nomatch q)
theorem X7(a:Str)(b:Int):decide ((dZ a:Key)=fQ b)=false:=decide_eq_false (λq=>nomatch q)
def Aq(prog:cL)(w:cQ):PySem.KeyKind prog w Key where
 is:=Lb
 hash:=ag w
 inj:=λv a b ha hb=>by
  rcases BJ ha with ⟨i,t,rfl,rfl⟩ | ⟨x,t,rfl,rfl⟩
  ·rcases BJ hb with ⟨j,u,rfl,e⟩ | ⟨y,u,rfl,e⟩
   ·injection e with e1 _; rw [e1]
   ·exact nomatch e
  ·rcases BJ hb with ⟨j,u,rfl,e⟩ | ⟨y,u,rfl,e⟩
   ·exact nomatch e
   ·injection e with e1 _; rw [e1]
 byValue:=λk v h=>by
  rcases BJ h with ⟨i,t,rfl,rfl⟩ | ⟨x,t,rfl,rfl⟩ <;> rfl
 pyHash:=λhv h=>by
  rcases BJ hv with ⟨i,t,rfl,rfl⟩ | ⟨x,t,rfl,rfl⟩
  ·exact wpAny_pyHash_int h
  ·exact wpAny_pyHash_str h
 eqBool:=λhu hv h=>by
  rcases BJ hu with ⟨i,t,rfl,rfl⟩ | ⟨x,t,rfl,rfl⟩
  ·rcases BJ hv with ⟨j,u,rfl,rfl⟩ | ⟨y,u,rfl,rfl⟩
   ·rw [X9] at h; exact wpAny_eqBool_int h
   ·rw [X8] at h; exact jM i t y u _ _ _ _ h
  ·rcases BJ hv with ⟨j,u,rfl,rfl⟩ | ⟨y,u,rfl,rfl⟩
   ·rw [X7] at h; exact jN x t j u _ _ _ _ h
   ·rw [X6] at h; exact wpAny_eqBool_str h
 «strs»:=λk x t v h=>by
  rcases BJ h with ⟨i,u,rfl,e⟩ | ⟨y,u,rfl,e⟩
  ·exact nomatch e
  ·injection e with e1 _
   subst e1
   cases v <;> rfl
theorem OB(prog:cL)(w:cQ)(i:Int)(t:Tok):(Aq prog w).is (.inl i) (.int i t)=true:=R7 i t
theorem OA(prog:cL)(w:cQ)(x:Str)(t:Tok):(Aq prog w).is (.inr x) (.str x t)=true:=R6 x t
inductive V where
 | non | bl (b:Bool) | int (i:Int) | str (x:Str) | byt (b:Array UInt8) | flt (b:UInt64) | ref (a:Db) | ty (n:String)
 deriving DecidableEq
def RelV:V->Ev->Prop
 | .non,u=>u=cR
 | .bl b,u=>u=eY b
 | .int i,u=>∃t,u=jL i t
 | .str x,u=>∃t,u=eg x t
 | .byt b,u=>∃t,u=Value.bytes b t
 | .flt b,u=>∃t,u=Value.float b t
 | .ref a,u=>u=cV a
 | .ty n,u=>u=f_ n
abbrev Vals:List V->List Ev->Prop:=Paired RelV
theorem Vals.length{xs:List V}{us:List Ev}(r:Vals xs us):xs.length=us.length:=Paired.length r
theorem Vals.get:∀{xs:List V} {us:List Ev} {i:Nat} {x:V},Vals xs us->xs[i]?=some x->∃u,us[i]?=some u/\RelV x u
 | _,_,_,_,.nil,e=>by simp at e
 | _,_,0,_,.cons r _,e=>by simp at e; subst e; exact⟨_,rfl,r⟩
 | _,_,i+1,x,.cons _ t,e=>by
  obtain⟨u,h1,h2⟩:=Vals.get (i:=i) (x:=x) t (by simpa using e);exact⟨u,by simpa using h1,h2⟩
theorem Vals.set{x:V}{u:Ev}(r:RelV x u):∀{xs:List V} {us:List Ev} (i:Nat),Vals xs us->Vals (xs.set i x) (us.set i u)
 | _,_,_,.nil=>.nil
 | _,_,0,.cons _ t=>.cons r t
 | _,_,i+1,.cons q t=>.cons q (Vals.set r i t)
theorem Vals.append:∀{xs ys:List V} {us ws:List Ev},Vals xs us->Vals ys ws->Vals (xs++ys) (us++ws)
 | _,_,_,_,.nil,s=>s
 | _,_,_,_,.cons r t,s=>.cons r (Vals.append t s)
theorem Vals.take:∀{xs:List V} {us:List Ev} (n:Nat),Vals xs us->Vals (xs.take n) (us.take n)
 | _,_,0,_=>.nil
 | _,_,_+1,.nil=>.nil
 | _,_,n+1,.cons r t=>.cons r (Vals.take n t)
theorem Vals.drop:∀{xs:List V} {us:List Ev} (n:Nat),Vals xs us->Vals (xs.drop n) (us.drop n)
 | _,_,0,r=>r
 | _,_,_+1,.nil=>.nil
 | _,_,n+1,.cons _ t=>Vals.drop n t
def RelO:Option V->Option Ev->Prop
 | some v,some u=>RelV v u
 | none,none=>True
 | _,_=>False
def KV{κ:Type}:List (κ×V)->List (κ×Ev)->Prop:=Paired fun(p:κ×V) (q:κ×Ev)=>p.1=q.1/\RelV p.2 q.2
def kV:Key->V
 | .inl i=>.int i
 | .inr x=>.str x
inductive HO where
 | lst (xs:List V)
 | tup (xs:List V)
 | dK (kvs:List (Key×V)) | dT (kvs:List (List Key×V))
 | set (S:Int->Bool) (n:Nat)
 | ins (C dx:Db) (fs:List (Str×V))
 | own (x:Db)
 | xd (fs:List (Str×V))
 | met (f x:Db)
 | rng (lo hi:Int)
 | frz (o:Obj) (u:HO)
 | tbl (ps:Array Ev)
 | ext (φ:b9->Prop)
abbrev Hp:=Db->Option HO
def BC(H:Hp)(a:Db)(o:HO):Hp:=λb=>if b=a then some o else H b
theorem Ai{H:Hp}{a:Db}{o:HO}:BC H a o a=some o:=by unfold BC; rw [if_pos rfl]
theorem AU{H:Hp}{a b:Db}{o:HO}(h:b≠a):BC H a o b=H b:=by unfold BC; rw [if_neg h]
theorem ZY{H:Hp}{a b:Db}{o u:HO}(h:H a=some o)(h':H b=some u)(d:o≠u):a≠b:=by
 intro e; subst e; rw [h] at h'; exact d (bg h')
theorem Al{H:Hp}{a b:Db}{o:HO}(h:H a=some o)(h':H b=none):a≠b:=by
 intro e; subst e; rw [h] at h'; cases h'
def IsTupN(h:b9)(a:Db)(items:Array Ev):Prop:=∃o,h.get? a=some o/\o.cls=.type "tuple"/\∃n,o.data=.seq items n/\o.dict=none/\o.slots=#[]
theorem IsTupN.tup{h:b9}{a:Db}{items:Array Ev}(x:IsTupN h a items):IsTup h a items:=let ⟨o,h1,h2,n,h3,_⟩:=x; ⟨o,h1,h2,n,h3⟩
theorem IsTupN.new(h:b9)(items:Array Ev):IsTupN (h.push { cls:=.type "tuple",data:=.seq items }) h.objs.size items:=⟨_,Uf _ rfl,rfl,_,rfl,rfl,rfl⟩
section
variable (P:Program)(w:World)
def ObjOk(H:Hp)(h:b9)(a:Db):HO->Prop
 | .lst xs=>xs.length<=sizeLine/\∃(its:List Ev) (n:Nat),Vals xs its/\h.get? a=some { cls:=.type "list",data:=.seq its.toArray n }
 | .tup xs=>xs.length<=sizeLine/\∃its:List Ev,Vals xs its/\IsTupN h a its.toArray
 | .dK kvs=>kvs.length<=sizeLine/\(a==sysModules)=false/\∃vs,KV kvs vs/\h.DictOf (Aq P w) a vs
 | .dT kvs=>kvs.length<=sizeLine/\(a==sysModules)=false/\∃xs:List (List Key×Db×Ev),
   Paired (fun(p:List Key×V) (q:List Key×Db×Ev)=>p.1=q.1/\H q.2.1=some (.tup (p.1.map kV))/\RelV p.2 q.2.2) kvs xs /\
   ∃o es ep,h.get? a=some o/\o.ExactDict/\o.data=.dict es ep/\es.toList=xs.map (entryOfKey (tupleKind (Aq P w)))/\(xs.map (·.1)).Nodup
 | .set S n=>h.SetOf (intKind P w) a S n
 | .ins C dx fs=>H dx=some (.own a)/\fs.length<=1000/\dx≠a/\h.get? a=some (PySem.W.instObj C dx) /\
   ∃mA,h.Ns1 dx mA/\(∀f,RelO (fs.lookup f) (mA f))/\PySem.Within mA (fs.map (·.1))
 | .own _=>∃o,h.get? a=some o
 | .xd fs=>∃mA,h.Ns1 a mA/\∀f,RelO (fs.lookup f) (mA f)
 | .rng lo hi=>∃t u v,h.get? a=some { cls:=.type "range",data:=.fields #[.int lo t,.int hi u,.int 1 v] }
 | .frz o u=>h.get? a=some o/\ObjOk H h a u
 | .tbl ps=>h.get? a=some { cls:=.none,data:=.fields ps }
 | .met f x=>h.get? a=some (PySem.W.methodObj (.ref f) (.ref x))
 | .ext φ=>φ h/\(∃o,h.get? a=some o)/\∀h1 h2:b9,φ h1->(∀o,h1.get? a=some o->h2.get? a=some o)->φ h2
def HOk(H:Hp)(h:b9):Prop:=∀a o,H a=some o->ObjOk P w H h a o
end
section
variable {P:Program}{w:World}{H H':Hp}{h h':Heap}{a:Addr}{o:HO}
theorem ObjOk.lt(x:ObjOk P w H h a o):a<h.objs.size:=by
 cases o with
 | lst xs=>obtain⟨_,_,_,_,e⟩:=x; exact XV e
 | tup xs=>obtain⟨_,_,_,p⟩:=x; exact p.tup.lt
 | dK kvs=>obtain⟨_,_,_,_,o,_,_,e,_⟩:=x; exact XV e
 | dT kvs=>obtain⟨_,_,_,_,o,_,_,e,_⟩:=x; exact XV e
 | set S n=>obtain⟨o,_,_,_,e,_⟩:=x; exact XV e
 | ins C dx fs=>obtain⟨_,_,_,e,_⟩:=x; exact XV e
 | own y=>obtain⟨_,e⟩:=x; exact XV e
 | xd fs=>obtain⟨_,⟨_,_,_,e,_⟩,_⟩:=x; exact XV e
 | rng lo hi=>obtain⟨_,_,_,e⟩:=x; exact XV e
 | frz ob u=>obtain⟨e,_⟩:=x; exact XV e
 | tbl ps=>exact XV (show h.get? a=some _ from x)
 | met f y=>exact XV (show h.get? a=some _ from x)
 | ext φ=>obtain⟨_,⟨_,e⟩,_⟩:=x; exact XV e
theorem Paired.mapP{α β:Type}{F G:α->β->Prop}:∀{l₁:List α} {l₂:List β},Paired F l₁ l₂->(∀a b,F a b->G a b)->Paired G l₁ l₂
 | _,_,.nil,_=>.nil
 | _,_,.cons r t,f=>.cons (f _ _ r) (Paired.mapP t f)
theorem ObjOk.stay(x:ObjOk P w H h a o)(k:∀b u,(b=a\/H b=some (.own a))->h.get? b=some u->h'.get? b=some u)
  (ho:∀b,H b=some (.own a)->H' b=some (.own a)) (ht:∀b xs,H b=some (.tup xs)->H' b=some (.tup xs)):ObjOk P w H' h' a o:=by
 induction o with
 | lst xs=>obtain⟨z,its,n,r,e⟩:=x; exact⟨z,its,n,r,k _ _ (.inl rfl) e⟩
 | tup xs=>obtain⟨z,its,r,ob,e,c⟩:=x; exact⟨z,its,r,ob,k _ _ (.inl rfl) e,c⟩
 | dK kvs=>obtain⟨z,y,vs,r,ob,es,ep,e,c⟩:=x; exact⟨z,y,vs,r,ob,es,ep,k _ _ (.inl rfl) e,c⟩
 | dT kvs =>
  obtain⟨z,y,xs,r,ob,es,ep,e,c⟩:=x;exact⟨z,y,xs,Paired.mapP r λp q z=>⟨z.1,ht _ _ z.2.1,z.2.2⟩,ob,es,ep,k _ _ (.inl rfl) e,c⟩
 | set S n=>obtain⟨ob,es,ep,t,e,c⟩:=x; exact⟨ob,es,ep,t,k _ _ (.inl rfl) e,c⟩
 | ins C dx fs =>
  obtain⟨d,z,ne,e,mA,⟨od,es,ep,e2,c⟩,r⟩:=x;exact⟨ho _ d,z,ne,k _ _ (.inl rfl) e,mA,⟨od,es,ep,k _ _ (.inr d) e2,c⟩,r⟩
 | own y=>obtain⟨ob,e⟩:=x; exact⟨ob,k _ _ (.inl rfl) e⟩
 | xd fs=>obtain⟨mA,⟨od,es,ep,e,c⟩,r⟩:=x; exact⟨mA,⟨od,es,ep,k _ _ (.inl rfl) e,c⟩,r⟩
 | rng lo hi=>obtain⟨t,u,v,e⟩:=x; exact⟨t,u,v,k _ _ (.inl rfl) e⟩
 | frz ob u ih=>obtain⟨e,q⟩:=x; exact⟨k _ _ (.inl rfl) e,ih q⟩
 | tbl ps =>
  have e:h.get? a=some { cls:=.none,data:=.fields ps }:=x;show h'.get? a=some { cls:=.none,data:=.fields ps };exact k a _ (.inl rfl) e
 | met f y =>
  have e:h.get? a=some (PySem.W.methodObj (.ref f) (.ref y)):=x;show h'.get? a=some (PySem.W.methodObj (.ref f) (.ref y));exact k a _ (.inl rfl) e
 | ext φ=>obtain⟨p,⟨o,e⟩,st⟩:=x; exact⟨st _ _ p λo q=>k _ _ (.inl rfl) q,⟨o,k _ _ (.inl rfl) e⟩,st⟩
theorem HOk.lt(x:HOk P w H h)(e:H a=some o):a<h.objs.size:=(x a o e).lt
theorem HOk.fresh(x:HOk P w H h)(e:h.objs.size<=a):H a=none:=by
 cases q:H a with
 | none=>rfl
 | some u=>exact absurd (cJ (x.lt q) e) (cy _)
theorem HOk.kept(x:HOk P w H h)(k:∀b u,h.get? b=some u->h'.get? b=some u):HOk P w H h':=λa o e =>
 (x a o e).stay (λb u _ q=>k b u q) (λ_ q=>q) λ_ _ q=>q
theorem HOk.laid(x:HOk P w H h)(k:∀b u,h.get? b=some u->h'.get? b=some u)(hp:h.objs.size<=a)(new:ObjOk P w (BC H a o) h' a o):HOk P w (BC H a o) h':=λb u e=>by
 have hn:=x.fresh hp
 by_cases hb:b=a
 ·subst hb; rw [Ai] at e; cases e; exact new
 ·rw [AU hb] at e
  exact(x b u e).stay (λc v _ q=>k c v q) (λc q=>by rw [AU (Al q hn)]; exact q) λc xs q=>by rw [AU (Al q hn)]; exact q
end
def Rd(H:Hp)(a:Db)(u:HO):Prop:=H a=some u\/∃o,H a=some (.frz o u)
theorem Rd.ok{P:cL}{w:cQ}{H:Hp}{h:b9}{a:Db}{u:HO}(r:Rd H a u)(x:HOk P w H h):ObjOk P w H h a u:=by
 rcases r with r | ⟨o,r⟩
 ·exact x a u r
 ·obtain⟨_,q⟩:=x a _ r
  exact q
def Z1:Option HO->Prop
 | some (.lst _)=>True
 | some (.dK _)=>True
 | some (.dT _)=>True
 | some (.set _ _)=>True
 | some (.ins _ _ _)=>True
 | some (.ext _)=>True
 | _=>False
section
variable {P:Program}{w:World}{H:Hp}{h h':Heap}{x e:Addr}{o':HO}
theorem HOk.write(ok:HOk P w H h)(mu:Z1 (H x))(he:e=x\/H e=some (.own x))(k:∀b u,b≠e->h.get? b=some u->h'.get? b=some u)(heo:∃u,h'.get? e=some u)
  (new:ObjOk P w (BC H x o') h' x o'):HOk P w (BC H x o') h':=λb u q=>by
 have nown:∀c y,H c=some (.own y)->c≠x:=λc y r z=>by subst z; rw [r] at mu; exact mu
 have ntup:∀c xs,H c=some (.tup xs)->c≠x:=λc xs r z=>by subst z; rw [r] at mu; exact mu
 by_cases hb:b=x
 ·subst hb; rw [Ai] at q; cases q; exact new
 ·rw [AU hb] at q
  by_cases hbe:b=e
  ·have q':H b=some (.own x):=by
    rcases he with z | z
    ·exact absurd (hbe.trans z) hb
    ·rw [hbe]; exact z
   rw [q] at q'; cases q'
   obtain⟨v,hv⟩:=heo;exact⟨v,by rw [hbe]; exact hv⟩
  ·refine(ok b u q).stay (λc v hc r=>k c v ?_ r) (λc r=>by rw [AU (nown c b r)]; exact r) λc xs r=>by rw [AU (ntup c xs r)]; exact r
   rcases hc with rfl | hc
   ·exact hbe
   ·rintro rfl
    rcases he with z | z
    ·exact nown c b hc z
    ·rw [hc] at z; cases z; exact hb rfl
end
structure Un (fs ex:List Db) (H H':Hp) (h h':b9):Prop where
 keep:∀b o,h.get? b=some o->H b=none->b∉fs->b∉ex->h'.get? b=some o
 slot:∀b o,h.get? b=some o->H b=none->b∈fs->b∉ex->∃sl,h'.get? b=some { o with slots:=sl }
 free:∀b o,h.get? b=some o->H b=none->b∉ex->H' b=none
 there:∀b o,h.get? b=some o->b∉ex->∃o',h'.get? b=some o'
 tups:∀b xs,H b=some (.tup xs)->H' b=some (.tup xs)
 frzs:∀b o u,H b=some (.frz o u)->H' b=some (.frz o u)
 tbls:∀b ps,H b=some (.tbl ps)->∃more,H' b=some (.tbl (ps++more))
section
variable {fs fs' ex ex':List Addr}{H H1 H2:Hp}{h h1 h2 h':Heap}{a x e:Addr}{o:HO}
theorem Un.any(u:Un fs ex H H1 h h1){b:Db}{ob:Obj}(q:h.get? b=some ob)(n:H b=none)(hx:b∉ex):∃sl,h1.get? b=some { ob with slots:=sl }:=by
 by_cases hb:b∈fs
 ·exact u.slot b ob q n hb hx
 ·exact⟨ob.slots,u.keep b ob q n hb hx⟩
theorem Un.kept(k:∀b u,h.get? b=some u->h'.get? b=some u):Un fs ex H H h h' :=
 ⟨λb ob q _ _ _=>k b ob q,λb ob q _ _ _=>⟨ob.slots,k b ob q⟩,λ_ _ _ n _=>n,λb ob q _=>⟨ob,k b ob q⟩,λ_ _ q=>q,λ_ _ _ q=>q,λ_ ps q=>⟨#[],by rw [q]; simp⟩⟩
theorem Un.refl:Un fs ex H H h h:=Un.kept λ_ _ q=>q
theorem Un.laid(k:∀b u,h.get? b=some u->h'.get? b=some u)(hp:h.objs.size<=a)(hn:H a=none):Un fs ex H (BC H a o) h h' where
 keep:=λb u q _ _ _=>k b u q
 slot:=λb u q _ _ _=>⟨u.slots,k b u q⟩
 free:=λb u q n _=>by rw [AU (b8 (cJ (XV q) hp))]; exact n
 there:=λb u q _=>⟨u,k b u q⟩
 tups:=λb xs q=>by rw [AU (Al q hn)]; exact q
 frzs:=λb u xs q=>by rw [AU (Al q hn)]; exact q
 tbls:=λb ps q=>⟨#[],by rw [AU (Al q hn),q]; simp⟩
theorem Un.write(mu:Z1 (H x))(he:e=x\/H e=some (.own x))(k:∀b u,b≠e->h.get? b=some u->h'.get? b=some u)(heo:∃u,h'.get? e=some u):Un fs ex H (BC H x o) h h':=by
 have hx:∀b,H b=none->b≠x:=λb n z=>by subst z; rw [n] at mu; exact mu
 have hb:∀b,H b=none->b≠e:=λb n z=>by
  subst z
  rcases he with r | r
  ·exact hx b n r
  ·rw [n] at r; cases r
 have hm:∀b u,H b=some u->¬Z1 (some u)->b≠x:=λb u q nm z=>by subst z; rw [q] at mu; exact nm mu
 refine⟨λb u q n _ _=>k b u (hb b n) q,λb u q n _ _=>⟨u.slots,k b u (hb b n) q⟩,λb u q n _=>by rw [AU (hx b n)]; exact n,λb u q _=>?_,
  λb xs q=>by rw [AU (hm b _ q λz=>z)]; exact q,λb u xs q=>by rw [AU (hm b _ q λz=>z)]; exact q,λb ps q=>⟨#[],by rw [AU (hm b _ q λz=>z),q]; simp⟩⟩
 by_cases hbe:b=e
 ·subst hbe; exact heo
 ·exact⟨u,k b u hbe q⟩
end
def Z8(h:b9)(H:Hp):List Db:=(cF h.objs.size).filter λa=>(H a).isSome
def Mi(h:b9)(H:Hp):b9:=PySem.W.hideAll h (Z8 h H)
theorem SD(h:b9)(H:Hp):(Mi h H).objs.size=h.objs.size:=PySem.W.hideAll_size _ _
theorem UN{h:b9}{H:Hp}{b:Db}{o:Obj}(e:h.get? b=some o)(n:H b=none):(Mi h H).get? b=some o :=
 PySem.W.hideAll_get _ e λhm=>by
  have q:(H b).isSome=true:=(dC.mp hm).2;rw [n] at q; simp at q
theorem Vk{h:b9}{H:Hp}{b:Db}{o:Obj}(e:(Mi h H).get? b=some o):h.get? b=some o/\H b=none:=by
 have e':h.get? b=some o:=PySem.W.of_hideAll (Z8 h H) e;refine⟨e',?_⟩;cases q:H b with
 | none=>rfl
 | some x =>
  have hm:b∈Z8 h H:=dC.mpr ⟨cq.mpr (XV e'),by simp [q]⟩;have z:(Mi h H).get? b=none:=PySem.W.hideAll_none (Z8 h H) hm;rw [z] at e; cases e
structure Mod (K:Frag) (mg:Str->Option Ev) (base:b9):Prop where
 kin:K.In base
 glob:base.Ns mainGlobals mg
 blt:∃mb,base.Ns builtinsNs mb/\∀x:Str,x ≠ "__name__"->mb x=bootBuiltins x
 nolimit:base.NoLimit
/-- the context: a def's body (or a comprehension's block) running. base: fixed through the whole law; s₀, H₀: the entry; outer: the frames whose slots others may change (a def's callers); stack: all frames that run;
   ex: iterators that were made ahead of the entry and are walked here (a comprehension's); fn: the names whose cells were made at the entry (a def: all; a comprehension's block: its own); calm: not within an except suite; pn: pins that every state bears; xe: what is wanted of an exception that leaves the code -/
structure Cx where
 prog:cL
 w:cQ
 K:Frag
 mg:Str->Option Ev
 base:b9
 A:cw
 N:List Str
 s₀:Op
 H₀:Hp
 env:Env
 outer:List Env
 stack:List Env
 ex:List Db
 fn:Str->Bool
 calm:Bool
 pn:List (Db×Obj)
 xe:Ev->Op->Prop
def Sd(l:List Env):List Db:=l.filterMap (·.frame)
abbrev Cx.fs(X:Cx):List Db:=Sd X.outer
def Yh(sc:eZ)(x:Str):Prop:=sc.names.lookup x=some .local\/sc.names.lookup x=some .cell\/sc.names.lookup x=some .free
def Loc(sc:eZ)(x:Str):Prop:=sc.names.lookup x=some .local\/sc.names.lookup x=some .cell
def Look(env:Env)(h:b9)(m:Str->Option Ev)(x:Str)(u:Ev):Prop :=
 (env.kindOf x=some .local/\m x=some u)\/((env.kindOf x=some .cell\/env.kindOf x=some .free)/\∃c,env.cells.lookup x=some c/\h.IsCell c (some u))
structure Cx.Ok (X:Cx):Prop where
 mod:Mod X.K X.mg X.base
 kind:X.env.scope.kind=.function
 glob:X.env.globals=mainGlobals
 blt:X.env.builtins=builtinsNs
 above:X.s₀.heap.objs.size<=X.env.locals
 inj:∀x y c,X.env.cells.lookup x=some c->X.env.cells.lookup y=some c->x=y
 has:∀x,(X.env.kindOf x=some .cell\/X.env.kindOf x=some .free)->∃c,X.env.cells.lookup x=some c
 cab:∀x c,X.fn x=true->X.env.cells.lookup x=some c->X.s₀.heap.objs.size<=c
 hd:X.calm=true->X.A.handled=none
 frames:X.A.frames=some X.stack
 stk:X.stack=X.outer\/(X.stack=X.env::X.outer/\X.env.frame=some X.env.locals)
 exf:∀b∈X.ex,b≠X.env.locals/\∀x c,X.env.cells.lookup x=some c->c≠b
 bs:∀b o,X.base.get? b=some o->X.s₀.heap.get? b=some o/\X.H₀ b=none
 bsz:X.base.objs.size<=X.s₀.heap.objs.size
 noex:∀b o,X.base.get? b=some o->b∉X.ex
 exfs:∀b∈X.ex,b∉X.fs
 funs:X.s₀.heap.FunFrames X.base X.outer
 frf:∀b∈X.fs,X.H₀ b=none
structure Inv (X:Cx) (pins:List (Db×Obj)) (σ:List (Option V)) (H:Hp) (s:Op):Prop where
 ok:X.Ok
 os:s.os=X.s₀.os
 bare:gX s.gens
 base:Un X.fs X.ex X.H₀ H X.s₀.heap s.heap
 loc:∃m,s.heap.Ns X.env.locals m/\∀(i:Nat) (x:Str) (v:V),X.N[i]?=some x->σ[i]?=some (some v)->Yh X.env.scope x->∃u,RelV v u/\Look X.env s.heap m x u
 cell:∀x c,X.env.cells.lookup x=some c->∃v,s.heap.IsCell c v
 free:H X.env.locals=none
 freeC:∀x c,X.env.cells.lookup x=some c->H c=none
 pin:∀p∈X.pn++pins,s.heap.get? p.1=some p.2/\H p.1=none/\p.1≠X.env.locals/\p.1∉X.fs/\∀v,p.2.data≠.cell v
 hok:HOk X.prog X.w H s.heap
 len:σ.length=X.N.length
section
variable {X:Cx}{pins:List (Addr×Obj)}{σ:List (Option V)}{H H':Hp}{s:Shared}{h':Heap}
theorem Cx.Ok.nofr(ok:X.Ok){b:Db}{o:Obj}(e:X.base.get? b=some o):b∉X.fs:=λhb=>by
 have:=(ok.funs.mem hb).1
 rw [e] at this; cases this
theorem Inv.bs(I:Inv X pins σ H s):∀b o,X.base.get? b=some o->s.heap.get? b=some o/\H b=none:=λb o e =>
 ⟨I.base.keep b o (I.ok.bs b o e).1 (I.ok.bs b o e).2 (I.ok.nofr e) (I.ok.noex b o e),I.base.free b o (I.ok.bs b o e).1 (I.ok.bs b o e).2 (I.ok.noex b o e)⟩
theorem Inv.bk(I:Inv X pins σ H s):∀b o,X.base.get? b=some o->s.heap.get? b=some o:=λb o e=>(I.bs b o e).1
theorem Inv.mod(I:Inv X pins σ H s):Mod X.K X.mg X.base:=I.ok.mod
theorem Inv.kIn(I:Inv X pins σ H s):X.K.In s.heap:=I.ok.mod.kin.keeps I.bk
theorem Inv.lt(I:Inv X pins σ H s):X.env.locals<s.heap.objs.size:=let ⟨_,hn,_⟩:=I.loc; hn.lt
theorem Inv.sz(I:Inv X pins σ H s):X.s₀.heap.objs.size<=s.heap.objs.size:=cG I.ok.above (gf I.lt)
theorem Inv.nofs(I:Inv X pins σ H s){a:Db}(h:s.heap.objs.size<=a):a∉X.fs:=λhb=>by
 obtain⟨_,o,ho,_⟩:=I.ok.funs.mem hb;exact absurd (cJ (XV ho) (cG I.sz h)) (cy _)
theorem Inv.cne(I:Inv X pins σ H s):∀x c,X.env.cells.lookup x=some c->c≠X.env.locals:=λx c e z=>by
 obtain⟨v,o,ho,hd⟩:=I.cell x c e;obtain⟨m,⟨o',es,ep,ho',hd',_⟩,_⟩:=I.loc;rw [z,ho'] at ho; cases ho; rw [hd'] at hd; cases hd
theorem Inv.funs(I:Inv X pins σ H s):s.heap.FunFrames X.base X.outer:=by
 have all:∀(l:List Env),(∀b∈Sd l,b∈X.fs)->X.s₀.heap.FunFrames X.base l->s.heap.FunFrames X.base l:=by
  intro l
  induction l with
  | nil=>intro _ _; trivial
  | cons env r ih =>
   intro hs hl;obtain⟨hk,⟨L,o,hf,hn,ho,hd⟩,hr⟩:=hl;have hL:L∈X.fs:=hs L (by unfold Sd; rw [eS,hf]; exact On);obtain⟨sl,e⟩:=I.base.slot L o ho (I.ok.frf L hL) hL λz=>I.ok.exfs L z hL;exact⟨hk,⟨L,_,hf,hn,e,hd⟩,ih (λb hb=>hs b (by unfold Sd; rw [eS,hf]; exact TM _ hb)) hr⟩
 exact all X.outer (λ_ hb=>hb) I.ok.funs
theorem Inv.stack(I:Inv X pins σ H s):s.heap.FunFrames X.base X.stack:=by
 rcases I.ok.stk with e | ⟨e,hf⟩
 ·rw [e]; exact I.funs
 ·rw [e]
  obtain⟨m,hn,_⟩:=I.loc;refine .cons (by rw [I.ok.kind]; decide) hf hn ?_ I.funs;exact Heap.get?_none_of_le (cG I.ok.bsz I.ok.above)
theorem Inv.stkSub(I:Inv X pins σ H s):∀b∈Sd X.stack,b∈X.env.locals::X.fs:=λb hb=>by
 rcases I.ok.stk with e | ⟨e,hf⟩
 ·rw [e] at hb; exact TM _ hb
 ·rw [e] at hb
  unfold Sd at hb;rw [eS,hf] at hb;exact hb
theorem Inv.stkFree(I:Inv X pins σ H s):∀b∈Sd X.stack,H b=none:=λb hb=>by
 rcases TW.mp (I.stkSub b hb) with e | hb
 ·rw [e]; exact I.free
 ·obtain⟨_,o,ho,_⟩:=I.ok.funs.mem hb
  exact I.base.free b o ho (I.ok.frf b hb) λz=>I.ok.exfs b z hb
theorem Inv.step{g':Array GenState}{t':Nat}{d':Drawn}{ch:List Db}(I:Inv X pins σ H s)
  (hch:∀b∈ch,(b∈X.ex\/X.s₀.heap.objs.size<=b)/\b≠X.env.locals/\(∀x c,X.env.cells.lookup x=some c->c≠b)/\∀p∈X.pn++pins,p.1≠b)
  (keep:∀b o,b≠X.env.locals->b∉X.fs->b∉ch->s.heap.get? b=some o->H b=none->h'.get? b=some o)
  (slot:∀b o,b≠X.env.locals->b∈X.fs->b∉ch->s.heap.get? b=some o->H b=none->∃sl,h'.get? b=some { o with slots:=sl }) (free:∀b o,b∉ch->s.heap.get? b=some o->H b=none->H' b=none)
  (there:∀b o,b∉ch->s.heap.get? b=some o->∃o',h'.get? b=some o')
  (tups:∀b xs,H b=some (.tup xs)->H' b=some (.tup xs)) (frzs:∀b o u,H b=some (.frz o u)->H' b=some (.frz o u)) (tbls:∀b ps,H b=some (.tbl ps)->∃more,H' b=some (.tbl (ps++more)))
  (ns:∀m,s.heap.Ns X.env.locals m->h'.Ns X.env.locals m) (hok:HOk X.prog X.w H' h') (hg:gX g') :
  Inv X pins σ H' { s with heap:=h',gens:=g',drawn:=d',toks:=t' }:=by
 have neL:∀b o,X.s₀.heap.get? b=some o->b≠X.env.locals:=λb o e=>b8 (cJ (XV e) I.ok.above)
 have neC:∀b o,X.s₀.heap.get? b=some o->b∉X.ex->b∉ch:=λb o e hx hb=>by
  rcases (hch b hb).1 with z | z
  ·exact hx z
  ·exact absurd (cJ (XV e) z) (cy _)
 have cellK:∀x c,X.env.cells.lookup x=some c->∀v,s.heap.IsCell c v->h'.IsCell c v:=λx c e v ⟨o,ho,hd⟩=>by
  have nch:c∉ch:=λz=>(hch c z).2.2.1 x c e rfl
  by_cases hc:c∈X.fs
  ·obtain⟨sl,q⟩:=slot c o (I.cne x c e) hc nch ho (I.freeC x c e)
   exact⟨_,q,hd⟩
  ·exact⟨o,keep c o (I.cne x c e) hc nch ho (I.freeC x c e),hd⟩
 refine⟨I.ok,I.os,hg,⟨λb o e n hb hx=>?_,λb o e n hb hx=>?_,λb o e n hx=>?_,λb o e hx=>?_,λb xs e=>tups b xs (I.base.tups b xs e),λb o xs e=>frzs b o xs (I.base.frzs b o xs e),λb ps e=>?_⟩,?_,λx c e=>?_,?_,λx c e=>?_,λp hp=>?_,hok,I.len⟩
 ·exact keep b o (neL b o e) hb (neC b o e hx) (I.base.keep b o e n hb hx) (I.base.free b o e n hx)
 ·obtain⟨sl,e1⟩:=I.base.slot b o e n hb hx
  obtain⟨sl',e2⟩:=slot b _ (neL b o e) hb (neC b o e hx) e1 (I.base.free b o e n hx);exact⟨sl',e2⟩
 ·obtain⟨o',e1⟩:=I.base.there b o e hx
  exact free b o' (neC b o e hx) e1 (I.base.free b o e n hx)
 ·obtain⟨o',e1⟩:=I.base.there b o e hx
  exact there b o' (neC b o e hx) e1
 ·obtain⟨m1,e1⟩:=I.base.tbls b ps e
  obtain⟨m2,e2⟩:=tbls b _ e1;exact⟨m1++m2,by rw [e2,Array.append_assoc]⟩
 ·obtain⟨m,hn,hl⟩:=I.loc
  refine⟨m,ns m hn,λi x v e1 e2 e3=>?_⟩;obtain⟨u,r,l⟩:=hl i x v e1 e2 e3;refine⟨u,r,?_⟩
  rcases l with l | ⟨k,c,e,z⟩
  ·exact .inl l
  ·exact .inr ⟨k,c,e,cellK x c e _ z⟩
 ·obtain⟨v,z⟩:=I.cell x c e
  exact⟨v,cellK x c e v z⟩
 ·obtain⟨m,⟨o,_,_,ho,_⟩,_⟩:=I.loc
  exact free _ o (λz=>(hch _ z).2.1 rfl) ho I.free
 ·obtain⟨v,o,ho,hd⟩:=I.cell x c e
  exact free c o (λz=>(hch c z).2.2.1 x c e rfl) ho (I.freeC x c e)
 ·obtain⟨e,n,ne,nf,d⟩:=I.pin p hp
  have nch:p.1∉ch:=λz=>(hch p.1 z).2.2.2 p hp rfl;exact⟨keep p.1 p.2 ne nf nch e n,free p.1 p.2 nch e n,ne,nf,d⟩
theorem Inv.un{t':Nat}(I:Inv X pins σ H s)(u:Un X.fs [] H H' s.heap h')(hok:HOk X.prog X.w H' h'):Inv X pins σ H' { s with heap:=h',toks:=t' }:=by
 obtain⟨m,⟨o,es,ep,ho,r⟩,_⟩:=id I.loc;obtain⟨sl,hL⟩:=u.any ho I.free (by simp)
 exact I.step (g':=s.gens) (d':=s.drawn) (ch:=[]) (λ_ z=>nomatch z) (λb o _ hb _ e n=>u.keep b o e n hb (by simp)) (λb o _ hb _ e n=>u.slot b o e n hb (by simp)) (λb o _ e n=>u.free b o e n (by simp)) (λb o _ e=>u.there b o e (by simp)) u.tups u.frzs u.tbls (λm' hm=>by
  obtain⟨o',es',ep',ho',r'⟩:=hm;rw [ho] at ho'; cases ho'
  exact⟨_,es',ep',hL,r'⟩) hok I.bare
theorem Inv.call{g':Array GenState}{t':Nat}{d':Drawn}{ch:List Db}(I:Inv X pins σ H s)(u:Un (Sd X.stack) ch H H' s.heap h')(hok:HOk X.prog X.w H' h')(hg:gX g')
  (hch:∀b∈ch,(b∈X.ex\/X.s₀.heap.objs.size<=b)/\b≠X.env.locals/\(∀x c,X.env.cells.lookup x=some c->c≠b)/\∀p∈X.pn++pins,p.1≠b) :
  Inv X pins σ H' { s with heap:=h',gens:=g',drawn:=d',toks:=t' }:=by
 obtain⟨m,⟨o,es,ep,ho,r⟩,_⟩:=id I.loc;obtain⟨sl,hL⟩:=u.any ho I.free λz=>(hch _ z).2.1 rfl
 exact I.step (ch:=ch) hch (λb o hL hb hc e n=>u.keep b o e n (λz=>(TW.mp (I.stkSub b z)).elim hL hb) hc) (λb o _ _ hc e n=>u.any e n hc) (λb o hc e n=>u.free b o e n hc) (λb o hc e=>u.there b o e hc) u.tups u.frzs u.tbls (λm' hm=>by
  obtain⟨o',es',ep',ho',r'⟩:=hm;rw [ho] at ho'; cases ho'
  exact⟨_,es',ep',hL,r'⟩) hok hg
theorem Inv.turned{t':Nat}{it:Db}(I:Inv X pins σ H s)(k:∀b o,b≠it->s.heap.get? b=some o->h'.get? b=some o)(hn:H it=none)(hL:it≠X.env.locals)
  (h1:it∈X.ex\/X.s₀.heap.objs.size<=it) (h2:∀x c,X.env.cells.lookup x=some c->c≠it) (h3:∀p∈X.pn++pins,p.1≠it):Inv X pins σ H { s with heap:=h',toks:=t' }:=by
 have nit:∀b u,H b=some u->b≠it:=λb u e z=>by rw [z,hn] at e; cases e
 refine I.step (g':=s.gens) (d':=s.drawn) (ch:=[it]) (λb hb=>?_) (λb o _ _ hc e _=>k b o (λz=>hc (by simp [z])) e) (λb o _ _ hc e _=>⟨o.slots,k b o (λz=>hc (by simp [z])) e⟩) (λ_ _ _ _ n=>n)
  (λb o hc e=>⟨o,k b o (λz=>hc (by simp [z])) e⟩) (λ_ _ e=>e) (λ_ _ _ e=>e) (λb ps e=>⟨#[],by rw [e]; simp⟩) (λm hm=>?_) (λb u e=>?_) I.bare
 ·have e:b=it:=by simpa using hb
  subst e;exact⟨h1,hL,h2,h3⟩
 ·obtain⟨o,es,ep,ho,r⟩:=hm
  exact⟨o,es,ep,k _ o (ci hL) ho,r⟩
 ·refine(I.hok b u e).stay (λc v hc q=>k c v ?_ q) (λ_ q=>q) λ_ _ q=>q
  rcases hc with z | z
  ·rw [z]; exact nit b u e
  ·exact nit c _ z
theorem Inv.tok(I:Inv X pins σ H s)(t:Nat):Inv X pins σ H { s with toks:=t }:=I.un (h':=s.heap) (t':=t) Un.refl I.hok
theorem Inv.kept{t':Nat}(I:Inv X pins σ H s)(k:∀b u,s.heap.get? b=some u->h'.get? b=some u):Inv X pins σ H { s with heap:=h',toks:=t' }:=I.un (Un.kept k) (I.hok.kept k)
theorem Inv.laid{a:Db}{o:HO}{t':Nat}(I:Inv X pins σ H s)(k:∀b u,s.heap.get? b=some u->h'.get? b=some u)(hp:s.heap.objs.size<=a)(new:ObjOk X.prog X.w (BC H a o) h' a o) :
  Inv X pins σ (BC H a o) { s with heap:=h',toks:=t' }:=I.un (Un.laid k hp (I.hok.fresh hp)) (I.hok.laid k hp new)
theorem Inv.write{x e:Db}{o:HO}{t':Nat}(I:Inv X pins σ H s)(mu:Z1 (H x))(he:e=x\/H e=some (.own x))(k:∀b u,b≠e->s.heap.get? b=some u->h'.get? b=some u)(heo:∃u,h'.get? e=some u)
  (new:ObjOk X.prog X.w (BC H x o) h' x o):Inv X pins σ (BC H x o) { s with heap:=h',toks:=t' }:=I.un (Un.write mu he k heo) (I.hok.write mu he k heo new)
theorem Inv.pins_of{pins':List (Db×Obj)}(I:Inv X pins σ H s)(h:∀p∈pins',s.heap.get? p.1=some p.2/\H p.1=none/\p.1≠X.env.locals/\p.1∉X.fs/\∀v,p.2.data≠.cell v):Inv X pins' σ H s :=
 ⟨I.ok,I.os,I.bare,I.base,I.loc,I.cell,I.free,I.freeC,λp hp=>(b_.mp hp).elim (λz=>I.pin p (c0 _ z)) (h p),I.hok,I.len⟩
theorem N7{N:List Str}(hN:N.Nodup){i j:Nat}{x:Str}(a:N[i]?=some x)(b:N[j]?=some x):i=j:=by
 obtain⟨h1,e1⟩:=bh.mp a;obtain⟨h2,e2⟩:=bh.mp b;exact(List.getElem_inj hN).mp (e1.trans e2.symm)
theorem LP{M:Model}{A:cw}{E:Ev->Op->Prop}{i:Nat}{x:Str}{v:V}{u:Ev}{Q:Unit->Op->Prop}(I:Inv X pins σ H s)(hN:X.N.Nodup)(hi:X.N[i]?=some x)(hx:Loc X.env.scope x)(r:RelV v u)
  (h:∀s',Inv X pins (σ.set i (some v)) H s'->(∃a,fe a s.heap s'.heap/\(a=X.env.locals\/X.env.cells.lookup x=some a))->Q () s') (hf:X.fn x=true\/X.env.scope.names.lookup x=some .local:=by first | exact .inl rfl | exact .inr rfl | assumption):wpAny M A (storeName X.env x u) Q E s:=by
 obtain⟨m,hn,hl⟩:=id I.loc;have hcls:(X.env.scope.kind==.class||(X.env.scope.kind==.module&&X.env.locals != X.env.globals))=false:=by rw [I.ok.kind]; rfl
 have hiσ:i<σ.length:=by rw [I.len]; exact(bh.mp hi).1
 have cne:=I.cne
 have tracked:∀{a:Db} {h':b9},(∃o,s.heap.get? a=some o/\H a=none)->fe a s.heap h'->HOk X.prog X.w H h':=λ{a h'} ha hs b ob e=>by
  obtain⟨_,_,hfree⟩:=ha;refine(I.hok b ob e).stay (λc w' hc q=>(hs.2 c ?_).trans q) (λ_ q=>q) λ_ _ q=>q;rintro rfl
  rcases hc with rfl | hc
  ·rw [hfree] at e; cases e
  ·rw [hfree] at hc; cases hc
 rcases hx with hk | hk
 ·refine wpAny_storeName_local hk hn (λh' hn' hs=>?_) hcls
  obtain⟨oL,_,_,hoL,_⟩:=id hn;refine h _ ⟨I.ok,I.os,I.bare,⟨λb o e n hb hx=>?_,λb o e n hb hx=>?_,I.base.free,λb o e hx=>?_,I.base.tups,I.base.frzs,I.base.tbls⟩,⟨_,hn',λj y v' e1 e2 e3=>?_⟩,λy c e=>?_,I.free,I.freeC,λp hp=>?_,tracked ⟨oL,hoL,I.free⟩ hs,by simpa using I.len⟩ ⟨_,hs,.inl rfl⟩
  ·exact(hs.2 b (b8 (cJ (XV e) I.ok.above))).trans (I.base.keep b o e n hb hx)
  ·obtain⟨sl,e1⟩:=I.base.slot b o e n hb hx
   exact⟨sl,(hs.2 b (b8 (cJ (XV e) I.ok.above))).trans e1⟩
  ·obtain⟨o',e1⟩:=I.base.there b o e hx
   exact⟨o',(hs.2 b (b8 (cJ (XV e) I.ok.above))).trans e1⟩
  ·by_cases hj:j=i
   ·subst hj
    rw [hi] at e1; cases e1
    rw [iw hiσ] at e2;cases e2;exact⟨u,r,.inl ⟨hk,by simp⟩⟩
   ·rw [List.getElem?_set_ne (ci hj)] at e2
    obtain⟨u',r',q⟩:=hl j y v' e1 e2 e3;refine⟨u',r',?_⟩
    rcases q with ⟨k,e⟩ | ⟨k,c,e,z⟩
    ·refine .inl ⟨k,?_⟩
     have:y≠x:=λe=>hj (N7 hN e1 (e▸hi))
     simp [this,e]
    ·exact .inr ⟨k,c,e,z.sameBut hs (cne y c e)⟩
  ·obtain⟨w',z⟩:=I.cell y c e
   exact⟨w',z.sameBut hs (cne y c e)⟩
  ·obtain⟨e,n,ne,nf,d⟩:=I.pin p hp
   exact⟨(hs.2 p.1 ne).trans e,n,ne,nf,d⟩
 ·have hfn:X.fn x=true:=by
   rcases hf with z | z
   ·exact z
   ·rw [z] at hk; cases hk
  obtain⟨c,hc⟩:=I.ok.has x (.inl hk);obtain⟨w',z⟩:=I.cell x c hc;refine wpAny_storeName_cell I.ok.kind hk hc z (λh' hc' hs=>?_);obtain⟨oc,hoc,hocd⟩:=id z;refine h { s with heap:=h' } ⟨I.ok,I.os,I.bare,⟨λb o e n hb hx=>?_,λb o e n hb hx=>?_,I.base.free,λb o e hx=>?_,I.base.tups,I.base.frzs,I.base.tbls⟩,⟨m,hn.sameBut hs (ci (cne x c hc)),λj y v' e1 e2 e3=>?_⟩,λy c' e=>?_,I.free,I.freeC,λp hp=>?_,tracked ⟨oc,hoc,I.freeC x c hc⟩ hs,by simpa using I.len⟩ ⟨c,hs,.inr hc⟩
  ·exact(hs.2 b (b8 (cJ (XV e) (I.ok.cab x c hfn hc)))).trans (I.base.keep b o e n hb hx)
  ·obtain⟨sl,e1⟩:=I.base.slot b o e n hb hx
   exact⟨sl,(hs.2 b (b8 (cJ (XV e) (I.ok.cab x c hfn hc)))).trans e1⟩
  ·obtain⟨o',e1⟩:=I.base.there b o e hx
   exact⟨o',(hs.2 b (b8 (cJ (XV e) (I.ok.cab x c hfn hc)))).trans e1⟩
  ·by_cases hj:j=i
   ·subst hj
    rw [hi] at e1; cases e1
    rw [iw hiσ] at e2;cases e2;exact⟨u,r,.inr ⟨.inl hk,c,hc,hc'⟩⟩
   ·rw [List.getElem?_set_ne (ci hj)] at e2
    obtain⟨u',r',q⟩:=hl j y v' e1 e2 e3;refine⟨u',r',?_⟩
    rcases q with q | ⟨k,c',e,z'⟩
    ·exact .inl q
    ·refine .inr ⟨k,c',e,z'.sameBut hs ?_⟩
     rintro rfl;exact hj (N7 hN e1 (I.ok.inj _ _ _ e hc▸hi))
  ·by_cases hcc:c'=c
   ·subst hcc; exact⟨_,hc'⟩
   ·obtain⟨w2,z2⟩:=I.cell y c' e
    exact⟨w2,z2.sameBut hs hcc⟩
  ·obtain⟨e,n,ne,nf,d⟩:=I.pin p hp
   refine⟨(hs.2 p.1 ?_).trans e,n,ne,nf,d⟩;intro q;rw [q,hoc] at e;have q':oc=p.2:=bg e;exact d w' (by rw [← q']; exact hocd)
theorem JZ{M:Model}{A:cw}{E:Ev->Op->Prop}{i:Nat}{x:Str}{v:V}{u:Ev}{Q:Unit->Op->Prop}(I:Inv X pins σ H s)(hN:X.N.Nodup)(hi:X.N[i]?=some x)(hx:Loc X.env.scope x)(r:RelV v u)
  (h:∀s',Inv X pins (σ.set i (some v)) H s'->Q () s') (hf:X.fn x=true\/X.env.scope.names.lookup x=some .local:=by first | exact .inl rfl | exact .inr rfl | assumption):wpAny M A (storeName X.env x u) Q E s :=
 LP I hN hi hx r (λs' I' _=>h s' I') hf
theorem Inv.call'{s':Op}{ch:List Db}(I:Inv X pins σ H s)(ho:s'.os=s.os)(u:Un (Sd X.stack) ch H H' s.heap s'.heap)(hok:HOk X.prog X.w H' s'.heap)(hg:gX s'.gens)
  (hch:∀b∈ch,(b∈X.ex\/X.s₀.heap.objs.size<=b)/\b≠X.env.locals/\(∀x c,X.env.cells.lookup x=some c->c≠b)/\∀p∈X.pn++pins,p.1≠b):Inv X pins σ H' s':=by
 obtain⟨h',g',d',t',o'⟩:=s';have e:o'=s.os:=ho;subst e;exact I.call (g':=g') (t':=t') (d':=d') u hok hg hch
end
abbrev XK:=Ev->Option Db->Hp->Prop
abbrev St:=List (Option V)
abbrev VK:=V->Hp->Prop
abbrev TE:=St->Hp->VK->Prop
abbrev TT:=St->Hp->(Bool->Hp->Prop)->Prop
abbrev TA:=St->Hp->(List V->Hp->Prop)->Prop
structure Ends where
 nx:St->Hp->Prop
 rt:VK
 bk:St->Hp->Prop:=λ_ _=>False
 ct:St->Hp->Prop:=λ_ _=>False
abbrev TS:=Ends->St->Hp->Prop
def EP(X:Cx)(pins:List (Db×Obj))(σ:St)(Q:VK)(u:Ev)(s':Op):Prop:=∃v H',Inv X pins σ H' s'/\RelV v u/\Q v H'
def TP(X:Cx)(pins:List (Db×Obj))(σ:St)(Q:Bool->Hp->Prop)(b:Bool)(s':Op):Prop:=∃H',Inv X pins σ H' s'/\Q b H'
def AP(X:Cx)(pins:List (Db×Obj))(σ:St)(Q:List V->Hp->Prop)(us:List Ev)(s':Op):Prop:=∃vs H',Inv X pins σ H' s'/\Vals vs us/\Q vs H'
def SP(X:Cx)(pins:List (Db×Obj))(D:Ends)(f:Flow)(s':Op):Prop :=
 match f with
 | .next=>∃σ' H',Inv X pins σ' H' s'/\D.nx σ' H'
 | .brk=>∃σ' H',Inv X pins σ' H' s'/\D.bk σ' H'
 | .cont=>∃σ' H',Inv X pins σ' H' s'/\D.ct σ' H'
 | .ret u=>∃v σ' H',Inv X pins σ' H' s'/\RelV v u/\D.rt v H'
def PE(X:Cx)(e:cC)(t:TE):Prop :=
 ∀(pins:List (Db×Obj)) (s:Op) (σ:St) (H:Hp) (Q:VK),Inv X pins σ H s->t σ H Q->wpAny (model X.prog X.w) X.A (eval e X.env) (EP X pins σ Q) X.xe s
def PT(X:Cx)(e:cC)(t:TT):Prop :=
 ∀(pins:List (Db×Obj)) (s:Op) (σ:St) (H:Hp) (Q:Bool->Hp->Prop),Inv X pins σ H s->t σ H Q->wpAny (model X.prog X.w) X.A (isTrue e X.env (eval e X.env)) (TP X pins σ Q) X.xe s
def PW(X:Cx)(e:cC)(t:TT):Prop :=
 ∀(whole:Sem Ev) (pins:List (Db×Obj)) (s:Op) (σ:St) (H:Hp) (Q:Bool->Hp->Prop),Inv X pins σ H s->t σ H Q->wpAny (model X.prog X.w) X.A (isTrue e X.env whole) (TP X pins σ Q) X.xe s
theorem PW.pt{X:Cx}{e:cC}{t:TT}(h:PW X e t):PT X e t:=h _
def PA(X:Cx)(es:List cC)(t:TA):Prop :=
 ∀(pos:Pos) (pins:List (Db×Obj)) (s:Op) (σ:St) (H:Hp) (Q:List V->Hp->Prop),Inv X pins σ H s->t σ H Q->wpAny (model X.prog X.w) X.A (spliced (backTo pos (starEach es X.env))) (AP X pins σ Q) X.xe s
def PS(X:Cx)(st:cS)(t:TS):Prop :=
 ∀(pins:List (Db×Obj)) (s:Op) (σ:St) (H:Hp) (D:Ends),Inv X pins σ H s->t D σ H->wpAny (model X.prog X.w) X.A (exec st X.env) (SP X pins D) X.xe s
def PSs(X:Cx)(st:List cS)(t:TS):Prop :=
 ∀(pins:List (Db×Obj)) (s:Op) (σ:St) (H:Hp) (D:Ends),Inv X pins σ H s->t D σ H->wpAny (model X.prog X.w) X.A (execs st X.env) (SP X pins D) X.xe s
theorem thn{α:Type}{t:Sem α}{Q Q':α->Op->Prop}{M:Model}{A:cw}{E:Ev->Op->Prop}{s:Op}(h:wpAny M A t Q E s)(hQ:∀a s,Q a s->Q' a s):wpAny M A t Q' E s:=c7 h hQ λ_ _ x=>x
section
variable {X:Cx}
def B3(i:Nat):TE:=λσ H Q=>∃v,σ[i]?=some (some v)/\Q v H
def tC(v:V):TE:=λ_ H Q=>Q v H
theorem MP{i:Nat}{x:Str}{pos:Pos}(hN:X.N[i]?=some x)(hv:Yh X.env.scope x)(hd:(x==("__debug__":Str))=false:=by decide)(hcd:(x==("__classdict__":Str))=false:=by decide):PE X (.Name x pos) (B3 i):=by
 intro pins s σ H Q I h;obtain⟨v,e,h⟩:=h;obtain⟨m,hn,hl⟩:=I.loc;obtain⟨u,r,l⟩:=hl i x v hN e hv;have fin:EP X pins σ Q u s:=⟨v,H,I,r,h⟩
 rcases l with ⟨hk,hm⟩ | ⟨hk,c,hc,hcell⟩
 ·exact wpAny_Name (wpAny_loadName_local I.ok.kind hk hn hm fin) hd
 ·rcases hk with hk | hk
  ·exact wpAny_Name (wpAny_loadName_cell I.ok.kind hk hc hcell fin) hd
  ·exact wpAny_Name (wpAny_loadName_free I.ok.kind hk hc hcell fin hcd) hd
theorem A_{i j pos}:PE X (.Constant (.int i) j pos) (tC (.int i)):=λ_ _ _ H _ I h=>wpAny_Constant_int ⟨.int i,H,I.tok _,⟨_,rfl⟩,h⟩
theorem ZV{b j pos}:PE X (.Constant (.bool b) j pos) (tC (.bl b)):=λ_ _ _ H _ I h=>Constant_bool ⟨.bl b,H,I,rfl,h⟩
theorem Xw{j pos}:PE X (.Constant .none j pos) (tC .non):=λ_ _ _ H _ I h=>Constant_none ⟨.non,H,I,rfl,h⟩
theorem Xs{x j pos}:PE X (.Constant (.str x) j pos) (tC (.str x)):=λ_ _ _ H _ I h=>Calls.Constant_str ⟨.str x,H,I.tok _,⟨_,rfl⟩,h⟩
def Gl(X:Cx)(x:Str):Prop:=X.env.kindOf x=some .globalImplicit
theorem QX{E:Ev->Op->Prop}{pins:List (Db×Obj)}{s:Op}{σ:St}{H:Hp}{x:Str}{u:Ev}{pos:Pos}{Q:Ev->Op->Prop}(I:Inv X pins σ H s)(hg:Gl X x)(hm:X.mg x=some u)(h:Q u s)
  (hd:(x==("__debug__":Str))=false:=by decide):wpAny (model X.prog X.w) X.A (eval (.Name x pos) X.env) Q E s :=
 iA I.ok.kind hg (Calls.loadGlobal_global (by rw [I.ok.glob]; exact I.mod.glob.keeps I.bk) hm h) hd
theorem Cw{E:Ev->Op->Prop}{pins:List (Db×Obj)}{s:Op}{σ:St}{H:Hp}{x:Str}{u:Ev}{pos:Pos}{Q:Ev->Op->Prop}(I:Inv X pins σ H s)(hg:Gl X x)(hm:X.mg x=none)(hv:bootBuiltins x=some u)(h:Q u s)
  (hn:x ≠ "__name__":=by decide) (hd:(x==("__debug__":Str))=false:=by decide):wpAny (model X.prog X.w) X.A (eval (.Name x pos) X.env) Q E s:=by
 obtain⟨mb,h1,h2⟩:=I.mod.blt;exact iA I.ok.kind hg (Calls.loadGlobal_builtin (by rw [I.ok.glob]; exact I.mod.glob.keeps I.bk) hm (by rw [I.ok.blt]; exact h1.keeps I.bk) ((h2 x hn).trans hv) h) hd
theorem Vd{x:Str}{v:V}{u:Ev}{pos:Pos}(hg:Gl X x)(hm:X.mg x=none)(hv:bootBuiltins x=some u)(r:RelV v u)(hn:x ≠ "__name__":=by decide)(hd:(x==("__debug__":Str))=false:=by decide):PE X (.Name x pos) (tC v) :=
 λ_ _ _ H _ I h=>Cw I hg hm hv ⟨v,H,I,r,h⟩ hn hd
variable {a b:Expr}{ta tb:TE}{pos:Pos}
def tB(t:TE):TT:=λσ H Q=>t σ H λx H1=>∃c,x=.bl c/\Q c H1
theorem Xo{e:cC}{t:TE}(h:PE X e t)(he:∀whole,isTrue e X.env whole=(do let v ← whole; standAt e.pos; holding [v] (truthy v)):=by intro _; rfl):PT X e (tB t):=by
 intro pins s σ H Q I hw;refine isTrue_plain (thn (h pins s σ H _ I hw) λv s1 ⟨x,H1,I1,r1,q1⟩=>?_) (he _);obtain⟨d,rfl,q⟩:=q1;cases r1;exact eN ⟨H1,I1,q⟩
variable {tA tB':TT}{rest:List Expr}
def ZC(t u:TT):TT:=λσ H Q=>t σ H λc H1=>if c=true then u σ H1 Q else Q false H1
def bT(t u:TT):TT:=λσ H Q=>t σ H λc H1=>if c=true then Q true H1 else u σ H1 Q
def aT(t:TT):TT:=λσ H Q=>t σ H λc H1=>Q (!c) H1
theorem QE(ha:PT X a tA):PW X (.BoolOp .And [a] pos) tA:=by
 intro wh pins s σ H Q I h;refine isTrue_and (thn (ha pins s σ H Q I h) λc s1 e=>?_);cases c with
 | true=>exact isTrue_and_nil e
 | false=>exact e
theorem Xn(ha:PT X a tA):PW X (.BoolOp .Or [a] pos) tA:=by
 intro wh pins s σ H Q I h;refine isTrue_or (thn (ha pins s σ H Q I h) λc s1 e=>?_);cases c with
 | false=>exact isTrue_or_nil e
 | true=>exact e
theorem TN(ha:PT X a tA)(hb:PW X (.BoolOp .And (b::rest) pos) tB'):PW X (.BoolOp .And (a::b::rest) pos) (ZC tA tB'):=by
 intro wh pins s σ H Q I h;refine isTrue_and (thn (ha pins s σ H _ I h) λc s1 ⟨H1,I1,q1⟩=>?_);cases c with
 | true=>exact hb wh pins s1 σ H1 Q I1 q1
 | false=>exact⟨H1,I1,q1⟩
theorem ZT(ha:PT X a tA)(hb:PW X (.BoolOp .Or (b::rest) pos) tB'):PW X (.BoolOp .Or (a::b::rest) pos) (bT tA tB'):=by
 intro wh pins s σ H Q I h;refine isTrue_or (thn (ha pins s σ H _ I h) λc s1 ⟨H1,I1,q1⟩=>?_);cases c with
 | true=>exact⟨H1,I1,q1⟩
 | false=>exact hb wh pins s1 σ H1 Q I1 q1
theorem Xp(ha:PT X a tA):PT X (.UnaryOp .Not a pos) (aT tA):=by
 intro pins s σ H Q I h;exact isTrue_not (ha pins s σ H (λc H1=>Q (!c) H1) I h)
def ZA(ta tb:TE):TE:=λσ H Q=>ta σ H λx H1=>∃c,x=.bl c/\if c=true then tb σ H1 Q else Q (.bl false) H1
def Y6(ta:TE):TE:=λσ H Q=>ta σ H λx H1=>∃c,x=.bl c/\Q (.bl (!c)) H1
theorem Xu{op}{t:TE}(h:PE X a t):PE X (.BoolOp op [a] pos) t:=λpins s σ H Q I hw=>BoolOp_one (h pins s σ H Q I hw)
theorem Xx(ha:PE X a ta)(hb:PE X (.BoolOp .And (b::rest) pos) tb):PE X (.BoolOp .And (a::b::rest) pos) (ZA ta tb):=by
 intro pins s σ H Q I h;refine BoolOp_and (thn (ha pins s σ H _ I h) λv s1 ⟨x,H1,I1,r1,q1⟩=>?_);obtain⟨c,rfl,q1⟩:=q1;cases r1;refine eN ?_;cases c with
 | true=>exact hb pins s1 σ H1 Q I1 q1
 | false=>exact⟨.bl false,H1,I1,rfl,q1⟩
theorem Xv(ha:PE X a ta):PE X (.UnaryOp .Not a pos) (Y6 ta):=by
 intro pins s σ H Q I h;refine UnaryOp_ (thn (ha pins s σ H _ I h) λv s1 ⟨x,H1,I1,r1,q1⟩=>?_);obtain⟨c,rfl,q1⟩:=q1;cases r1;exact not_of (eN ⟨.bl (!c),H1,I1,rfl,q1⟩)
def bU(t:TT)(ta tb:TE):TE:=λσ H Q=>t σ H λc H1=>if c=true then ta σ H1 Q else tb σ H1 Q
theorem Nu{c:cC}(hc:PT X c tA)(ha:PE X a ta)(hb:PE X b tb):PE X (.IfExp c a b pos) (bU tA ta tb):=by
 intro pins s σ H Q I h;refine wpAny_IfExp (thn (hc pins s σ H _ I h) λd s1 ⟨H1,I1,q1⟩=>?_);cases d with
 | true=>exact ha pins s1 σ H1 Q I1 q1
 | false=>exact hb pins s1 σ H1 Q I1 q1
end
def SqL(K:Frag)(H:Hp)(a:Db)(xs:List V):Prop :=
 Rd H a (.lst xs) \/
  ∃(o:Obj) (its:Array Ev) (n:Nat),K.lookup a=some o/\o.cls=.type "list"/\o.dict=none/\o.data=.seq its n/\its.size<=sizeLine/\Vals xs its.toList
def SqT(K:Frag)(H:Hp)(a:Db)(xs:List V):Prop :=
 Rd H a (.tup xs) \/
  ∃(o:Obj) (its:Array Ev) (n:Nat),K.lookup a=some o/\o.cls=.type "tuple"/\o.data=.seq its n/\its.size<=sizeLine/\Vals xs its.toList
def az:Ev->Option V
 | .none=>some .non
 | .bool b=>some (.bl b)
 | .int i _=>some (.int i)
 | .str x _=>some (.str x)
 | .bytes b _=>some (.byt b)
 | .float b _=>some (.flt b)
 | .ref a=>some (.ref a)
 | .type n=>some (.ty n)
 | _=>none
theorem RelV.abs{x:V}{u:Ev}(r:RelV x u):az u=some x:=by
 cases x with
 | non=>cases r; rfl
 | bl _=>cases r; rfl
 | int _=>obtain⟨t,rfl⟩:=r; rfl
 | str _=>obtain⟨t,rfl⟩:=r; rfl
 | byt _=>obtain⟨t,rfl⟩:=r; rfl
 | flt _=>obtain⟨t,rfl⟩:=r; rfl
 | ref _=>cases r; rfl
 | ty _=>cases r; rfl
theorem RelV.inj{x y:V}{u:Ev}(r:RelV x u)(q:RelV y u):x=y:=bg (r.abs.symm.trans q.abs)
theorem Vals.inj:∀{xs ys:List V} {us:List Ev},Vals xs us->Vals ys us->xs=ys
 | _,_,_,.nil,.nil=>rfl
 | _,_,_,.cons r t,.cons r' t'=>by rw [r.inj r',Vals.inj t t']
section
variable {X:Cx}{pins:List (Addr×Obj)}{σ:St}{H:Hp}{s:Shared}{a:Addr}{xs ys:List V}
theorem SqL.of{K:Frag}(h:H a=some (.lst xs)):SqL K H a xs:=.inl (.inl h)
theorem SqT.of{K:Frag}(h:H a=some (.tup xs)):SqT K H a xs:=.inl (.inl h)
theorem Inv.list(I:Inv X pins σ H s)(h:SqL X.K H a xs):∃its:List Ev,Vals xs its/\PlainL s.heap a its.toArray/\xs.length<=sizeLine:=by
 rcases h with h | ⟨o,its,n,hk,hc,hd,hs,hz,r⟩
 ·obtain⟨z,its,n,r,e⟩:=h.ok I.hok
  exact⟨its,r,⟨_,n,e,rfl,rfl,rfl⟩,z⟩
 ·refine⟨its.toList,r,⟨o,n,I.kIn a o hk,hc,hd,by simpa using hs⟩,?_⟩
  have e:=r.length;simp only [cn] at e;omega
theorem Inv.tuple(I:Inv X pins σ H s)(h:SqT X.K H a xs):∃its:List Ev,Vals xs its/\IsTup s.heap a its.toArray/\xs.length<=sizeLine:=by
 rcases h with h | ⟨o,its,n,hk,hc,hs,hz,r⟩
 ·obtain⟨z,its,r,p⟩:=h.ok I.hok
  exact⟨its,r,p.tup,z⟩
 ·refine⟨its.toList,r,⟨o,I.kIn a o hk,hc,n,by simpa using hs⟩,?_⟩
  have e:=r.length;simp only [cn] at e;omega
theorem Inv.list_inj(I:Inv X pins σ H s)(h:SqL X.K H a xs)(h':SqL X.K H a ys):xs=ys:=by
 obtain⟨its,r,⟨o,n,e,_,_,d⟩,_⟩:=I.list h;obtain⟨its',r',⟨o',n',e',_,_,d'⟩,_⟩:=I.list h';rw [e] at e'; cases e'
 rw [d] at d';injection d' with d1 _
 have:its=its':=by simpa using congrArg Array.toList d1
 subst this;exact r.inj r'
theorem Inv.tuple_inj(I:Inv X pins σ H s)(h:SqT X.K H a xs)(h':SqT X.K H a ys):xs=ys:=by
 obtain⟨its,r,⟨o,e,_,n,d⟩,_⟩:=I.tuple h;obtain⟨its',r',⟨o',e',_,n',d'⟩,_⟩:=I.tuple h';rw [e] at e'; cases e'
 rw [d] at d';injection d' with d1 _
 have:its=its':=by simpa using congrArg Array.toList d1
 subst this;exact r.inj r'
end
abbrev Cx.wish(X:Cx)(E:Ev->Op->Prop):Cx:={ X with xe:=E }
abbrev Cx.nox(X:Cx):Cx:=X.wish λ_ _=>False
theorem Cx.Ok.wish{X:Cx}(ok:X.Ok)(E:Ev->Op->Prop):(X.wish E).Ok :=
 ⟨ok.mod,ok.kind,ok.glob,ok.blt,ok.above,ok.inj,ok.has,ok.cab,ok.hd,ok.frames,ok.stk,ok.exf,ok.bs,ok.bsz,ok.noex,ok.exfs,ok.funs,ok.frf⟩
theorem Cx.Ok.unwish{X:Cx}{E:Ev->Op->Prop}(ok:(X.wish E).Ok):X.Ok :=
 ⟨ok.mod,ok.kind,ok.glob,ok.blt,ok.above,ok.inj,ok.has,ok.cab,ok.hd,ok.frames,ok.stk,ok.exf,ok.bs,ok.bsz,ok.noex,ok.exfs,ok.funs,ok.frf⟩
section
variable {X:Cx}{pins:List (Addr×Obj)}{σ:St}{H:Hp}{s:Shared}{E:Value->Shared->Prop}
theorem Inv.wish(I:Inv X pins σ H s)(E:Ev->Op->Prop):Inv (X.wish E) pins σ H s:=⟨I.ok.wish E,I.os,I.bare,I.base,I.loc,I.cell,I.free,I.freeC,I.pin,I.hok,I.len⟩
theorem Inv.unwish(I:Inv (X.wish E) pins σ H s):Inv X pins σ H s:=⟨I.ok.unwish,I.os,I.bare,I.base,I.loc,I.cell,I.free,I.freeC,I.pin,I.hok,I.len⟩
theorem SP.unwish{D:Ends}{f:Flow}{s':Op}(h:SP (X.wish E) pins D f s'):SP X pins D f s':=by
 cases f with
 | next=>obtain⟨σ',H',I,q⟩:=h; exact⟨σ',H',I.unwish,q⟩
 | brk=>obtain⟨σ',H',I,q⟩:=h; exact⟨σ',H',I.unwish,q⟩
 | cont=>obtain⟨σ',H',I,q⟩:=h; exact⟨σ',H',I.unwish,q⟩
 | ret u=>obtain⟨v,σ',H',I,r,q⟩:=h; exact⟨v,σ',H',I.unwish,r,q⟩
theorem PSs.nox{st:List cS}{t:TS}(h:PSs X.nox st t):PSs X st t:=λpins s σ H D I hw =>
 c7 (h pins s σ H D (I.wish _) hw) (λ_ _ q=>q.unwish) λ_ _ z=>dg z
end
section
variable {X:Cx}{st:Stmt}{rest:List Stmt}{t u:TS}{e:Expr}{te:TE}{pos:Pos}
def Wd:TS:=λD σ H=>D.nx σ H
def RG(t u:TS):TS:=λD σ H=>t { D with nx:=u D } σ H
theorem ML:PSs X [] Wd:=λ_ _ σ H _ I h=>gg ⟨σ,H,I,h⟩
theorem BL(h1:PS X st t)(h2:PSs X rest u):PSs X (st::rest) (RG t u):=by
 intro pins s σ H D I h;refine wpAny_execs_cons (thn (h1 pins s σ H { D with nx:=u D } I h) λf s1 q=>?_);cases f with
 | next =>
  obtain⟨σ',H',I',q⟩:=q;exact h2 pins s1 σ' H' D I' q
 | ret v=>exact q
 | brk=>exact q
 | cont=>exact q
theorem De(h1:PS X st t):PSs X [st] t:=by
 intro pins s σ H D I h;refine wpAny_execs_cons (thn (h1 pins s σ H D I h) λf s1 q=>?_);cases f with
 | next=>exact gg q
 | ret v=>exact q
 | brk=>exact q
 | cont=>exact q
theorem Inv.quiet{pins:List (Db×Obj)}{σ:St}{H:Hp}{s:Op}(I:Inv X pins σ H s):interactive X.env=false:=by simp [interactive,I.ok.kind]
def Y8(te:TE):TS:=λD σ H=>te σ H λ_ H1=>D.nx σ H1
theorem VT(he:PE X e te)(hs:swapsWith e none pos.line X.env=pure false:=by rfl):PS X (.Expr e pos) (Y8 te):=by
 intro pins s σ H D I h;exact wpAny_Expr_any (thn (he pins s σ H _ I h) λv s1 ⟨x,H1,I1,r1,q1⟩=>⟨σ,H1,I1,q1⟩) I.quiet hs
def VI(te:TE):TS:=λD σ H=>te σ H D.rt
theorem GF(he:PE X e te):PS X (.Return (some e) pos) (VI te):=by
 intro pins s σ H D I h;exact wpAny_Return_some (thn (he pins s σ H _ I h) λv s1 ⟨x,H1,I1,r1,q1⟩=>⟨x,σ,H1,I1,r1,q1⟩)
def Y7(c:TT)(t u:TS):TS:=λD σ H=>c σ H λb H1=>if b=true then t D σ H1 else u D σ H1
theorem TV{c:cC}{a b:List cS}{tc:TT}(hc:PT X c tc)(ha:PSs X a t)(hb:PSs X b u):PS X (.If c a b pos) (Y7 tc t u):=by
 intro pins s σ H D I h;refine wpAny_If (thn (hc pins s σ H _ I h) λd s1 ⟨H1,I1,q1⟩=>?_);cases d with
 | true=>exact ha pins s1 σ H1 D I1 q1
 | false=>exact hb pins s1 σ H1 D I1 q1
end
abbrev TG:=V->St->Hp->(St->Hp->Prop)->Prop
abbrev Yk:=List V->St->Hp->(St->Hp->Prop)->Prop
def PG(X:Cx)(target:cC)(t:TG):Prop :=
 ∀(pins:List (Db×Obj)) (s:Op) (σ:St) (H:Hp) (v:V) (u:Ev) (Q:St->Hp->Prop),Inv X pins σ H s->RelV v u->t v σ H Q ->
  wpAny (model X.prog X.w) X.A (assign target X.env u) (λ_ s'=>∃σ' H',Inv X pins σ' H' s'/\Q σ' H') X.xe s
def Zz(X:Cx)(ts:List cC)(t:Yk):Prop :=
 ∀(pins:List (Db×Obj)) (s:Op) (σ:St) (H:Hp) (vs:List V) (us:List Ev) (Q:St->Hp->Prop),Inv X pins σ H s->Vals vs us->t vs σ H Q ->
  wpAny (model X.prog X.w) X.A (assignInOrder ((assignEach ts X.env).map (·.2)) us) (λ_ s'=>∃σ' H',Inv X pins σ' H' s'/\Q σ' H') X.xe s
abbrev Yj:=V->V->V->Hp->(Hp->Prop)->Prop
def Zx(X:Cx)(t:Yj):Prop :=
 ∀(pins:List (Db×Obj)) (s:Op) (σ:St) (H:Hp) (o i v:V) (ov iv u:Ev) (Q:Hp->Prop),Inv X pins σ H s->RelV o ov->RelV i iv->RelV v u->t o i v H Q ->
  wpAny (model X.prog X.w) X.A (setItem ov iv u) (λ_ s'=>∃H',Inv X pins σ H' s'/\Q H') X.xe s
abbrev aJ:=V->V->Hp->VK->Prop
def bM(X:Cx)(op:Operator)(t:aJ):Prop :=
 ∀(pins:List (Db×Obj)) (s:Op) (σ:St) (H:Hp) (x y:V) (v u:Ev) (Q:VK),Inv X pins σ H s->RelV x v->RelV y u->t x y H Q ->
  wpAny (model X.prog X.w) X.A (inplaceOp op v u) (EP X pins σ Q) X.xe s
section
variable {X:Cx}{pos:Pos}
def IH(i:Nat):TG:=λv σ H Q=>Q (σ.set i (some v)) H
theorem Gj{i:Nat}{x:Str}(hN:X.N.Nodup)(hi:X.N[i]?=some x)(hx:Loc X.env.scope x)(hf:X.fn x=true\/X.env.scope.names.lookup x=some .local:=by first | exact .inl rfl | exact .inr rfl | assumption):PG X (.Name x pos) (IH i):=by
 intro pins s σ H v u Q I r h;exact wpAny_assign_Name (JZ I hN hi hx r (λs' I'=>⟨_,H,I',h⟩) hf)
def aq:Yk:=λvs σ H Q=>vs=[]/\Q σ H
def Zf(t:TG)(u:Yk):Yk:=λvs σ H Q=>∃v r,vs=v::r/\t v σ H λσ' H'=>u r σ' H' Q
theorem QJ:Zz X [] aq:=by
 intro pins s σ H vs us Q I r h;obtain⟨e,h⟩:=h;subst e;cases r;exact assignInOrder_nil ⟨σ,H,I,h⟩
theorem Gi{e:cC}{es:List cC}{t:TG}{u:Yk}(h1:PG X e t)(h2:Zz X es u)
  (hs:(assignEach (e::es) X.env).map (·.2)=assign e X.env::(assignEach es X.env).map (·.2):=by rfl):Zz X (e::es) (Zf t u):=by
 intro pins s σ H vs us Q I r h;obtain⟨v,vr,e1,h⟩:=h;subst e1;cases r with
 | cons r rr =>
  rw [hs];refine assignInOrder_cons (thn (h1 pins s σ H _ _ _ I r h) λ_ s1 ⟨σ1,H1,I1,q1⟩=>?_);exact h2 pins s1 σ1 H1 _ _ Q I1 rr q1
def ao(K:Frag)(n:Nat)(t:Yk):TG:=λv σ H Q=>∃a xs,v=.ref a/\SqT K H a xs/\xs.length=n/\t xs σ H Q
theorem Tc{es:List cC}{k:Nat}{t:Yk}{n:Nat}(hc:X.calm=true)(h:Zz X es t)
  (hn:(assignEach es X.env).length=n:=by rfl) (hst:(assignEach es X.env).findIdx? (·.1)=none:=by rfl):PG X (.Tuple es k pos) (ao X.K n t):=by
 intro pins s σ H v u Q I r hw;obtain⟨a,xs,e1,hq,hl,hw⟩:=hw;subst e1;cases r;obtain⟨its,rv,ht,hz⟩:=I.tuple hq;refine assign_Tuple_tuple (I.ok.hd hc) ht (by simp [hn,← hl,rv.length]) hst λh' hx=>?_;have I1:Inv X pins σ H { s with heap:=h' }:=I.kept (t':=s.toks) λb o e=>hx b o (b8 (XV e)) e;exact h pins _ σ H xs _ Q I1 (by simpa using rv) hw
def Ze(to ti:TE)(t:Yj):TG:=λv σ H Q=>to σ H λo H1=>ti σ H1 λi H2=>t o i v H2 λH3=>Q σ H3
theorem PL{o i:cC}{to ti:TE}{t:Yj}(ho:PE X o to)(hi:PE X i ti)(hs:Zx X t)
  (ha:∀v,assign (.Subscript o i pos) X.env v=(do
   let ov ← holding [v] (eval o X.env)
   let iv ← holding [v,ov] (eval i X.env)
   standAt pos
   holding [v,ov,iv] (setItem ov iv v)
   release [v,ov,iv] []):=by intro _; rfl):PG X (.Subscript o i pos) (Ze to ti t):=by
 intro pins s σ H v u Q I r h;rw [ha];refine Ch (cu (thn (ho pins s σ H _ I h) λov s1 ⟨x,H1,I1,r1,q1⟩=>?_));refine Ch (cu (thn (hi pins s1 σ H1 _ I1 q1) λiv s2 ⟨y,H2,I2,r2,q2⟩=>?_));refine Ch (wpAny_standAt (Ch (cu (thn (hs pins s2 σ H2 x y v ov iv u _ I2 r1 r2 r q2) λ_ s3 ⟨H3,I3,q3⟩=>?_))));exact wpAny_release ⟨σ,H3,I3,q3⟩
def Na(te:TE)(g:TG):TS:=λD σ H=>te σ H λx H1=>g x σ H1 D.nx
theorem MM{tg e:cC}{te:TE}{g:TG}(he:PE X e te)(hg:PG X tg g)(hs:swapsWithSole [tg] e pos.line X.env=pure false:=by rfl)(hw:swappedStores [tg] e X.env=pure none:=by rfl)
  (h1:(assignEach [tg] X.env).map (·.2)=[assign tg X.env]:=by rfl):PS X (.Assign [tg] e pos) (Na te g):=by
 intro pins s σ H D I h;refine wpAny_Assign_stores (thn (he pins s σ H _ I h) λv s1 ⟨x,H1,I1,r1,q1⟩=>?_) hs hw;rw [h1];exact thn (hg pins s1 σ H1 x v _ I1 r1 q1) λ_ s2 q=>q
theorem E3{i:Nat}{x:Str}{e:cC}{te:TE}{pos':Pos}(hN:X.N.Nodup)(hi:X.N[i]?=some x)(hx:Loc X.env.scope x)(he:PE X e te)(hs:swapsWith e (some (.Name x pos')) pos.line X.env=pure false:=by rfl)(hf:X.fn x=true\/X.env.scope.names.lookup x=some .local:=by first | exact .inl rfl | exact .inr rfl | assumption) :
  PS X (.Assign [.Name x pos'] e pos) (Na te (IH i)):=by
 intro pins s σ H D I h;refine wpAny_Assign_Name (thn (he pins s σ H _ I h) λv s1 ⟨y,H1,I1,r1,q1⟩=>?_) hs;exact JZ I1 hN hi hx r1 (λs2 I2=>⟨_,H1,I2,q1⟩) hf
def aX(i:Nat)(te:TE)(ti:aJ):TS:=λD σ H=>∃x,σ[i]?=some (some x)/\te σ H λy H1=>ti x y H1 λz H2=>D.nx (σ.set i (some z)) H2
theorem Xq{i:Nat}{x:Str}{e:cC}{te:TE}{op:Operator}{ti:aJ}{pos':Pos}(hN:X.N.Nodup)(hi:X.N[i]?=some x)(hx:Loc X.env.scope x)(he:PE X e te)(ho:bM X op ti)(hf:X.fn x=true\/X.env.scope.names.lookup x=some .local:=by first | exact .inl rfl | exact .inr rfl | assumption) :
  PS X (.AugAssign (.Name x pos') op e pos) (aX i te ti):=by
 intro pins s σ H D I h;obtain⟨v,e1,h⟩:=h;obtain⟨m,hn,hl⟩:=I.loc;have vis:Yh X.env.scope x:=by rcases hx with k | k; exact .inl k; exact .inr (.inl k)
 obtain⟨u,r,l⟩:=hl i x v hi e1 vis;refine wpAny_AugAssign_Name ?_
 have go:wpAny (model X.prog X.w) X.A (eval e X.env) (λw s₂=>wpAny (model X.prog X.w) X.A (inplaceOp op u w) (λr s₃=>wpAny (model X.prog X.w) X.A (storeName X.env x r) (λ_=>SP X pins D .next) X.xe s₃) X.xe s₂) X.xe s:=by
  refine thn (he pins s σ H _ I h) λw s1 ⟨y,H1,I1,r1,q1⟩=>?_;refine thn (ho pins s1 σ H1 v y u w _ I1 r r1 q1) λz s2 ⟨zv,H2,I2,r2,q2⟩=>?_;exact JZ I2 hN hi hx r2 (λs3 I3=>⟨_,H2,I3,q2⟩) hf
 rcases l with ⟨hk,hm⟩ | ⟨hk,c,hc,hcell⟩
 ·exact wpAny_loadName_local I.ok.kind hk hn hm go
 ·rcases hk with hk | hk
  ·exact wpAny_loadName_cell I.ok.kind hk hc hcell go
  ·rcases hx with k | k
   ·have:X.env.scope.names.lookup x=some .free:=hk
    rw [k] at this; cases this
   ·have:X.env.scope.names.lookup x=some .free:=hk
    rw [k] at this; cases this
def bW(f:Int->Int->Int):aJ:=λx y H Q=>∃i j,x=.int i/\y=.int j/\Q (.int (f i j)) H
theorem YE:bM X .Add (bW λi j=>i+j):=by
 intro pins s σ H x y v u Q I r1 r2 h;obtain⟨i,j,e1,e2,q⟩:=h;subst e1; subst e2
 obtain⟨t,rfl⟩:=r1;obtain⟨t',rfl⟩:=r2;exact iadd_int ⟨.int _,H,I.tok _,⟨_,rfl⟩,q⟩
end
section
variable {X:Cx}{pos:Pos}
def XZ(c:TT)(tb:TS):TS:=λD σ H=>∃W:Nat->St->Hp->Prop,(∃m,W m σ H)/\∀m σ H,W m σ H ->
 c σ H λb H1=>if b=true then ∃N:St->Hp->Prop,(∀σ' H',N σ' H'->∃m',m'<m/\W m' σ' H')/\tb { D with nx:=N,ct:=N,bk:=D.nx } σ H1 else D.nx σ H1
theorem TU{c:cC}{body:List cS}{tc:TT}{tb:TS}(hp:g_ (model X.prog X.w) X.A X.env X.xe)(hc:PT X c tc)(hb:PSs X body tb):PS X (.While c body [] pos) (XZ tc tb):=by
 intro pins s σ H D I h;obtain⟨W,⟨m0,w0⟩,turn⟩:=h;refine wpAny_While (codeAny_whileLoop (λn s'=>∃σ' H',Inv X pins σ' H' s'/\W n σ' H') ?_ m0 ⟨σ,H,I,w0⟩);rintro n s1 ⟨σ1,H1,I1,w1⟩;refine eo hp (thn (hc pins s1 σ1 H1 _ I1 (turn n σ1 H1 w1)) λb s2 ⟨H2,I2,q2⟩=>?_);cases b with
 | true =>
  obtain⟨N,hN,q2⟩:=q2;rw [if_pos rfl];refine eo hp (thn (hb pins s2 σ1 H2 _ I2 q2) λf s3 q3=>?_);cases f with
  | next =>
   obtain⟨σ3,H3,I3,n3⟩:=q3;obtain⟨m',hm,w3⟩:=hN σ3 H3 n3;exact⟨m',hm,σ3,H3,I3,w3⟩
  | cont =>
   obtain⟨σ3,H3,I3,n3⟩:=q3;obtain⟨m',hm,w3⟩:=hN σ3 H3 n3;exact⟨m',hm,σ3,H3,I3,w3⟩
  | brk=>exact q3
  | ret v=>exact q3
 | false =>
  rw [if_neg bw];exact gg ⟨σ1,H2,I2,q2⟩
end
structure It where
 go:Nat->Hp->Prop
 yld:Nat->Hp->V->Hp->Prop
 stop:Nat->Hp->Prop
def HN(X:Cx)(pins:List (Db×Obj))(H:Hp)(b:Db):Prop :=
 H b=none/\b≠X.env.locals/\b∉X.fs/\(b∈X.ex\/X.s₀.heap.objs.size<=b)/\(∀x c,X.env.cells.lookup x=some c->c≠b)/\∀p∈X.pn++pins,p.1≠b
theorem Inv.fpOk{X:Cx}{pins:List (Db×Obj)}{σ:St}{H H':Hp}{s:Op}{b:Db}(I:Inv X pins σ H s)(hb:s.heap.objs.size<=b)(hn:H' b=none):HN X pins H' b:=by
 refine⟨hn,fI (cJ I.lt hb),I.nofs hb,.inr (cG I.sz hb),λx c e z=>?_,λp hp z=>?_⟩
 ·obtain⟨v,q⟩:=I.cell x c e
  exact absurd (cJ q.lt (by rw [z]; exact hb)) (cy _)
 ·exact absurd (cJ (XV (I.pin p hp).1) (by rw [z]; exact hb)) (cy _)
structure Turn (P:cL) (w:cQ) (K:Frag) (tg:cC) (J:It) (fp:List Db) (it:Db) (tn:Nat->b9->Prop):Prop where
 mem:it∈fp
 obj:∀i h,tn i h->∀b∈fp,∃o,h.get? b=some o/\∀v,o.data≠.cell v
 keep:∀i h h',tn i h->(∀b∈fp,∀o,h.get? b=some o->h'.get? b=some o)->tn i h'
 item:∀(X:Cx),X.prog=P->X.w=w->X.K=K->X.calm=true->∀(i:Nat) (pins:List (Db×Obj)) (s:Op) (σ:St) (H:Hp) (E:Ev->Op->Prop),Inv X pins σ H s->(∀b∈fp,HN X pins H b)->tn i s.heap->J.go i H ->
  wpAny (model P w) X.A (pyNext (.ref it)) (λr s1=>∃u,r=some u /\
   wpAny (model P w) X.A (letOwnedTupleGo tg (.ref it) u) (λ_ s2=>∃x H',Inv X pins σ H' s2/\RelV x u/\J.yld i H x H'/\tn (i+1) s2.heap/\∀b∈fp,H' b=none) E s1) E s
 done:∀(X:Cx),X.prog=P->X.w=w->X.K=K->X.calm=true->∀(i:Nat) (pins:List (Db×Obj)) (s:Op) (σ:St) (H:Hp) (E:Ev->Op->Prop),Inv X pins σ H s->(∀b∈fp,HN X pins H b)->tn i s.heap->J.stop i H ->
  wpAny (model P w) X.A (pyNext (.ref it)) (λr s1=>r=none/\Inv X pins σ H s1) E s
 self:∀(A:cw) (i:Nat) (s:Op) (Q:Ev->Op->Prop) (E:Ev->Op->Prop),tn i s.heap->Q (.ref it) s->wpAny (model P w) A (pyIter (.ref it)) Q E s
abbrev TI:=St->Hp->(It->Hp->Prop)->Prop
def bN(X:Cx)(pins:List (Db×Obj))(σ:St)(tg:cC)(R:It->Hp->Prop)(itv:Ev)(s2:Op):Prop :=
 ∃(it:Db) (fp:List Db) (tn:Nat->b9->Prop) (J:It) (H':Hp),itv=.ref it/\Inv X pins σ H' s2/\Turn X.prog X.w X.K tg J fp it tn/\tn 0 s2.heap/\(∀b∈fp,HN X pins H' b)/\R J H'
def PI(X:Cx)(tg iter:cC)(wi:TI):Prop :=
 ∀(pins:List (Db×Obj)) (s:Op) (σ:St) (H:Hp) (R:It->Hp->Prop),Inv X pins σ H s->wi σ H R ->
  wpAny (model X.prog X.w) X.A (eval iter X.env) (λv s1=>wpAny (model X.prog X.w) X.A (pyIter v) (bN X pins σ tg R) X.xe s1) X.xe s
theorem OS {M : Model} {A : cw} {E : Ev → Op → Prop} {s : Op} {tg : cC} {it : Db} {u : Ev} {o : Obj} {n : String} {vs : Array Ev} {Q : Unit → Op → Prop} (ho : s.heap.get? it = some o) (hc : o.cls = .type n) (hd : o.data = .fields vs)
    (hn : ["enumerate", "zip", "dict_itemiterator", "dict_reverseitemiterator", "odict_iterator", "itertools.zip_longest", "itertools.pairwise"].contains n = false) (hQ : Q () s) : wpAny M A (letOwnedTupleGo tg (.ref it) u) Q E s := by
  unfold letOwnedTupleGo
  cases tg <;> first
    | exact Sc hQ
    | (cases u <;> first
        | exact Sc hQ
        | (refine Ch (wpAny_load ho ?_)
           rw [hc, hd];show wpAny M A (if (["enumerate", "zip", "dict_itemiterator", "dict_reverseitemiterator", "odict_iterator", "itertools.zip_longest", "itertools.pairwise"].contains n && vs[0]? == some (rawInt _)) = true then _ else _) Q E s;rw [if_neg (by intro h; rw [hn, Bool.false_and] at h; cases h)];exact Sc hQ))
def bC(K:Frag)(a:Db):It :=
 ⟨λi H=>∃xs x,SqL K H a xs/\xs[i]?=some x,λi H x H'=>H'=H/\∀xs,SqL K H a xs->xs[i]?=some x,λi H=>∃xs,SqL K H a xs/\xs.length<=i⟩
def Yn(K:Frag)(a:Db):It :=
 ⟨λi H=>∃xs x,SqT K H a xs/\xs[i]?=some x,λi H x H'=>H'=H/\∀xs,SqT K H a xs->xs[i]?=some x,λi H=>∃xs,SqT K H a xs/\xs.length<=i⟩
def Z3(lo:Int)(n:Nat):It:=⟨λi _=>i<n,λi H x H'=>H'=H/\x=.int (lo+i),λi _=>n<=i⟩
theorem RB{P:cL}{w:cQ}{K:Frag}{tg:cC}(a it:Db):Turn P w K tg (bC K a) [it] it (λi h=>h.IsListIter it a i) where
 mem:=by simp
 obj:=λi h st b hb=>by
  have e:b=it:=by simpa using hb
  subst e;obtain⟨o,e,c,d⟩:=st;exact⟨o,e,λv z=>by rw [d] at z; cases z⟩
 keep:=λi h h' st k=>st.at λo e=>k it (by simp) o e
 item:=by
  intro X hP hw hK hc i pins s σ H E I hf st hg;subst hP hw hK;obtain⟨xs,x,hq,hx⟩:=hg;obtain⟨its,rv,p,hz⟩:=I.list hq;obtain⟨u,hu,ru⟩:=rv.get hx;obtain⟨f0,f1,f2,f3,f4,f5⟩:=hf it (by simp);refine wpAny_pyNext_list_item st p.isList (x:=u) (by simpa using hu) λh' st' sb=>?_;have I1:Inv X pins σ H { s with heap:=h' }:=I.turned (t':=s.toks) (λb o hb e=>(sb.2 b hb).trans e) f0 f1 f3 f4 f5;obtain⟨o,e,c,d⟩:=id st';exact⟨u,rfl,OS (s:={ s with heap:=h' }) e c d (by decide) ⟨x,H,I1,ru,⟨rfl,λys hy=>by rw [I.list_inj hy hq]; exact hx⟩,st',λb hb=>(hf b hb).1⟩⟩
 done:=by
  intro X hP hw hK hc i pins s σ H E I hf st hg;subst hP hw hK;obtain⟨xs,hq,hx⟩:=hg;obtain⟨its,rv,p,hz⟩:=I.list hq;obtain⟨f0,f1,f2,f3,f4,f5⟩:=hf it (by simp);have hl:=rv.length;exact wpAny_pyNext_list_end (I.ok.hd hc) st p.isList (by simp; omega) λh' eb=>⟨rfl,I.turned (t':=s.toks) (λb o hb e=>eb b o hb e) f0 f1 f3 f4 f5⟩
 self:=λ_ _ _ _ _ st h=>wpAny_pyIter_listiter st h
theorem JP{P:cL}{w:cQ}{K:Frag}{tg:cC}(a it:Db):Turn P w K tg (Yn K a) [it] it (λi h=>h.IsTupleIter it a i) where
 mem:=by simp
 obj:=λi h st b hb=>by
  have e:b=it:=by simpa using hb
  subst e;obtain⟨o,e,c,d⟩:=st;exact⟨o,e,λv z=>by rw [d] at z; cases z⟩
 keep:=λi h h' st k=>st.at λo e=>k it (by simp) o e
 item:=by
  intro X hP hw hK hc i pins s σ H E I hf st hg;subst hP hw hK;obtain⟨xs,x,hq,hx⟩:=hg;obtain⟨its,rv,p,hz⟩:=I.tuple hq;obtain⟨u,hu,ru⟩:=rv.get hx;obtain⟨f0,f1,f2,f3,f4,f5⟩:=hf it (by simp);refine wpAny_pyNext_tuple_item st (show s.heap.IsTuple a its.toArray from p) (x:=u) (by simpa using hu) λh' st' sb=>?_;have I1:Inv X pins σ H { s with heap:=h' }:=I.turned (t':=s.toks) (λb o hb e=>(sb.2 b hb).trans e) f0 f1 f3 f4 f5;obtain⟨o,e,c,d⟩:=id st';exact⟨u,rfl,OS (s:={ s with heap:=h' }) e c d (by decide) ⟨x,H,I1,ru,⟨rfl,λys hy=>by rw [I.tuple_inj hy hq]; exact hx⟩,st',λb hb=>(hf b hb).1⟩⟩
 done:=by
  intro X hP hw hK hc i pins s σ H E I hf st hg;subst hP hw hK;obtain⟨xs,hq,hx⟩:=hg;obtain⟨its,rv,p,hz⟩:=I.tuple hq;obtain⟨f0,f1,f2,f3,f4,f5⟩:=hf it (by simp);have hl:=rv.length;exact wpAny_pyNext_tuple_end (I.ok.hd hc) st (show s.heap.IsTuple a its.toArray from p) (by simp; omega) λh' eb=>⟨rfl,I.turned (t':=s.toks) (λb o hb e=>eb b o hb e) f0 f1 f3 f4 f5⟩
 self:=λ_ _ _ _ _ st h=>wpAny_pyIter_tupleiter st h
theorem O0{P:cL}{w:cQ}{K:Frag}{tg:cC}(it:Db)(lo:Int)(n:Nat):Turn P w K tg (Z3 lo n) [it] it (λi h=>IsRangeIter h it (lo+(i:Nat)*1) ((n:Int) - (i:Nat)) 1) where
 mem:=by simp
 obj:=λi h st b hb=>by
  have e:b=it:=by simpa using hb
  subst e
  exact⟨_,st,λv z=>by
   have z':Data.fields _=Data.cell v:=z;cases z'⟩
 keep:=λi h h' st k=>k it (by simp) _ st
 item:=by
  intro X hP hw hK hc i pins s σ H E I hf st hg;subst hP hw hK;obtain⟨f0,f1,f2,f3,f4,f5⟩:=hf it (by simp);have W:=Walks.range (prog:=X.prog) (w:=X.w) (I.ok.hd hc) it lo 1 n;refine W.item i s _ _ hg st λv h' tk hv st' kk=>?_;obtain⟨t,rfl⟩:=hv;have I1:Inv X pins σ H { s with heap:=h',toks:=tk }:=I.turned (λb o hb e=>kk b o (by simpa using hb) e) f0 f1 f3 f4 f5;refine⟨_,rfl,OS (s:={ s with heap:=h',toks:=tk }) (n := "range_iterator") st' rfl rfl (by decide) ⟨.int (lo+i),H,I1,⟨t,?_⟩,⟨rfl,rfl⟩,st',λb hb=>(hf b hb).1⟩⟩;rw [Int.mul_one]
 done:=by
  intro X hP hw hK hc i pins s σ H E I hf st hg;subst hP hw hK;obtain⟨f0,f1,f2,f3,f4,f5⟩:=hf it (by simp);exact wpAny_pyNext_range_end (I.ok.hd hc) st (by have:n<=i:=hg; omega) λh' eb=>⟨rfl,I.turned (t':=s.toks) (λb o hb e=>eb b o hb e) f0 f1 f3 f4 f5⟩
 self:=λ_ _ _ _ _ st h=>wpAny_pyIter_rangeiter st h
section
variable {X:Cx}{tg:Expr}
def al(K:Frag)(tl:TE):TI:=λσ H R=>tl σ H λx H1=>∃a,x=.ref a/\(∃xs,SqT K H1 a xs)/\R (Yn K a) H1
theorem Ta{l:cC}{tl:TE}(hl:PE X l tl):PI X tg l (al X.K tl):=by
 intro pins s σ H R I h;refine thn (hl pins s σ H _ I h) λv s1 ⟨x,H1,I1,r1,q1⟩=>?_;obtain⟨a,e,⟨xs,hq⟩,q⟩:=q1;subst e;cases r1;obtain⟨its,rv,p,hz⟩:=I1.tuple hq;refine dI (show s1.heap.IsTuple a its.toArray from p) ?_;refine⟨s1.heap.objs.size,[s1.heap.objs.size],_,_,H1,rfl,I1.kept (t':=s1.toks) λb o e=>FM _ e,JP a _,⟨_,Uf _ rfl,rfl,rfl⟩,λb hb=>?_,q⟩;have e:b=s1.heap.objs.size:=by simpa using hb
 subst e;exact I1.fpOk (Rs _) (I1.hok.fresh (Rs _))
theorem Np{pins:List (Db×Obj)}{σ:St}{H:Hp}{s:Op}{R:It->Hp->Prop}{E:Ev->Op->Prop}{lo hi:Int}{t u v:Tok}{tk:Nat}(I:Inv X pins σ H s)(h1:-(2 ^ 62)<=lo)(h2:lo<2 ^ 62)(h3:-(2 ^ 62)<=hi)(h4:hi<2 ^ 62)
  (q:R (Z3 lo (hi - lo).toNat) H):wpAny (model X.prog X.w) X.A (pyIter (.ref s.heap.objs.size)) (bN X pins σ tg R) E { s with heap:=s.heap.push { cls:=.type "range",data:=.fields #[.int lo t,.int hi u,.int 1 v] },toks:=tk }:=by
 refine wpAny_pyIter_range (IsRange.new ..) (small_one h1 h2 h3 h4) ?_;have I1:Inv X pins σ H { s with heap:=s.heap.push { cls:=.type "range",data:=.fields #[.int lo t,.int hi u,.int 1 v] },toks:=tk }:=I.kept λb o e=>FM _ e
 refine⟨(s.heap.push { cls:=.type "range",data:=.fields #[.int lo t,.int hi u,.int 1 v] }).objs.size,[(s.heap.push { cls:=.type "range",data:=.fields #[.int lo t,.int hi u,.int 1 v] }).objs.size],_,_,H,rfl,
  I1.kept (t':=tk) λb o e=>FM _ e,O0 _ lo (hi - lo).toNat,?_,λb hb=>?_,q⟩
 ·have e1:lo+((0:Nat):Int)*1=lo:=by simp
  have e2:(((hi - lo).toNat:Nat):Int) - ((0:Nat):Int)=Builtin.Range.rangeSize lo hi 1:=by rw [rangeSize_one]; split <;> omega
  show IsRangeIter _ _ (lo+((0:Nat):Int)*1) ((((hi - lo).toNat:Nat):Int) - ((0:Nat):Int)) 1;rw [e1,e2];exact Uf _ rfl
 ·have e:b=(s.heap.push { cls:=.type "range",data:=.fields #[.int lo t,.int hi u,.int 1 v] }).objs.size:=by simpa using hb
  subst e;exact I1.fpOk (Rs _) (I1.hok.fresh (Rs _))
def Zb(ta:TA):TI:=λσ H R=>ta σ H λvs H1=>∃j:Int,vs=[.int j]/\-(2 ^ 62)<=j/\j<2 ^ 62/\R (Z3 0 j.toNat) H1
def Za(ta:TA):TI:=λσ H R=>ta σ H λvs H1=>∃i j:Int,vs=[.int i,.int j]/\(-(2 ^ 62)<=i/\i<2 ^ 62/\-(2 ^ 62)<=j/\j<2 ^ 62)/\R (Z3 i (j - i).toNat) H1
theorem RS{a:cC}{ta:TA}{p pos:Pos}(hg:Gl X "range")(hm:X.mg "range"=none)(ha:PA X [a] ta)(hs:starEach [a] X.env=[(false,eval a X.env)]:=by rfl):PI X tg (.Call (.Name "range" p) [a] [] pos) (Zb ta):=by
 intro pins s σ H R I h;refine Call_ (Cw I hg hm boot_range (cY (thn (ha pos pins s σ H _ I h) λus s1 ⟨vs,H1,I1,r1,q1⟩=>?_) hs rfl));obtain⟨j,e,q1,q2,q⟩:=q1;subst e;cases r1 with
 | cons r rr =>
  cases rr;obtain⟨t,rfl⟩:=r;exact call_range_1 (Np I1 (by omega) (by omega) q1 q2 (by simpa using q))
theorem RR{a b:cC}{ta:TA}{p pos:Pos}(hg:Gl X "range")(hm:X.mg "range"=none)(ha:PA X [a,b] ta)(hs:starEach [a,b] X.env=[(false,eval a X.env),(false,eval b X.env)]:=by rfl)(hs2:starEach [b] X.env=[(false,eval b X.env)]:=by rfl) :
  PI X tg (.Call (.Name "range" p) [a,b] [] pos) (Za ta):=by
 intro pins s σ H R I h;refine Call_ (Cw I hg hm boot_range (cY (thn (ha pos pins s σ H _ I h) λus s1 ⟨vs,H1,I1,r1,q1⟩=>?_) (by rw [hs,hs2]) (by rw [hs2]; rfl)));obtain⟨i,j,e,⟨q1,q2,q3,q4⟩,q⟩:=q1;subst e;cases r1 with
 | cons r rr =>
  cases rr with
  | cons r' rr =>
   cases rr;obtain⟨t,rfl⟩:=r;obtain⟨t',rfl⟩:=r';exact call_range_2 (Np I1 q1 q2 q3 q4 q)
def aW(wi:TI)(g:TG)(tb:TS):TS:=λD σ H=>wi σ H λJ H1=>∃W:Nat->Nat->St->Hp->Prop,(∃m,W 0 m σ H1)/\∀i m σ H,W i m σ H ->
 (J.stop i H/\D.nx σ H)\/(J.go i H/\∃N:St->Hp->Prop,(∀σ' H',N σ' H'->∃m',m'<m/\W (i+1) m' σ' H')/\∀x H',J.yld i H x H'->g x σ H' λσ2 H2=>tb { D with nx:=N,ct:=N,bk:=D.nx } σ2 H2)
def Js(fp:List Db)(h:b9):List (Db×Obj):=fp.filterMap λb=>(h.get? b).map λo=>(b,o)
theorem EL{fp:List Db}{h:b9}{b:Db}{o:Obj}(hb:b∈fp)(e:h.get? b=some o):(b,o)∈Js fp h:=List.mem_filterMap.mpr ⟨b,hb,by rw [e]; rfl⟩
theorem Rc{fp:List Db}{h:b9}{p:Db×Obj}(hp:p∈Js fp h):p.1∈fp/\h.get? p.1=some p.2:=by
 obtain⟨b,hb,e⟩:=List.mem_filterMap.mp hp;cases q:h.get? b with
 | none=>rw [q] at e; cases e
 | some o =>
  rw [q] at e;have e':(b,o)=p:=bg e;subst e';exact⟨hb,q⟩
theorem Inv.pinned{pins:List (Db×Obj)}{σ:St}{H:Hp}{s:Op}{fp:List Db}(I:Inv X pins σ H s)(hf:∀b∈fp,HN X pins H b)(ho:∀b∈fp,∃o,s.heap.get? b=some o/\∀v,o.data≠.cell v):Inv X (pins++Js fp s.heap) σ H s :=
 I.pins_of λp hp=>(b_.mp hp).elim (λz=>I.pin p (bq _ z)) λz=>by
  obtain⟨hb,e⟩:=Rc z;obtain⟨f0,f1,f2,_⟩:=hf p.1 hb;obtain⟨o,e',d⟩:=ho p.1 hb;rw [e] at e'; cases e'
  exact⟨e,f0,f1,f2,d⟩
theorem Inv.unpinned{pins pl:List (Db×Obj)}{σ:St}{H:Hp}{s:Op}(I:Inv X (pins++pl) σ H s):Inv X pins σ H s:=I.pins_of λp hp=>I.pin p (bq _ (c0 _ hp))
theorem Jq{iter:cC}{body:List cS}{wi:TI}{g:TG}{tb:TS}{pos:Pos}(hp:g_ (model X.prog X.w) X.A X.env X.xe)(hc:X.calm=true)(hi:PI X tg iter wi)(hg:PG X tg g)(hb:PSs X body tb)
  (hs:∀x,foldedSetIterable iter X.env x=pure x:=by intro _; rfl):PS X (.For tg iter body [] pos) (aW wi g tb):=by
 intro pins s σ H D I h;refine wpAny_For (thn (hi pins s σ H _ I h) λv s1 h1=>thn h1 λitv s2 h2=>?_) hs;obtain⟨it,fp,tn,J,H2,e,I2,T,st2,f2,W,⟨m0,w0⟩,turn⟩:=h2;subst e;have stat:∀{H':Hp},(∀b∈fp,H' b=none)->∀b∈fp,HN X pins H' b:=λhn b hb=>⟨hn b hb,(f2 b hb).2⟩;refine codeAny_forLoop_any (λn s'=>∃i σ' H',Inv X pins σ' H' s'/\tn i s'.heap/\(∀b∈fp,H' b=none)/\W i n σ' H') ?_ m0 ⟨0,σ,H2,I2,st2,λb hb=>(f2 b hb).1,w0⟩;rintro n s3 ⟨i,σ3,H3,I3,st3,fr3,w3⟩
 rcases turn i n σ3 H3 w3 with ⟨stop,qn⟩ | ⟨go,N,hN,step⟩
 ·refine eo hp (thn (T.done X rfl rfl rfl hc i pins s3 σ3 H3 X.xe I3 (stat fr3) st3 stop) λr s4 ⟨hr,I4⟩=>?_)
  subst hr;exact gg ⟨σ3,H3,I4,qn⟩
 ·refine eo hp (thn (T.item X rfl rfl rfl hc i pins s3 σ3 H3 X.xe I3 (stat fr3) st3 go) λr s4 ⟨u,hr,h4⟩=>?_)
  subst hr;refine eo hp (thn h4 λ_ s5 ⟨x,H5,I5,r5,y5,st5,fr5⟩=>?_);have I5':=I5.pinned (stat fr5) (T.obj _ _ st5);refine eo hp (thn (hg _ s5 σ3 H5 x u _ I5' r5 (step x H5 y5)) λ_ s6 ⟨σ6,H6,I6,q6⟩=>?_);refine eo hp (thn (hb _ s6 σ6 H6 _ I6 q6) λf s7 q7=>?_)
  have again:∀{σ7:St} {H7:Hp},Inv X (pins++Js fp s5.heap) σ7 H7 s7->N σ7 H7->∃m,m<n/\∃i σ' H',Inv X pins σ' H' s7/\tn i s7.heap/\(∀b∈fp,H' b=none)/\W i m σ' H':=λ{σ7 H7} I7 n7=>by
   obtain⟨m',hm,w7⟩:=hN σ7 H7 n7;refine⟨m',hm,i+1,σ7,H7,I7.unpinned,T.keep _ _ _ st5 λb hb o e=>(I7.pin (b,o) (bq _ (bq _ (EL hb e)))).1,λb hb=>?_,w7⟩;obtain⟨o,e,d⟩:=T.obj _ _ st5 b hb;exact(I7.pin (b,o) (bq _ (bq _ (EL hb e)))).2.1
  cases f with
  | next=>obtain⟨σ7,H7,I7,n7⟩:=q7; exact again I7 n7
  | cont=>obtain⟨σ7,H7,I7,n7⟩:=q7; exact again I7 n7
  | brk=>obtain⟨σ7,H7,I7,q7⟩:=q7; exact⟨σ7,H7,I7.unpinned,q7⟩
  | ret v=>obtain⟨x7,σ7,H7,I7,r7,q7⟩:=q7; exact⟨x7,σ7,H7,I7.unpinned,r7,q7⟩
end
theorem Qd{K:Frag}{a:Db}{xs:List V}{g:TG}{tb:TS}{D:Ends}{σ:St}{H:Hp}(Pv:Nat->St->Hp->Prop)(h0:Pv 0 σ H)(hl:∀i σ H,i<=xs.length->Pv i σ H->SqT K H a xs)
  (hs:∀i x σ H,xs[i]?=some x->Pv i σ H->g x σ H λσ2 H2=>tb { D with nx:=Pv (i+1),ct:=Pv (i+1),bk:=D.nx } σ2 H2) (hd:∀σ H,Pv xs.length σ H->D.nx σ H) :
  ∃W:Nat->Nat->St->Hp->Prop,(∃m,W 0 m σ H)/\∀i m σ H,W i m σ H ->
   ((Yn K a).stop i H/\D.nx σ H)\/((Yn K a).go i H/\∃N:St->Hp->Prop,(∀σ' H',N σ' H'->∃m',m'<m/\W (i+1) m' σ' H')/\∀x H',(Yn K a).yld i H x H'->g x σ H' λσ2 H2=>tb { D with nx:=N,ct:=N,bk:=D.nx } σ2 H2):=by
 refine⟨λi m σ H=>m=xs.length - i/\i<=xs.length/\Pv i σ H,⟨xs.length,by simp,bn _,h0⟩,?_⟩;rintro i m σ H ⟨rfl,hi,p⟩;have q:=hl i σ H hi p
 by_cases hlt:i<xs.length
 ·refine .inr ⟨⟨xs,xs[i],q,by simp [hlt]⟩,Pv (i+1),λσ' H' p'=>⟨xs.length - (i+1),by omega,rfl,hlt,p'⟩,λx H' y=>?_⟩
  obtain⟨e,y⟩:=y;subst e;exact hs i x σ _ (y xs q) p
 ·have e:i=xs.length:=by omega
  subst e;exact .inl ⟨⟨xs,q,Rs _⟩,hd σ H p⟩
abbrev R2:=V->V->Hp->VK->Prop
def OpR(X:Cx)(f:Ev->Ev->Sem Ev)(r:R2):Prop :=
 ∀(pins:List (Db×Obj)) (s:Op) (σ:St) (H:Hp) (x y:V) (v u:Ev) (Q:VK),Inv X pins σ H s->RelV x v->RelV y u->r x y H Q ->
  wpAny (model X.prog X.w) X.A (f v u) (EP X pins σ Q) X.xe s
def a9(X:Cx)(f:Ev->Sem Ev)(r:V->Hp->VK->Prop):Prop :=
 ∀(pins:List (Db×Obj)) (s:Op) (σ:St) (H:Hp) (x:V) (v:Ev) (Q:VK),Inv X pins σ H s->RelV x v->r x H Q ->
  wpAny (model X.prog X.w) X.A (f v) (EP X pins σ Q) X.xe s
def C7(X:Cx)(f:Ev)(r:List V->Hp->VK->Prop):Prop :=
 ∀(pins:List (Db×Obj)) (s:Op) (σ:St) (H:Hp) (xs:List V) (us:List Ev) (Q:VK),Inv X pins σ H s->Vals xs us->r xs H Q ->
  wpAny (model X.prog X.w) X.A (call f us) (EP X pins σ Q) X.xe s
def a_(X:Cx)(r:V->Hp->(Bool->Hp->Prop)->Prop):Prop :=
 ∀(pins:List (Db×Obj)) (s:Op) (σ:St) (H:Hp) (x:V) (v:Ev) (Q:Bool->Hp->Prop),Inv X pins σ H s->RelV x v->r x H Q ->
  wpAny (model X.prog X.w) X.A (truthy v) (TP X pins σ Q) X.xe s
def Dh(r:R2)(ta tb:TE):TE:=λσ H Q=>ta σ H λx H1=>tb σ H1 λy H2=>r x y H2 Q
def bR(r:V->Hp->VK->Prop)(ta:TE):TE:=λσ H Q=>ta σ H λx H1=>r x H1 Q
def rI(C:Int->Int->Prop)(g:Int->Int->V):R2:=λx y H Q=>∃i j,x=.int i/\y=.int j/\C i j/\Q (g i j) H
def IC(g:Int->Int->V):R2:=λx y H Q=>∃i j,x=.int i/\y=.int j/\Q (g i j) H
def rU(g:Int->V):V->Hp->VK->Prop:=λx H Q=>∃i,x=.int i/\Q (g i) H
section
variable {X:Cx}{a b c:Expr}{ta tb tc:TE}{pos:Pos}
theorem YW(ha:PE X a ta)(hb:PE X b tb){pins:List (Db×Obj)}{s:Op}{σ:St}{H:Hp}{R:V->V->Hp->Prop}(I:Inv X pins σ H s)
  (h:ta σ H λx H1=>tb σ H1 λy H2=>R x y H2) {Q:Ev->Op->Prop} {f:Ev->Ev->Sem Ev}
  (hf:∀v u s2 x y H2,Inv X pins σ H2 s2->RelV x v->RelV y u->R x y H2->wpAny (model X.prog X.w) X.A (f v u) Q X.xe s2) :
  wpAny (model X.prog X.w) X.A (eval a X.env) (λv s₁=>wpAny (model X.prog X.w) X.A (eval b X.env) (λu s₂=>wpAny (model X.prog X.w) X.A (f v u) Q X.xe s₂) X.xe s₁) X.xe s:=by
 refine thn (ha pins s σ H _ I h) λv s1 ⟨x,H1,I1,r1,q1⟩=>?_;refine thn (hb pins s1 σ H1 _ I1 q1) λu s2 ⟨y,H2,I2,r2,q2⟩=>?_;exact hf v u s2 x y H2 I2 r1 r2 q2
theorem Bn{op:Operator}{r:R2}(ho:OpR X (binaryOp op) r)(ha:PE X a ta)(hb:PE X b tb):PE X (.BinOp a op b pos) (Dh r ta tb):=by
 intro pins s σ H Q I h;exact wpAny_BinOp (YW ha hb I h λv u s2 x y H2 I2 rx ry q=>ho pins s2 σ H2 x y v u Q I2 rx ry q)
theorem ZU{op:UnaryOp}{r:V->Hp->VK->Prop}(ho:a9 X (unaryOp op) r)(ha:PE X a ta):PE X (.UnaryOp op a pos) (bR r ta):=by
 intro pins s σ H Q I h;exact UnaryOp_ (thn (ha pins s σ H _ I h) λv s1 ⟨x,H1,I1,r1,q1⟩=>ho pins s1 σ H1 x v Q I1 r1 q1)
theorem aC{f:Ev->Ev->Sem Ev}{C:Int->Int->Prop}{g:Int->Int->Int}
  (rule:∀(i j:Int) (t u:Tok) (s:Op) (Q:Ev->Op->Prop) (E:Ev->Op->Prop),C i j->Q (.int (g i j) s.toks) { s with toks:=s.toks+1 }->wpAny (model X.prog X.w) X.A (f (.int i t) (.int j u)) Q E s) :
  OpR X f (rI C λi j=>.int (g i j)):=by
 intro pins s σ H x y v u Q I rx ry h;obtain⟨i,j,rfl,rfl,hc,q⟩:=h;obtain⟨t,rfl⟩:=rx;obtain⟨t',rfl⟩:=ry;exact rule i j t t' s _ _ hc ⟨.int (g i j),H,I.tok _,⟨_,rfl⟩,q⟩
theorem ZX{f:Ev->Ev->Sem Ev}{g:Int->Int->Int}
  (rule:∀(i j:Int) (t u:Tok) (s:Op) (Q:Ev->Op->Prop) (E:Ev->Op->Prop),Q (.int (g i j) s.toks) { s with toks:=s.toks+1 }->wpAny (model X.prog X.w) X.A (f (.int i t) (.int j u)) Q E s) :
  OpR X f (IC λi j=>.int (g i j)):=by
 intro pins s σ H x y v u Q I rx ry h;obtain⟨i,j,rfl,rfl,q⟩:=h;obtain⟨t,rfl⟩:=rx;obtain⟨t',rfl⟩:=ry;exact rule i j t t' s _ _ ⟨.int (g i j),H,I.tok _,⟨_,rfl⟩,q⟩
theorem Vh{f:Ev->Ev->Sem Ev}{g:Int->Int->Bool}
  (rule:∀(i j:Int) (t u:Tok) (s:Op) (Q:Ev->Op->Prop) (E:Ev->Op->Prop),Q (.bool (g i j)) s->wpAny (model X.prog X.w) X.A (f (.int i t) (.int j u)) Q E s) :
  OpR X f (IC λi j=>.bl (g i j)):=by
 intro pins s σ H x y v u Q I rx ry h;obtain⟨i,j,rfl,rfl,q⟩:=h;obtain⟨t,rfl⟩:=rx;obtain⟨t',rfl⟩:=ry;exact rule i j t t' s _ _ ⟨.bl (g i j),H,I,rfl,q⟩
def WX(i j:Int):Prop:=0<j/\j<1073741824
def WW(i j:Int):Prop:=0<=j/\j<=1000000/\i.natAbs<2 ^ 64
def CMul(i j:Int):Prop:=(-(2 ^ 64)<i/\i<2 ^ 64)\/(-(2 ^ 64)<j/\j<2 ^ 64)
theorem CMul.ok{i j:Int}(h:CMul i j):IntMulOk i j:=by
 rcases h with ⟨h1,h2⟩ | ⟨h1,h2⟩
 ·exact .of_left (intBits_le_64 h1 h2)
 ·exact .of_right (intBits_le_64 h1 h2)
theorem op_add:OpR X (binaryOp .Add) (IC λi j=>.int (i+j)):=ZX λ_ _ _ _ _ _ _ q=>add_int q
theorem op_sub:OpR X (binaryOp .Sub) (IC λi j=>.int (i - j)):=ZX λ_ _ _ _ _ _ _ q=>sub_int q
theorem op_mul:OpR X (binaryOp .Mult) (rI CMul λi j=>.int (i*j)):=aC λ_ _ _ _ _ _ _ hc q=>mul_int q hc.ok
theorem MQ:OpR X (binaryOp .FloorDiv) (rI WX λi j=>.int (i / j)):=aC λi j _ _ _ _ _ hc q=>by
 have h1:(0:Int)<j:=hc.1;have h2:j<1073741824:=hc.2;exact floordiv_int (by omega) (by rw [Int.fdiv_eq_ediv_of_nonneg i (by omega)]; exact q) (.inl (PyProof.noPylong_small (by omega)))
theorem Dr:OpR X (binaryOp .Mod) (rI (λ_ j=>0<j) λi j=>.int (i % j)):=aC λi j _ _ _ _ _ hc q=>by
 have h1:(0:Int)<j:=hc;exact mod_int' (by omega) (by rw [Int.fmod_eq_emod_of_nonneg i (by omega)]; exact q)
theorem PN:OpR X (binaryOp .Pow) (rI WW λi j=>.int (i ^ j.toNat)):=aC λ_ _ _ _ _ _ _ hc q=>pow_int_small hc.1 hc.2.1 hc.2.2 q
theorem bQ{f:Ev->Sem Ev}{g:Int->Int}
  (rule:∀(i:Int) (t:Tok) (s:Op) (Q:Ev->Op->Prop) (E:Ev->Op->Prop),Q (.int (g i) s.toks) { s with toks:=s.toks+1 }->wpAny (model X.prog X.w) X.A (f (.int i t)) Q E s) :
  a9 X f (rU λi=>.int (g i)):=by
 intro pins s σ H x v Q I rx h;obtain⟨i,rfl,q⟩:=h;obtain⟨t,rfl⟩:=rx;exact rule i t s _ _ ⟨.int (g i),H,I.tok _,⟨_,rfl⟩,q⟩
theorem XS:a9 X (unaryOp .USub) (rU λi=>.int (-i)):=bQ λ_ _ _ _ _ q=>neg_int q
end
def ZD:V->V->Bool
 | .non,.non=>true | .non,.int _=>true | .int _,.non=>true | .non,.bl _=>true | .bl _,.non=>true | .non,.str _=>true | .str _,.non=>true
 | .int _,.int _=>true | .bl _,.bl _=>true | .str _,.str _=>true | .byt _,.byt _=>true
 | .int _,.str _=>true | .str _,.int _=>true | .bl _,.str _=>true | .str _,.bl _=>true
 | _,_=>false
def bK:R2:=λx y H Q=>ZD x y=true/\Q (.bl (decide (x=y))) H
def bG:R2:=λx y H Q=>ZD x y=true/\Q (.bl (!decide (x=y))) H
theorem JC{i j:Int}:decide (V.int i=V.int j)=(i==j):=by
 rw [d7];simp
theorem Mz{i j:Bool}:decide (V.bl i=V.bl j)=(i==j):=by
 rw [d7];simp
theorem JB{i j:Str}:decide (V.str i=V.str j)=(i==j):=by
 rw [d7];simp
theorem Qo{i j:Array UInt8}:decide (V.byt i=V.byt j)=(i.toList==j.toList):=by
 rw [d7];cases i;cases j;simp
section
variable {X:Cx}{a b c:Expr}{ta tb tc:TE}{pos:Pos}
theorem A8{pins:List (Db×Obj)}{σ:St}{H:Hp}{s:Op}{Q:VK}{k k':Bool}(I:Inv X pins σ H s)(q:Q (.bl k) H)(e:k=k'):EP X pins σ Q (.bool k') s:=by
 subst e;exact⟨.bl k,H,I,rfl,q⟩
theorem Fk:OpR X (compareOp .Eq) bK:=by
 intro pins s σ H x y v u Q I rx ry h;obtain⟨hs,q⟩:=h;cases x with
 | non =>
  cases rx;cases y with
  | non=>cases ry; exact PySem.EqNone.eq_none_none (A8 I q (by simp))
  | bl j=>cases ry; exact PySem.EqNone.eq_none_bool (A8 I q (by simp))
  | int j=>obtain⟨t',rfl⟩:=ry; exact PySem.EqNone.eq_none_int (A8 I q (by simp))
  | str j=>obtain⟨t',rfl⟩:=ry; exact PySem.EqNone.eq_none_str (A8 I q (by simp))
  | _=>exact absurd (show false=true from hs) bw
 | bl i =>
  cases rx;cases y with
  | non=>cases ry; exact PySem.EqNone.eq_bool_none (A8 I q (by simp))
  | bl j=>cases ry; exact eq_bool (A8 I q Mz)
  | str j=>obtain⟨t',rfl⟩:=ry; exact PySem.EqMixed.eq_bool_str (A8 I q (by simp))
  | _=>exact absurd (show false=true from hs) bw
 | int i =>
  obtain⟨t,rfl⟩:=rx;cases y with
  | non=>cases ry; exact PySem.EqNone.eq_int_none (A8 I q (by simp))
  | int j=>obtain⟨t',rfl⟩:=ry; exact eq_int (A8 I q JC)
  | str j=>obtain⟨t',rfl⟩:=ry; exact PySem.EqMixed.eq_int_str (A8 I q (by simp))
  | _=>exact absurd (show false=true from hs) bw
 | str i =>
  obtain⟨t,rfl⟩:=rx;cases y with
  | non=>cases ry; exact PySem.EqNone.eq_str_none (A8 I q (by simp))
  | bl j=>cases ry; exact PySem.EqMixed.eq_str_bool (A8 I q (by simp))
  | int j=>obtain⟨t',rfl⟩:=ry; exact PySem.EqMixed.eq_str_int (A8 I q (by simp))
  | str j=>obtain⟨t',rfl⟩:=ry; exact eq_str (A8 I q JB)
  | _=>exact absurd (show false=true from hs) bw
 | byt i =>
  obtain⟨t,rfl⟩:=rx;cases y with
  | byt j=>obtain⟨t',rfl⟩:=ry; exact PySem.W.eq_bytes (A8 I q Qo)
  | _=>exact absurd (show false=true from hs) bw
 | _=>cases y <;> exact absurd (show false=true from hs) bw
theorem ID:OpR X (compareOp .NotEq) bG:=by
 intro pins s σ H x y v u Q I rx ry h;obtain⟨hs,q⟩:=h;cases x with
 | non =>
  cases rx;cases y with
  | non=>cases ry; exact PySem.EqNone.ne_none_none (A8 I q (by simp))
  | bl j=>cases ry; exact PySem.EqNone.ne_none_bool (A8 I q (by simp))
  | int j=>obtain⟨t',rfl⟩:=ry; exact PySem.EqNone.ne_none_int (A8 I q (by simp))
  | str j=>obtain⟨t',rfl⟩:=ry; exact PySem.EqNone.ne_none_str (A8 I q (by simp))
  | _=>exact absurd (show false=true from hs) bw
 | bl i =>
  cases rx;cases y with
  | non=>cases ry; exact PySem.EqNone.ne_bool_none (A8 I q (by simp))
  | bl j=>cases ry; exact ne_bool (A8 I q (congrArg not Mz))
  | str j=>obtain⟨t',rfl⟩:=ry; exact PySem.EqMixed.ne_bool_str (A8 I q (by simp))
  | _=>exact absurd (show false=true from hs) bw
 | int i =>
  obtain⟨t,rfl⟩:=rx;cases y with
  | non=>cases ry; exact PySem.EqNone.ne_int_none (A8 I q (by simp))
  | int j=>obtain⟨t',rfl⟩:=ry; exact ne_int (A8 I q (congrArg not JC))
  | str j=>obtain⟨t',rfl⟩:=ry; exact PySem.EqMixed.ne_int_str (A8 I q (by simp))
  | _=>exact absurd (show false=true from hs) bw
 | str i =>
  obtain⟨t,rfl⟩:=rx;cases y with
  | non=>cases ry; exact PySem.EqNone.ne_str_none (A8 I q (by simp))
  | bl j=>cases ry; exact PySem.EqMixed.ne_str_bool (A8 I q (by simp))
  | int j=>obtain⟨t',rfl⟩:=ry; exact PySem.EqMixed.ne_str_int (A8 I q (by simp))
  | str j=>obtain⟨t',rfl⟩:=ry; exact ne_str (A8 I q (congrArg not JB))
  | _=>exact absurd (show false=true from hs) bw
 | byt i =>
  obtain⟨t,rfl⟩:=rx;cases y with
  | byt j=>obtain⟨t',rfl⟩:=ry; exact PySem.W.ne_bytes (A8 I q (congrArg not Qo))
  | _=>exact absurd (show false=true from hs) bw
 | _=>cases y <;> exact absurd (show false=true from hs) bw
theorem op_lt:OpR X (compareOp .Lt) (IC λi j=>.bl (decide (i<j))):=Vh λ_ _ _ _ _ _ _ q=>iy q
theorem op_le:OpR X (compareOp .LtE) (IC λi j=>.bl (decide (i<=j))):=Vh λ_ _ _ _ _ _ _ q=>le_int q
theorem W0:OpR X (compareOp .Gt) (IC λi j=>.bl (decide (j<i))):=Vh λ_ _ _ _ _ _ _ q=>gt_int q
theorem W1:OpR X (compareOp .GtE) (IC λi j=>.bl (decide (j<=i))):=Vh λ_ _ _ _ _ _ _ q=>ge_int q
theorem RZ:OpR X (compareOp .Lt) (λx y H Q=>∃i j,x=.str i/\y=.str j/\Q (.bl (decide (i.cps.toList<j.cps.toList))) H):=by
 intro pins s σ H x y v u Q I rx ry h;obtain⟨i,j,rfl,rfl,q⟩:=h;obtain⟨t,rfl⟩:=rx;obtain⟨t',rfl⟩:=ry;exact lt_str (A8 I q rfl)
theorem Ju:OpR X (compareOp .Is) (λx y H Q=>y=.non/\Q (.bl (decide (x=.non))) H):=by
 intro pins s σ H x y v u Q I rx ry h;obtain⟨rfl,q⟩:=h;cases ry;refine is_none_gen (A8 I q ?_)
 cases x <;> first
  | (cases rx; rfl)
  | (obtain⟨t,rfl⟩:=rx; rfl)
theorem QP:OpR X (compareOp .IsNot) (λx y H Q=>y=.non/\Q (.bl (!decide (x=.non))) H):=by
 intro pins s σ H x y v u Q I rx ry h;obtain⟨rfl,q⟩:=h;cases ry;refine isnot_none_gen (A8 I q ?_)
 cases x <;> first
  | (cases rx; rfl)
  | (obtain⟨t,rfl⟩:=rx; rfl)
theorem OpR.or{f:Ev->Ev->Sem Ev}{r r':R2}(h:OpR X f r)(h':OpR X f r'):OpR X f (λx y H Q=>r x y H Q\/r' x y H Q):=by
 intro pins s σ H x y v u Q I rx ry q
 rcases q with q | q
 ·exact h pins s σ H x y v u Q I rx ry q
 ·exact h' pins s σ H x y v u Q I rx ry q
theorem Ap(b:cC){op:CmpOp}(h:op≠.In:=by decide)(h2:op≠.NotIn:=by decide):behindInMarks op b=false:=by
 have e1:(op==CmpOp.In)=false:=by cases op <;> first | rfl | exact absurd rfl h
 have e2:(op==CmpOp.NotIn)=false:=by cases op <;> first | rfl | exact absurd rfl h2
 cases b <;> simp [behindInMarks,e1,e2]
theorem Vc{op:CmpOp}{r:R2}(ho:OpR X (compareOp op) r)(ha:PE X a ta)(hb:PE X b tb)(hm:behindInMarks op b=false):PE X (.Compare a [op] [b] pos) (Dh r ta tb):=by
 intro pins s σ H Q I h;exact wpAny_Compare1 (YW ha hb I h λv u s2 x y H2 I2 rx ry q=>ho pins s2 σ H2 x y v u Q I2 rx ry q) hm
def S0(t:TE):TT:=λσ H Q=>t σ H λx H'=>∃k,x=.bl k/\Q k H'
theorem Gh{op:CmpOp}{r:R2}(ho:OpR X (compareOp op) r)(ha:PE X a ta)(hb:PE X b tb)(hm:behindInMarks op b=false):PT X (.Compare a [op] [b] pos) (S0 (Dh r ta tb)):=by
 intro pins s σ H Q I h
 refine wpAny_isTrue_Compare1 (thn (ha pins s σ H _ I h) λv s1 ⟨x,H1,I1,r1,q1⟩=>thn (hb pins s1 σ H1 _ I1 q1) λu s2 ⟨y,H2,I2,r2,q2⟩ =>
  thn (ho pins s2 σ H2 x y v u _ I2 r1 r2 q2) λc s3 ⟨z,H3,I3,r3,k,e,q3⟩=>?_) hm
 subst e;cases r3;exact eN ⟨H3,I3,q3⟩
def Yi(K:Frag)(x:V)(H:Hp)(k:Bool):Prop :=
 match x with
 | .non=>k=false
 | .bl b=>k=b
 | .int i=>k=(i != 0)
 | .str y=>y.length<=sizeLine/\k=((y.length:Int) != 0)
 | .byt y=>y.size<=sizeLine/\k=((y.size:Int) != 0)
 | .ref p=>(∃xs,SqL K H p xs/\k=!xs.isEmpty)\/(∃xs,SqT K H p xs/\k=!xs.isEmpty)\/∃kvs,H p=some (.dK kvs)/\k=!kvs.isEmpty
 | _=>False
theorem Pk{κ:Type}{kvs:List (κ×V)}{vs:List (κ×Ev)}(r:KV kvs vs):(!vs.isEmpty)=!kvs.isEmpty:=by
 cases r <;> rfl
theorem KG{xs:List V}{its:List Ev}(r:Vals xs its):(!its.toArray.isEmpty)=!xs.isEmpty:=by
 cases r <;> simp
theorem Hq:(sizeLine:Nat)<2 ^ 63:=by rw [cX]; decide
theorem XW:a_ X (λx H Q=>∃k,Yi X.K x H k/\Q k H):=by
 intro pins s σ H x v Q I rx h;obtain⟨k,e,q⟩:=h;have hl:=Hq;have hs:sizeLine=16777216:=cX;cases x with
 | non =>
  cases rx;have e':k=false:=e;subst e';exact truthy_none ⟨H,I,q⟩
 | bl b =>
  cases rx;have e':k=b:=e;subst e';exact eN ⟨H,I,q⟩
 | int i =>
  obtain⟨t,rfl⟩:=rx;have e':k=(i != 0):=e;subst e';exact PySem.P.truthy_int ⟨H,I,q⟩
 | str y =>
  obtain⟨t,rfl⟩:=rx;obtain⟨hy,e'⟩:y.length<=sizeLine/\k=((y.length:Int) != 0):=e;subst e';exact PySem.P.truthy_str (by omega) ⟨H,I.tok _,q⟩
 | byt y =>
  obtain⟨t,rfl⟩:=rx;obtain⟨hy,e'⟩:y.size<=sizeLine/\k=((y.size:Int) != 0):=e;subst e';exact PySem.W.truthy_bytes (by omega) ⟨H,I.tok _,q⟩
 | ref p =>
  cases rx;have e':(∃xs,SqL X.K H p xs/\k=!xs.isEmpty)\/(∃xs,SqT X.K H p xs/\k=!xs.isEmpty)\/∃kvs,H p=some (.dK kvs)/\k=!kvs.isEmpty:=e
  rcases e' with ⟨xs,hx,e'⟩ | ⟨xs,hx,e'⟩ | ⟨kvs,hx,e'⟩
  ·subst e'
   obtain⟨its,r,pl,hz⟩:=I.list hx;have hlen:=r.length;exact wpAny_truthy_list pl.isList (by simp only [UF]; omega) ⟨H,I.tok _,by rw [KG r]; exact q⟩
  ·subst e'
   obtain⟨its,r,pl,hz⟩:=I.tuple hx;have hlen:=r.length;exact truthy_tuple pl (by simp only [UF]; omega) ⟨H,I.tok _,by rw [KG r]; exact q⟩
  ·subst e'
   obtain⟨hz,hS,vs,r,m⟩:kvs.length<=sizeLine/\(p==sysModules)=false/\∃vs,KV kvs vs/\s.heap.DictOf (Aq X.prog X.w) p vs:=I.hok p _ hx;have hlen:kvs.length=vs.length:=Paired.length r;exact wpAny_truthy_dict hS m (by omega) ⟨H,I.tok _,by rw [Pk r]; exact q⟩
 | _=>exact(show False from e).elim
theorem TR(ha:PE X a ta)(he:∀whole,isTrue a X.env whole=(do let v ← whole; standAt a.pos; holding [v] (truthy v))) :
  PT X a (λσ H Q=>ta σ H λx H'=>∃k,Yi X.K x H' k/\Q k H'):=by
 intro pins s σ H Q I h;exact isTrue_plain (thn (ha pins s σ H _ I h) λv s1 ⟨x,H1,I1,r1,q1⟩=>XW pins s1 σ H1 x v Q I1 r1 q1) (he _)
theorem PP:OpR X (binaryOp .Add) (λx y H Q=>∃i j,x=.str i/\y=.str j/\i.length+j.length<=sizeLine/\Q (.str (i++j)) H):=by
 intro pins s σ H x y v u Q I rx ry h;obtain⟨i,j,rfl,rfl,hz,q⟩:=h;obtain⟨t,rfl⟩:=rx;obtain⟨t',rfl⟩:=ry;exact add_str (λt' tk=>⟨.str (i++j),H,I.tok _,⟨_,rfl⟩,q⟩) hz
theorem vals1{x:V}{us:List Ev}(r:Vals [x] us):∃u,us=[u]/\RelV x u:=by
 cases r with
 | cons r1 r2=>cases r2; exact⟨_,rfl,r1⟩
theorem vals2{x y:V}{us:List Ev}(r:Vals [x,y] us):∃u w',us=[u,w']/\RelV x u/\RelV y w':=by
 cases r with
 | cons r1 r2 =>
  cases r2 with
  | cons r3 r4=>cases r4; exact⟨_,_,rfl,r1,r3⟩
theorem Li(hc:X.calm=true):C7 X (.builtin "min") (λxs H Q=>∃i j,xs=[.int i,.int j]/\Q (.int (if j<i then j else i)) H):=by
 intro pins s σ H xs us Q I r h;obtain⟨i,j,rfl,q⟩:=h;obtain⟨u,w',rfl,⟨t,rfl⟩,⟨t',rfl⟩⟩:=vals2 r;refine min_two_ints (I.ok.hd hc) λh' tk k=>⟨_,H,I.kept k,?_,q⟩
 by_cases hj:j<i
 ·rw [if_pos hj,if_pos hj]; exact⟨_,rfl⟩
 ·rw [if_neg hj,if_neg hj]; exact⟨_,rfl⟩
def Ym(K:Frag)(x:V)(H:Hp)(n:Nat):Prop :=
 match x with
 | .str y=>y.length<=sizeLine/\n=y.length
 | .byt y=>y.size<=sizeLine/\n=y.size
 | .ref p=>(∃xs,SqL K H p xs/\n=xs.length)\/∃xs,SqT K H p xs/\n=xs.length
 | _=>False
theorem Bh:C7 X (.builtin "len") (λxs H Q=>∃x n,xs=[x]/\Ym X.K x H n/\Q (.int n) H):=by
 intro pins s σ H xs us Q I r h;obtain⟨x,n,rfl,e,q⟩:=h;obtain⟨u,rfl,rx⟩:=vals1 r;have hl:=Hq;have hs:sizeLine=16777216:=cX;cases x with
 | str y =>
  obtain⟨t,rfl⟩:=rx;obtain⟨hy,e'⟩:y.length<=sizeLine/\n=y.length:=e;subst e';exact len_str (by omega) ⟨.int _,H,I.tok _,⟨_,rfl⟩,q⟩
 | byt y =>
  obtain⟨t,rfl⟩:=rx;obtain⟨hy,e'⟩:y.size<=sizeLine/\n=y.size:=e;subst e';exact PySem.W.len_bytes (by omega) ⟨.int _,H,I.tok _,⟨_,rfl⟩,q⟩
 | ref p =>
  cases rx;have e':(∃xs,SqL X.K H p xs/\n=xs.length)\/∃xs,SqT X.K H p xs/\n=xs.length:=e
  rcases e' with ⟨xs,hx,e'⟩ | ⟨xs,hx,e'⟩
  ·subst e'
   obtain⟨its,r',pl,hz⟩:=I.list hx;have hlen:=r'.length;exact Calls.call_len_list pl.isList (by simp only [UF]; omega) ⟨.int xs.length,H,I.tok _,⟨_,by simp only [UF]; rw [hlen]⟩,q⟩
  ·subst e'
   obtain⟨its,r',pl,hz⟩:=I.tuple hx;have hlen:=r'.length;exact len_tuple pl (by simp only [UF]; omega) ⟨.int xs.length,H,I.tok _,⟨_,by simp only [UF]; rw [hlen]⟩,q⟩
 | _=>exact(show False from e).elim
end
structure ObjM (h:b9) (x dx C:Db) (mA:Str->Option Ev):Prop where
 obj:h.get? x=some (PySem.W.instObj C dx)
 ns:h.Ns1 dx mA
 ne:dx≠x
theorem Rx{h:b9}{dx:Db}{mA:Str->Option Ev}(n:h.Ns1 dx mA):∃od,h.get? dx=some od/\∀name,PySem.W.lookIn name od=some (mA name):=by
 obtain⟨o,es,ep,ho,hd,hk,_,hm⟩:=n;refine⟨o,ho,λname=>?_⟩;have e:=hm name;unfold nsFind findBy at e;rw [← Array.find?_toList] at e;unfold PySem.W.lookIn;rw [hd]
 dsimp only
 split
 ·rename_i y q
  rw [q] at e;exact congrArg some e
 ·rename_i q
  rw [q] at e
  have a:es.toList.any (·.refKey)=false:=by
   rw [List.any_eq_false];intro y hy;obtain⟨z,t,hkey⟩:=hk y (Array.mem_toList_iff.mp hy);simp [DictEntry.refKey,hkey]
  have a':¬es.toList.any (·.refKey)=true:=by rw [a]; exact bw
  rw [if_neg a'];exact congrArg some e
theorem ObjM.look{h:b9}{x dx C:Db}{mA:Str->Option Ev}(I:ObjM h x dx C mA):∃od,PySem.W.InstAt h x (PySem.W.instObj C dx) C (some od)/\∀name,PySem.W.lookIn name od=some (mA name) :=
 let ⟨od,ho,hl⟩:=Rx I.ns
 ⟨od,⟨I.obj,rfl,rfl,ho⟩,hl⟩
section
variable {prog:Program}{w:World}{A:Around}{E:Value->Shared->Prop}{s:Shared}{K:Frag}{x dx C f:Addr}{mA:Str->Option Value}{name:Str}{v:Value}
end
theorem RelO.some_of{v:V}{o:Option Ev}(r:RelO (some v) o):∃u,o=some u/\RelV v u:=by
 cases o with
 | none=>exact(show False from r).elim
 | some u=>exact⟨u,rfl,r⟩
section
variable {P:Program}{w:World}{H H':Hp}{h h':Heap}{a C dx:Addr}{fs fs':List (Str×V)}
theorem Vt(hok:HOk P w H h)(e:H a=some (.ins C dx fs)):∃mA,ObjM h a dx C mA/\(∀f,RelO (fs.lookup f) (mA f))/\PySem.Within mA (fs.map (·.1))/\fs.length<=1000/\H dx=some (.own a):=by
 obtain⟨d,z,ne,ob,mA,n,r,q⟩:=(show ObjOk P w H h a (.ins C dx fs) from hok a _ e);exact⟨mA,⟨ob,n,ne⟩,r,q,z,d⟩
end
structure Cls (K:Frag) (C:Db):Prop where
 pg:PySem.W.plainGet K C Str.empty=true
 hd:PySem.W.hasDictIn K C=true
 po:PySem.W.plainOver K C=true
 sa:PySem.W.findIn K (.ref C) "__setattr__"=some (some (.builtin "object.__setattr__"))
theorem Cls.get{K:Frag}{C:Db}(c:Cls K C)(f:Str):PySem.W.plainGet K C f=true:=c.pg
structure bd (K:Frag) (C:Db) (f:Str) (v:V) (u:Ev):Prop where
 at_:PySem.W.findIn K (.ref C) f=some (some u)
 rel:RelV v u
 get:PySem.W.specialIn K u "__get__"=some none
 cp:PySem.W.copiedNames.contains f=false
structure bY (K:Frag) (C:Db) (m:Str) (f:Db):Prop where
 at_:PySem.W.findIn K (.ref C) m=some (some (.ref f))
 fn:PySem.W.isFn K (.ref f)=true
 kp:keepIn K (.ref f)=true
section
variable {X:Cx}{pins:List (Addr×Obj)}{σ:St}{H:Hp}{s:Shared}{a C dx:Addr}{fs:List (Str×V)}{f:Str}{v:V}{A:Around}{E:Value->Shared->Prop}
end
section
variable {X:Cx}{o e value:Expr}{f:Str}{pos pos' tpos:Pos}{ta tv:TE}
end
section
variable {X:Cx}{pins:List (Addr×Obj)}{σ:St}{H:Hp}{s:Shared}{A:Around}{E:Value->Shared->Prop}{Q:Value->Shared->Prop}{c:Value}{b:Bool}
inductive GW (K:Frag) (H:Hp):V->Ev->Prop where
 | non:GW K H .non (.type "NoneType")
 | bl (x:Bool):GW K H (.bl x) (.type "bool")
 | int (i:Int):GW K H (.int i) (.type "int")
 | str (x:Str):GW K H (.str x) (.type "str")
 | flt (x:UInt64):GW K H (.flt x) (.type "float")
 | lst {a:Db} {xs:List V} (e:H a=some (.lst xs)):GW K H (.ref a) (.type "list")
 | frz {a:Db} {o:Obj} {xs:List V} (e:H a=some (.frz o (.lst xs))):GW K H (.ref a) (.type "list")
 | tup {a:Db} {xs:List V} (e:H a=some (.tup xs)):GW K H (.ref a) (.type "tuple")
 | dF {a:Db} {o:Obj} {kvs:List (Key×V)} (e:H a=some (.frz o (.dK kvs))):GW K H (.ref a) (.type "dict")
 | dK {a:Db} {kvs:List (Key×V)} (e:H a=some (.dK kvs)):GW K H (.ref a) (.type "dict")
 | dT {a:Db} {kvs:List (List Key×V)} (e:H a=some (.dT kvs)):GW K H (.ref a) (.type "dict")
 | ins {a C dx:Db} {fs:List (Str×V)} (e:H a=some (.ins C dx fs)) (cl:Cls K C) (ha:PySem.W.findIn K (.ref C) "__class__"=some (some (.builtin "object.__class__")))
   (hn:PySem.W.specialIn K (.builtin "object.__class__") "__get__"=some (some (.builtin "getset_descriptor.__get__"))) (htk:PySem.W.takesIn K (.builtin "object.__class__")=some true)
   (hm:PySem.W.mroIn K C (.type "object")=some true):GW K H (.ref a) (.ref C)
theorem R9{x:V}{u t:Ev}(I:Inv X pins σ H s)(rx:RelV x u)(ty:GW X.K H x t)(e:PySem.W.kitOne X.K t c=some b)(h:∀tk,Q (.bool b) { s with toks:=tk }) :
  wpAny (model X.prog X.w) A (call (.builtin "isinstance") [u,c]) Q E s:=by
 cases ty with
 | non=>cases (show u=cR from rx); exact PySem.W.kia_one PySem.W.kitx_none I.kIn ef e (λz=>nomatch z) h
 | bl y=>cases (show u=eY y from rx); exact PySem.W.kia_one PySem.W.kitx_bool I.kIn ef e (λz=>nomatch z) h
 | int i=>obtain⟨t,q⟩:=(show ∃t,u=jL i t from rx); cases q; exact PySem.W.kia_one PySem.W.kitx_int I.kIn ef e (λz=>nomatch z) h
 | str y=>obtain⟨t,q⟩:=(show ∃t,u=eg y t from rx); cases q; exact PySem.W.kia_one PySem.W.kitx_str I.kIn ef e (λz=>nomatch z) h
 | flt y=>obtain⟨t,q⟩:=(show ∃t,u=Value.float y t from rx); cases q; exact PySem.W.kia_one PySem.W.kitx_float I.kIn ef e (λz=>nomatch z) h
 | @lst a xs ea =>
  cases (show u=cV a from rx);obtain⟨_,_,n,_,h1⟩:=(show ObjOk X.prog X.w H s.heap a (.lst xs) from I.hok a _ ea);exact PySem.W.kia_one PySem.W.kitx_list I.kIn ⟨_,h1,rfl⟩ e (λz=>nomatch z) h
 | @frz a ob xs ea =>
  cases (show u=cV a from rx);obtain⟨_,_,_,n,_,h1⟩:=(show ObjOk X.prog X.w H s.heap a (.frz ob (.lst xs)) from I.hok a _ ea);exact PySem.W.kia_one PySem.W.kitx_list I.kIn ⟨_,h1,rfl⟩ e (λz=>nomatch z) h
 | @tup a xs ea =>
  cases (show u=cV a from rx);obtain⟨_,_,_,p⟩:=(show ObjOk X.prog X.w H s.heap a (.tup xs) from I.hok a _ ea);obtain⟨o,h1,h2,_⟩:=p;exact PySem.W.kia_one PySem.W.kitx_tuple I.kIn ⟨o,h1,h2⟩ e (λz=>nomatch z) h
 | @dF a ob kvs ea =>
  cases (show u=cV a from rx);obtain⟨_,_,_,vs,_,p⟩:=(show ObjOk X.prog X.w H s.heap a (.frz ob (.dK kvs)) from I.hok a _ ea);obtain⟨o,es,ep,h1,h2,_⟩:=p;exact PySem.W.kia_one PySem.W.kitx_dict I.kIn ⟨o,h1,h2.1⟩ e (λz=>nomatch z) h
 | @dK a kvs ea =>
  cases (show u=cV a from rx);obtain⟨_,_,vs,_,p⟩:=(show ObjOk X.prog X.w H s.heap a (.dK kvs) from I.hok a _ ea);obtain⟨o,es,ep,h1,h2,_⟩:=p;exact PySem.W.kia_one PySem.W.kitx_dict I.kIn ⟨o,h1,h2.1⟩ e (λz=>nomatch z) h
 | @dT a kvs ea =>
  cases (show u=cV a from rx);obtain⟨_,_,xs,_,o,es,ep,h1,h2,_⟩:=(show ObjOk X.prog X.w H s.heap a (.dT kvs) from I.hok a _ ea);exact PySem.W.kia_one PySem.W.kitx_dict I.kIn ⟨o,h1,h2.1⟩ e (λz=>nomatch z) h
 | @ins a C dx fs ea cl ha hn htk hm =>
  cases (show u=cV a from rx);obtain⟨mA,O,_⟩:=Vt I.hok ea;obtain⟨od,J,_⟩:=O.look;exact PySem.W.kia_one (PySem.W.kitx_own (cl.get _) cl.hd ha hn htk hm) I.kIn J e (λz=>nomatch z) h
end
structure Room (k:Nat) (A:cw):Prop where
 hd:A.handled=none
 dp:A.depth+3*k+5<recursionLimit
 un:A.units+16*k+200<cLine
 gd:A.guards=some []
theorem Room.mono{j k:Nat}{A:cw}(r:Room k A)(h:j<=k):Room j A:=⟨r.hd,by have:=r.dp; omega,by have:=r.un; omega,by first | exact r.gd | (show pushGuards _ _=_; rw [r.gd]; rfl) | (simp [jO,pushGuards,Code.guards,jP,r.gd])⟩
theorem Room.deeper{k:Nat}{A:cw}(r:Room (k+1) A)(env:Env):Room k (A.deeper env) :=
 ⟨r.hd,by have:=r.dp; show A.depth+1+3*k+5<_; omega,by have:=r.un; show A.units+3+16*k+200<_; omega,by first | exact r.gd | (show pushGuards _ _=_; rw [r.gd]; rfl) | (simp [jO,pushGuards,Code.guards,jP,r.gd])⟩
theorem Room.in1{k:Nat}{A:cw}(r:Room (k+1) A):Room k A.in1 :=
 ⟨r.hd,by have:=r.dp; show A.depth+3*k+5<_; omega,by have:=r.un; show A.units+1+16*k+200<_; omega,by first | exact r.gd | (show pushGuards _ _=_; rw [r.gd]; rfl) | (simp [jO,pushGuards,Code.guards,jP,r.gd])⟩
theorem Room.depth{k:Nat}{A:cw}(r:Room k A):A.depth<recursionLimit:=by have:=r.dp; omega
theorem Room.units{k:Nat}{A:cw}(r:Room k A):A.units+64<cLine:=by have:=r.un; omega
theorem Room.units0{k:Nat}{A:cw}(r:Room k A):A.units<cLine:=by have:=r.un; omega
def VL:TA:=λ_ H Q=>Q [] H
def P9(ta:TE)(tr:TA):TA:=λσ H Q=>ta σ H λx H1=>tr σ H1 λxs H2=>Q (x::xs) H2
section
variable {X:Cx}{e:Expr}{es:List Expr}{te:TE}{t:TA}{pos:Pos}
theorem DD:PA X [] VL:=λ_ _ _ _ H Q I h=>e_ ⟨[],H,I,.nil,h⟩
theorem Bt(ha:PE X e te)(hr:PA X es t)(hs:starEach (e::es) X.env=(false,eval e X.env)::starEach es X.env:=by rfl):PA X (e::es) (P9 te t):=by
 intro pos pins s σ H Q I h;rw [hs];show wpAny _ _ (spliced ((false,eval e X.env)::backTo pos (starEach es X.env))) _ _ s;refine eC (thn (ha pins s σ H _ I h) λu s1 ⟨x,H1,I1,r1,q1⟩=>?_);exact thn (hr pos pins s1 σ H1 _ I1 q1) λus s2 ⟨xs,H2,I2,r2,q2⟩=>⟨x::xs,H2,I2,.cons r1 r2,q2⟩
def aR(t:TA):TE:=λσ H Q=>t σ H λxs H1=>xs.length<=sizeLine/\∀p,H1 p=none->Q (.ref p) (BC H1 p (.tup xs))
def aU(t:TA):TE:=λσ H Q=>t σ H λxs H1=>xs.length<=sizeLine/\∀p,H1 p=none->Q (.ref p) (BC H1 p (.lst xs))
theorem Xr{x1}(h:PA X es t):PE X (.Tuple es x1 pos) (aR t):=by
 intro pins s σ H Q I hq;refine wpAny_Tuple_spliced (thn (h pos pins s σ H _ I hq) λus s1 ⟨xs,H1,I1,r,z,q⟩=>⟨by rw [← r.length]; exact z,?_⟩);have hf:H1 s1.heap.objs.size=none:=I1.hok.fresh (Rs _);refine⟨.ref s1.heap.objs.size,BC H1 s1.heap.objs.size (.tup xs),I1.laid (t':=s1.toks) (λb u e=>FM _ e) (Rs _) ?_,rfl,q _ hf⟩;exact⟨z,us,r,IsTupN.new _ _⟩
theorem PM(h:PA X es t):PE X (.List es pos) (aU t):=by
 intro pins s σ H Q I hq;refine wpAny_List_spliced (thn (h pos pins s σ H _ I hq) λus s1 ⟨xs,H1,I1,r,z,q⟩=>⟨by rw [← r.length]; exact z,?_⟩);have hf:H1 s1.heap.objs.size=none:=I1.hok.fresh (Rs _);refine⟨.ref s1.heap.objs.size,BC H1 s1.heap.objs.size (.lst xs),I1.laid (t':=s1.toks) (λb u e=>FM _ e) (Rs _) ?_,rfl,q _ hf⟩;exact⟨z,us,0,r,Uf _ rfl⟩
end
abbrev Sp:=List V->Hp->VK->XK->Prop
abbrev U5:=List Env->Hp->Op->XK->Ev->Op->Prop
structure Env0 (P:cL) (w:cQ) (K:Frag) (mg:Str->Option Ev) (base:b9) (A:cw) (outer:List Env) (s:Op) (H:Hp):Prop where
 frames:A.frames=some outer
 mod:Mod K mg base
 bs:∀b o,base.get? b=some o->s.heap.get? b=some o/\H b=none
 bsz:base.objs.size<=s.heap.objs.size
 funs:s.heap.FunFrames base outer
 frf:∀b∈Sd outer,H b=none
 hok:HOk P w H s.heap
 bare:gX s.gens
def CE(outer:List Env)(P:cL)(w:cQ)(H:Hp)(s:Op)(Q:VK)(u:Ev)(s':Op):Prop :=
 ∃v H',s'.os=s.os/\gX s'.gens/\Un (Sd outer) [] H H' s.heap s'.heap/\HOk P w H' s'.heap/\RelV v u/\Q v H'
def CR(CX:U5)(outer:List Env)(P:cL)(w:cQ)(H:Hp)(s:Op)(Q:VK)(E:XK)(r:Result)(s':Op):Prop :=
 match r with
 | .ok (.ret u)=>CE outer P w H s Q u s'
 | .ok _=>False
 | .error e=>CX outer H s E e s'
structure BG (P:cL) (w:cQ) (K:Frag) (mg:Str->Option Ev) (base:b9) (CX:U5) (k:Nat) (f:Db) (fd:bo) (ps:List Str) (sp:Sp):Prop where
 len:∀vs H Q E,sp vs H Q E->vs.length=ps.length
 run:∀(A:cw) (outer:List Env) (s:Op) (H:Hp) (args:Args) (us:List Ev) (vs:List V) (Q:VK) (E:XK),Room k A->Env0 P w K mg base A outer s H->iV s fd args (ps.zip us)->Vals vs us->sp vs H Q E ->
  codeAny (model P w) A (.call (.ref f) args) (CR CX outer P w H s Q E) s
theorem Env0.in1{P:cL}{w:cQ}{K:Frag}{mg:Str->Option Ev}{base:b9}{A:cw}{outer:List Env}{s:Op}{H:Hp}(e:Env0 P w K mg base A outer s H) :
  Env0 P w K mg base A.in1 outer s H:=⟨e.frames,e.mod,e.bs,e.bsz,e.funs,e.frf,e.hok,e.bare⟩
section
variable {X:Cx}{pins:List (Addr×Obj)}{σ:St}{H:Hp}{s s':Shared}
theorem Inv.env0(I:Inv X pins σ H s):Env0 X.prog X.w X.K X.mg X.base X.A X.stack s H :=
 ⟨I.ok.frames,I.ok.mod,I.bs,cG I.ok.bsz I.sz,I.stack,I.stkFree,I.hok,I.bare⟩
theorem Inv.after{Q:VK}{u:Ev}(I:Inv X pins σ H s)(h:CE X.stack X.prog X.w H s Q u s'):EP X pins σ Q u s':=by
 obtain⟨v,H',os,bare,un,hok,r,q⟩:=h;obtain⟨hh,g,d,t,os'⟩:=s';obtain rfl:os'=s.os:=os;exact⟨v,H',I.call (h':=hh) (g':=g) (d':=d) (t':=t) (ch:=[]) un hok bare (λb z=>absurd z (by simp)),r,q⟩
end
def S2(sp:Sp)(dvs:List V)(E:XK)(t:TA):TE:=λσ H Q=>t σ H λvs H1=>sp (vs++dvs) H1 Q E
def Binds(K:Frag)(fd:bo)(ps:List Str)(ds:List Ev):Prop :=
 ∀(s:Op) (us:List Ev),K.In s.heap->(us++ds).length=ps.length->iV s fd ⟨us,[]⟩ (ps.zip (us++ds))
theorem Binds.all{K:Frag}{fd:bo}{ps:List Str}(h:∀us:List Ev,us.length=ps.length->bindArgs fd ⟨us,[]⟩=pure (ps.zip us)):Binds K fd ps []:=λs us _ hl=>by
 rw [cH] at hl ⊢;exact .of_eq (h us hl)
def Py(CX:U5)(X:Cx)(E:XK):Prop:=∀(pins:List (Db×Obj)) (σ:St) (H:Hp) (s:Op) (e:Ev) (s':Op),Inv X pins σ H s->CX X.stack H s E e s'->X.xe e s'
section
variable {X:Cx}{CX:U5}{k:Nat}{f C:Addr}{fd:FuncData}{ps:List Str}{sp:Sp}{dvs:List V}{ds:List Value}{E:XK}{x m:Str}{p pos apos:Pos}{e o:Expr}{es:List Expr}{ta:TE}{t:TA}
theorem Xg{pins:List (Db×Obj)}{σ:St}{H:Hp}{s:Op}{Q:VK}{us:List Ev}{vs:List V}(F:BG X.prog X.w X.K X.mg X.base CX k f fd ps sp)(hr:Room k X.A)(hb:Binds X.K fd ps ds)(hd:Vals dvs ds)(hx:Py CX X E)
  (I:Inv X pins σ H s) (r:Vals vs us) (h:sp (vs++dvs) H Q E):wpAny (model X.prog X.w) X.A (call (.ref f) us) (EP X pins σ Q) X.xe s:=by
 have r2:Vals (vs++dvs) (us++ds):=r.append hd;have hl:(us++ds).length=ps.length:=by rw [← r2.length]; exact F.len _ _ _ _ h
 refine wpAny_call (iW (F.run X.A X.stack s H ⟨us,[]⟩ (us++ds) (vs++dvs) Q E hr I.env0 (hb s us I.kIn hl) r2 h) λr s' hq=>?_);cases r with
 | error e=>exact hx pins σ H s e s' I hq
 | ok fl =>
  cases fl with
  | ret u=>exact I.after hq
  | next=>exact dg hq
  | brk=>exact dg hq
  | cont=>exact dg hq
theorem QK(F:BG X.prog X.w X.K X.mg X.base CX k f fd ps sp)(hr:Room k X.A)(hg:Gl X x)(hm:X.mg x=some (.ref f))(hk:keepIn X.K (.ref f)=true)(hb:Binds X.K fd ps ds)(hd:Vals dvs ds)(hx:Py CX X E)
  (ha:PA X (e::es) t) (hdb:(x==("__debug__":Str))=false:=by decide) (he:starEach (e::es) X.env=(false,eval e X.env)::starEach es X.env:=by rfl) (hpl:(backTo pos (starEach es X.env)).any (·.1)=false:=by rfl) :
  PE X (.Call (.Name x p) (e::es) [] pos) (S2 sp dvs E t):=by
 intro pins s σ H Q I h;refine da (QX I hg hm ?_ hdb);refine PySem.W.callWith_K (h₀:=X.base) I.ok.mod.kin hk (thn (ha pos pins s σ H _ I h) λus s1 ⟨vs,H1,I1,r,q⟩=>⟨I1.kIn,?_⟩) he hpl;exact Xg F hr hb hd hx I1 r q
structure Mk (K:Frag) (C f:Db):Prop where
 makes:PySem.W.makesIn K C=true
 init:PySem.W.findIn K (.ref C) "__init__"=some (some (.ref f))
 fn:PySem.W.isFn K (.ref f)=true
 kp:keepIn K (.ref C)=true
end
section
variable {X:Cx}{CX:U5}{k:Nat}{f C:Addr}{fd:FuncData}{ps ks:List Str}{sp:Sp}{E:XK}{x m:Str}{p pos apos kpos:Pos}{e o:Expr}{es:List Expr}{kws:List Keyword}{te ta:TE}{t tk:TA}{nm:Option Str}
structure bA (K:Frag) (fd:bo) (ps ks:List Str) (g:List Ev->List Ev->List Ev) (gV:List V->List V->List V):Prop where
 to:∀(s:Op) (us ws:List Ev),K.In s.heap->(g us ws).length=ps.length->iV s fd ⟨us,ks.zip ws⟩ (ps.zip (g us ws))
 rel:∀{vs:List V} {us:List Ev} {zs:List V} {ws:List Ev},Vals vs us->Vals zs ws->Vals (gV vs zs) (g us ws)
variable {g:List Value->List Value->List Value}{gV:List V->List V->List V}
end
structure Ah (N P:List Str) (sc:eZ):Prop where
 kind:sc.kind=.function
 co:sc.isCoroutine=false
 gen:sc.isGenerator=false
 nd:N.Nodup
 pre:N.take P.length=P
 par:∀x∈P,sc.names.lookup x=some .local\/sc.names.lookup x=some .cell
 nofree:∀y∈sc.names,y.2≠.free
theorem Lk{kindOf:Str->Option eK}{x:Str}:∀{binds:List (Str×Ev)} {m:Str->Option Ev},(∀v,(x,v)∉binds)->bindL kindOf binds m x=m x
 | [],_,_=>rfl
 | (n,v)::r,m,h=>by
  unfold bindL;rw [Lk λw hw=>h w (TM _ hw)]
  split
  ·have:x≠n:=by rintro rfl; exact h v On
   simp [this]
  ·rfl
theorem Lm{kindOf:Str->Option eK}{x:Str}:∀{binds:List (Str×Ev)} {m:Str->Option Ev},(∀v,(x,v)∉binds)->bindC kindOf binds m x=m x
 | [],_,_=>rfl
 | (n,v)::r,m,h=>by
  unfold bindC;rw [Lm λw hw=>h w (TM _ hw)]
  split
  ·rfl
  ·have:x≠n:=by rintro rfl; exact h v On
   simp [this]
theorem Ll{kindOf:Str->Option eK}{x:Str}{v:Ev}:∀{P:List Str} {vs:List Ev} {i:Nat} {m:Str->Option Ev},P.Nodup->P[i]?=some x->vs[i]?=some v->kindOf x=some .local ->
  bindL kindOf (P.zip vs) m x=some v
 | [],_,_,_,_,h,_,_=>by simp at h
 | _::_,[],_,_,_,_,h,_=>by simp at h
 | p::P,w::vs,0,m,nd,h1,h2,hk=>by
  simp at h1 h2; subst h1; subst h2
  show bindL kindOf ((p,w)::P.zip vs) m p=_;unfold bindL;rw [Lk λv hv=>(cD.mp nd).1 (gh hv).1,if_pos hk];simp
 | p::P,w::vs,i+1,m,nd,h1,h2,hk=>by
  show bindL kindOf ((p,w)::P.zip vs) m x=_;unfold bindL;exact Ll (i:=i) (cD.mp nd).2 (by simpa using h1) (by simpa using h2) hk
theorem Ln{kindOf:Str->Option eK}{x:Str}{v:Ev}:∀{P:List Str} {vs:List Ev} {i:Nat} {m:Str->Option Ev},P.Nodup->P[i]?=some x->vs[i]?=some v->kindOf x≠some .local ->
  bindC kindOf (P.zip vs) m x=some v
 | [],_,_,_,_,h,_,_=>by simp at h
 | _::_,[],_,_,_,_,h,_=>by simp at h
 | p::P,w::vs,0,m,nd,h1,h2,hk=>by
  simp at h1 h2; subst h1; subst h2
  show bindC kindOf ((p,w)::P.zip vs) m p=_;unfold bindC;rw [Lm λv hv=>(cD.mp nd).1 (gh hv).1,if_neg hk];simp
 | p::P,w::vs,i+1,m,nd,h1,h2,hk=>by
  show bindC kindOf ((p,w)::P.zip vs) m x=_;unfold bindC;exact Ln (i:=i) (cD.mp nd).2 (by simpa using h1) (by simpa using h2) hk
def start(N:List Str)(vs:List V):St:=vs.map some++bj (N.length - vs.length) none
def M7(CX:U5)(P:cL)(w:cQ)(K:Frag)(mg:Str->Option Ev)(base:b9)(N:List Str)(qual:Str)(scope:eZ)(f:Db)(cd:Ev)(A:cw)(outer:List Env)(s:Op)(H:Hp)(E:XK):Cx where
 prog:=P
 w:=w
 K:=K
 mg:=mg
 base:=base
 A:=A.deeper (envOfC qual scope s.heap.objs.size f cd)
 N:=N
 s₀:=s
 H₀:=H
 env:=envOfC qual scope s.heap.objs.size f cd
 outer:=outer
 stack:=envOfC qual scope s.heap.objs.size f cd::outer
 ex:=[]
 calm:=true
 fn:=λ_=>true
 pn:=[]
 xe:=λe s'=>wpAny (model P w) (A.deeper (envOfC qual scope s.heap.objs.size f cd)) (leaving (envOfC qual scope s.heap.objs.size f cd) e) (λ_ s''=>CX outer H s E e s'') (λe' s''=>CX outer H s E e' s'') s'
theorem Og{sc:eZ}{n:Nat}{x:Str}(h:sc.names.lookup x=some .cell):∃c,(cellsFrom n sc.names []).lookup x=some c:=by
 have q:=PySem.W.cellsFrom_some sc.names n [] (.inl h);exact Option.isSome_iff_exists.mp q
theorem SA{CX:U5}{P:cL}{w:cQ}{K:Frag}{mg:Str->Option Ev}{base:b9}{N ps:List Str}{qual:Str}{scope:eZ}{f:Db}{cd:Ev}{A:cw}{outer:List Env}{s s1:Op}{H:Hp}{E:XK}{us:List Ev}{vs:List V}
  (S:Ah N ps scope) (hd:A.handled=none) (e0:Env0 P w K mg base A outer s H) (hl:vs.length=ps.length) (r:Vals vs us)
  (x:InCallC s s.heap.objs.size (bindL (envOfC qual scope s.heap.objs.size f cd).kindOf (ps.zip us) λ_=>none) (cellsFrom (s.heap.objs.size+1) scope.names []) (bindC (envOfC qual scope s.heap.objs.size f cd).kindOf (ps.zip us) λ_=>none) s1) :
  Inv (M7 CX P w K mg base N qual scope f cd A outer s H E) [] (start N vs) H s1:=by
 have hpl:ps.length<=N.length:=by have:=congrArg fG S.pre; rw [dG] at this; omega
 obtain⟨h1,tk,rfl,hk⟩:=x.done;have noA:∀b:Db,b∉(M7 CX P w K mg base N qual scope f cd A outer s H E).ex:=λb z=>absurd (show b∈([]:List Db) from z) (by simp)
 refine⟨⟨e0.mod,S.kind,rfl,rfl,Rs _,λy z c h1 h2=>?_,λy hy=>?_,λy c _ h=>?_,λ_=>hd,Around.frames_deeper e0.frames,.inr ⟨rfl,rfl⟩,λb z=>absurd z (noA b),e0.bs,e0.bsz,λb _ _=>noA b,λb z=>absurd z (noA b),e0.funs,e0.frf⟩,
  rfl,e0.bare,Un.kept hk,⟨_,x.toInCall.ns,λi y v h1 h2 h3=>?_⟩,λy c h=>⟨_,x.cell y c h⟩,e0.hok.fresh (Rs _),λy c h=>?_,λp hp=>absurd (show p∈([]:List (Db×Obj)) from hp) (by simp),e0.hok.kept hk,?_⟩
 ·exact name_of_addr x.apart (PySem.mem_of_lookup h1) (PySem.mem_of_lookup h2)
 ·have hy:scope.names.lookup y=some .cell\/scope.names.lookup y=some .free:=hy
  rcases hy with hy | hy
  ·exact Og hy
  ·exact absurd rfl (S.nofree _ (PySem.mem_of_lookup hy))
 ·exact gf (x.above y c (PySem.mem_of_lookup h))
 ·have hi:i<vs.length:=by
   unfold start at h2
   by_cases hi:i<vs.length
   ·exact hi
   ·rw [cf (by simpa using hi)] at h2
    rw [gF] at h2
    split at h2 <;> cases h2
  have ha:vs[i]?=some v:=by
   unfold start at h2;rw [fC (by simpa using hi),bv] at h2;cases e:vs[i]? with
   | none=>rw [e] at h2; cases h2
   | some a=>rw [e] at h2; cases h2; rfl
  obtain⟨u,hu,rv⟩:=r.get ha
  have hp:ps[i]?=some y:=by
   rw [← S.pre,List.getElem?_take_of_lt (by omega)]; exact h1
  have ndP:ps.Nodup:=by rw [← S.pre]; exact S.nd.sublist (List.take_sublist _ _)
  refine⟨u,rv,?_⟩
  rcases S.par y (dJ hp) with k | k
  ·exact .inl ⟨k,Ll ndP hp hu k⟩
  ·obtain⟨c,e⟩:=Og (n:=s.heap.objs.size+1) k
   refine .inr ⟨.inl k,c,e,?_⟩;have q:=x.cell y c e;rw [Ln ndP hp hu (by show scope.names.lookup y≠_; rw [k]; decide)] at q;exact q
 ·exact e0.hok.fresh (gf (x.above y c (PySem.mem_of_lookup h)))
 ·unfold start
  show _=N.length;rw [bi,No,i9];omega
theorem Zg{CX:U5}{P:cL}{w:cQ}{K:Frag}{mg:Str->Option Ev}{base:b9}{k:Nat}{f:Db}{name qual:Str}{params:Arguments}{body:List cS}{scope:eZ}{dV kV doc pm cdv ct oc:Ev}{an od:Option Db}
  {osl:Array (Option Ev)} {N ps:List Str} {sp:Sp} (lk:K.lookup f=some ⟨oc,od,.func (fnOf name qual params body scope dV kV doc pm an cdv ct),osl⟩) (hcd:codeIn K cdv qual=true) (S:Ah N ps scope)
  (len:∀vs H Q E,sp vs H Q E->vs.length=ps.length)
  (hbody:∀(A:cw) (outer:List Env) (s:Op) (H:Hp) (vs:List V) (Q:VK) (E:XK),Room k (A.deeper (envOfC qual scope s.heap.objs.size f cdv))->sp vs H Q E ->
   ∃t,PSs (M7 CX P w K mg base N qual scope f cdv A outer s H E) body t/\t { nx:=λ_ H'=>Q .non H',rt:=Q } (start N vs) H) :
  BG P w K mg base CX (k+1) f (fnOf name qual params body scope dV kV doc pm an cdv ct) ps sp:=by
 refine⟨len,λA outer s H args us vs Q E hr e0 hb r hsp=>?_⟩;have hl:=len _ _ _ _ hsp;have KX:K.In s.heap:=e0.mod.kin.keeps λb o e=>(e0.bs b o e).1;have lim:s.heap.NoLimit:=e0.mod.nolimit.keeps λb o e=>(e0.bs b o e).1
 have hkind:∀y∈ps.zip us,scope.names.lookup y.1=some .local\/(scope.names.lookup y.1=some .cell/\((cellsFrom (s.heap.objs.size+1) scope.names []).lookup y.1).isSome=true):=fun⟨n,v⟩ hy=>by
  rcases S.par n (gh hy).1 with q | q
  ·exact .inl q
  ·exact .inr ⟨q,PySem.W.cellsFrom_some _ _ _ (.inl q)⟩
 refine codeAny_call_function hr.depth (KX _ _ lk) rfl S.co S.gen rfl (PySem.W.codeRec_of KX hcd) (hb _ _ _ _ ?_);refine wpAny_newFunctionEnv_cells S.kind hkind λenv he s1 x=>?_;subst he;refine⟨lim.keeps x.toInCall.keep,codeAny_func ?_⟩;obtain⟨t,ht,hq⟩:=hbody A outer s H vs Q E (hr.deeper _) hsp;have I:Inv (M7 CX P w K mg base N qual scope f cdv A outer s H E) [] (start N vs) H s1:=SA S hr.hd e0 hl r x;refine c7 (ht [] s1 (start N vs) H _ I hq) (λfl s' hs=>?_) λe s' hs=>hs
 have fin:∀{σ':St} {H':Hp} {v:V} {u:Ev},Inv (M7 CX P w K mg base N qual scope f cdv A outer s H E) [] σ' H' s'->RelV v u->Q v H'->CE outer P w H s Q u s' :=
  λ{σ' H' v u} J rv q=>⟨v,H',J.os,J.bare,J.base,J.hok,rv,q⟩
 cases fl with
 | ret u =>
  obtain⟨v,σ',H',J,rv,q⟩:=hs;exact fin J rv q
 | next =>
  obtain⟨σ',H',J,q⟩:=hs;exact fin (v:=V.non) (u:=cR) J rfl q
 | brk =>
  obtain⟨_,_,_,q⟩:=hs;exact dg q
 | cont =>
  obtain⟨_,_,_,q⟩:=hs;exact dg q
section
variable {X:Cx}{x:Str}{p pos:Pos}{e:Expr}{es:List Expr}{t:TA}{id T:String}{r:List V->Hp->VK->Prop}
def aA(r:List V->Hp->VK->Prop)(t:TA):TE:=λσ H Q=>t σ H λvs H1=>r vs H1 Q
theorem Gk(hc:C7 X (.builtin id) r)(hg:Gl X x)(hm:X.mg x=none)(hv:bootBuiltins x=some (.builtin id))(ha:PA X (e::es) t)(hn:x ≠ "__name__":=by decide)(hdb:(x==("__debug__":Str))=false:=by decide)
  (he:starEach (e::es) X.env=(false,eval e X.env)::starEach es X.env:=by rfl) (hpl:(backTo pos (starEach es X.env)).any (·.1)=false:=by rfl):PE X (.Call (.Name x p) (e::es) [] pos) (aA r t):=by
 intro pins s σ H Q I h;refine da (Cw I hg hm hv ?_ hn hdb);exact PyProof.Rows.callWith_builtin1 (thn (ha pos pins s σ H _ I h) λus s1 ⟨vs,H1,I1,r1,q1⟩=>hc pins s1 σ H1 vs us Q I1 r1 q1) he hpl
theorem LU(hc:C7 X (.type T) r)(hg:Gl X x)(hm:X.mg x=none)(hv:bootBuiltins x=some (.type T))(ha:PA X (e::es) t)(hn:x ≠ "__name__":=by decide)(hdb:(x==("__debug__":Str))=false:=by decide)
  (he:starEach (e::es) X.env=(false,eval e X.env)::starEach es X.env:=by rfl) (hpl:(backTo pos (starEach es X.env)).any (·.1)=false:=by rfl):PE X (.Call (.Name x p) (e::es) [] pos) (aA r t):=by
 intro pins s σ H Q I h;refine da (Cw I hg hm hv ?_ hn hdb);exact cY (thn (ha pos pins s σ H _ I h) λus s1 ⟨vs,H1,I1,r1,q1⟩=>hc pins s1 σ H1 vs us Q I1 r1 q1) he hpl
end
end L2
namespace HT
open PySem PyProof.Rows
section
open PySem.SeqAt
open PySem.AutoSeq1 (wpAny_loadPart')
open PySem.MeetsSeq PySem.MeetsSeq2 PySem.MeetsSeq3
end
section
variable {prog:Program}{w:World}{A:Around}{E:Value->Shared->Prop}{s:Shared}
theorem cat_tup{t b:Db}{vs ws:List Ev}{Q:Ev->Op->Prop}(ht:IsTup s.heap t vs.toArray)(hb:IsTup s.heap b ws.toArray)(hv:vs≠[])
  (h1:ws=[]->Q (.ref t) s) (h2:ws≠[]->Q (.ref s.heap.objs.size) { s with heap:=s.heap.push { cls:=.type "tuple",data:=.seq (vs++ws).toArray } })
  (hsz:vs.length+ws.length<=sizeLine):wpAny (model prog w) A (binaryOp .Add (.ref t) (.ref b)) Q E s:=by
 obtain⟨⟨cls,dd,data,sl⟩,ho,hc,n,hd⟩:=id ht;obtain⟨⟨cls2,dd2,data2,sl2⟩,ho2,hc2,n2,hd2⟩:=id hb;simp only at hc hd hc2 hd2;subst hc hd hc2 hd2;have e:vs.toArray++ws.toArray=(vs++ws).toArray:=by simp
 by_cases hw:ws=[]
 ·exact concat_meets ⟨_,ho,rfl⟩ ⟨_,ho2,rfl⟩ iX seq_tuple_add PySem.F.slot_tuple_add PySem.F.entry_tuple_add (PySem.F.args_tuple_add_2 _ _)
   (tuple_addW1 t b vs.toArray ws.toArray n n2 dd dd2 sl sl2 (by simpa using hv) (by simp [hw])) ⟨ho,ho2,h1 hw⟩
 ·refine concat_meets ⟨_,ho,rfl⟩ ⟨_,ho2,rfl⟩ iX seq_tuple_add PySem.F.slot_tuple_add PySem.F.entry_tuple_add (PySem.F.args_tuple_add_2 _ _)
   (tuple_addW2 t b vs.toArray ws.toArray n n2 dd dd2 sl sl2 (by simpa using hv) (by simpa using hw) (by rw [UF,UF]; exact hsz)) ⟨ho,ho2,?_⟩
  rw [e];exact h2 hw
def sIx(n d:Nat):Option Int->Nat
 | none=>d
 | some v=>if v<0 then (v+(n:Int)).toNat else min v.toNat n
theorem sIx_none(n d:Nat):sIx n d none=d:=rfl
theorem sIx_nat(n d k:Nat):sIx n d (some (k:Int))=min k n:=by
 show (if (k:Int)<0 then ((k:Int)+(n:Int)).toNat else min (k:Int).toNat n)=min k n;rw [if_neg (by omega),fA]
theorem Xf(n d:Nat)(hd:d<=n)(o:Option Int):sIx n d o<=n:=by
 cases o with
 | none=>exact hd
 | some v =>
  show (if v<0 then (v+(n:Int)).toNat else min v.toNat n)<=n
  by_cases hv:v<0
  ·rw [if_pos hv]; omega
  ·rw [if_neg hv]; exact gS _ _
theorem Qs(v:Int)(n d:Nat):(if v<0 then max (v+(n:Int)) 0 else min v (n:Int))=((sIx n d (some v):Nat):Int):=by
 show (if v<0 then max (v+(n:Int)) 0 else min v (n:Int))=(((if v<0 then (v+(n:Int)).toNat else min v.toNat n):Nat):Int)
 by_cases hv:v<0
 ·simp only [if_pos hv]; omega
 ·simp only [if_neg hv]; omega
theorem Pw(lo hi:Option Int)(n:Nat):eG lo hi 1 (n:Int)=(((sIx n 0 lo:Nat):Int),((sIx n n hi:Nat):Int)):=by
 have h1:¬((1:Int)<0):=by omega
 unfold eG;simp only [h1,if_false];refine Prod.ext ?_ ?_
 ·cases lo with
  | none=>rfl
  | some v=>exact Qs v n 0
 ·cases hi with
  | none=>rfl
  | some v=>exact Qs v n n
theorem PK(i j:Nat):c8 (i:Int) (j:Int) 1=j - i:=by
 unfold c8;have h1:(1:Int) > 0:=by omega
 simp only [h1,if_true,Int.ediv_one]
 split <;> omega
theorem slicePart_{v:Ev}{o:Option Int}{Q:Option Int->Op->Prop}(p:gi v o)(h:Q o s):wpAny (model prog w) A (Builtin.Slice.slicePartIndex v) Q E s:=by
 cases p with
 | none=>exact slicePart_none h
 | int i t=>exact slicePart_int h
theorem sliceApplied_gen{sl:Db}{vl vu:Ev}{lo hi:Option Int}{n:Nat}{Q:Int×Int×Nat->Op->Prop}(hs:s.heap.IsSliceOf sl vl vu .none)(pl:gi vl lo)(pu:gi vu hi)
  (h:Q (((sIx n 0 lo:Nat):Int),1,sIx n n hi - sIx n 0 lo) s):wpAny (model prog w) A (e7 (.ref sl) (pure (n:Int))) Q E s:=by
 obtain⟨os,hos,hcs,hds⟩:=id hs;unfold e7 iR;refine Ch (Ch (cT hos hds (x:=vl) rfl (Ch (cT hos hds (x:=vu) rfl (Ch (cT hos hds (x:=.none) rfl (Sc ?_)))))));refine Ch (slicePart_none ?_);show wpAny _ _ (if ((1:Int)==0)=true then _ else _) _ _ s;rw [if_neg (by decide)];refine Ch (slicePart_ pl (Ch (slicePart_ pu (Ch (Sc ?_)))));show wpAny _ _ (match eG lo hi 1 (n:Int) with | (lo,hi)=>pure (lo,(1:Int),c8 lo hi 1)) _ _ s;rw [Pw lo hi n];show wpAny _ _ (pure (((sIx n 0 lo:Nat):Int),(1:Int),c8 ((sIx n 0 lo:Nat):Int) ((sIx n n hi:Nat):Int) 1)) _ _ s;rw [PK];exact Sc h
theorem TY(xs:Array Ev)(i k:Nat):((cF k).filterMap fun(m:Nat)=>xs[((i:Int)+(m:Int)*1).toNat]?).toArray=((xs.toList.drop i).take k).toArray:=by
 have e:(fun(m:Nat)=>xs[((i:Int)+(m:Int)*1).toNat]?)=λm=>xs[i+m]?:=by
  funext m
  have:((i:Int)+(m:Int)*1).toNat=i+m:=by omega
  rw [this]
 rw [e]
 have:=pick_run xs i k
 rw [hG] at this;have e2:((λx=>xs[x]?)∘λx=>i+x)=λm=>xs[i+m]?:=rfl;rw [e2] at this;rw [this]
theorem getItem_tuple_cut{t sl:Db}{items:Array Ev}{vl vu:Ev}{lo hi:Option Int}{Q:Ev->Op->Prop}(ht:IsTup s.heap t items)(hs:s.heap.IsSliceOf sl vl vu .none)(pl:gi vl lo)(pu:gi vu hi)
  (hw:¬(sIx items.size 0 lo=0/\sIx items.size items.size hi=items.size))
  (h:Q (.ref s.heap.objs.size) { s with heap:=s.heap.push { cls:=.type "tuple",data:=.seq ((items.toList.drop (sIx items.size 0 lo)).take (sIx items.size items.size hi - sIx items.size 0 lo)).toArray } })
  (hsz:items.size<=sizeLine):wpAny (model prog w) A (getItem (.ref t) (.ref sl)) Q E s:=by
 have htake:sizeOk (.seq ((items.toList.drop (sIx items.size 0 lo)).take (sIx items.size items.size hi - sIx items.size 0 lo)).toArray):=by
  show ((items.toList.drop (sIx items.size 0 lo)).take (sIx items.size items.size hi - sIx items.size 0 lo)).toArray.size<=sizeLine;rw [UF,dG,de,cn];omega
 have hj:sIx items.size items.size hi<=items.size:=Xf _ _ (Rs _) hi;obtain⟨os,hos,hcs,hds⟩:=id hs;have hTs:s.TypeIs (.ref sl) "slice":=⟨os,hos,hcs⟩;unfold getItem
 try with_reducible refine cu ?_
 first | refine Ch (Sc ?_) | skip
 refine Ch (iJ ht.typeIs (by decide) ?_)
 refine Ch (cz (name:=cZ "__getitem__") ht.typeIs cM
  (df cM ht.typeIs gt ?_ (hU _ _)))
 show wpAny _ _ (fo (.ref t) >>= _) _ _ s;refine Ch (tupleItemsOf_ ht ?_);refine Ch (eh hTs ?_);rw [if_pos (by decide)];refine Ch (sliceApplied_gen hs pl pu ?_)
 have hno:¬((((sIx items.size 0 lo:Nat):Int)==0&&(1:Int)==1&&(sIx items.size items.size hi - sIx items.size 0 lo)==items.size)=true):=by
  intro q;rw [bz,bz] at q;have q1:((sIx items.size 0 lo:Nat):Int)=0:=eq_of_beq q.1.1;have q2:sIx items.size items.size hi - sIx items.size 0 lo=items.size:=eq_of_beq q.2;exact hw ⟨by omega,by omega⟩
 show wpAny _ _ (if (((sIx items.size 0 lo:Nat):Int)==0&&(1:Int)==1&&(sIx items.size items.size hi - sIx items.size 0 lo)==items.size)=true then _ else _) _ _ s;rw [if_neg hno,TY]
 first
  | exact Ch (m:=ca _) (cW (Sc ⟨_,rfl,Sc h⟩) htake)
  | exact Ch (m:=ca _) (cW (Ch (Sc (Sc ⟨_,rfl,Sc h⟩))) htake)
  | exact Ch (Ch (m:=ca _) (cW (Sc (Sc ⟨_,rfl,Sc h⟩)) htake))
  | exact Ch (Ch (m:=ca _) (cW (Sc ⟨_,rfl,Sc h⟩) htake))
end
end HT
namespace L2
open PySem PySem.Spec PyProof.Rows
abbrev TO:=St->Hp->(Option Int->Hp->Prop)->Prop
def PO(X:Cx)(e:Option cC)(t:TO):Prop :=
 ∀(pins:List (Db×Obj)) (s:Op) (σ:St) (H:Hp) (Q:Option Int->Hp->Prop),Inv X pins σ H s->t σ H Q ->
  wpAny (model X.prog X.w) X.A (evalPart e X.env) (λu s'=>∃o H',Inv X pins σ H' s'/\gi u o/\Q o H') X.xe s
def VJ:TO:=λ_ H Q=>Q none H
def Y5(t:TE):TO:=λσ H Q=>t σ H λx H1=>∃i,x=.int i/\Q (some i) H1
section
variable {X:Cx}{e:Expr}{te:TE}{lo hi:Option Expr}{tl th:TO}{pos p2:Pos}
theorem QI:PO X none VJ:=by
 intro pins s σ H Q I h;rw [evalPart_none];exact Sc ⟨none,H,I,.none,h⟩
theorem QH(h:PE X e te):PO X (some e) (Y5 te):=by
 intro pins s σ H Q I hw;rw [evalPart_some];refine thn (h pins s σ H _ I hw) λu s1 ⟨x,H1,I1,r1,q1⟩=>?_;obtain⟨i,rfl,q⟩:=q1;obtain⟨t,rfl⟩:=r1;exact⟨some i,H1,I1,.int i t,q⟩
def SlR(X:Cx)(r:V->Option Int->Option Int->Hp->VK->Prop):Prop :=
 ∀(pins:List (Db×Obj)) (s:Op) (σ:St) (H:Hp) (x:V) (v vl vu:Ev) (lo hi:Option Int) (sl:Db) (Q:VK),Inv X pins σ H s->RelV x v->s.heap.IsSliceOf sl vl vu .none->gi vl lo->gi vu hi->r x lo hi H Q ->
  ∃T id,typeLookup (.type T) "__getitem__"=pure (some (.builtin id))/\s.TypeIs v T/\wpAny (model X.prog X.w) X.A (getItem v (.ref sl)) (EP X pins σ Q) X.xe s
theorem SlR.or{r r':V->Option Int->Option Int->Hp->VK->Prop}(h:SlR X r)(h':SlR X r'):SlR X (λx lo hi H Q=>r x lo hi H Q\/r' x lo hi H Q):=by
 intro pins s σ H x v vl vu lo hi sl Q I rx hs pl pu q
 rcases q with q | q
 ·exact h pins s σ H x v vl vu lo hi sl Q I rx hs pl pu q
 ·exact h' pins s σ H x v vl vu lo hi sl Q I rx hs pl pu q
def bS(r:V->Option Int->Option Int->Hp->VK->Prop)(te:TE)(tl th:TO):TE:=λσ H Q=>te σ H λx H1=>tl σ H1 λl H2=>th σ H2 λu H3=>r x l u H3 Q
theorem Nq{r:V->Option Int->Option Int->Hp->VK->Prop}(hr:SlR X r)(he:PE X e te)(hl:PO X lo tl)(hu:PO X hi th):PE X (.Subscript e (.Slice lo hi none p2) pos) (bS r te tl th):=by
 intro pins s σ H Q I h;refine Subscript_ (thn (he pins s σ H _ I h) λv s1 ⟨x,H1,I1,r1,q1⟩=>?_);refine wpAny_Slice (thn (hl pins s1 σ H1 _ I1 q1) λvl s2 ⟨l,H2,I2,pl,q2⟩=>thn (hu pins s2 σ H2 _ I2 q2) λvu s3 ⟨u,H3,I3,pu,q3⟩=>?_);rw [evalPart_none];refine Sc ?_;have I4:Inv X pins σ H3 { s3 with heap:=s3.heap.push { cls:=.type "slice",data:=.fields #[vl,vu,.none] } }:=I3.kept (t':=s3.toks) λb ob q=>FM _ q;obtain⟨T,id,hT,ht,hg⟩:=hr pins { s3 with heap:=s3.heap.push { cls:=.type "slice",data:=.fields #[vl,vu,.none] } } σ H3 x v vl vu l u s3.heap.objs.size Q I4 r1 (jQ ..) pl pu q3;show wpAny (model X.prog X.w) X.A (subscriptTail e (.Slice lo hi none p2) v (.ref s3.heap.objs.size)) (EP X pins σ Q) X.xe { s3 with heap:=s3.heap.push { cls:=.type "slice",data:=.fields #[vl,vu,.none] } };exact tail_any (ops:=[.ref s3.heap.objs.size,v]) ht hT hg (by with_unfolding_all rfl)
def LC(xs:List V)(lo hi:Option Int):List V:=(xs.drop (HT.sIx xs.length 0 lo)).take (HT.sIx xs.length xs.length hi - HT.sIx xs.length 0 lo)
theorem IK(xs:List V)(lo hi:Option Int):(LC xs lo hi).length<=xs.length:=by
 unfold LC;rw [dG,de];omega
def ZG(K:Frag):V->Option Int->Option Int->Hp->VK->Prop:=λx lo hi H Q=>∃a xs,x=.ref a/\SqT K H a xs /\
 ¬(HT.sIx xs.length 0 lo=0/\HT.sIx xs.length xs.length hi=xs.length)/\∀p,H p=none->Q (.ref p) (BC H p (.tup (LC xs lo hi)))
theorem sl_tup:SlR X (ZG X.K):=by
 intro pins s σ H x v vl vu lo hi sl Q I rx hs pl pu h;obtain⟨a,xs,rfl,hx,hw,q⟩:=h;cases rx;obtain⟨its,r,ht,hz⟩:=I.tuple hx;have hlen:its.toArray.size=xs.length:=by rw [UF]; exact r.length.symm
 refine⟨"tuple",_,cM.lookup,ht.typeIs,?_⟩;refine HT.getItem_tuple_cut ht hs pl pu (by rw [hlen]; exact hw) ?_ (by rw [hlen]; exact hz);rw [hlen];refine⟨.ref s.heap.objs.size,_,I.laid (t':=s.toks) (o:=.tup (LC xs lo hi)) (λb ob q=>FM _ q) (Rs _) ?_,rfl,q _ (I.hok.fresh (Rs _))⟩;exact⟨cG (IK xs lo hi) hz,_,(r.drop (HT.sIx xs.length 0 lo)).take (HT.sIx xs.length xs.length hi - HT.sIx xs.length 0 lo),IsTupN.new _ _⟩
def TK(K:Frag):R2:=λx y H Q=>∃a b xs ys,x=.ref a/\y=.ref b/\SqT K H a xs/\SqT K H b ys/\xs≠[]/\xs.length+ys.length<=sizeLine /\
 (ys=[]->Q (.ref a) H)/\(ys≠[]->∀p,H p=none->Q (.ref p) (BC H p (.tup (xs++ys))))
theorem Vals.nil_iff{xs:List V}{us:List Ev}(r:Vals xs us):us=[]↔xs=[]:=by
 cases r with
 | nil=>simp
 | cons _ _=>simp
theorem op_catT:OpR X (binaryOp .Add) (TK X.K):=by
 intro pins s σ H x y v u Q I rx ry h;obtain⟨a,b,xs,ys,rfl,rfl,ha,hb,hx,hz,q1,q2⟩:=h;cases rx;cases ry;obtain⟨its,r1,p1,_⟩:=I.tuple ha;obtain⟨its2,r2,p2,_⟩:=I.tuple hb;refine HT.cat_tup p1 p2 (λz=>hx (r1.nil_iff.mp z)) (λz=>⟨.ref a,H,I,rfl,q1 (r2.nil_iff.mp z)⟩) (λz=>?_) (by rw [← r1.length,← r2.length]; exact hz);refine⟨.ref s.heap.objs.size,_,I.laid (t':=s.toks) (o:=.tup (xs++ys)) (λb ob q=>FM _ q) (Rs _) ?_,rfl,q2 (λw=>z (r2.nil_iff.mpr w)) _ (I.hok.fresh (Rs _))⟩;exact⟨by rw [bi]; exact hz,_,r1.append r2,IsTupN.new _ _⟩
end
def U6(n:Nat)(i:Int):Option Nat:=if 0<=i then (if i<n then some i.toNat else none) else if -(n:Int)<=i then some (i+n).toNat else none
def atI{α:Type}(xs:List α)(i:Int):Option α:=(U6 xs.length i).bind λj=>xs[j]?
theorem Qa{n:Nat}{i:Int}{j:Nat}(h:U6 n i=some j):seqIndex? i n=some j/\j<n/\-(n:Int)<=i/\i<n:=by
 unfold U6 at h
 by_cases h0:0<=i
 ·rw [if_pos h0] at h
  by_cases h1:i<n
  ·rw [if_pos h1] at h
   have e:i.toNat=j:=bg h;exact⟨by rw [seqIndex_of h0 h1,e],by omega,by omega,h1⟩
  ·rw [if_neg h1] at h; cases h
 ·rw [if_neg h0] at h
  by_cases h1:-(n:Int)<=i
  ·rw [if_pos h1] at h
   have e:(i+n).toNat=j:=bg h;exact⟨by rw [seqIndex_neg (by omega) h1,e],by omega,h1,by omega⟩
  ·rw [if_neg h1] at h; cases h
theorem NA{α:Type}{xs:List α}{i:Int}{v:α}(h:atI xs i=some v):∃j,seqIndex? i xs.length=some j/\xs[j]?=some v/\j<xs.length/\-(xs.length:Int)<=i/\i<xs.length:=by
 unfold atI at h;cases e:U6 xs.length i with
 | none=>rw [e] at h; cases h
 | some j =>
  rw [e] at h;obtain⟨h1,h2,h3,h4⟩:=Qa e;exact⟨j,h1,h,h2,h3,h4⟩
theorem AQ{α:Type}{xs:List α}{j:Nat}{v:α}(h:xs[j]?=some v):atI xs (j:Int)=some v:=by
 have hj:j<xs.length:=(bh.mp h).1
 have e:U6 xs.length (j:Int)=some j:=by
  unfold U6;rw [if_pos (by omega),if_pos (by omega)]; simp
 unfold atI; rw [e]; exact h
theorem Uq{α:Type}(xs:List α)(v:α):atI (xs++[v]) (-1)=some v:=by
 have hl:(xs++[v]).length=xs.length+1:=by simp
 have e:U6 (xs++[v]).length (-1)=some xs.length:=by
  unfold U6;rw [hl,if_neg (by decide),if_pos (by omega)]
  congr 1
  omega
 unfold atI;rw [e];show (xs++[v])[xs.length]?=some v;simp
def Q5(b:cC):Prop:=∀o i,subscripted b false o i=operate [o,i] (getItem o i)
def IxR(X:Cx)(r:R2):Prop :=
 ∀(value slice:cC) (pins:List (Db×Obj)) (s:Op) (σ:St) (H:Hp) (x y:V) (v u:Ev) (Q:VK),Inv X pins σ H s->RelV x v->RelV y u->r x y H Q ->
  subscripted slice false v u=operate [v,u] (getItem v u)->wpAny (model X.prog X.w) X.A (subscriptTail value slice v u) (EP X pins σ Q) X.xe s
def Z2(X:Cx)(id:String)(r:V->List V->Hp->VK->Prop):Prop :=
 ∀(pins:List (Db×Obj)) (s:Op) (σ:St) (H:Hp) (x:V) (xs:List V) (v:Ev) (us:List Ev) (Q:VK),Inv X pins σ H s->RelV x v->Vals xs us->r x xs H Q ->
  wpAny (model X.prog X.w) X.A (call (.builtin id) (v::us)) (EP X pins σ Q) X.xe s
section
variable {X:Cx}{a b:Expr}{ta tb:TE}{pos:Pos}
theorem IxR.or{r r':R2}(h:IxR X r)(h':IxR X r'):IxR X (λx y H Q=>r x y H Q\/r' x y H Q):=by
 intro value slice pins s σ H x y v u Q I rx ry q hs
 rcases q with q | q
 ·exact h value slice pins s σ H x y v u Q I rx ry q hs
 ·exact h' value slice pins s σ H x y v u Q I rx ry q hs
theorem EV{r:R2}(hr:IxR X r)(ha:PE X a ta)(hb:PE X b tb)(hs:Q5 b):PE X (.Subscript a b pos) (Dh r ta tb):=by
 intro pins s σ H Q I h;exact Subscript_ (YW ha hb I h λv u s2 x y H2 I2 rx ry q=>hr a b pins s2 σ H2 x y v u Q I2 rx ry q (hs _ _))
def Xk(K:Frag):R2:=λx y H Q=>∃p xs i v,x=.ref p/\y=.int i/\SqL K H p xs/\atI xs i=some v/\Q v H
def ZM(K:Frag):R2:=λx y H Q=>∃p xs i v,x=.ref p/\y=.int i/\SqT K H p xs/\atI xs i=some v/\Q v H
def ZN:R2:=λx y H Q=>∃z i c,x=.str z/\y=.int i/\z.length<=sizeLine/\atI z.cps.toList i=some c/\Q (.str ⟨#[c]⟩) H
theorem ix_list:IxR X (Xk X.K):=by
 intro value slice pins s σ H x y v u Q I rx ry h hs;obtain⟨p,xs,i,z,rfl,rfl,hq,he,q⟩:=h;cases rx;obtain⟨t,rfl⟩:=ry;obtain⟨its,r,pl,hz⟩:=I.list hq;obtain⟨j,h1,h2,h3,h4,h5⟩:=NA he;obtain⟨w,ew,rw'⟩:=r.get h2;have hl:=r.length;have hn:=Hq;have fin:EP X pins σ Q w s:=⟨z,H,I,rw',q⟩
 by_cases h0:0<=i
 ·have hj:i.toNat=j:=by
   rw [seqIndex_of h0 h5] at h1;exact bg h1
  exact item_listR pl.isList h0 (by omega) (by rw [hj]; simpa using ew) fin hs
 ·have hj:(i+(its.toArray.size:Int)).toNat=j:=by
   rw [seqIndex_neg (by omega) h4] at h1;rw [UF,← hl];exact bg h1
  exact subscriptTail_builtinR (x:=w) pl.isList.typeIs iK.lookup
   (wpAny_getItem_list_neg (Q:=λr s'=>r=w/\EP X pins σ Q r s') pl.isList (by omega) (by rw [UF] <;> omega) (by omega) (by rw [hj]; simpa using ew) ⟨rfl,fin⟩) hs
theorem ix_tup:IxR X (ZM X.K):=by
 intro value slice pins s σ H x y v u Q I rx ry h hs;obtain⟨p,xs,i,z,rfl,rfl,hq,he,q⟩:=h;cases rx;obtain⟨t,rfl⟩:=ry;obtain⟨its,r,pl,hz⟩:=I.tuple hq;obtain⟨j,h1,h2,h3,h4,h5⟩:=NA he;obtain⟨w,ew,rw'⟩:=r.get h2;have hl:=r.length;have hn:=Hq;have fin:EP X pins σ Q w s:=⟨z,H,I,rw',q⟩
 exact subscriptTail_builtinR (x:=w) pl.typeIs cM.lookup
  (getItem_tuple (j:=j) (Q:=λr s'=>r=w/\EP X pins σ Q r s') pl (by omega) (by omega) (by rw [UF,← hl]; exact h1) (by simpa using ew) ⟨rfl,fin⟩) hs
theorem X_:IxR X ZN:=by
 intro value slice pins s σ H x y v u Q I rx ry h hs;obtain⟨z,i,c,rfl,rfl,hz,he,q⟩:=h;obtain⟨t,rfl⟩:=rx;obtain⟨t',rfl⟩:=ry;obtain⟨j,h1,h2,h3,h4,h5⟩:=NA he;have hl:z.cps.toList.length=z.length:=by simp [Str.length]
 rw [hl] at h1 h4 h5;have hn:=Hq
 exact tail_any (gA s z t) slot_str_getitem.lookup (getItem_str (c:=c) (by
  have e1:decide (i < -(2 ^ 63:Int))=false:=decide_eq_false (by omega);have e2:decide (i≥2 ^ 63)=false:=decide_eq_false (by omega);rw [e1,e2,jF]) (by rw [h1]; simpa using h2) ⟨.str ⟨#[c]⟩,H,I.tok _,⟨_,rfl⟩,q⟩) hs
def bH(K:Frag):R2:=λx y H Q=>Xk K x y H Q\/ZM K x y H Q\/ZN x y H Q
theorem AH:IxR X (bH X.K):=ix_list.or (ix_tup.or X_)
theorem Pc(its:List Ev)(n j:Nat)(u:Ev):cj (·.setIfInBounds j u) { cls:=.type "list",data:=.seq its.toArray n }={ cls:=.type "list",data:=.seq (its.set j u).toArray n }:=by
 simp [cj]
theorem Inv.lst{pins:List (Db×Obj)}{σ:St}{H:Hp}{s:Op}{p:Db}{xs:List V}(I:Inv X pins σ H s)(h:H p=some (.lst xs)) :
  ∃(its:List Ev) (n:Nat),Vals xs its/\s.heap.get? p=some { cls:=.type "list",data:=.seq its.toArray n }/\xs.length<=sizeLine:=by
 obtain⟨z,its,n,r,e⟩:=I.hok p _ h;exact⟨its,n,r,e,z⟩
theorem Inv.lstUpd{pins:List (Db×Obj)}{σ:St}{H:Hp}{s:Op}{p:Db}{xs ys:List V}{its its':List Ev}{n n':Nat}{f:Obj->Obj}(I:Inv X pins σ H s)(h:H p=some (.lst xs))
  (ho:s.heap.get? p=some { cls:=.type "list",data:=.seq its.toArray n }) (hf:f { cls:=.type "list",data:=.seq its.toArray n }={ cls:=.type "list",data:=.seq its'.toArray n' }) (r:Vals ys its') (hz:ys.length<=sizeLine) (t:Nat) :
  Inv X pins σ (BC H p (.lst ys)) { s with heap:=s.heap.update p f,toks:=t }:=by
 have e:(s.heap.update p f).get? p=some { cls:=.type "list",data:=.seq its'.toArray n' }:=by
  rw [fg f ho (by rw [hf] <;> rfl),hf]
 refine I.write (x:=p) (e:=p) (by rw [h]; trivial) (.inl rfl) (λb u hb q=>(cB _ _ (ci hb)).trans q) ⟨_,e⟩ ?_;exact⟨hz,its',n',r,e⟩
def Wi:V->V->V->Hp->(Hp->Prop)->Prop:=λo i v H Q=>∃p xs k j,o=.ref p/\i=.int k/\H p=some (.lst xs)/\U6 xs.length k=some j/\Q (BC H p (.lst (xs.set j v)))
theorem set_list:Zx X Wi:=by
 intro pins s σ H o i v ov iv u Q I ro ri rv h;obtain⟨p,xs,k,j,rfl,rfl,hp,hj,q⟩:=h;cases ro;obtain⟨t,rfl⟩:=ri;obtain⟨its,n,r,ho,hz⟩:=I.lst hp;obtain⟨h1,h2,h3,h4⟩:=Qa hj;have hl:=r.length;have hn:=Hq
 have I':Inv X pins σ (BC H p (.lst (xs.set j v))) { s with heap:=s.heap.update p (cj (·.setIfInBounds j u)) } :=
  I.lstUpd hp ho (Pc its n j u) (r.set rv j) (by rw [d9]; exact hz) s.toks
 by_cases h0:0<=k
 ·have hk:k.toNat=j:=by
   rw [seqIndex_of h0 h4] at h1;exact bg h1
  exact PySem.W.ki_setAt ho h0 (by omega) (by rw [UF,← hl]; exact h4) (by rw [hk]; exact⟨_,I',q⟩)
 ·have hk:(k+(its.toArray.size:Int)).toNat=j:=by
   rw [seqIndex_neg (by omega) h3] at h1;rw [UF,← hl];exact bg h1
  exact PySem.W.ki_setBack ho (by omega) (by rw [UF,← hl]; exact h3) (by omega) (by rw [hk]; exact⟨_,I',q⟩)
theorem L9(lo hi:Option Int)(n:Nat):(sliceBounds lo hi none n).1=((HT.sIx n 0 lo:Nat):Int)/\(sliceBounds lo hi none n).2.1=((HT.sIx n n hi:Nat):Int)/\(sliceBounds lo hi none n).2.2=1:=by
 refine⟨?_,?_,rfl⟩
 ·cases lo with
  | none=>simp [sliceBounds,HT.sIx]
  | some i =>
   simp only [sliceBounds,HT.sIx,Option.getD_none,show (1:Int) > 0 by decide,if_true]
   by_cases h:i<0
   ·simp only [h,if_true] <;> omega
   ·simp only [h,if_false] <;> omega
 ·cases hi with
  | none=>simp [sliceBounds,HT.sIx]
  | some i =>
   simp only [sliceBounds,HT.sIx,Option.getD_none,show (1:Int) > 0 by decide,if_true]
   by_cases h:i<0
   ·simp only [h,if_true] <;> omega
   ·simp only [h,if_false] <;> omega
theorem Kx(its:List Ev)(lo hi:Option Int):slicePick its.toArray lo hi none=((its.drop (HT.sIx its.length 0 lo)).take (HT.sIx its.length its.length hi - HT.sIx its.length 0 lo)).toArray:=by
 obtain⟨h1,h2,h3⟩:=L9 lo hi its.toArray.size;unfold slicePick;rw [h1,h2,h3];simp only [sliceRange_one,pick_run,UF] <;> rfl
def ZH(K:Frag):V->Option Int->Option Int->Hp->VK->Prop:=λx lo hi H Q=>∃a xs,x=.ref a/\SqL K H a xs/\∀p,H p=none->Q (.ref p) (BC H p (.lst (LC xs lo hi)))
theorem sl_list:SlR X (ZH X.K):=by
 intro pins s σ H x v vl vu lo hi sl Q I rx hs pl pu h;obtain⟨a,xs,rfl,hx,q⟩:=h;cases rx;obtain⟨its,r,ht,hz⟩:=I.list hx;have hlen:=r.length;refine⟨"list",_,iK.lookup,ht.isList.typeIs,?_⟩;refine wpAny_getItem_list_slice ht.isList hs pl pu .none (by simp) ?_ (by rw [UF] <;> omega);rw [Kx,← hlen];refine⟨.ref s.heap.objs.size,_,I.laid (t':=s.toks) (o:=.lst (LC xs lo hi)) (λb ob q=>FM _ q) (Rs _) ?_,rfl,q _ (I.hok.fresh (Rs _))⟩;exact⟨cG (IK xs lo hi) hz,_,0,(r.drop (HT.sIx xs.length 0 lo)).take (HT.sIx xs.length xs.length hi - HT.sIx xs.length 0 lo),Uf _ rfl⟩
def W4:V->Bool
 | .non=>true
 | .bl _=>true
 | .int _=>true
 | .str _=>true
 | _=>false
def Zl:V->V->Bool
 | .non,.non=>true
 | .bl a,.bl b=>a==b
 | .bl a,.int b=>(if a then 1 else 0)==b
 | .int a,.bl b=>a==(if b then 1 else 0)
 | .int a,.int b=>a==b
 | .str a,.str b=>a==b
 | _,_=>false
theorem Mq{A:cw}{s:Op}{y x:V}{u v:Ev}(ry:RelV y u)(rx:RelV x v)(fy:W4 y=true)(fx:W4 x=true):SeqAt.EqAt A s u v (Zl y x):=by
 cases y with
 | non =>
  cases ry;cases x with
  | non=>cases rx; exact SeqAt.EqAt.same _
  | bl b=>cases rx; exact SeqAt.EqAt.none_bool b
  | int b=>obtain⟨t,rfl⟩:=rx; exact SeqAt.EqAt.none_int b t
  | str b=>obtain⟨t,rfl⟩:=rx; exact SeqAt.EqAt.none_str b t
  | _=>exact absurd (show false=true from fx) bw
 | bl a =>
  cases ry;cases x with
  | non=>cases rx; exact SeqAt.EqAt.bool_none a
  | bl b=>cases rx; exact SeqAt.EqAt.bool_bool a b
  | int b=>obtain⟨t,rfl⟩:=rx; exact SeqAt.EqAt.bool_int a b t
  | str b=>obtain⟨t,rfl⟩:=rx; exact SeqAt.EqAt.bool_str a b t
  | _=>exact absurd (show false=true from fx) bw
 | int a =>
  obtain⟨t',rfl⟩:=ry;cases x with
  | non=>cases rx; exact SeqAt.EqAt.int_none a t'
  | bl b=>cases rx; exact SeqAt.EqAt.int_bool a t' b
  | int b=>obtain⟨t,rfl⟩:=rx; exact SeqAt.EqAt.int_int a t' b t
  | str b=>obtain⟨t,rfl⟩:=rx; exact jM a t' b t
  | _=>exact absurd (show false=true from fx) bw
 | str a =>
  obtain⟨t',rfl⟩:=ry;cases x with
  | non=>cases rx; exact SeqAt.EqAt.str_none a t'
  | bl b=>cases rx; exact SeqAt.EqAt.str_bool a t' b
  | int b=>obtain⟨t,rfl⟩:=rx; exact jN a t' b t
  | str b=>obtain⟨t,rfl⟩:=rx; exact SeqAt.EqAt.str_str a t' b t
  | _=>exact absurd (show false=true from fx) bw
 | _=>exact absurd (show false=true from fy) bw
theorem M_:C7 X (.type "list") (λxs H Q=>∃p ys,xs=[.ref p]/\(SqL X.K H p ys\/SqT X.K H p ys)/\∀l,H l=none->Q (.ref l) (BC H l (.lst ys))):=by
 intro pins s σ H xs us Q I r h;obtain⟨p,ys,rfl,hq,q⟩:=h;obtain⟨u,rfl,rx⟩:=vals1 r;cases rx
 have fin:∀(its:List Ev),Vals ys its->ys.length<=sizeLine->∀(h':b9) (c':Nat),(∀b o',s.heap.get? b=some o'->h'.get? b=some o') ->
   h'.get? s.heap.objs.size=some { cls:=.type "list",dict:=none,data:=.seq its.toArray c',slots:=#[] }->EP X pins σ Q (.ref s.heap.objs.size) { s with heap:=h' }:=λits r' hz h' c' kp e =>
  ⟨.ref s.heap.objs.size,_,I.laid (t':=s.toks) kp (Rs _) (show ObjOk X.prog X.w _ h' _ (.lst ys) from⟨hz,its,c',r',e⟩),rfl,q _ (I.hok.fresh (Rs _))⟩
 rcases hq with hq | hq
 ·obtain⟨its,r',pl,hz⟩:=I.list hq
  have hlen:=r'.length;obtain⟨o,ho,hc,n,hd⟩:=pl.isList;exact call_list_seq p (.inl rfl) ho hc hd (λh' c' kp e=>fin its r' hz h' c' kp e) (by simp only [UF] <;> omega)
 ·obtain⟨its,r',pl,hz⟩:=I.tuple hq
  have hlen:=r'.length;obtain⟨o,ho,hc,n,hd⟩:=pl;exact call_list_seq p (.inr rfl) ho hc hd (λh' c' kp e=>fin its r' hz h' c' kp e) (by simp only [UF] <;> omega)
theorem BV:C7 X (.type "tuple") (λxs H Q=>∃p ys,xs=[.ref p]/\((SqL X.K H p ys/\∀l,H l=none->Q (.ref l) (BC H l (.tup ys)))\/(SqT X.K H p ys/\Q (.ref p) H))):=by
 intro pins s σ H xs us Q I r h;obtain⟨p,ys,rfl,h⟩:=h;obtain⟨u,rfl,rx⟩:=vals1 r;cases rx
 rcases h with ⟨hq,q⟩ | ⟨hq,q⟩
 ·obtain⟨its,r',pl,hz⟩:=I.list hq
  have hlen:=r'.length;refine call_tuple_list pl.isList (λh' kp=>?_) (by simp only [UF] <;> omega);have I1:Inv X pins σ H { s with heap:=h' }:=I.kept (t':=s.toks) kp
  have I2:Inv X pins σ (BC H h'.objs.size (.tup ys)) { s with heap:=h'.push { cls:=.type "tuple",data:=.seq its.toArray } } :=
   I1.laid (t':=s.toks) (λb o e=>FM _ e) (Rs _) (show ObjOk X.prog X.w _ _ _ (.tup ys) from⟨hz,its,r',IsTupN.new _ _⟩)
  exact⟨.ref h'.objs.size,_,I2,rfl,q _ (I1.hok.fresh (Rs _))⟩
 ·obtain⟨its,r',pl,hz⟩:=I.tuple hq
  exact call_tuple_same pl ⟨.ref p,H,I,rfl,q⟩
def aO(K:Frag)(T:String)(x:V)(H:Hp):Prop:=match x with
 | .str _=>T = "str"
 | .int _=>T = "int"
 | .ref p=>(T = "list"/\∃xs,SqL K H p xs)\/(T = "tuple"/\∃o,K.lookup p=some o/\o.cls=.type "tuple"/\o.dict=none) \/
   (T = "dict"/\((∃kvs,H p=some (.dK kvs))\/∃kvs,H p=some (.dT kvs)))\/(T = "set"/\∃S n,H p=some (.set S n))
 | _=>False
theorem XT{pins:List (Db×Obj)}{σ:St}{H:Hp}{s:Op}{T:String}{x:V}{v:Ev}(I:Inv X pins σ H s)(r:RelV x v)(ty:aO X.K T x H) :
  s.TypeIs v T/\∀a,v=.ref a->∃ob,s.heap.get? a=some ob/\ob.dict=none:=by
 cases x with
 | str z =>
  obtain⟨t,rfl⟩:=r;cases (show T = "str" from ty);exact⟨gA s z t,λ_ e=>nomatch e⟩
 | int i =>
  obtain⟨t,rfl⟩:=r;cases (show T = "int" from ty);exact⟨typeIs_int s i t,λ_ e=>nomatch e⟩
 | ref p =>
  cases r
  rcases ty with ⟨rfl,xs,hq⟩ | ⟨rfl,o,hk,hc,hd⟩ | ⟨rfl,hk⟩ | ⟨rfl,S,n,hk⟩
  ·obtain⟨its,_,pl,_⟩:=I.list hq
   refine⟨pl.isList.typeIs,λa e=>?_⟩;cases e;obtain⟨o,n,e,c,hd,_⟩:=pl;exact⟨o,e,hd⟩
  ·refine⟨⟨o,I.kIn p o hk,hc⟩,λa e=>?_⟩
   cases e;exact⟨o,I.kIn _ o hk,hd⟩
  ·have z:∃o,s.heap.get? p=some o/\o.ExactDict:=by
    rcases hk with ⟨kvs,hk⟩ | ⟨kvs,hk⟩
    ·obtain⟨_,_,_,_,o,_,_,e,ex,_⟩:=I.hok p _ hk
     exact⟨o,e,ex⟩
    ·obtain⟨_,_,_,_,o,_,_,e,ex,_⟩:=I.hok p _ hk
     exact⟨o,e,ex⟩
   obtain⟨o,e,ex⟩:=z;refine⟨⟨o,e,ex.1⟩,λa e2=>?_⟩;cases e2;exact⟨o,e,ex.2.1⟩
  ·obtain⟨o,_,_,_,e,ex,_⟩:=I.hok p _ hk
   refine⟨⟨o,e,ex.1⟩,λa e2=>?_⟩;cases e2;exact⟨o,e,ex.2.1⟩
 | _=>exact dg ty
def bV(K:Frag)(T:String)(r:V->List V->Hp->VK->Prop)(to:TE)(t:TA):TE:=λσ H Q=>to σ H λx H1=>aO K T x H1/\t σ H1 λxs H2=>r x xs H2 Q
variable {o e:Expr}{es:List Expr}{to:TE}{t:TA}{name:Str}{apos cpos:Pos}{T id:String}{r:V->List V->Hp->VK->Prop}
theorem Wy(pa:PlainAttrs T)(slot:Slot T name id)(hty:typeOf (.builtin id)=pure (.type "method_descriptor"))(hm:Z2 X id r)(ho:PE X o to)(ha:PA X (e::es) t)
  (hbase:attributeBase o name X.env (eval o X.env)=eval o X.env:=by rfl)
  (hfew:((backTo cpos (starEach (e::es) X.env)).all (λx=>!x.1)&&(backToKw cpos (keywordEach [] X.env)).all (λx=>x.1.isSome)
   && decide ((e::es).length+([]:List gB).length+(if ([]:List gB).isEmpty then 0 else 1)<30))=true:=by rfl)
  (hline:(apos.endLine==cpos.line)=true:=by rfl) (hs:starEach (e::es) X.env=(false,eval e X.env)::starEach es X.env:=by rfl) (hplain:(backTo cpos (starEach es X.env)).any (·.1)=false:=by rfl) :
  PE X (.Call (.Attribute o name apos) (e::es) [] cpos) (bV X.K T r to t):=by
 intro pins s σ H Q I h;refine wpAny_Call_method_late hbase hfew hline rfl (thn (ho pins s σ H _ I h) λv s1 ⟨x,H1,I1,r1,ty,q1⟩=>?_);obtain⟨h1,h2⟩:=XT I1 r1 ty;refine⟨T,id,pa,slot,hty,h1,h2,?_⟩;have hA:=ha cpos pins s1 σ H1 _ I1 q1;rw [hs] at hA ⊢;refine gK (by show (false||(backTo cpos (starEach es X.env)).any (·.1))=false; rw [hplain] <;> rfl) (jD ?_);exact thn hA λus s2 ⟨vs,H2,I2,r2,q2⟩=>hm pins s2 σ H2 x vs v us Q I2 r1 r2 q2
end
def bO(X:Cx)(id:String)(r:V->List V->Hp->VK->Prop):Prop :=
 ∀(pins:List (Db×Obj)) (s:Op) (σ:St) (H:Hp) (x:V) (xs:List V) (v:Ev) (us:List Ev) (Q:VK),Inv X pins σ H s->RelV x v->Vals xs us->r x xs H Q ->
  wpAny (model X.prog X.w) X.A (call (.builtin id) (v::us)) (EP X pins σ Q) X.xe s
theorem Vals.one:∀{x:V} {us:List Ev},Vals [x] us->∃u,us=[u]/\RelV x u
 | _,_,.cons r .nil=>⟨_,rfl,r⟩
theorem Vals.eraseIdx:∀{xs:List V} {us:List Ev} (i:Nat),Vals xs us->Vals (xs.eraseIdx i) (us.eraseIdx i)
 | _,_,_,.nil=>.nil
 | _,_,0,.cons _ t=>t
 | _,_,i+1,.cons r t=>.cons r (Vals.eraseIdx i t)
theorem Vals.reverse{xs:List V}{us:List Ev}(h:Vals xs us):Vals xs.reverse us.reverse:=by
 induction h with
 | nil=>exact .nil
 | cons r t ih=>rw [fb,fb]; exact Vals.append ih (.cons r .nil)
theorem LZ{α:Type}:∀(l:List α) (i:Nat),(l.eraseIdx i).length<=l.length
 | [],_=>Rs _
 | _::_,0=>dQ _
 | _::r,i+1=>iY (LZ r i)
section
variable {X:Cx}{pins:List (Addr×Obj)}{σ:St}{H:Hp}{s:Shared}{l b:Addr}{xs ys zs:List V}
theorem Inv.lset{its its':List Ev}{n:Nat}{f:Array Ev->Array Ev}{t':Nat}(I:Inv X pins σ H s)(hH:H l=some (.lst xs))
  (e:s.heap.get? l=some { cls:=.type "list",data:=.seq its.toArray n }) (hf:f its.toArray=its'.toArray) (hv:Vals ys its') (hz:ys.length<=sizeLine) :
  Inv X pins σ (BC H l (.lst ys)) { s with heap:=s.heap.update l (cj f),toks:=t' }:=by
 have q:=PySem.IsL.update e f;rw [hf] at q;refine I.write (x:=l) (e:=l) (by rw [hH]; exact trivial) (.inl rfl) (λb' u hb hu=>(cB s.heap (cj f) (ci hb)).trans hu) ⟨_,q⟩ ?_;exact⟨hz,its',_,hv,q⟩
theorem Inv.lnew{its:List Ev}{t':Nat}(I:Inv X pins σ H s)(hv:Vals ys its)(hz:ys.length<=sizeLine) :
  Inv X pins σ (BC H s.heap.objs.size (.lst ys)) { s with heap:=s.heap.push { cls:=.type "list",data:=.seq its.toArray },toks:=t' } :=
 I.laid (λ_ _ q=>FM _ q) (Rs _) ⟨hz,its,0,hv,Uf _ rfl⟩
theorem Inv.fresh(I:Inv X pins σ H s):H s.heap.objs.size=none:=I.hok.fresh (Rs _)
theorem Inv.lstM(I:Inv X pins σ H s)(hH:H l=some (.lst xs)):xs.length<=sizeLine/\∃(its:List Ev) (n:Nat),Vals xs its/\xs.length=its.length/\s.heap.get? l=some { cls:=.type "list",data:=.seq its.toArray n }:=by
 obtain⟨z,its,n,r,e⟩:=I.hok l _ hH;exact⟨z,its,n,r,r.length,e⟩
theorem Tv{n:Nat}(h:n<=sizeLine):fu n=false:=by
 unfold fu;exact decide_eq_false (by omega)
end
section
variable {X:Cx}
def QD:V->List V->Hp->VK->Prop:=λx vs H Q=>∃l xs y,x=.ref l/\vs=[y]/\H l=some (.lst xs)/\xs.length<sizeLine/\Q .non (BC H l (.lst (xs++[y])))
theorem Bu:bO X "list.append" QD:=by
 intro pins s σ H x vs v us Q I rx rv h;obtain⟨l,xs,y,rfl,rfl,hH,hz,q⟩:=h;cases rx;obtain⟨u,rfl,ru⟩:=rv.one;obtain⟨z,its,n,r,hl,e⟩:=I.lstM hH;refine call_meets F.slot_list_append ⟨_,e,rfl⟩ F.entry_list_append (F.args_list_append_2 _ _) (PySem.list_append l its.toArray n u (by rw [UF]; omega)) ⟨e,?_⟩;refine⟨.non,_,I.lset (its':=its++[u]) hH e (by simp) (r.append (.cons ru .nil)) ?_,rfl,q⟩;rw [bi,cA];omega
end
section
variable {prog:Program}{w:World}{A:Around}{E:Value->Shared->Prop}{s:Shared}
end
section
variable {X:Cx}
end
end L2
namespace Att
open PySem PySem.W PySem.Calls PyProof.Rows
theorem Ic{P:Params}{h:b9}:∀(ns:List Int) (vs:List Ev),WellAll P h vs (ns.map WData.int)->IntsAre vs ns:=by
 intro ns
 induction ns with
 | nil =>
  intro vs w;rw [fJ] at w;cases w;exact .nil
 | cons n ns ih =>
  intro vs w;rw [bm] at w;cases w with
  | cons a b =>
   cases a;exact .cons _ _ (ih _ b)
theorem RI{l:OpenLaw}{n:Nat}(hn:l.most=some n){P:Params}{h:b9}{args:List WData}{vals:List Ev}
  (hpre:l.row.toRowW.claim.pre args=true) (hwl:WellAll P h vals args) :
  ∃a vs ns,vals=[cV a]/\args=[WData.list (ns.map WData.int)]/\h.get? a=some { cls:=.type "list",data:=.seq vs.toArray }/\IntsAre vs ns/\ns.length<=n:=by
 have hsh:WShape.hasAll [] args [.list .int]=true:=(pre_splitW hpre).1;have hc:l.pre.holds [] { args:=args }=true:=(pre_splitW hpre).2;obtain⟨d,r,rfl,h1,h2⟩:=hasAllW_cons hsh;obtain rfl:=hasAllW_nil h2;obtain⟨xs,rfl,h3⟩:=hasW_list h1;obtain⟨ns,rfl⟩:=items_int h3
 have hlen:ns.length<=n:=by
  unfold OpenLaw.pre at hc
  have h4:(WTm.not (.lt (.lit (.int (n:Int))) (.len (.arg 0)))).holds [] { args:=[.list (ns.map .int)] }=true:=by
   have h4:=(holds_andW hc).1;rw [hn] at h4;exact h4
  have h5:=condW_of h4 (w_not (w_lt w_lit (w_len_list (w_arg rfl))));rw [No] at h5;refine Nat.le_of_not_lt λq=>?_;have q':(n:Int)<((ns.length:Nat):Int):=by omega
  first
   | (rw [decide_eq_true q'] at h5; exact absurd h5 (by decide))
   | (simp at h5; omega)
 cases hwl with
 | cons w1 w2 =>
  cases w2;cases w1 with
  | list ho hall=>exact⟨_,_,ns,rfl,rfl,ho,Ic ns _ hall,hlen⟩
theorem RQ(l:OpenLaw)(args:List WData):l.row.toRowW.claim.post args (.bool true) args=true :=
 postW_of (r:=l.row.toRowW) (X:=(true==true))
  (show WShape.has [] (.bool true) .bool=true by first | rfl | decide | simp [WShape.has,WShape.arms,WShape.armsAll])
  (show (WTm.eq .res (.lit (.bool true))).value [] { args:=args,res:=some (.bool true),after:=args }=some (.bool (true==true)) from w_eq_bool (w_res rfl) w_lit) rfl
theorem attach_call{l:OpenLaw}{n:Nat}{q:cL}{loose:List Str}{XP:(Str->Option Ev)->b9->Prop}{YP:cQ->b9->Prop}{d:DefRec}
  (hn:l.most=some n) (hdf:d.params.defaults=[])
  (call:∀(w:cQ) (s₀ s₁:Op) (mg mb:Str->Option Ev) (fa:Db) (o:Obj) (pm cd doc:Ev) (a:Db) (vs:List Ev) (ns:List Int),
   Ground q loose [] XP w s₀ mg mb s₁.heap->YP w s₁.heap ->
   s₁.heap.get? fa=some o->o.data=.func (docDef d.name d.params d.body d.scope pm cd doc)->s₁.heap.CodeRec cd d.name->mg d.name=some (.ref fa) ->
   s₁.heap.get? a=some { cls:=.type "list",data:=.seq vs.toArray }->IntsAre vs ns->ns.length<=n->s₁.gens=#[] ->
   codeAny (model l.prog w) callerA (.call (.ref fa) ⟨[.ref a],[]⟩) (λr s'=>r=.ok (.ret (.bool true))/\OldK s₁.heap s'.heap/\s'.os=s₁.os/\gX s'.gens) s₁) :
  WalkO q loose XP YP l.row.toRowW d [] (λf vs=>PySem.call f vs):=by
 intro w s₀ s₁ mg mb G Y fa o pm cd doc dV kV ho hd hcd hD hmg hg args vals as hpre hlay hrd hwl hlo;obtain rfl:dV=.none:=Dflts.none hD hdf;obtain rfl:kV=.none:=Dflts.noKw hD;obtain⟨a,vs,ns,rfl,rfl,hobj,hints,hlen⟩:=RI hn hpre hwl;refine enter_call (iW (call w s₀ s₁ mg mb fa o pm cd doc a vs ns G Y ho (fd_plain hd) hcd hmg hobj hints hlen hg) λr s' hq=>?_);obtain⟨rfl,h2,h3,h4⟩:=hq;exact⟨.inl ⟨.bool true,.bool true,[],rfl,λ_=>rfl,.bool true,RQ l _,λ_=>⟨iL,λ_ hm=>(nomatch hm)⟩⟩,h2,h3,h4⟩
section
variable {prog:Program}{w:World}{A:Around}{E:Value->Shared->Prop}{s:Shared}{K:Frag}
end
end Att
namespace L2
open PySem PySem.Spec PyProof.Rows
theorem LJ:∀{vs:List Ev} {ns:List Int},IntsAre vs ns->Vals (ns.map V.int) vs
 | _,_,.nil=>.nil
 | _,_,.cons n t h=>.cons ⟨t,rfl⟩ (LJ h)
def Yl(H:Hp):Prop:=∀b,H b=none\/∃o xs,H b=some (.frz o (.lst xs))
theorem T_{P:cL}{w:cQ}{K:Frag}{mg mb:Str->Option Ev}{CX:U5}{k:Nat}{fa a:Db}{fd:bo}{x:Str}{sp:Sp}{s₁:Op}{vs:List Ev}{ns:List Int}
  (KX:K.In s₁.heap) (hns:s₁.heap.Ns mainGlobals mg) (hb:s₁.heap.Ns builtinsNs mb) (hbb:∀x:Str,x ≠ "__name__"->mb x=bootBuiltins x) (hlim:s₁.heap.NoLimit) (hg:s₁.gens=#[])
  (ha:s₁.heap.get? a=some { cls:=.type "list",data:=.seq vs.toArray }) (hi:IntsAre vs ns) (hl:ns.length<=sizeLine) (hr:Room k callerA)
  (F:∀base:b9,K.In base->base.Ns mainGlobals mg->BG P w K mg base CX k fa fd [x] sp) (hbind:∀(s:Op) (u:Ev),iV s fd ⟨[u],[]⟩ [(x,u)])
  (hsp:∀H:Hp,Yl H->SqL K H a (ns.map V.int)->sp [.ref a] H (λv _=>v=.bl true) λ_ _ _=>False)
  (hCX:∀H e s',CX [] H s₁ (λ_ _ _=>False) e s'->False) :
  codeAny (model P w) callerA (.call (.ref fa) ⟨[.ref a],[]⟩) (λr s'=>r=.ok (.ret (.bool true))/\OldK s₁.heap s'.heap/\s'.os=s₁.os/\gX s'.gens) s₁:=by
 have rv:=LJ hi;have lenV:=hi.length
 have core:∀H:Hp,Yl H->SqL K H a (ns.map V.int)->HOk P w H s₁.heap->(∀b,H b≠none->b=a)->(H a≠none->K.lookup a=none) ->
   codeAny (model P w) callerA (.call (.ref fa) ⟨[.ref a],[]⟩) (λr s'=>r=.ok (.ret (.bool true))/\OldK s₁.heap s'.heap/\s'.os=s₁.os/\gX s'.gens) s₁:=by
  intro H hO hS hok hA hK;have base_of:∀{b:Db} {o:Obj},s₁.heap.get? b=some o->H b=none->(Mi s₁.heap H).get? b=some o:=λe n=>UN e n
  have noA:∀{b:Db} {o:Obj} {es:Array DictEntry} {ep:Nat},s₁.heap.get? b=some o->o.data=.dict es ep->H b=none:=λ{b o es ep} e d=>by
   cases q:H b with
   | none=>rfl
   | some u =>
    have e':b=a:=hA b (by rw [q]; simp);subst e';rw [ha] at e; cases e
    have d':Data.seq vs.toArray _=Data.dict es ep:=d;cases d'
  have nsK:∀{b:Db} {m:Str->Option Ev},s₁.heap.Ns b m->(Mi s₁.heap H).Ns b m:=λ{b m} ⟨o,es,ep,e,d,r⟩=>⟨o,es,ep,base_of e (noA e d),d,r⟩
  have hKb:K.In (Mi s₁.heap H):=λb o e=>base_of (KX b o e) (by
   cases q:H b with
   | none=>rfl
   | some u =>
    have e':b=a:=hA b (by rw [q]; simp);subst e';rw [hK (by rw [q]; simp)] at e; cases e)
  have hM:Mod K mg (Mi s₁.heap H):=⟨hKb,nsK hns,⟨mb,nsK hb,hbb⟩,let ⟨mc,h1,h2⟩:=hlim; ⟨mc,nsK h1,h2⟩⟩;have e0:Env0 P w K mg (Mi s₁.heap H) callerA [] s₁ H:=⟨rfl,hM,λb o e=>Vk e,iZ (SD _ _),trivial,λb hb=>absurd (show b∈([]:List Db) from hb) (by simp),hok,.of_eq hg⟩;refine iW ((F _ hKb (nsK hns)).run callerA [] s₁ H ⟨[.ref a],[]⟩ [.ref a] [.ref a] _ _ hr e0 (hbind s₁ (.ref a)) (.cons rfl .nil) (hsp H hO hS)) λr s' h=>?_;cases r with
  | error e=>exact(hCX H e s' h).elim
  | ok fl =>
   cases fl with
   | next=>exact dg h
   | brk=>exact dg h
   | cont=>exact dg h
   | ret u =>
    obtain⟨v,H',os,bare,un,hok',r',q⟩:=h;have q':v=.bl true:=q;subst q';obtain rfl:u=eY true:=r';refine⟨rfl,OldK.of_keep λb o e=>?_,os,bare⟩;cases q:H b with
    | none=>exact un.keep b o e q (by intro z; exact absurd (show b∈([]:List Db) from z) (by simp)) (by simp)
    | some u =>
     rcases hO b with z | ⟨ob,xs,z⟩
     ·rw [q] at z; cases z
     ·have z2:=un.frzs b ob _ z
      obtain⟨e1,_⟩:=hok b _ z;obtain⟨e2,_⟩:=hok' b _ z2;rw [e] at e1; cases e1
      exact e2
 cases hk:K.lookup a with
 | some o =>
  have e:=KX a o hk;rw [ha] at e;cases e;refine core (λ_=>none) (λ_=>.inl rfl) (.inr ⟨_,vs.toArray,_,hk,rfl,rfl,rfl,by rw [UF,lenV]; exact hl,by simpa using rv⟩) (λb u z=>by have z':(none:Option HO)=some u:=z; cases z') (λb z=>absurd rfl z) λz=>absurd rfl z
 | none =>
  refine core (λb=>if b=a then some (.frz { cls:=.type "list",data:=.seq vs.toArray } (.lst (ns.map V.int))) else none) (λb=>?_) (.inl (.inr ⟨{ cls:=.type "list",data:=.seq vs.toArray },if_pos rfl⟩)) (λb u z=>?_) (λb z=>?_) λ_=>hk
  ·by_cases hb:b=a
   ·exact .inr ⟨_,_,if_pos hb⟩
   ·exact .inl (if_neg hb)
  ·by_cases hb:b=a
   ·have z':=(if_pos hb).symm.trans z
    cases z';subst hb;exact⟨ha,by rw [No]; exact hl,vs,_,rv,ha⟩
   ·have z':=(if_neg hb).symm.trans z
    cases z'
  ·by_cases hb:b=a
   ·exact hb
   ·exact absurd (if_neg hb) z
theorem P0{l:PySem.W.OpenLaw}{n k:Nat}{q:cL}{loose:List Str}{XP:(Str->Option Ev)->b9->Prop}{YP:cQ->b9->Prop}{d:DefRec}{K:Params->Frag}{CX:cQ->U5}{sp:cQ->Sp}{x:Str}
  (hn:l.most=some n) (hn2:n<=sizeLine) (hdf:d.params.defaults=[]) (hr:Room k callerA)
  (hY:∀(w:cQ) (h:b9),YP w h->(K w.params).In h)
  (F:∀(w:cQ) (mg:Str->Option Ev) (fa:Db) (h:b9),(K w.params).In h->h.Ns mainGlobals mg->mg d.name=some (.ref fa) ->
   ∃fd:bo,(∀(s:Op) (u:Ev),iV s fd ⟨[u],[]⟩ [(x,u)]) /\
    ∀base:b9,(K w.params).In base->base.Ns mainGlobals mg->BG l.prog w (K w.params) mg base (CX w) k fa fd [x] (sp w))
  (hsp:∀(w:cQ) (H:Hp) (a:Db) (ns:List Int),ns.length<=n->Yl H->SqL (K w.params) H a (ns.map V.int)->sp w [.ref a] H (λv _=>v=.bl true) λ_ _ _=>False)
  (hCX:∀(w:cQ) (H:Hp) (s:Op) (e:Ev) (s':Op),CX w [] H s (λ_ _ _=>False) e s'->False) :
  PySem.W.WalkO q loose XP YP l.row.toRowW d [] (λf vs=>PySem.call f vs):=by
 refine Att.attach_call hn hdf λw s₀ s₁ mg mb fa o pm cd doc a vs ns G Y ho hd hcd hmg hobj hints hlen hg=>?_;have KX:=hY w _ Y;obtain⟨fd,hb,hF⟩:=F w mg fa _ KX G.T.g hmg;exact T_ KX G.T.g G.T.b G.T.builtins G.T.nolimit hg hobj hints (cG hlen hn2) hr hF hb (λH hO hS=>hsp w H a ns hlen hO hS) λH e s'=>hCX w H s₁ e s'
end L2
/- THE LAST THEOREM (shape; LID, My.* are yours):
   My.Adr: a structure of the addresses that your layer names (classes, functions); My.Txt K t: a structure (Prop) of the equations over K;
   My.txt_mk : {K} {implicit addresses ..} (e1 : nsIn K mainGlobals "law" = some (some (.ref f))) (e2 : K.lookup f = some ⟨oc, od, .func (fnOf "law" "law" params body scope dV kV doc pm an cdv ct), sl⟩) (e3 : codeIn K cdv "law" = true) .. : ∃ t, My.Txt K t
set_option maxRecDepth 100000 in
set_option maxHeartbeats 0 in
theorem PySem.Challenge.cw_LID_holds : PySem.Challenge.rw_LID.Holds := by
 w_on; o_law; k_head; (case hw=>w_witness2)
 k_fill
 refine L2.P0 (l:=PySem.Challenge.rw_LID) (n:=63) (k:=40) (x := "script") (CX:=λw=>..) (sp:=λ_=>My.sp_law) rfl (by decide) rfl ⟨rfl,by decide,by decide⟩ (λw h Y=>PySem.W.kIn_of Y) ?F ?S ?C
 case F =>
  intro w mg fa h KX G hmg
  have T:∃t,My.Txt (L2.KOf KX) t:=by
   dsimp only [L2.KOf]                          -- K must stand as «<heap const> w.params» for k_is
   refine' My.txt_mk ?e1 ?e2 ?e3 ..
   (case e1=>PySem.W.k_is)                    -- in the order: a name -> its address -> its object -> its parts
   (case e2=>PySem.W.k_is)
   ..
  obtain⟨t,T⟩:=T;have e0:=hmg.symm.trans (mg_of KX G T.law);cases e0                                       -- fa is the law's own address;exact⟨_,λs u=>.of_eq rfl,λbase kb nb=>My.law_fn T kb nb⟩     -- if «.of_eq rfl» comes too early: refine' ⟨_,?b,λbase kb nb=>My.law_fn T kb nb⟩; exact λs u=>.of_eq rfl
 case S=>exact λw H a ns hl hO hS=>..
 case C=>exact ..
(the tactic k_is has no namespace: write k_is) -/
namespace L2
open PySem PySem.Spec PyProof.Rows
def Df(s:cS):Arguments:=match s with
 | .FunctionDef _ a _ _ _ _ _ _ _ _=>a
 | _=>{ posonlyargs:=[],args:=[],vararg:=none,kwonlyargs:=[],kw_defaults:=[],kwarg:=none,defaults:=[] }
def CO(s:cS):List cS:=match s with
 | .FunctionDef _ _ b _ _ _ _ _ _ _=>b
 | _=>[]
def AR(s:cS):eZ:=match s with
 | .FunctionDef _ _ _ _ _ _ sc _ _ _=>sc
 | _=>{ kind:=.function,names:=[],isGenerator:=false,isCoroutine:=false }
abbrev CP:U5:=λ_ _ _ _ _ _=>False
abbrev E0:XK:=λ_ _ _=>False
theorem Wz{X:Cx}:Py CP X E0:=λ_ _ _ _ _ _ _ h=>h.elim
structure Fun (K:Frag) (x qual:Str) (st:cS) (f:Db) (fd:bo):Prop where
 ex:∃(oc:Ev) (od:Option Db) (kV doc pm:Ev) (an:Option Db) (cdv ct:Ev) (osl:Array (Option Ev)),
  fd=fnOf x qual (Df st) (CO st) (AR st) .none kV doc pm an cdv ct/\K.lookup f=some ⟨oc,od,.func fd,osl⟩/\codeIn K cdv qual=true
 kp:keepIn K (.ref f)=true
section
variable {P:Program}{w:World}{K:Frag}{mg:Str->Option Value}{base:Heap}
theorem Fun.ok{x qual:Str}{st:cS}{f:Db}{fd:bo}{N ps:List Str}{k:Nat}{sp:Sp}(F:Fun K x qual st f fd)(S:Ah N ps (AR st))(len:∀vs H Q E,sp vs H Q E->vs.length=ps.length)
  (hbody:∀(cdv:Ev) (A:cw) (outer:List Env) (s:Op) (H:Hp) (vs:List V) (Q:VK) (E:XK),Room k (A.deeper (envOfC qual (AR st) s.heap.objs.size f cdv))->sp vs H Q E ->
   ∃t,PSs (M7 CP P w K mg base N qual (AR st) f cdv A outer s H E).nox (CO st) t/\t { nx:=λ_ H'=>Q .non H',rt:=Q } (start N vs) H):BG P w K mg base CP (k+1) f fd ps sp:=by
 obtain⟨oc,od,kV,doc,pm,an,cdv,ct,osl,rfl,lk,hcd⟩:=F.ex;refine Zg lk hcd S len λA outer s H vs Q E hr hsp=>?_;obtain⟨t,h,q⟩:=hbody cdv A outer s H vs Q E hr hsp;exact⟨t,h.nox,q⟩
theorem Fun.binds{x qual:Str}{st:cS}{f:Db}{fd:bo}{ps:List Str}(F:Fun K x qual st f fd)
  (h:∀(kV doc pm:Ev) (an:Option Db) (cdv ct:Ev) (us:List Ev),us.length=ps.length->bindArgs (fnOf x qual (Df st) (CO st) (AR st) .none kV doc pm an cdv ct) ⟨us,[]⟩=pure (ps.zip us)):Binds K fd ps []:=by
 obtain⟨oc,od,kV,doc,pm,an,cdv,ct,osl,rfl,lk,hcd⟩:=F.ex;exact .all (h kV doc pm an cdv ct)
theorem UP{x qual:Str}{st:cS}{f:Db}{oc:Ev}{od an:Option Db}{osl:Array (Option Ev)}{kV doc pm cdv ct:Ev}(l:K.lookup f=some ⟨oc,od,.func (fnOf x qual (Df st) (CO st) (AR st) .none kV doc pm an cdv ct),osl⟩)
  (c:codeIn K cdv qual=true) (k:keepIn K (.ref f)=true):Fun K x qual st f (fnOf x qual (Df st) (CO st) (AR st) .none kV doc pm an cdv ct):=⟨⟨oc,od,kV,doc,pm,an,cdv,ct,osl,rfl,l,c⟩,k⟩
end
theorem IG{A:cw}{k:Nat}(hr:Room k A):A.units+1<cLine:=fS (Nat.add_le_add_left (by decide:1<=64) _) hr.units
section
variable {X:Cx}
theorem pv(i:Nat){x:Str}{pos:Pos}(hN:X.N[i]?=some x:=by rfl)(hv:Yh X.env.scope x:=by first | exact be rfl | exact di (be rfl) | exact di (di rfl))(hd:(x==("__debug__":Str))=false:=by decide)
  (hcd:(x==("__classdict__":Str))=false:=by decide):PE X (.Name x pos) (B3 i):=MP hN hv hd hcd
end
theorem Cp{A B:Prop}(h:B):if false=true then A else B:=by
 rw [if_neg bw];exact h
theorem Dt{A B:Prop}(h:A):if true=true then A else B:=by
 rw [if_pos rfl];exact h
theorem CD{c A B:Prop}[Decidable c](h1:c->A)(h2:¬c->B):if c then A else B:=by
 by_cases h:c
 ·rw [if_pos h]
  exact h1 h
 ·rw [if_neg h]
  exact h2 h
section
variable {κ:Type}[DecidableEq κ]
def Bs(kvs:List (κ×V))(k:κ):Option V:=(kvs.find? λkv=>decide (kv.1=k)).map (·.2)
def putK(kvs:List (κ×V))(k:κ)(v:V):List (κ×V) :=
 if (kvs.any λkv=>decide (kv.1=k))=true then kvs.map (λkv=>if kv.1=k then (kv.1,v) else kv) else kvs++[(k,v)]
theorem Dz{p:κ×V}{r:List (κ×V)}{k:κ}(e:p.1=k):Bs (p::r) k=some p.2:=by simp [Bs,fT,e]
theorem D1{p:κ×V}{r:List (κ×V)}{k:κ}(e:¬p.1=k):Bs (p::r) k=Bs r k:=by simp [Bs,fT,e]
theorem NS(k:κ):∀kvs:List (κ×V),(kvs.any λkv=>decide (kv.1=k))=(Bs kvs k).isSome
 | []=>rfl
 | p::r=>by
  rw [fR]
  by_cases e:p.1=k
  ·simp only [Dz e,decide_eq_true e,Bool.true_or,Option.isSome_some]
  ·rw [D1 e,decide_eq_false e,Bool.false_or]; exact NS k r
theorem E7(kvs:List (κ×V))(k:κ)(v:V):(putK kvs k v).length<=kvs.length+1:=by
 unfold putK
 split
 ·rw [No]; omega
 ·rw [bi,ZB,dR]; omega
theorem RelO.isSome_eq{o:Option V}{u:Option Ev}(r:RelO o u):o.isSome=u.isSome:=by
 cases o with
 | none=>cases u with
  | none=>rfl
  | some _=>exact(show False from r).elim
 | some _=>cases u with
  | none=>exact(show False from r).elim
  | some _=>rfl
theorem RelO.getD{o:Option V}{u:Option Ev}{d:V}{d':Ev}(r:RelO o u)(rd:RelV d d'):RelV (o.getD d) (u.getD d'):=by
 cases o with
 | none=>cases u with
  | none=>exact rd
  | some _=>exact(show False from r).elim
 | some _=>cases u with
  | none=>exact(show False from r).elim
  | some _=>exact r
theorem KV.val{kvs:List (κ×V)}{vs:List (κ×Ev)}(r:KV kvs vs)(k:κ):RelO (Bs kvs k) (valueAt vs k):=by
 unfold KV at r
 induction r with
 | nil=>exact ef
 | @cons p q ps qs h t ih =>
  obtain⟨h1,h2⟩:=h
  by_cases e:p.1=k
  ·have e':q.1=k:=h1.symm.trans e
   have b:valueAt (q::qs) k=some q.2:=by simp [valueAt,fT,e']
   rw [Dz e,b]; exact h2
  ·have e':¬q.1=k:=λz=>e (h1.trans z)
   have b:valueAt (q::qs) k=valueAt qs k:=by simp [valueAt,fT,e']
   rw [D1 e,b]; exact ih
theorem KV.any{kvs:List (κ×V)}{vs:List (κ×Ev)}(r:KV kvs vs)(k:κ):(kvs.any λkv=>decide (kv.1=k))=vs.any λkv=>decide (kv.1=k):=by
 unfold KV at r
 induction r with
 | nil=>rfl
 | cons h t ih=>rw [fR,fR,ih,h.1]
theorem KV.repl{kvs:List (κ×V)}{vs:List (κ×Ev)}(r:KV kvs vs)(k:κ){y:V}{u:Ev}(ry:RelV y u) :
  KV (kvs.map λkv=>if kv.1=k then (kv.1,y) else kv) (vs.map λkv=>if kv.1=k then (kv.1,u) else kv):=by
 unfold KV at r ⊢
 induction r with
 | nil=>exact .nil
 | @cons p q ps qs h t ih =>
  rw [bm,bm];refine .cons ?_ ih;obtain⟨h1,h2⟩:=h
  by_cases e:p.1=k
  ·rw [if_pos e,if_pos (h1.symm.trans e)]; exact⟨h1,ry⟩
  ·rw [if_neg e,if_neg (λz=>e (h1.trans z))]; exact⟨h1,h2⟩
theorem KV.put{kvs:List (κ×V)}{vs:List (κ×Ev)}(r:KV kvs vs)(k:κ){y:V}{u:Ev}(ry:RelV y u):KV (putK kvs k y) (stored vs k u):=by
 unfold putK stored;rw [r.any k]
 by_cases e:(vs.any λkv=>decide (kv.1=k))=true
 ·rw [if_pos e,if_pos e]; exact r.repl k ry
 ·rw [if_neg e,if_neg e]; exact Paired.snoc r ⟨rfl,ry⟩
theorem KV.length{kvs:List (κ×V)}{vs:List (κ×Ev)}(r:KV kvs vs):kvs.length=vs.length:=Paired.length r
end
theorem J_{P:cL}{w:cQ}{k:Key}{u:Ev}(r:RelV (kV k) u):(Aq P w).is k u=true:=by
 cases k with
 | inl i=>obtain⟨t,e⟩:=(show ∃t,u=jL i t from r); subst e; exact OB P w i t
 | inr x=>obtain⟨t,e⟩:=(show ∃t,u=eg x t from r); subst e; exact OA P w x t
theorem Lc{P:cL}{w:cQ}:∀{ks:List Key} {us:List Ev},Vals (ks.map kV) us->ItemsAre (Aq P w) ks us
 | [],_,r=>by rw [fJ] at r; cases r; exact .nil
 | k::ks,_,r=>by
  rw [bm] at r;cases r with
  | cons h t=>exact .cons (J_ h) (Lc t)
abbrev KT(H:Hp):List (List Key×V)->List (List Key×Db×Ev)->Prop:=Paired λp q=>p.1=q.1/\H q.2.1=some (.tup (p.1.map kV))/\RelV p.2 q.2.2
theorem KT.val{H:Hp}{kvs:List (List Key×V)}{xs:List (List Key×Db×Ev)}(r:KT H kvs xs)(k:List Key):RelO (Bs kvs k) ((atKey xs k).map (·.2)):=by
 induction r with
 | nil=>exact ef
 | @cons p q ps qs h t ih =>
  obtain⟨h1,_,h2⟩:=h
  by_cases e:p.1=k
  ·have e':q.1=k:=h1.symm.trans e
   have b:atKey (q::qs) k=some q.2:=by simp [atKey,fT,e']
   rw [Dz e,b]; exact h2
  ·have e':¬q.1=k:=λz=>e (h1.trans z)
   have b:atKey (q::qs) k=atKey qs k:=by simp [atKey,fT,e']
   rw [D1 e,b]; exact ih
theorem KT.repl{H:Hp}{kvs:List (List Key×V)}{xs:List (List Key×Db×Ev)}(r:KT H kvs xs)(k:List Key){y:V}{u:Ev}(ry:RelV y u) :
  KT H (kvs.map λkv=>if kv.1=k then (kv.1,y) else kv) (xs.map (putAt k u)):=by
 induction r with
 | nil=>exact .nil
 | @cons p q ps qs h t ih =>
  rw [bm,bm];refine .cons ?_ ih;obtain⟨h1,h2,h3⟩:=h;unfold putAt
  by_cases e:p.1=k
  ·rw [if_pos e,if_pos (h1.symm.trans e)]; exact⟨h1,h2,ry⟩
  ·rw [if_neg e,if_neg (λz=>e (h1.trans z))]; exact⟨h1,h2,h3⟩
theorem KT.put{H:Hp}{kvs:List (List Key×V)}{xs:List (List Key×Db×Ev)}(r:KT H kvs xs)(k:List Key){b:Db}{y:V}{u:Ev}(hb:H b=some (.tup (k.map kV)))(ry:RelV y u) :
  KT H (putK kvs k y) (storedH xs k b u):=by
 have e:(kvs.any λkv=>decide (kv.1=k))=(atKey xs k).isSome:=by
  rw [NS,(r.val k).isSome_eq,iM]
 unfold putK storedH;rw [e]
 by_cases q:(atKey xs k).isSome=true
 ·rw [if_pos q,if_pos q]; exact r.repl k ry
 ·rw [if_neg q,if_neg q]; exact Paired.snoc r ⟨rfl,hb,ry⟩
theorem KT.keeps{H H':Hp}{kvs:List (List Key×V)}{xs:List (List Key×Db×Ev)}(r:KT H kvs xs)(ht:∀b ys,H b=some (.tup ys)->H' b=some (.tup ys)):KT H' kvs xs :=
 Paired.mapP r λ_ _ z=>⟨z.1,ht _ _ z.2.1,z.2.2⟩
section
variable {P:Program}{w:World}{H:Hp}{h:Heap}{a:Addr}
theorem We{u:HO}(ok:HOk P w H h)(e:Rd H a u):ObjOk P w H h a u:=e.ok ok
theorem G3{kvs:List (Key×V)}(ok:HOk P w H h)(e:Rd H a (.dK kvs)):kvs.length<=sizeLine/\(a==sysModules)=false/\∃vs,KV kvs vs/\h.DictOf (Aq P w) a vs :=
 show ObjOk P w H h a (.dK kvs) from We ok e
theorem W9{kvs:List (Key×V)}(ok:HOk P w H h)(e:H a=some (.dK kvs)):kvs.length<=sizeLine/\(a==sysModules)=false/\∃vs,KV kvs vs/\h.DictOf (Aq P w) a vs:=G3 ok (.inl e)
theorem GK{ks:List Key}(ok:HOk P w H h)(e:H a=some (.tup (ks.map kV))):(tupleKind (Aq P w)).is h ks a:=by
 obtain⟨_,its,r,o,h1,h2,n,h3,_⟩:=(show ObjOk P w H h a (.tup (ks.map kV)) from ok a _ e);exact⟨o,its.toArray,n,h1,h2,h3,by simpa using Lc r⟩
theorem KS{kvs:List (List Key×V)}(ok:HOk P w H h)(e:Rd H a (.dT kvs)):kvs.length<=sizeLine/\(a==sysModules)=false /\
  ∃xs,KT H kvs xs/\h.DictOfH (tupleKind (Aq P w)) a xs:=by
 obtain⟨z,y,xs,r,o,es,ep,h1,h2,h3,h4,h5⟩:=(show ObjOk P w H h a (.dT kvs) from We ok e);refine⟨z,y,xs,r,o,es,ep,h1,h2,h3,h4,λx hx=>?_,h5⟩
 have all:∀{l:List (List Key×V)} {m:List (List Key×Db×Ev)},KT H l m->∀x∈m,(tupleKind (Aq P w)).is h x.1 x.2.1:=by
  intro l m q
  induction q with
  | nil=>intro x hx; exact nomatch hx
  | @cons p q ps qs hq t ih =>
   intro x hx
   rcases TW.mp hx with e | hx
   ·subst e
    exact GK ok (by rw [← hq.1]; exact hq.2.1)
   ·exact ih x hx
 exact all r x hx
theorem Zn{kvs:List (List Key×V)}(ok:HOk P w H h)(e:H a=some (.dT kvs)):kvs.length<=sizeLine/\(a==sysModules)=false /\
  ∃xs,KT H kvs xs/\h.DictOfH (tupleKind (Aq P w)) a xs:=KS ok (.inl e)
end
def DGet(H:Hp)(a:Db)(y:V)(r:Option V):Prop :=
 (∃kvs k,Rd H a (.dK kvs)/\y=kV k/\r=Bs kvs k)\/∃kvs k b,Rd H a (.dT kvs)/\y=.ref b/\H b=some (.tup (k.map kV))/\r=Bs kvs k
def DPut(H:Hp)(a:Db)(y v:V)(H':Hp):Prop :=
 (∃kvs k,H a=some (.dK kvs)/\y=kV k/\kvs.length<sizeLine/\H'=BC H a (.dK (putK kvs k v))) \/
 ∃kvs k b,H a=some (.dT kvs)/\y=.ref b/\H b=some (.tup (k.map kV))/\kvs.length<sizeLine/\H'=BC H a (.dT (putK kvs k v))
theorem DGet.k{H:Hp}{a:Db}{kvs:List (Key×V)}{k:Key}(e:H a=some (.dK kvs)):DGet H a (kV k) (Bs kvs k):=.inl ⟨kvs,k,.inl e,rfl,rfl⟩
theorem DPut.k{H:Hp}{a:Db}{kvs:List (Key×V)}{k:Key}{v:V}(e:H a=some (.dK kvs))(hl:kvs.length<sizeLine):DPut H a (kV k) v (BC H a (.dK (putK kvs k v))):=.inl ⟨kvs,k,e,rfl,hl,rfl⟩
section
variable {X:Cx}{pins:List (Addr×Obj)}{σ:St}{H:Hp}{s:Shared}{a:Addr}{y v:V}{u r:Value}{o:Option V}{A:Around}{E:Value->Shared->Prop}
theorem Inv.big(I:Inv X pins σ H s):sysModules<s.heap.objs.size:=by
 have h:mainGlobals<s.heap.objs.size:=(I.mod.glob.keeps I.bk).lt;exact Nat.lt_trans (by decide) h
theorem SN{Q:Ev->Op->Prop}(hu:A.units+1<cLine)(I:Inv X pins σ H s)(g:DGet H a y (some v))(ry:RelV y u)(h:∀w' s',Inv X pins σ H s'->RelV v w'->Q w' s') :
  wpAny (model X.prog X.w) A (getItem (.ref a) u) Q E s:=by
 rcases g with ⟨kvs,k,e,ey,l⟩ | ⟨kvs,k,b,e,ey,eb,l⟩
 ·subst ey
  obtain⟨z,hd,vs,rel,dd⟩:=G3 I.hok e;obtain⟨w',hw,rw'⟩:=RelO.some_of (v:=v) (o:=valueAt vs k) (by rw [l]; exact rel.val k);exact wpAny_getItem_of (J_ ry) dd.mapOf hw (h w' _ (I.tok _) rw')
 ·subst ey
  cases (show u=cV b from ry);obtain⟨z,hd,xs,rel,dd⟩:=KS I.hok e;obtain⟨w',hw,rw'⟩:=RelO.some_of (v:=v) (o:=(atKey xs k).map (·.2)) (by rw [l]; exact rel.val k);obtain⟨p,hp,hp2⟩:=cU.mp hw;refine wpAny_getItem_heap (em hu) (GK I.hok eb) dd hp ?_;rw [hp2];exact h w' _ (I.tok _) rw'
theorem aw{Q:Ev->Op->Prop}(hu:A.units+1<cLine)(I:Inv X pins σ H s)(g:DGet H a y o)(ry:RelV y u)(h:∀s',Inv X pins σ H s'->Q (.bool o.isSome) s') :
  wpAny (model X.prog X.w) A (compareOp .In u (.ref a)) Q E s:=by
 rcases g with ⟨kvs,k,e,ey,l⟩ | ⟨kvs,k,b,e,ey,eb,l⟩
 ·subst ey
  obtain⟨z,hd,vs,rel,dd⟩:=G3 I.hok e;refine wpAny_in_of (J_ ry) hd dd.mapOf ?_;rw [← (rel.val k).isSome_eq,← l];exact h _ (I.tok _)
 ·subst ey
  cases (show u=cV b from ry);obtain⟨z,hd,xs,rel,dd⟩:=KS I.hok e;refine wpAny_in_heap (em hu) (GK I.hok eb) hd dd ?_;have q:=(rel.val k).isSome_eq;rw [iM] at q;rw [← q,← l];exact h _ (I.tok _)
theorem WL{Q:Ev->Op->Prop}(hu:A.units+1<cLine)(I:Inv X pins σ H s)(g:DGet H a y o)(ry:RelV y u)(h:∀s',Inv X pins σ H s'->Q (.bool (!o.isSome)) s') :
  wpAny (model X.prog X.w) A (compareOp .NotIn u (.ref a)) Q E s:=by
 rcases g with ⟨kvs,k,e,ey,l⟩ | ⟨kvs,k,b,e,ey,eb,l⟩
 ·subst ey
  obtain⟨z,hd,vs,rel,dd⟩:=G3 I.hok e;refine wpAny_notIn_of (J_ ry) hd dd.mapOf ?_;rw [← (rel.val k).isSome_eq,← l];exact h _ (I.tok _)
 ·subst ey
  cases (show u=cV b from ry);obtain⟨z,hd,xs,rel,dd⟩:=KS I.hok e;refine wpAny_notIn_heap (em hu) (GK I.hok eb) hd dd ?_;have q:=(rel.val k).isSome_eq;rw [iM] at q;rw [← q,← l];exact h _ (I.tok _)
theorem M6{h':b9}{t':Nat}{ob:HO}(I:Inv X pins σ H s)(mu:Z1 (H a))(hs:fe a s.heap h')(he:∃q,h'.get? a=some q)(new:ObjOk X.prog X.w (BC H a ob) h' a ob) :
  Inv X pins σ (BC H a ob) { s with heap:=h',toks:=t' } :=
 I.write (x:=a) (e:=a) mu (.inl rfl) (λb q hb z=>(hs.2 b hb).trans z) he new
theorem Ub{P:cL}{w:cQ}{H':Hp}{h':b9}{kvs:List (Key×V)}{vs:List (Key×Ev)}(z:kvs.length<=sizeLine)(hd:(a==sysModules)=false)(rel:KV kvs vs)(dd:h'.DictOf (Aq P w) a vs) :
  ObjOk P w H' h' a (.dK kvs):=⟨z,hd,vs,rel,dd⟩
theorem SM{H':Hp}{Q:Unit->Op->Prop}(hu:A.units+1<cLine)(I:Inv X pins σ H s)(g:DPut H a y v H')(ry:RelV y u)(rv:RelV v r)(h:∀s',Inv X pins σ H' s'->Q () s') :
  wpAny (model X.prog X.w) A (setItem (.ref a) u r) Q E s:=by
 rcases g with ⟨kvs,k,e,ey,l,eH⟩ | ⟨kvs,k,b,e,ey,eb,l,eH⟩
 ·subst ey eH
  obtain⟨z,hd,vs,rel,dd⟩:=W9 I.hok e;have hz:vs.length<=sizeLine:=by rw [← rel.length]; exact z
  have hl:(putK kvs k v).length<=sizeLine:=by have:=E7 kvs k v; omega
  refine wpAny_setItem_pairs (hsz:=hz) (J_ ry) dd λh' dd' hs=>h _ ?_;have he:∃q,h'.get? a=some q:=let ⟨q,_,_,hq,_⟩:=dd'; ⟨q,hq⟩
  exact M6 I (by rw [e]; exact ef) hs he (Ub hl hd (rel.put k rv) dd')
 ·subst ey eH
  cases (show u=cV b from ry);obtain⟨z,hd,xs,rel,dd⟩:=Zn I.hok e;have hz:xs.length<=sizeLine:=by rw [← Paired.length rel]; exact z
  have hl:(putK kvs k v).length<=sizeLine:=by have:=E7 kvs k v; omega
  refine wpAny_setItem_heap (hsz:=hz) (em hu) (GK I.hok eb) dd λh' dd' hs=>h _ ?_;obtain⟨q,es,ep,hq,h2,h3,h4,_,h5⟩:=dd';refine M6 I (by rw [e]; exact ef) hs ⟨q,hq⟩ ⟨hl,hd,_,(rel.put k eb rv).keeps λc ys ec=>?_,q,es,ep,hq,h2,h3,h4,h5⟩;rw [AU (ZY ec e (λz=>nomatch z))];exact ec
end
section
variable {X:Cx}{pins:List (Addr×Obj)}{σ:St}{H:Hp}{s:Shared}{a:Addr}{kvs:List (Key×V)}{k:Key}{u:Value}{A:Around}{E:Value->Shared->Prop}
end
def WU(i:cC):Prop:=∀ov iv,subscripted i false ov iv=operate [ov,iv] (getItem ov iv)
theorem VM{prog:cL}{w:cQ}{A:cw}{E:Ev->Op->Prop}{s:Op}{env:Env}{value slice:cC}{pos:Pos}{T id:String}{Q:Ev->Op->Prop}
  (hl:typeLookup (.type T) "__getitem__"=pure (some (.builtin id))) (hs:WU slice)
  (h:wpAny (model prog w) A (eval value env) (λo s₁=>wpAny (model prog w) A (eval slice env) (λi s₂=>s₂.TypeIs o T/\wpAny (model prog w) A (getItem o i) Q E s₂) E s₁) E s) :
  wpAny (model prog w) A (eval (.Subscript value slice pos) env) Q E s:=by
 refine Subscript_ (c7 h (λo s₁ h₁=>c7 h₁ (λi s₂ h₂=>?_) λ_ _ x=>x) λ_ _ x=>x);obtain⟨hT,h₂⟩:=h₂;unfold subscriptTail;refine Ch ?_;rw [getitemInPython_of_ne hT.not_modules];refine Ch (ip hT hl ?_)
 have fin:wpAny (model prog w) A (subscripted slice false o i) (λr s₃=>wpAny (model prog w) A (letTemporaryGo value o r >>= λ_=>pure r) Q E s₃) E s₂:=by
  rw [hs o i];exact wpAny_operating (c7 h₂ (λr s₃ h₃=>Ch (wpAny_letTemporaryGo (Sc h₃))) λ_ _ x=>x)
 first
  | exact Sc (Ch fin)
  | exact Ch (Sc (Ch fin))
  | exact Ch fin
theorem Oa{X:Cx}{pins:List (Db×Obj)}{σ:St}{H:Hp}{s:Op}{a:Db}{y:V}{o:Option V}(I:Inv X pins σ H s)(g:DGet H a y o):s.TypeIs (.ref a) "dict":=by
 rcases g with ⟨kvs,k,e,_,_⟩ | ⟨kvs,k,b,e,_,_,_⟩
 ·obtain⟨_,_,vs,_,dd⟩:=G3 I.hok e
  exact dd.typeIs
 ·obtain⟨_,_,xs,_,dd⟩:=KS I.hok e
  exact dd.typeIs
def Y_(td ty:TE):TE:=λσ H Q=>td σ H λx H1=>ty σ H1 λy H2=>∃a v,x=.ref a/\DGet H2 a y (some v)/\Q v H2
def ZE(td ty tv:TE):TS:=λD σ H=>tv σ H λv H1=>td σ H1 λx H2=>ty σ H2 λy H3=>∃a H4,x=.ref a/\DPut H3 a y v H4/\D.nx σ H4
section
variable {X:Cx}{o i e value:Expr}{pos pos' tpos:Pos}{td ty tv:TE}
theorem Iv(hu:X.A.units+1<cLine)(ho:PE X o td)(hi:PE X i ty)(hs:WU i):PE X (.Subscript o i pos) (Y_ td ty):=by
 intro pins s σ H Q I h;refine VM PySem.F.slot_dict_getitem.lookup hs (thn (ho pins s σ H _ I h) λu s1 ⟨x,H1,I1,rx,q1⟩=>thn (hi pins s1 σ H1 _ I1 q1) λiv s2 ⟨y,H2,I2,ry,a,v,ex,g,q2⟩=>?_);subst ex;obtain rfl:u=cV a:=rx;exact⟨Oa I2 g,SN hu I2 g ry λw' s3 I3 rw'=>⟨v,H2,I3,rw',q2⟩⟩
theorem Iu(hu:X.A.units+1<cLine)(ho:PE X o td)(hi:PE X i ty)(hv:PE X value tv)(hs:swapsWith value (some (.Subscript o i pos')) pos.line X.env=pure false) :
  PS X (.Assign [.Subscript o i pos'] value pos) (ZE td ty tv):=by
 intro pins s σ H D I h;refine wpAny_Assign_Subscript (thn (hv pins s σ H _ I h) λr s1 ⟨v,H1,I1,rv,q1⟩=>thn (ho pins s1 σ H1 _ I1 q1) λu s2 ⟨x,H2,I2,rx,q2⟩=>thn (hi pins s2 σ H2 _ I2 q2) λiv s3 ⟨y,H3,I3,ry,a,H4,ex,g,q3⟩=>?_) hs;subst ex;obtain rfl:u=cV a:=rx;exact SM hu I3 g ry rv λs4 I4=>⟨σ,H4,I4,q3⟩
end
theorem OZ{P:cL}{w:cQ}{H:Hp}(h:b9)(hb:sysModules<h.objs.size):ObjOk P w H (h.push { cls:=.type "dict",data:=.dict #[] }) h.objs.size (.dK []) :=
 ⟨bn _,beq_eq_false_iff_ne.mpr (ci (b8 hb)),[],.nil,Heap.DictOf.new h⟩
def Xc:TE:=λ_ H Q=>∀p,H p=none->Q (.ref p) (BC H p (.dK []))
section
variable {X:Cx}{pos:Pos}
theorem Nv:PE X (.Dict [] [] pos) Xc:=λpins s σ H Q I h =>
 wpAny_Dict_empty ⟨.ref s.heap.objs.size,_,I.laid (a:=s.heap.objs.size) (o:=.dK []) (t':=s.toks) (λ_ _ q=>FM _ q) (Rs _) (OZ s.heap I.big),rfl,h _ (I.hok.fresh (Rs _))⟩
end
def O3:List (TE×TE)->St->Hp->(List (V×V)->Hp->Prop)->Prop
 | [],_,H,Q=>Q [] H
 | (tk,tv)::r,σ,H,Q=>tk σ H λx H1=>tv σ H1 λy H2=>O3 r σ H2 λps H3=>Q ((x,y)::ps) H3
abbrev VV:List (V×V)->List (Ev×Ev)->Prop:=Paired λp q=>RelV p.1 q.1/\RelV p.2 q.2
def aK(X:Cx)(pos:Pos)(keys:List (Option cC))(values:List cC)(trs:List (TE×TE)):Prop :=
 ∀(pins:List (Db×Obj)) (s:Op) (σ:St) (H:Hp) (Q:List (V×V)->Hp->Prop),Inv X pins σ H s->O3 trs σ H Q ->
  wpAny (model X.prog X.w) X.A (evalPairs (pairTrees keys values X.env pos)) (λvs s'=>∃ps H',Inv X pins σ H' s'/\VV ps vs/\Q ps H') X.xe s
theorem VU{X:Cx}{pos:Pos}:aK X pos [] [] []:=λpins s σ H Q I h=>pairTrees_nil_walk ⟨[],H,I,.nil,h⟩
theorem TX{X:Cx}{pos:Pos}{k v:cC}{ks:List (Option cC)}{vs:List cC}{tk tv:TE}{trs:List (TE×TE)}(hk:PE X k tk)(hv:PE X v tv)(hr:aK X pos ks vs trs) :
  aK X pos (some k::ks) (v::vs) ((tk,tv)::trs):=λpins s σ H Q I h =>
 pairTrees_cons_walk (thn (hk pins s σ H _ I h) λu s1 ⟨x,H1,I1,rx,q1⟩=>thn (hv pins s1 σ H1 _ I1 q1) λw2 s2 ⟨y,H2,I2,ry,q2⟩ =>
  thn (hr pins s2 σ H2 _ I2 q2) λws s3 ⟨ps,H3,I3,rel,q3⟩=>⟨(x,y)::ps,H3,I3,.cons ⟨rx,ry⟩ rel,q3⟩)
def J3(kvs more:List (Key×V)):List (Key×V):=more.foldl (λacc kv=>putK acc kv.1 kv.2) kvs
theorem KV.merge:∀{more:List (Key×V)} {rs:List (Key×Ev)} {kvs:List (Key×V)} {vs:List (Key×Ev)},KV more rs->KV kvs vs->KV (J3 kvs more) (merged vs rs):=by
 intro more rs kvs vs r;unfold KV at r
 induction r generalizing kvs vs with
 | nil=>intro q; exact q
 | @cons p q ps qs h t ih =>
  intro r0
  have e:KV (putK kvs p.1 p.2) (stored vs q.1 q.2):=by
   have:=r0.put p.1 h.2
   rw [← h.1]; exact this
  exact ih e
theorem Fn:∀(more kvs:List (Key×V)),(J3 kvs more).length<=kvs.length+more.length
 | [],kvs=>by show kvs.length<=kvs.length+0; omega
 | p::r,kvs=>by
  have h1:=Fn r (putK kvs p.1 p.2);have h2:=E7 kvs p.1 p.2;show (J3 (putK kvs p.1 p.2) r).length<=_;rw [ZB]; omega
theorem Kg{P:cL}{w:cQ}:∀{kvs:List (Key×V)} {ws:List (Ev×Ev)},VV (kvs.map λkv=>(kV kv.1,kv.2)) ws->∃rs,Carries (Aq P w) ws rs/\KV kvs rs
 | [],_,r=>by rw [fJ] at r; cases r; exact⟨[],ef,.nil⟩
 | p::kvs,_,r=>by
  rw [bm] at r;cases r with
  | @cons a b as bs h t =>
   obtain⟨rs,c,q⟩:=Kg (P:=P) (w:=w) t;obtain⟨b1,b2⟩:=b;exact⟨(p.1,b2)::rs,⟨J_ h.1,rfl,c⟩,.cons ⟨rfl,h.2⟩ q⟩
def Y9(trs:List (TE×TE)):TE:=λσ H Q=>∀p,H p=none->O3 trs σ (BC H p (.dK [])) λps H2=>H2 p=some (.dK [])/\∃kvs:List (Key×V),ps=kvs.map (λkv=>(kV kv.1,kv.2))/\kvs.length<=15/\Q (.ref p) (BC H2 p (.dK (J3 [] kvs)))
theorem Va{X:Cx}{pos:Pos}{keys:List (Option cC)}{values:List cC}{trs:List (TE×TE)}(h:aK X pos keys values trs)(hall:keys.all (·.isSome)=true)(hl:keys.length=values.length)(h0:keys≠[])
  (h15:keys.length<=15):PE X (.Dict keys values pos) (Y9 trs):=by
 intro pins s σ H Q I q;have hn:=I.hok.fresh (Rs s.heap.objs.size);have I1:=I.laid (a:=s.heap.objs.size) (o:=.dK []) (h':=s.heap.push { cls:=.type "dict",data:=.dict #[] }) (t':=s.toks) (λ_ _ q=>FM _ q) (Rs _) (OZ s.heap I.big);refine wpAny_Dict_walk (knd:=Aq X.prog X.w) hall hl h0 h15 (thn (h pins _ σ _ _ I1 (q _ hn)) λws s2 ⟨ps,H2,I2,rel,e,kvs,ep,lk,q2⟩=>?_);subst ep;obtain⟨rs,c,rk⟩:=Kg (P:=X.prog) (w:=X.w) rel;obtain⟨z,hd,vs0,r0,dd⟩:=W9 I2.hok e;cases r0;refine⟨rs,c,dd,λh' dd' hs=>⟨.ref s.heap.objs.size,_,?_,rfl,q2⟩⟩
 have hz:(J3 [] kvs).length<=sizeLine:=by
  have h1:=Fn kvs [];rw [dR] at h1;rw [cX]; omega
 have he:∃q,h'.get? s.heap.objs.size=some q:=let ⟨q,_,_,hq,_⟩:=dd'; ⟨q,hq⟩
 exact M6 I2 (by rw [e]; exact ef) hs he (Ub hz hd (rk.merge .nil) dd')
structure M1 (X:Cx) (o:cC) (m:Str) (apos:Pos) (e:cC) (cpos:Pos):Prop where
 base:attributeBase o m X.env (eval o X.env)=eval o X.env
 few:((backTo cpos (starEach [e] X.env)).all (λx=>!x.1)&&(backToKw cpos (keywordEach [] X.env)).all (λx=>x.1.isSome)
  && decide (([e]:List cC).length+([]:List gB).length+(if ([]:List gB).isEmpty then 0 else 1)<30))=true
 line:(apos.endLine==cpos.line)=true
 trees:backTo cpos (starEach [e] X.env)=[(false,eval e X.env)]
structure M2 (X:Cx) (o:cC) (m:Str) (apos:Pos) (e f:cC) (cpos:Pos):Prop where
 base:attributeBase o m X.env (eval o X.env)=eval o X.env
 few:((backTo cpos (starEach [e,f] X.env)).all (λx=>!x.1)&&(backToKw cpos (keywordEach [] X.env)).all (λx=>x.1.isSome)
  && decide (([e,f]:List cC).length+([]:List gB).length+(if ([]:List gB).isEmpty then 0 else 1)<30))=true
 line:(apos.endLine==cpos.line)=true
 trees:backTo cpos (starEach [e,f] X.env)=[(false,eval e X.env),(false,eval f X.env)]
def bF(H:Hp)(a:Db):Prop:=(∃kvs,Rd H a (.dK kvs))\/∃kvs,Rd H a (.dT kvs)
theorem UL{X:Cx}{pins:List (Db×Obj)}{σ:St}{H:Hp}{s:Op}{a:Db}(I:Inv X pins σ H s)(d:bF H a) :
  s.TypeIs (.ref a) "dict"/\(∀b,cV a=.ref b->∃ob,s.heap.get? b=some ob/\ob.dict=none)/\(a==sysModules)=false:=by
 rcases d with ⟨kvs,e⟩ | ⟨kvs,e⟩
 ·obtain⟨_,hd,vs,_,dd⟩:=G3 I.hok e
  refine⟨dd.typeIs,λb q=>?_,hd⟩;cases q;obtain⟨ob,_,_,h1,h2,_⟩:=dd;exact⟨ob,h1,h2.2.1⟩
 ·obtain⟨_,hd,xs,_,dd⟩:=KS I.hok e
  refine⟨dd.typeIs,λb q=>?_,hd⟩;cases q;obtain⟨ob,_,_,h1,h2,_⟩:=dd;exact⟨ob,h1,h2.2.1⟩
section
variable {X:Cx}{pins:List (Addr×Obj)}{σ:St}{H:Hp}{s:Shared}{a:Addr}{y d:V}{u r:Value}{o:Option V}{A:Around}{E:Value->Shared->Prop}
theorem YT{Q:Ev->Op->Prop}(hu:A.units+1<cLine)(I:Inv X pins σ H s)(g:DGet H a y o)(ry:RelV y u)(rd:RelV d r)(h:∀w' s',Inv X pins σ H s'->RelV (o.getD d) w'->Q w' s') :
  wpAny (model X.prog X.w) A (call (.builtin "dict.get") [.ref a,u,r]) Q E s:=by
 rcases g with ⟨kvs,k,e,ey,l⟩ | ⟨kvs,k,b,e,ey,eb,l⟩
 ·subst ey
  obtain⟨z,hd,vs,rel,dd⟩:=G3 I.hok e;refine call_meetsIn PySem.F.slot_dict_get dd.typeIs PySem.F.entry_dict_get (PySem.F.args_dict_get_3 _ _ _) (meets_dict_get_default (Aq X.prog X.w) a (J_ ry) hd r) ⟨_,dd.mapOf,h _ _ (I.tok _) ?_⟩;rw [l];exact(rel.val k).getD rd
 ·subst ey
  cases (show u=cV b from ry);obtain⟨z,hd,xs,rel,dd⟩:=KS I.hok e;refine call_meetsIn PySem.F.slot_dict_get dd.typeIs PySem.F.entry_dict_get (PySem.F.args_dict_get_3 _ _ _) (meetsH_dict_get_default (tupleKind (Aq X.prog X.w)) a b hd r) ⟨em hu,k,xs,GK I.hok eb,dd,h _ _ (I.tok _) ?_⟩;rw [l];exact(rel.val k).getD rd
end
def Xd(td ty tx:TE):TE:=λσ H Q=>td σ H λx H1=>∃a,x=.ref a/\bF H1 a/\ty σ H1 λy H2=>tx σ H2 λz H3=>∃o,DGet H3 a y o/\Q (o.getD z) H3
section
variable {X:Cx}{o e f:Expr}{apos cpos:Pos}{td ty tx:TE}
theorem Nw(hu:X.A.units+1<cLine)(ho:PE X o td)(he:PE X e ty)(hf:PE X f tx)(m:M2 X o "get" apos e f cpos):PE X (.Call (.Attribute o "get" apos) [e,f] [] cpos) (Xd td ty tx):=by
 intro pins s σ H Q I h;refine wpAny_Call_method m.base m.few m.line PySem.F.plainAttrs_dict PySem.F.slot_dict_get PySem.F.type_dict_get (thn (ho pins s σ H _ I h) λu s1 ⟨x,H1,I1,rx,a,ex,d,q1⟩=>?_);subst ex;obtain rfl:u=cV a:=rx;obtain⟨t1,t2,_⟩:=UL I1 d;refine⟨t1,t2,?_⟩;rw [m.trees]
 refine gK rfl (jD (eC (thn (he pins s1 σ H1 _ I1 q1) λiv s2 ⟨y,H2,I2,ry,q2⟩ =>
  eC (thn (hf pins s2 σ H2 _ I2 q2) λfv s3 ⟨z,H3,I3,rz,ov,g,q3⟩=>e_ ?_))))
 exact YT hu I3 g ry rz λw' s4 I4 rw'=>⟨_,H3,I4,rw',q3⟩
end
section
variable {X:Cx}{pins:List (Addr×Obj)}{σ:St}{H:Hp}{s:Shared}{a:Addr}{kvs:List (Key×V)}{A:Around}{E:Value->Shared->Prop}
end
section
variable {X:Cx}{pins:List (Addr×Obj)}{σ:St}{H:Hp}{s:Shared}{a:Addr}{y:V}{u:Value}{A:Around}{E:Value->Shared->Prop}
end
end L2
set_option maxHeartbeats 4000000
namespace L2
open PySem PySem.Spec PyProof.Rows
section
theorem Po{env:Env}:∀(names:List (Str×eK)) (cs:List (Str×Db)),(∀x,(x,cg)∈names->∃c,env.cells.lookup x=some c)->(∀x c,cs.lookup x=some c->env.cells.lookup x=some c) ->
  ∃cl,(forIn names cs fun(x:Str×eK) (r:List (Str×Db))=>(if (x.2==cg)=true then do let a ← cellOf env x.1; pure (fV ((x.1,a)::r)) else pure (fV r):Sem (ForInStep (List (Str×Db)))))=(pure cl:Sem _) /\
   (∀x c,cl.lookup x=some c->env.cells.lookup x=some c)/\(∀x,((x,cg)∈names\/∃c,cs.lookup x=some c)->∃c,cl.lookup x=some c):=by
 intro names
 induction names with
 | nil =>
  intro cs _ h2;exact⟨cs,rfl,h2,λx hx=>hx.elim (λz=>absurd z (by simp)) λz=>z⟩
 | cons p r ih =>
  intro cs h1 h2;obtain⟨n,k⟩:=p
  by_cases hk:k=cg
  ·subst hk
   obtain⟨c,hc⟩:=h1 n On;have hcell:cellOf env n=pure c:=by simp only [cellOf,hc]
   obtain⟨cl,e,a,b⟩:=ih ((n,c)::cs) (λx hx=>h1 x (TM _ hx)) (λx c' hx=>by
    rw [eV] at hx;cases hb:x==n with
    | true =>
     rw [hb] at hx;have hx':some c=some c':=hx;cases hx'
     have:x=n:=by simpa using hb
     rw [this]; exact hc
    | false=>rw [hb] at hx; exact h2 x c' hx)
   refine⟨cl,?_,a,λx hx=>b x ?_⟩
   ·rw [fW]
    simp only [beq_self_eq_true,if_true,hcell,pure_bind];exact e
   ·by_cases hxn:x=n
    ·subst hxn
     exact .inr ⟨c,by simp [eV]⟩
    ·rcases hx with hx | ⟨c',hx⟩
     ·rcases TW.mp hx with hx | hx
      ·cases hx; exact absurd rfl hxn
      ·exact .inl hx
     ·refine .inr ⟨c',?_⟩
      have:(x==n)=false:=by simpa using hxn
      rw [eV,this];exact hx
  ·have hk':(k==cg)=false:=by simpa using hk
   obtain⟨cl,e,a,b⟩:=ih cs (λx hx=>h1 x (TM _ hx)) h2;refine⟨cl,?_,a,λx hx=>b x ?_⟩
   ·rw [fW]
    simp only [hk',c_,if_false,pure_bind];exact e
   ·rcases hx with hx | hx
    ·rcases TW.mp hx with hx | hx
     ·cases hx; exact absurd rfl hk
     ·exact .inl hx
    ·exact .inr hx
theorem Kf{scope:eZ}{env:Env}(h:∀x,(x,cg)∈scope.names->∃c,env.cells.lookup x=some c) :
  ∃cl,closureFor scope env=pure cl/\(∀x c,cl.lookup x=some c->env.cells.lookup x=some c)/\(∀x,(x,cg)∈scope.names->∃c,cl.lookup x=some c):=by
 obtain⟨cl,e,a,b⟩:=Po scope.names [] h (λx c hx=>by simp at hx);refine⟨cl,?_,a,λx hx=>b x (.inl hx)⟩;simp only [closureFor];rw [e,pure_bind]
variable {prog:Program}{w:World}{A:Around}{E:Value->Shared->Prop}{R:Result->Shared->Prop}{s:Shared}
theorem M8{elt target iter:cC}{ifs:List cC}{scope:eZ}{pos:Pos}{it acc:Ev}{env:Env}(I:Nat->Op->Prop)
  (turn:∀n s,I n s->wpAny (model prog w) A (pyNext it) (λr s₁=>match r with
   | none=>R (.ok .next) s₁
   | some v=>wpAny (model prog w) A (letOwnedTupleGo target it v) (λ_ s₁'=>wpAny (model prog w) A (assign target env v) (λ_ s₂ =>
     wpAny (model prog w) A (forIn ifs true λc r=>if r=true then do let ok ← isTrue c env (eval c env); pure (fV ok) else pure (fV r)) (λok s₃ =>
      if ok=true then wpAny (model prog w) A (eval elt env) (λx s₄ =>
       wpAny (model prog w) A (call (.builtin "list.append") [acc,x]) (λ_ s₅=>∃m,m<n/\I m s₅) (λ_ _=>False) s₄) (λ_ _=>False) s₃
      else ∃m,m<n/\I m s₃) (λ_ _=>False) s₂) (λ_ _=>False) s₁') (λ_ _=>False) s₁) (λ_ _=>False) s)
  (n:Nat) (h:I n s) :
  codeAny (model prog w) A (.compLoop (.ListComp elt [⟨target,iter,ifs,0⟩] scope pos) 0 it acc env) R s:=by
 refine codeAny_loop rfl I (λn s hI=>?_) n h;show wpAny _ A ((compTurn (.ListComp elt [⟨target,iter,ifs,0⟩] scope pos) 0 it acc env).onRaise (λx=>do noteFrame x env; theTreesLotGoes x)) _ _ s;refine wpAny_noted ?_;rw [compTurn_list];refine Ch (wpAny_standAt (Ch (c7 (turn n s hI) (λr s₁ h₁=>?_) λ_ _ h'=>h'.elim)));cases r with
 | none=>exact Sc h₁
 | some v =>
  refine Ch (c7 h₁ (λ_ s₁' h₁'=>?_) λ_ _ h'=>h'.elim);refine Ch (c7 h₁' (λ_ s₂ h₂=>Ch (c7 h₂ (λok s₃ h₃=>?_) λ_ _ h'=>h'.elim)) λ_ _ h'=>h'.elim);cases ok with
  | false=>exact Sc ⟨rfl,h₃⟩
  | true =>
   exact Ch (Ch (c7 h₃ (λx s₄ h₄=>Ch (c7 h₄ (λ_ s₅ h₅=>Sc (Sc ⟨rfl,h₅⟩)) λ_ _ h'=>h'.elim)) λ_ _ h'=>h'.elim))
end
def BE(X:Cx)(sc:eZ)(N':List Str)(cl:List (Str×Db))(C:Db)(s:Op)(H:Hp)(ex:List Db):Cx where
 prog:=X.prog
 w:=X.w
 K:=X.K
 mg:=X.mg
 base:=X.base
 A:=X.A
 N:=N'
 s₀:=s
 H₀:=H
 env:=compEnvC sc cl C X.env
 outer:=X.stack
 stack:=X.stack
 ex:=ex
 fn:=λ_=>false
 calm:=true
 pn:=[]
 xe:=λ_ _=>False
def CU(js:List (Option Nat))(σ:St):St:=js.map λo=>match o with
 | some i=>(σ[i]?).getD none
 | none=>none
def Vs(o:Option eK):Bool:=match o with
 | some .cell=>true
 | some .free=>true
 | _=>false
theorem Qb{o:Option eK}(h:Vs o=true):o=some .cell\/o=some .free:=by
 unfold Vs at h
 split at h
 ·exact .inl rfl
 ·exact .inr rfl
 ·cases h
def isFree(o:Option eK):Bool:=match o with
 | some .free=>true
 | _=>false
theorem R_{o:Option eK}(h:isFree o=true):o=some .free:=by
 unfold isFree at h
 split at h
 ·rfl
 ·cases h
def UI(o:Option eK):Bool:=match o with
 | some .local=>true
 | _=>false
theorem UH{o:Option eK}(h:UI o=true):o=some .local:=by
 unfold UI at h
 split at h
 ·rfl
 ·cases h
def UK(k:ScopeKind):Bool:=match k with
 | .function=>true
 | _=>false
theorem UJ{k:ScopeKind}(h:UK k=true):k=.function:=by
 unfold UK at h
 split at h
 ·rfl
 ·cases h
def ac(sc esc:eZ)(p:Str×eK):Bool:=match p.2 with
 | .cell=>false
 | .free=>Vs (esc.names.lookup p.1)
 | .local=>UI (sc.names.lookup p.1)
 | _=>true
def av(x:Option Str)(y:Str):Bool:=match x with
 | some z=>z==y
 | none=>false
theorem YK{x:Option Str}{y:Str}(h:av x y=true):x=some y:=by
 unfold av at h
 split at h
 ·exact congrArg some (by simpa using h)
 ·cases h
def G6(sc esc:eZ)(N:List Str):List Str->List (Option Nat)->Bool
 | [],[]=>true
 | x::xs,some j::js=>isFree (sc.names.lookup x)&&av (N[j]?) x&&Vs (esc.names.lookup x)&&G6 sc esc N xs js
 | _::xs,none::js=>G6 sc esc N xs js
 | _,_=>false
def Kc(sc esc:eZ)(N N':List Str)(js:List (Option Nat)):Bool:=UK sc.kind&&sc.names.all (ac sc esc)&&G6 sc esc N N' js
theorem FD{sc esc:eZ}{N:List Str}:∀{N':List Str} {js:List (Option Nat)},G6 sc esc N N' js=true->js.length=N'.length
 | [],[],_=>rfl
 | x::xs,some j::js,h=>by
  unfold G6 at h;rw [bz] at h;rw [ZB,ZB,FD h.2]
 | x::xs,none::js,h=>by
  unfold G6 at h;rw [ZB,ZB,FD h]
 | [],some _::_,h=>by unfold G6 at h; cases h
 | [],none::_,h=>by unfold G6 at h; cases h
 | _::_,[],h=>by unfold G6 at h; cases h
theorem M9{sc esc:eZ}{N:List Str}:∀{N':List Str} {js:List (Option Nat)},G6 sc esc N N' js=true->∀{k:Nat} {x:Str} {j:Nat},N'[k]?=some x->js[k]?=some (some j) ->
  sc.names.lookup x=some .free/\N[j]?=some x/\(esc.names.lookup x=some .cell\/esc.names.lookup x=some .free)
 | [],_,_,k,x,j,h1,_=>by simp at h1
 | _::_,[],h,_,_,_,_,_=>by unfold G6 at h; cases h
 | y::ys,some i::js,h,k,x,j,h1,h2=>by
  unfold G6 at h;rw [bz,bz,bz] at h;cases k with
  | zero =>
   simp at h1 h2;subst h1 h2;exact⟨R_ h.1.1.1,YK h.1.1.2,Qb h.1.2⟩
  | succ k=>exact M9 h.2 (k:=k) (by simpa using h1) (by simpa using h2)
 | y::ys,none::js,h,k,x,j,h1,h2=>by
  unfold G6 at h;cases k with
  | zero=>simp at h2
  | succ k=>exact M9 h (k:=k) (by simpa using h1) (by simpa using h2)
theorem Ry{js:List (Option Nat)}{σ:St}{k:Nat}{v:V}(h:(CU js σ)[k]?=some (some v)):∃j,js[k]?=some (some j)/\σ[j]?=some (some v):=by
 unfold CU at h;rw [bv] at h;cases e:js[k]? with
 | none=>rw [e] at h; cases h
 | some o =>
  rw [e] at h;cases o with
  | none=>cases h
  | some j =>
   refine⟨j,rfl,?_⟩;have h':some ((σ[j]?).getD none)=some (some v):=h;have h2:=bg h';cases q:σ[j]? with
   | none=>rw [q] at h2; cases h2
   | some w=>rw [q] at h2; exact congrArg some h2
theorem C1{env:Env}:∀{names:List (Str×eK)} {x:Str},names.lookup x=some .free ->
  (names.map fun(n,k)=>if (k==cg&&env.scope.kind==.function&&env.kindOf n==some .cell) then (n,fq) else (n,k)).lookup x=some .cell \/
  (names.map fun(n,k)=>if (k==cg&&env.scope.kind==.function&&env.kindOf n==some .cell) then (n,fq) else (n,k)).lookup x=some .free
 | [],_,h=>by simp at h
 | (n,k)::r,x,h=>by
  have ih:=@C1 env r x;show List.lookup x ((if (k==cg&&env.scope.kind==.function&&env.kindOf n==some .cell)=true then (n,fq) else (n,k))::_)=_\/List.lookup x ((if (k==cg&&env.scope.kind==.function&&env.kindOf n==some .cell)=true then (n,fq) else (n,k))::_)=_
  by_cases hc:(k==cg&&env.scope.kind==.function&&env.kindOf n==some .cell)=true
  ·rw [if_pos hc]
   cases hx:x==n with
   | true=>exact .inl (by simp only [eV,hx])
   | false =>
    simp only [eV,hx] at h ⊢;exact ih h
  ·rw [if_neg hc]
   cases hx:x==n with
   | true =>
    simp only [eV,hx] at h ⊢;exact .inr h
   | false =>
    simp only [eV,hx] at h ⊢;exact ih h
theorem O_{env:Env}{sc:eZ}(hcell:∀y∈sc.names,y.2≠.cell){x:Str}(h:(relabel sc env).names.lookup x=some .cell\/(relabel sc env).names.lookup x=some .free):(x,cg)∈sc.names:=by
 have hm:(x,fq)∈(relabel sc env).names\/(x,cg)∈(relabel sc env).names:=h.elim (λz=>.inl (PySem.mem_of_lookup z)) λz=>.inr (PySem.mem_of_lookup z)
 have go:∀k:eK,(k=.cell\/k=.free)->(x,k)∈(relabel sc env).names->(x,cg)∈sc.names:=by
  intro k hk hmem;unfold relabel at hmem;obtain⟨⟨n,k0⟩,hn,e⟩:=Tk.mp hmem
  by_cases hc:(k0==cg&&env.scope.kind==.function&&env.kindOf n==some .cell)=true
  ·have e':(n,fq)=(x,k):=by
    have:=e
    simp only [hc,if_true] at this;exact this
   have hk0:k0=.free:=by
    rw [bz,bz] at hc
    simpa using hc.1.1
   cases e';subst hk0;exact hn
  ·have e':(n,k0)=(x,k):=by
    have:=e
    simp only [hc,if_false] at this;exact this
   cases e'
   rcases hk with rfl | rfl
   ·exact absurd rfl (hcell _ hn)
   ·exact hn
 exact hm.elim (go _ (.inl rfl)) (go _ (.inr rfl))
section
variable {X:Cx}{pins:List (Addr×Obj)}{σ:St}{H:Hp}{s:Shared}
structure CompOk (X:Cx) (sc:eZ) (N':List Str) (js:List (Option Nat)):Prop where
 kind:sc.kind=.function
 cell:∀y∈sc.names,y.2≠.cell
 free:∀x,(x,cg)∈sc.names->X.env.scope.names.lookup x=some .cell\/X.env.scope.names.lookup x=some .free
 names:∀y∈sc.names,y.2=.local->sc.names.lookup y.1=some .local
 cap:G6 sc X.env.scope X.N N' js=true
theorem CompOk.of{sc:eZ}{N':List Str}{js:List (Option Nat)}(h:Kc sc X.env.scope X.N N' js=true):CompOk X sc N' js:=by
 unfold Kc at h;rw [bz,bz,eW] at h;obtain⟨⟨h1,h2⟩,h3⟩:=h;refine⟨UJ h1,λy hy e=>?_,λx hx=>?_,λy hy e=>?_,h3⟩
 ·have q:=h2 y hy
  unfold ac at q;rw [e] at q;cases q
 ·have q:=h2 _ hx
  exact Qb q
 ·have q:=h2 y hy
  unfold ac at q;rw [e] at q;exact UH q
theorem OQ{sc:eZ}{N':List Str}{js:List (Option Nat)}{cl:List (Str×Db)}{fp:List Db}{h₁:b9}{tk:Nat}(I:Inv X pins σ H s)(hc:X.calm=true)(O:CompOk X sc N' js)
  (hcl:∀x c,cl.lookup x=some c->X.env.cells.lookup x=some c) (hcl2:∀x,(x,cg)∈sc.names->∃c,cl.lookup x=some c)
  (hf:∀b∈fp,HN X pins H b) (ho:∀b∈fp,∃o,s.heap.get? b=some o)
  (hns:h₁.Ns (s.heap.objs.size+1) (λ_=>none)) (hk:∀b o,s.heap.get? b=some o->h₁.get? b=some o) (hD:∃n,h₁.get? s.heap.objs.size=some { cls:=.type "list",data:=.seq #[] n }) :
  Inv (BE X sc N' cl (s.heap.objs.size+1) s H fp) [] (CU js σ) (BC H s.heap.objs.size (.lst [])) { s with heap:=h₁,toks:=tk }:=by
 have fr:∀a,s.heap.objs.size<=a->H a=none:=λa ha=>I.hok.fresh ha
 have cellLt:∀x c,cl.lookup x=some c->c<s.heap.objs.size:=λx c e=>by
  obtain⟨v,q⟩:=I.cell x c (hcl x c e);exact q.lt
 have ok:(BE X sc N' cl (s.heap.objs.size+1) s H fp).Ok:=by
  refine⟨I.ok.mod,O.kind,I.ok.glob,I.ok.blt,dQ _,λx y c h1 h2=>I.ok.inj x y c (hcl x c h1) (hcl y c h2),λx hx=>?_,λx c hx=>?_,λ_=>I.ok.hd hc,I.ok.frames,.inl rfl,λb hb=>⟨?_,λx c e=>?_⟩,I.bs,cG I.ok.bsz I.sz,λb o e hb=>?_,λb hb hb2=>?_,I.stack,I.stkFree⟩
  ·exact hcl2 x (O_ (env:=X.env) O.cell hx)
  ·exact absurd (show false=true from hx) bw
  ·obtain⟨o,e⟩:=ho b hb
   exact b8 (dn (XV e))
  ·exact(hf b hb).2.2.2.2.1 x c (hcl x c e)
  ·rcases (hf b hb).2.2.2.1 with z | z
   ·exact I.ok.noex b o e z
   ·have h1:b<X.base.objs.size:=XV e
    exact absurd (cJ h1 (cG I.ok.bsz z)) (cy _)
  ·rcases TW.mp (I.stkSub b hb2) with z | z
   ·exact(hf b hb).2.1 z
   ·exact(hf b hb).2.2.1 z
 refine⟨ok,rfl,I.bare,?_,⟨_,hns,λi x v h1 h2 h3=>?_⟩,λx c e=>?_,?_,λx c e=>?_,λp hp=>absurd (show p∈([]:List (Db×Obj)) from hp) (by simp),?_,?_⟩
 ·exact Un.laid hk (Rs _) (fr _ (Rs _))
 ·obtain⟨j,e1,e2⟩:=Ry h2
  obtain⟨c1,c2,c3⟩:=M9 O.cap h1 e1;obtain⟨m,_,hl⟩:=I.loc;obtain⟨u,r,l⟩:=hl j x v c2 e2 (.inr c3);refine⟨u,r,.inr ⟨C1 c1,?_⟩⟩
  rcases l with ⟨l1,_⟩ | ⟨_,c,l2,l3⟩
  ·have l1':X.env.scope.names.lookup x=some .local:=l1
   rcases c3 with c3 | c3 <;> (rw [l1'] at c3; cases c3)
  ·obtain⟨c',e'⟩:=hcl2 x (PySem.mem_of_lookup c1)
   have:c'=c:=bg ((hcl x c' e').symm.trans l2)
   subst this;obtain⟨oc,hoc,hocd⟩:=id l3;exact⟨c',e',oc,hk _ _ hoc,hocd⟩
 ·obtain⟨v,oc,hoc,hocd⟩:=I.cell x c (hcl x c e)
  exact⟨v,oc,hk _ _ hoc,hocd⟩
 ·show BC H s.heap.objs.size (.lst []) (s.heap.objs.size+1)=none
  rw [AU (Nat.succ_ne_self _)];exact fr _ (dQ _)
 ·show BC H s.heap.objs.size (.lst []) c=none
  rw [AU (b8 (cellLt x c e))];exact I.freeC x c (hcl x c e)
 ·refine I.hok.laid hk (Rs _) ?_
  obtain⟨n,e⟩:=hD;exact⟨bn _,[],n,.nil,e⟩
 ·unfold CU
  show (js.map _).length=N'.length;rw [No];exact FD O.cap
theorem Un.but{fs ex:List Db}{H H1:Hp}{h h1 h':b9}{C:Db}(u:Un fs ex H H1 h h1)(hC:h.get? C=none)(hs:∀b,b≠C->h'.get? b=h1.get? b):Un fs ex H H1 h h':=by
 have ne:∀{b:Db} {o:Obj},h.get? b=some o->b≠C:=λ{b o} e z=>by rw [z,hC] at e; cases e
 refine⟨λb o e n h1 h2=>(hs b (ne e)).trans (u.keep b o e n h1 h2),λb o e n h1 h2=>?_,u.free,λb o e h1=>?_,u.tups,u.frzs,u.tbls⟩
 ·obtain⟨sl,q⟩:=u.slot b o e n h1 h2
  exact⟨sl,(hs b (ne e)).trans q⟩
 ·obtain⟨o',q⟩:=u.there b o e h1
  exact⟨o',(hs b (ne e)).trans q⟩
theorem KH{sc:eZ}{N':List Str}{cl:List (Str×Db)}{C:Db}{fp:List Db}{pins':List (Db×Obj)}{σ':St}{H':Hp}{s':Op}{h':b9}(I:Inv X pins σ H s)(hf:∀b∈fp,HN X pins H b)(hC:s.heap.objs.size<=C)
  (J:Inv (BE X sc N' cl C s H fp) pins' σ' H' s') (hs:∀b,b≠C->h'.get? b=s'.heap.get? b):Inv X pins σ H' { s' with heap:=h' }:=by
 have nC:s.heap.get? C=none:=by
  cases e:s.heap.get? C with
  | none=>rfl
  | some o=>exact absurd (XV e) (gC.mpr hC)
 have hC':H' C=none:=J.free;refine I.call' (s':={ s' with heap:=h' }) (ch:=fp) J.os (Un.but J.base nC hs) (λa o e=>?_) J.bare λb hb=>?_
 ·exact(J.hok a o e).stay (λb u hb q=>(hs b (λz=>by
   rw [z] at hb
   rcases hb with z2 | z2
   ·rw [← z2,hC'] at e; cases e
   ·rw [hC'] at z2; cases z2)).trans q) (λ_ q=>q) λ_ _ q=>q
 ·obtain⟨f0,f1,f2,f3,f4,f5⟩:=hf b hb
  exact⟨f3,f1,f4,f5⟩
end
def Zy(X:Cx)(ifs:List cC)(t:TT):Prop :=
 ∀(pins:List (Db×Obj)) (s:Op) (σ:St) (H:Hp) (Q:Bool->Hp->Prop),Inv X pins σ H s->t σ H Q ->
  wpAny (model X.prog X.w) X.A (forIn ifs true λc r=>if r=true then do let ok ← isTrue c X.env (eval c X.env); pure (fV ok) else pure (fV r)) (TP X pins σ Q) X.xe s
def aQ:TT:=λ_ H Q=>Q true H
theorem VX{X:Cx}:Zy X [] aQ:=λpins s σ H Q I h=>wpAny_tests_nil ⟨H,I,h⟩
theorem VW{X:Cx}{c:cC}{t:TT}(h:PT X c t):Zy X [c] t:=λpins s σ H Q I q=>wpAny_tests_one (h pins s σ H Q I q)
def S1(X:Cx)(sc:eZ)(N':List Str)(js:List (Option Nat))(tg elt:cC)(ifs:List cC)(wi:TI):TE:=λσ H Q=>wi σ H λJ H1=>∀l,H1 l=none->X.K.lookup l=none->∀cl C s H0 fp,∃(g:TG) (tt:TT) (te:TE) (W:Nat->Nat->St->Hp->Prop),
 PG (BE X sc N' cl C s H0 fp) tg g/\Zy (BE X sc N' cl C s H0 fp) ifs tt/\PE (BE X sc N' cl C s H0 fp) elt te/\(∃m,W 0 m (CU js σ) (BC H1 l (.lst [])))/\∀i m σ' H',W i m σ' H' ->
 (J.stop i H'/\Q (.ref l) H')\/(J.go i H'/\∀x H2,J.yld i H' x H2->g x σ' H2 λσ3 H3=>tt σ3 H3 λb H4=>if b=true then te σ3 H4 λy H5=>∃ys,H5 l=some (.lst ys)/\ys.length<sizeLine/\∃m',m'<m/\W (i+1) m' σ3 (BC H5 l (.lst (ys++[y]))) else ∃m',m'<m/\W (i+1) m' σ3 H4)
section
variable {X:Cx}{tg elt iter:Expr}{ifs:List Expr}{sc:Scope}{pos:Pos}{N':List Str}{js:List (Option Nat)}{wi:TI}{g:TG}{tt:TT}{te:TE}
theorem Lh{pins:List (Db×Obj)}{σ:St}{H:Hp}{s:Op}{cl:List (Str×Db)}{C l it:Db}{fp:List Db}{tn:Nat->b9->Prop}{J:It}{s3:Op}{Q:VK}{R:Result->Op->Prop}{W:Nat->Nat->St->Hp->Prop}{m0:Nat}{σ0:St}{H0:Hp}
  (I:Inv X pins σ H s) (hf:∀b∈fp,HN X pins H b) (hlt:∀b∈fp,b<s.heap.objs.size) (hC:s.heap.objs.size<=C)
  (T:Turn X.prog X.w X.K tg J fp it tn)
  (hg:PG (BE X sc N' cl C s H fp) tg g) (ht:Zy (BE X sc N' cl C s H fp) ifs tt) (he:PE (BE X sc N' cl C s H fp) elt te)
  (hW:∀i m σ' H',W i m σ' H' ->
   (J.stop i H'/\Q (.ref l) H')\/(J.go i H'/\∀x H2,J.yld i H' x H2->g x σ' H2 λσ3 H3=>tt σ3 H3 λb H4=>if b=true then te σ3 H4 λy H5=>∃ys,H5 l=some (.lst ys)/\ys.length<sizeLine/\∃m',m'<m/\W (i+1) m' σ3 (BC H5 l (.lst (ys++[y]))) else ∃m',m'<m/\W (i+1) m' σ3 H4))
  (hR:∀σ' H' s',Inv (BE X sc N' cl C s H fp) [] σ' H' s'->Q (.ref l) H'->R (.ok .next) s')
  (I3:Inv (BE X sc N' cl C s H fp) [] σ0 H0 s3) (t3:tn 0 s3.heap) (f3:∀b∈fp,H0 b=none) (w0:W 0 m0 σ0 H0) :
  codeAny (model X.prog X.w) X.A (.compLoop (.ListComp elt [⟨tg,iter,ifs,0⟩] sc pos) 0 (.ref it) (.ref l) (compEnvC sc cl C X.env)) R s3:=by
 have stat:∀{H':Hp},(∀b∈fp,H' b=none)->∀b∈fp,HN (BE X sc N' cl C s H fp) [] H' b:=λhn b hb=>by
  have q:=I3.ok.exf b hb;refine⟨hn b hb,q.1,I3.ok.exfs b hb,.inl hb,q.2,λp hp=>absurd (show p∈([]:List (Db×Obj)) from hp) (by simp)⟩
 refine M8 (λn s'=>∃i σ' H',Inv (BE X sc N' cl C s H fp) [] σ' H' s'/\tn i s'.heap/\(∀b∈fp,H' b=none)/\W i n σ' H') ?_ m0 ⟨0,σ0,H0,I3,t3,f3,w0⟩;rintro n s4 ⟨i,σ4,H4,I4,st4,fr4,w4⟩
 rcases hW i n σ4 H4 w4 with ⟨stop,qn⟩ | ⟨go,step⟩
 ·refine thn (T.done (BE X sc N' cl C s H fp) rfl rfl rfl rfl i [] s4 σ4 H4 (λ_ _=>False) I4 (stat fr4) st4 stop) λr s5 ⟨hr,I5⟩=>?_
  subst hr;exact hR σ4 H4 s5 I5 qn
 ·refine thn (T.item (BE X sc N' cl C s H fp) rfl rfl rfl rfl i [] s4 σ4 H4 (λ_ _=>False) I4 (stat fr4) st4 go) λr s5 ⟨u,hr,h5⟩=>?_
  subst hr;refine thn h5 λ_ s6 ⟨x,H6,I6,r6,y6,st6,fr6⟩=>?_;have I6':=I6.pinned (stat fr6) (T.obj _ _ st6);refine thn (hg _ s6 σ4 H6 x u _ I6' r6 (step x H6 y6)) λ_ s7 ⟨σ7,H7,I7,q7⟩=>?_
  have again:∀{σ9:St} {H9:Hp} {s9:Op} {m':Nat},Inv (BE X sc N' cl C s H fp) ([]++Js fp s6.heap) σ9 H9 s9->m'<n->W (i+1) m' σ9 H9->∃m,m<n/\∃i σ' H',Inv (BE X sc N' cl C s H fp) [] σ' H' s9/\tn i s9.heap/\(∀b∈fp,H' b=none)/\W i m σ' H':=λ{σ9 H9 s9 m'} I9 hm w9=>by
   refine⟨m',hm,i+1,σ9,H9,I9.unpinned,T.keep _ _ _ st6 λb hb o e=>(I9.pin (b,o) (bq _ (bq _ (EL hb e)))).1,λb hb=>?_,w9⟩;obtain⟨o,e,d⟩:=T.obj _ _ st6 b hb;exact(I9.pin (b,o) (bq _ (bq _ (EL hb e)))).2.1
  refine thn (ht _ s7 σ7 H7 _ I7 q7) λok s8 ⟨H8,I8,q8⟩=>?_;cases ok with
  | false =>
   have q8':∃m',m'<n/\W (i+1) m' σ7 H8:=q8;obtain⟨m',hm,w8⟩:=q8';show ∃m,m<n/\_;exact again I8 hm w8
  | true =>
   refine thn (he _ s8 σ7 H8 _ I8 q8) λy s9 ⟨yv,H9,I9,ry,q9⟩=>?_;obtain⟨ys,hl,hz,m',hm,w9⟩:=q9;refine thn (Bu (X:=BE X sc N' cl C s H fp) _ s9 σ7 H9 (.ref l) [yv] (.ref l) [y] (λv H'=>v=.non/\H'=BC H9 l (.lst (ys++[yv]))) I9 rfl (.cons ry .nil) ⟨l,ys,yv,rfl,rfl,hl,hz,rfl,rfl⟩) λ_ sa ⟨v,Ha,Ia,_,_,eH⟩=>?_;subst eH;exact again Ia hm w9
theorem Vb(hc:X.calm=true)(N':List Str)(js:List (Option Nat))(hi:PI X tg iter wi)
  (hB:Kc sc X.env.scope X.N N' js=true)
  (hs:∀x,foldedSetIterable iter X.env x=pure x:=by intro _; rfl) :
  PE X (.ListComp elt [⟨tg,iter,ifs,0⟩] sc pos) (S1 X sc N' js tg elt ifs wi):=by
 intro pins s σ H Q I h;have O:CompOk X sc N' js:=CompOk.of hB;obtain⟨cl,hclos,hcl,hcl2⟩:=Kf (scope:=sc) (env:=X.env) λx hx=>I.ok.has x (O.free x hx);rw [eval_ListComp];refine wpAny_comprehension_free (use:=none) rfl hs hclos O.kind O.names (thn (hi pins s σ H _ I h) λv s1 h1=>thn h1 λitv s2 h2=>?_);obtain⟨it,fp,tn,J,H2,e,I2,T,st2,f2,hq⟩:=h2;subst e
 have kfree:X.K.lookup s2.heap.objs.size=none:=by
  cases q:X.K.lookup s2.heap.objs.size with
  | none=>rfl
  | some o=>exact absurd (XV (I2.kIn _ _ q)) (cy _)
 obtain⟨g,tt,te,W,hg,ht,he,⟨m0,w0⟩,hW⟩:=hq s2.heap.objs.size (I2.hok.fresh (Rs _)) kfree cl (s2.heap.objs.size+1) s2 H2 fp;refine cW (wpAny_newFunctionEnv O.cell (by intro y hy; simp at hy) (λh₁ hns₁ hsb₁=>?_) O.kind)
 dsimp only at hns₁ hsb₁ ⊢
 generalize hH2:s2.heap.push { cls:=.type "list",dict:=none,data:=.seq ([]:List Ev).toArray }=Hh at hns₁ hsb₁ ⊢;have hCe:Hh.objs.size=s2.heap.objs.size+1:=by rw [← hH2,dH]
 have hlt:∀b∈fp,b<s2.heap.objs.size:=λb hb=>by
  obtain⟨o,e,_⟩:=T.obj _ _ st2 b hb;exact XV e
 have old:∀b o,s2.heap.get? b=some o->h₁.get? b=some o:=λb o e=>hsb₁.extBut b o (by rw [hCe]; exact b8 (dn (XV e))) (FM _ (hH2▸FM _ e));have hD:∃n,h₁.get? s2.heap.objs.size=some { cls:=.type "list",data:=.seq #[] n }:=⟨_,hsb₁.extBut _ _ (by rw [hCe]; exact b8 (fj _)) (FM _ (hH2▸Uf _ rfl))⟩
 have I3:∀tk,Inv (BE X sc N' cl (s2.heap.objs.size+1) s2 H2 fp) [] (CU js σ) (BC H2 s2.heap.objs.size (.lst [])) { s2 with heap:=h₁,toks:=tk }:=λtk =>
  OQ I2 hc O hcl hcl2 f2 (λb hb=>let ⟨o,e,_⟩:=T.obj _ _ st2 b hb; ⟨o,e⟩) (by rw [← hCe]; exact hns₁) old hD
 have st3:tn 0 h₁:=T.keep _ _ _ st2 λb hb o e=>old b o e
 have fr3:∀b∈fp,BC H2 s2.heap.objs.size (.lst []) b=none:=λb hb=>by
  rw [AU (b8 (hlt b hb))];exact(f2 b hb).1
 have loop:∀tk,codeAny (model X.prog X.w) X.A (.compLoop (.ListComp elt [⟨tg,iter,ifs,0⟩] sc pos) 0 (.ref it) (.ref s2.heap.objs.size) (compEnvC sc cl (s2.heap.objs.size+1) X.env))
   (compPost (model X.prog X.w) X.A X.xe none (EP X pins σ Q) (.ref s2.heap.objs.size) (s2.heap.objs.size+1)) { s2 with heap:=h₁,toks:=tk }:=λtk=>by
  refine Lh (W:=W) (m0:=m0) (Q:=Q) I2 f2 hlt (dQ _) T hg ht he hW (λσ' H' s' J' q'=>?_) (I3 tk) st3 fr3 w0;obtain⟨m,hn,_⟩:=J'.loc;exact⟨m,hn,λh' hs'=>⟨.ref _,H',KH I2 f2 (dQ _) J' λb hb=>hs'.2 b hb,rfl,q'⟩⟩
 rw [show (newEnv sc Hh.objs.size X.env.globals cl X.env.qual none .none (some X.env) builtinsNs).locals=s2.heap.objs.size+1 from hCe];show codeAny (model X.prog X.w) X.A (.compStart (.ListComp elt [⟨tg,iter,ifs,0⟩] sc pos) 0 (.ref it) (.ref s2.heap.objs.size) (compEnvC sc cl (s2.heap.objs.size+1) X.env)) _ _;exact codeAny_compStart_list (loop _) (T.self _ 0 _ _ _ st3 (loop _))
end
end L2
namespace Dp
open PySem PySem.Spec PyProof.Rows L2
inductive D where
 | non | bl (b:Bool) | int (i:Int) | str (x:Str) | tup (xs:List D) | lst (xs:List D) | dic (ks:List Key) (xs:List D) | fdi (ks:List Key) (xs:List D) | dit (ks:List (List Key)) (xs:List D)
 deriving Inhabited
def NdT(M:Db->Prop)(H:Hp)(a:Db)(vs:List V):Prop:=H a=some (.tup vs)
def NdL(M:Db->Prop)(H:Hp)(a:Db)(vs:List V):Prop:=¬M a/\H a=some (.lst vs)
def NdD(M:Db->Prop)(H:Hp)(a:Db)(ks:List Key)(vs:List V):Prop:=¬M a/\H a=some (.dK (ks.zip vs))
def NdF(M:Db->Prop)(H:Hp)(a:Db)(ks:List Key)(vs:List V):Prop:=∃o,¬M a/\H a=some (.frz o (.dK (ks.zip vs)))
def NdU(M:Db->Prop)(H:Hp)(a:Db)(ks:List (List Key))(vs:List V):Prop:=¬M a/\H a=some (.dT (ks.zip vs))
mutual
def At(K:Frag)(M:Db->Prop)(H:Hp):D->V->Prop
 | .non,v=>v=.non
 | .bl b,v=>v=.bl b
 | .int i,v=>v=.int i
 | .str x,v=>v=.str x/\x.length<=sizeLine
 | .tup ds,v=>∃a vs,v=.ref a/\NdT M H a vs/\Ats K M H ds vs
 | .lst ds,v=>∃a vs,v=.ref a/\NdL M H a vs/\Ats K M H ds vs
 | .dic ks ds,v=>∃a vs,v=.ref a/\NdD M H a ks vs/\ks.length=ds.length/\Ats K M H ds vs
 | .fdi ks ds,v=>∃a vs,v=.ref a/\NdF M H a ks vs/\ks.length=ds.length/\Ats K M H ds vs
 | .dit ks ds,v=>∃a vs,v=.ref a/\NdU M H a ks vs/\ks.length=ds.length/\Ats K M H ds vs
def Ats(K:Frag)(M:Db->Prop)(H:Hp):List D->List V->Prop
 | [],vs=>vs=[]
 | d::ds,vs=>∃v r,vs=v::r/\At K M H d v/\Ats K M H ds r
end
section
variable {K:Frag}{M M':Addr->Prop}{H H':Hp}{a:Addr}{vs:List V}{ks:List Key}
theorem NdT.sq(h:NdT M H a vs):SqT K H a vs:=.inl (.inl h)
theorem NdL.sq(h:NdL M H a vs):SqL K H a vs:=.inl (.inl h.2)
def Pres(M:Db->Prop)(H:Hp)(M':Db->Prop)(H':Hp):Prop:=(∀b o,H b=some o->¬M b->H' b=some o)/\(∀b,M' b->M b\/H b=none)/\∀b vs,H b=some (.tup vs)->H' b=some (.tup vs)
theorem Pres.nd{u:HO}(p:Pres M H M' H')(n:¬M a)(h:H a=some u):¬M' a/\H' a=some u:=by
 refine⟨λz=>?_,p.1 _ _ h n⟩
 rcases p.2.1 a z with z | z
 ·exact n z
 ·rw [z] at h; cases h
theorem NdT.pres(p:Pres M H M' H')(h:NdT M H a vs):NdT M' H' a vs:=p.2.2 _ _ h
theorem NdL.pres(p:Pres M H M' H')(h:NdL M H a vs):NdL M' H' a vs:=p.nd h.1 h.2
theorem NdD.pres(p:Pres M H M' H')(h:NdD M H a ks vs):NdD M' H' a ks vs:=p.nd h.1 h.2
theorem NdU.pres{ks:List (List Key)}(p:Pres M H M' H')(h:NdU M H a ks vs):NdU M' H' a ks vs:=p.nd h.1 h.2
theorem NdF.pres(p:Pres M H M' H')(h:NdF M H a ks vs):NdF M' H' a ks vs:=let ⟨o,h1,h2⟩:=h; ⟨o,p.nd h1 h2⟩
mutual
theorem At.pres(p:Pres M H M' H'):∀{d:D} {v:V},At K M H d v->At K M' H' d v
 | .non,v,h=>h
 | .bl b,v,h=>h
 | .int i,v,h=>h
 | .str x,v,h=>h
 | .tup ds,v,h=>by
  obtain⟨a,vs,e,hn,hs⟩:=h;exact⟨a,vs,e,hn.pres p,Ats.pres p hs⟩
 | .lst ds,v,h=>by
  obtain⟨a,vs,e,hn,hs⟩:=h;exact⟨a,vs,e,hn.pres p,Ats.pres p hs⟩
 | .dic ks ds,v,h=>by
  obtain⟨a,vs,e,hn,hl,hs⟩:=h;exact⟨a,vs,e,hn.pres p,hl,Ats.pres p hs⟩
 | .fdi ks ds,v,h=>by
  obtain⟨a,vs,e,hn,hl,hs⟩:=h;exact⟨a,vs,e,hn.pres p,hl,Ats.pres p hs⟩
 | .dit ks ds,v,h=>by
  obtain⟨a,vs,e,hn,hl,hs⟩:=h;exact⟨a,vs,e,hn.pres p,hl,Ats.pres p hs⟩
theorem Ats.pres(p:Pres M H M' H'):∀{ds:List D} {vs:List V},Ats K M H ds vs->Ats K M' H' ds vs
 | [],vs,h=>h
 | d::ds,vs,h=>by
  obtain⟨v,r,e,h1,h2⟩:=h;exact⟨v,r,e,At.pres p h1,Ats.pres p h2⟩
end
theorem Pres.trans{M1 M2 M3:Db->Prop}{H1 H2 H3:Hp}(p:Pres M1 H1 M2 H2)(q:Pres M2 H2 M3 H3):Pres M1 H1 M3 H3:=by
 refine⟨λb o e n=>?_,λb z=>?_,λb vs e=>q.2.2 b vs (p.2.2 b vs e)⟩
 ·refine q.1 b o (p.1 b o e n) λz=>?_
  rcases p.2.1 b z with z | z
  ·exact n z
  ·rw [z] at e; cases e
 ·rcases q.2.1 b z with z | z
  ·exact p.2.1 b z
  ·cases e:H1 b with
   | none=>exact .inr rfl
   | some o =>
    by_cases n:M1 b
    ·exact .inl n
    ·rw [p.1 b o e n] at z; cases z
theorem Pres.refl(M:Db->Prop)(H:Hp):Pres M H M H:=⟨λ_ _ e _=>e,λ_ z=>.inl z,λ_ _ e=>e⟩
theorem Pres.less(h:∀b,M' b->M b):Pres M H M' H:=⟨λ_ _ e _=>e,λb z=>.inl (h b z),λ_ _ e=>e⟩
theorem Ats.length:∀{ds:List D} {vs:List V},Ats K M H ds vs->vs.length=ds.length
 | [],vs,h=>by cases h; rfl
 | d::ds,vs,h=>by
  obtain⟨v,r,e,h1,h2⟩:=h;subst e;rw [ZB,ZB,Ats.length h2]
theorem Ats.get:∀{ds:List D} {vs:List V} {i:Nat} {d:D},Ats K M H ds vs->ds[i]?=some d->∃v,vs[i]?=some v/\At K M H d v
 | [],vs,i,d,h,e=>by simp at e
 | d0::ds,vs,0,d,h,e=>by
  obtain⟨v,r,e1,h1,h2⟩:=h;simp at e;subst e e1;exact⟨v,rfl,h1⟩
 | d0::ds,vs,i+1,d,h,e=>by
  obtain⟨v,r,e1,h1,h2⟩:=h;subst e1;obtain⟨u,e2,h3⟩:=Ats.get (i:=i) (d:=d) h2 (by simpa using e);exact⟨u,by simpa using e2,h3⟩
theorem Ats.append:∀{ds es:List D} {vs us:List V},Ats K M H ds vs->Ats K M H es us->Ats K M H (ds++es) (vs++us)
 | [],es,vs,us,h,g=>by cases h; exact g
 | d::ds,es,vs,us,h,g=>by
  obtain⟨v,r,e,h1,h2⟩:=h;subst e;exact⟨v,r++us,rfl,h1,Ats.append h2 g⟩
theorem Ats.drop:∀{ds:List D} {vs:List V} (n:Nat),Ats K M H ds vs->Ats K M H (ds.drop n) (vs.drop n)
 | ds,vs,0,h=>h
 | [],vs,n+1,h=>by cases h; exact rfl
 | d::ds,vs,n+1,h=>by
  obtain⟨v,r,e,h1,h2⟩:=h;subst e;exact Ats.drop n h2
theorem Ats.take:∀{ds:List D} {vs:List V} (n:Nat),Ats K M H ds vs->Ats K M H (ds.take n) (vs.take n)
 | ds,vs,0,h=>rfl
 | [],vs,n+1,h=>by cases h; exact rfl
 | d::ds,vs,n+1,h=>by
  obtain⟨v,r,e,h1,h2⟩:=h;subst e;exact⟨v,r.take n,rfl,h1,Ats.take n h2⟩
theorem Ats.one{d:D}{v:V}(h:At K M H d v):Ats K M H [d] [v]:=⟨v,[],rfl,h,rfl⟩
theorem Ats.eraseIdx:∀{ds:List D} {vs:List V} (i:Nat),Ats K M H ds vs->Ats K M H (ds.eraseIdx i) (vs.eraseIdx i)
 | [],vs,i,h=>by cases h; exact rfl
 | d0::ds,vs,0,h=>by
  obtain⟨u,r,e1,h1,h2⟩:=h;subst e1;exact h2
 | d0::ds,vs,i+1,h=>by
  obtain⟨u,r,e1,h1,h2⟩:=h;subst e1;exact⟨u,r.eraseIdx i,rfl,h1,Ats.eraseIdx i h2⟩
theorem Ats.reverse:∀{ds:List D} {vs:List V},Ats K M H ds vs->Ats K M H ds.reverse vs.reverse
 | [],vs,h=>by cases h; exact rfl
 | d::ds,vs,h=>by
  obtain⟨v,r,e,h1,h2⟩:=h;subst e;rw [fb,fb];exact Ats.append (Ats.reverse h2) (Ats.one h1)
end
inductive Kd where
 | sh | tp | fr
def Tops(K:Frag)(M:Db->Prop)(H:Hp)(a:Db):D->Prop
 | .lst ds=>∃vs,H a=some (.lst vs)/\Ats K M H ds vs
 | .dic ks ds=>∃vs,H a=some (.dK (ks.zip vs))/\ks.length=ds.length/\Ats K M H ds vs
 | .dit ks ds=>∃vs,H a=some (.dT (ks.zip vs))/\ks.length=ds.length/\Ats K M H ds vs
 | _=>False
theorem Tops.notT{K:Frag}{M:Db->Prop}{H:Hp}{a:Db}{d:D}(h:Tops K M H a d){vs:List V}:H a≠some (.tup vs):=λq=>by
 cases d with
 | lst ds=>obtain⟨us,e,_⟩:=h; rw [e] at q; cases q
 | dic ks ds=>obtain⟨us,e,_⟩:=h; rw [e] at q; cases q
 | dit ks ds=>obtain⟨us,e,_⟩:=h; rw [e] at q; cases q
 | _=>exact h.elim
theorem Tops.pres{K:Frag}{M M':Db->Prop}{H H':Hp}{a:Db}{d:D}(h:Tops K M H a d)(p:Pres M H M' H')(e:∀o,H a=some o->H' a=some o):Tops K M' H' a d:=by
 cases d with
 | lst ds=>obtain⟨vs,h1,h2⟩:=h; exact⟨vs,e _ h1,h2.pres p⟩
 | dic ks ds=>obtain⟨vs,h1,h2,h3⟩:=h; exact⟨vs,e _ h1,h2,h3.pres p⟩
 | dit ks ds=>obtain⟨vs,h1,h2,h3⟩:=h; exact⟨vs,e _ h1,h2,h3.pres p⟩
 | _=>exact(show False from h).elim
theorem Tops.at{K:Frag}{M:Db->Prop}{H:Hp}{a:Db}{d:D}(h:Tops K M H a d)(n:¬M a):At K M H d (.ref a):=by
 cases d with
 | lst ds=>obtain⟨vs,h1,h2⟩:=h; exact⟨a,vs,rfl,⟨n,h1⟩,h2⟩
 | dic ks ds=>obtain⟨vs,h1,h2,h3⟩:=h; exact⟨a,vs,rfl,⟨n,h1⟩,h2,h3⟩
 | dit ks ds=>obtain⟨vs,h1,h2,h3⟩:=h; exact⟨a,vs,rfl,⟨n,h1⟩,h2,h3⟩
 | _=>exact(show False from h).elim
def AtT(K:Frag)(U:Db->Prop)(M:Db->Prop)(H:Hp):D->V->Prop
 | .lst ds,v=>∃a vs,v=.ref a/\¬U a/\Rd H a (.lst vs)/\Ats K M H ds vs
 | .dic ks ds,v=>∃a vs,v=.ref a/\¬U a/\H a=some (.dK (ks.zip vs))/\ks.length=ds.length/\Ats K M H ds vs
 | .dit ks ds,v=>∃a vs,v=.ref a/\¬U a/\H a=some (.dT (ks.zip vs))/\ks.length=ds.length/\Ats K M H ds vs
 | d,v=>At K M H d v
theorem Tops.att{K:Frag}{U M:Db->Prop}{H:Hp}{a:Db}{d:D}(h:Tops K M H a d)(n:¬U a):AtT K U M H d (.ref a):=by
 cases d with
 | lst ds=>obtain⟨vs,h1,h2⟩:=h; exact⟨a,vs,rfl,n,.inl h1,h2⟩
 | dic ks ds=>obtain⟨vs,h1,h2,h3⟩:=h; exact⟨a,vs,rfl,n,h1,h2,h3⟩
 | dit ks ds=>obtain⟨vs,h1,h2,h3⟩:=h; exact⟨a,vs,rfl,n,h1,h2,h3⟩
 | _=>exact(show False from h).elim
def VR(K:Frag)(U:Db->Prop)(M:Db->Prop)(H H':Hp):Kd->V->D->Prop
 | .sh,v,d=>At K M H' d v
 | .tp,v,d=>AtT K U M H' d v
 | .fr,v,d=>∃a,v=.ref a/\H a=none/\Tops K (λb=>M b\/b=a) H' a d
def FeedOk(K:Frag)(M:Db->Prop)(H:Hp)(f:Db×Db)(n:Nat):Prop :=
 ∃(at_ rest:Int) (cells:List Int),H f.1=some (.lst [.ref f.2,.int at_,.int rest])/\f.2≠f.1/\NdL M H f.2 (cells.map V.int)/\cells.length<=63/\0<=at_/\at_+n<=2 ^ 60
def FeedC(K:Frag)(F:Option (Db×Db))(M:Db->Prop)(H:Hp)(n:Nat):Prop:=∀f,F=some f->FeedOk K M H f n
def Ext(U:Db->Prop)(H H':Hp):Prop:=∀b o,H b=some o->∃o',H' b=some o'/\(¬U b->o'=o)/\∀vs,o=.tup vs->o'=o
theorem Ext.keep{U:Db->Prop}{H H':Hp}(p:Ext U H H'){b:Db}{o:HO}(e:H b=some o)(n:¬U b):H' b=some o:=by
 obtain⟨o',q,r,_⟩:=p b o e;rw [q,r n]
theorem Ext.tup{U:Db->Prop}{H H':Hp}(p:Ext U H H'){b:Db}{vs:List V}(e:H b=some (.tup vs)):H' b=some (.tup vs):=by
 obtain⟨o',q,_,r⟩:=p b _ e;rw [q,r vs rfl]
theorem Ext.free{U:Db->Prop}{H H':Hp}(p:Ext U H H'){b:Db}(e:H' b=none):H b=none:=by
 cases q:H b with
 | none=>rfl
 | some o =>
  obtain⟨o',z,_⟩:=p b o q;rw [e] at z; cases z
theorem Ext.refl(U:Db->Prop)(H:Hp):Ext U H H:=λ_ o e=>⟨o,e,λ_=>rfl,λ_ _=>rfl⟩
theorem Ext.trans{U:Db->Prop}{H1 H2 H3:Hp}(p:Ext U H1 H2)(q:Ext U H2 H3):Ext U H1 H3:=λb o e=>by
 obtain⟨o',e1,r1,t1⟩:=p b o e;obtain⟨o2,e2,r2,t2⟩:=q b o' e1;exact⟨o2,e2,λn=>(r2 n).trans (r1 n),λvs z=>(t2 vs ((t1 vs z).trans z)).trans (t1 vs z)⟩
def Grow(H H':Hp):Prop:=H'=H\/∃p o,H p=none/\H'=BC H p o
theorem Grow.all{H H':Hp}(g:Grow H H'):∀b o,H b=some o->H' b=some o:=by
 intro b o e
 rcases g with rfl | ⟨p,u,n,rfl⟩
 ·exact e
 ·rw [AU (Al e n)]; exact e
theorem Grow.refl{H:Hp}:Grow H H:=.inl rfl
theorem Grow.ext{U:Db->Prop}{H H':Hp}(g:Grow H H'):Ext U H H':=λb o e=>⟨o,g.all b o e,λ_=>rfl,λ_ _=>rfl⟩
theorem Grow.pres{M:Db->Prop}{H H':Hp}(g:Grow H H'):Pres M H M H':=⟨λb o e _=>g.all b o e,λ_ z=>.inl z,λb vs e=>g.all b _ e⟩
theorem FeedOk.pres{K:Frag}{M M':Db->Prop}{H H':Hp}{f:Db×Db}{n:Nat}(h:FeedOk K M H f n)(p:Pres M H M' H')(e:∀o,H f.1=some o->H' f.1=some o):FeedOk K M' H' f n:=by
 obtain⟨a,r,cs,h1,h2,h3,h4⟩:=h;exact⟨a,r,cs,e _ h1,h2,h3.pres p,h4⟩
theorem FeedC.pres{K:Frag}{F:Option (Db×Db)}{M M':Db->Prop}{H H':Hp}{n:Nat}(h:FeedC K F M H n)(p:Pres M H M' H')(e:∀f o,F=some f->H f.1=some o->H' f.1=some o):FeedC K F M' H' n:=λf hf=>(h f hf).pres p λo q=>e f o hf q
theorem FeedC.grow{K:Frag}{F:Option (Db×Db)}{M:Db->Prop}{H H':Hp}{n:Nat}(h:FeedC K F M H n)(g:Grow H H'):FeedC K F M H' n:=h.pres g.pres λf o _ e=>g.all f.1 o e
theorem FeedC.more{K:Frag}{F:Option (Db×Db)}{M:Db->Prop}{H:Hp}{n:Nat}(h:FeedC K F M H n)(a:Db)(ha:∀f,F=some f->f.2≠a):FeedC K F (λb=>M b\/b=a) H n:=λf hf=>by
 obtain⟨x,r,cs,h1,h2,h3,h4⟩:=h f hf;exact⟨x,r,cs,h1,h2,⟨λz=>z.elim h3.1 (ha f hf),h3.2⟩,h4⟩
inductive Slot where
 | no | sh (d:D) | br (d:D) | fd | ow (d:D) | lt (a:Db) (d:D)
def Slot.owns:Slot->Bool
 | .ow _=>true
 | .lt _ _=>true
 | _=>false
def SlotOk(K:Frag)(F:Option (Db×Db))(U:Db->Prop)(M:Db->Prop)(H:Hp):Slot->Option V->Prop
 | .no,_=>True
 | .sh d,o=>∃v,o=some v/\At K M H d v
 | .br d,o=>∃v,o=some v/\AtT K U M H d v
 | .fd,o=>∃f,o=some (.ref f.1)/\F=some f
 | .ow d,o=>∃a,o=some (.ref a)/\M a/\¬U a/\Tops K M H a d
 | .lt a d,o=>o=some (.ref a)/\M a/\¬U a/\Tops K M H a d
structure Fm where
 M0:Db->Prop
 F:Option (Db×Db)
 U:Db->Prop
 V:Db->Prop
 H0:Hp
 pins:List ((Db->Prop)×Hp)
 kp:List (Db×HO)
def Apart(ρ:List Slot)(σ:L2.St):Prop:=∀(i j:Nat) (s t:Slot) (a:Db),ρ[i]?=some s->s.owns=true->ρ[j]?=some t->t.owns=true->(σ[i]?).getD none=some (.ref a)->(σ[j]?).getD none=some (.ref a)->i=j
structure Rel (K:Frag) (C:Fm) (M:Db->Prop) (H:Hp) (n:Nat) (ρ:List Slot) (σ:L2.St):Prop where
 len:ρ.length=σ.length
 sub:∀a,C.M0 a->M a
 dom:∀a,M a->∃o,H a=some o
 ext:Ext C.U C.H0 H
 fU:∀f,C.F=some f->C.U f.1
 uV:∀a,C.U a->C.V a
 vM:∀a,C.V a->M a
 feed:FeedC K C.F M H n
 sl:∀(i:Nat) (s:Slot),ρ[i]?=some s->SlotOk K C.F C.V M H s ((σ[i]?).getD none)
 pin:∀p∈C.pins,Pres p.1 p.2 M H
 br0:∀(i:Nat) (d:D) (a:Db),ρ[i]?=some (.br d)->(σ[i]?).getD none=some (.ref a)->∃o,C.H0 a=some o
 new:∀(i:Nat) (s:Slot) (a:Db),ρ[i]?=some s->s.owns=true->(σ[i]?).getD none=some (.ref a)->¬C.M0 a/\C.H0 a=none
 two:Apart ρ σ
 kept:∀p∈C.kp,H p.1=some p.2/\M p.1/\¬C.V p.1/\∀(i:Nat) (d:D),ρ[i]?=some (.ow d)->(σ[i]?).getD none≠some (.ref p.1)
section
variable {K:Frag}{C:Fm}{M:Addr->Prop}{H H':Hp}{n n':Nat}{ρ:List Slot}{σ:L2.St}{d:D}{v:V}{κ:Kd}
theorem Rel.pres(R:Rel K C M H n ρ σ)(e:Ext C.U H H'):Pres M H M H':=⟨λb o q nb=>e.keep q λz=>nb (R.vM b (R.uV b z)),λ_ z=>.inl z,λb vs q=>e.tup q⟩
theorem AtT.pres{U V':Db->Prop}{M':Db->Prop}(h:AtT K V' M H d v)(p:Pres M H M' H')(e:Ext U H H')(uV:∀a,U a->V' a):AtT K V' M' H' d v:=by
 cases d with
 | lst ds =>
  obtain⟨a,vs,e1,n1,hq,hs⟩:=h;refine⟨a,vs,e1,n1,?_,hs.pres p⟩
  rcases hq with hq | ⟨o,hq⟩
  ·exact .inl (e.keep hq λz=>n1 (uV a z))
  ·exact .inr ⟨o,e.keep hq λz=>n1 (uV a z)⟩
 | dic ks ds =>
  obtain⟨a,vs,e1,n1,hq,hl,hs⟩:=h;exact⟨a,vs,e1,n1,e.keep hq λz=>n1 (uV a z),hl,hs.pres p⟩
 | dit ks ds =>
  obtain⟨a,vs,e1,n1,hq,hl,hs⟩:=h;exact⟨a,vs,e1,n1,e.keep hq λz=>n1 (uV a z),hl,hs.pres p⟩
 | non=>exact At.pres (K:=K) p (d:=.non) h
 | bl b=>exact At.pres (K:=K) p (d:=.bl b) h
 | int i=>exact At.pres (K:=K) p (d:=.int i) h
 | str x=>exact At.pres (K:=K) p (d:=.str x) h
 | tup ds=>exact At.pres (K:=K) p (d:=.tup ds) h
 | fdi ks ds=>exact At.pres (K:=K) p (d:=.fdi ks ds) h
theorem AtT.same{U V':Db->Prop}{M':Db->Prop}(h:AtT K U M H d v)(p:Pres M H M' H')(e:∀a o,v=.ref a->H a=some o->H' a=some o)(nv:∀a,v=.ref a->¬U a->¬V' a):AtT K V' M' H' d v:=by
 cases d with
 | lst ds =>
  obtain⟨a,vs,e1,n1,hq,hs⟩:=h;refine⟨a,vs,e1,nv a e1 n1,?_,hs.pres p⟩
  rcases hq with hq | ⟨o,hq⟩
  ·exact .inl (e a _ e1 hq)
  ·exact .inr ⟨o,e a _ e1 hq⟩
 | dic ks ds =>
  obtain⟨a,vs,e1,n1,hq,hl,hs⟩:=h;exact⟨a,vs,e1,nv a e1 n1,e a _ e1 hq,hl,hs.pres p⟩
 | dit ks ds =>
  obtain⟨a,vs,e1,n1,hq,hl,hs⟩:=h;exact⟨a,vs,e1,nv a e1 n1,e a _ e1 hq,hl,hs.pres p⟩
 | non=>exact At.pres (K:=K) p (d:=.non) h
 | bl b=>exact At.pres (K:=K) p (d:=.bl b) h
 | int i=>exact At.pres (K:=K) p (d:=.int i) h
 | str x=>exact At.pres (K:=K) p (d:=.str x) h
 | tup ds=>exact At.pres (K:=K) p (d:=.tup ds) h
 | fdi ks ds=>exact At.pres (K:=K) p (d:=.fdi ks ds) h
theorem AtT.lies{U:Db->Prop}{a:Db}(h:AtT K U M H d (.ref a)):∃o,H a=some o:=by
 cases d with
 | lst ds =>
  obtain⟨b,vs,e,_,hq,_⟩:=h;cases e
  rcases hq with hq | ⟨o,hq⟩
  ·exact⟨_,hq⟩
  ·exact⟨_,hq⟩
 | dic ks ds =>
  obtain⟨b,vs,e,_,hq,_⟩:=h;cases e;exact⟨_,hq⟩
 | dit ks ds =>
  obtain⟨b,vs,e,_,hq,_⟩:=h;cases e;exact⟨_,hq⟩
 | non=>cases (show V.ref a=.non from h)
 | bl b=>cases (show V.ref a=.bl b from h)
 | int i=>cases (show V.ref a=.int i from h)
 | str x=>cases (show V.ref a=.str x/\_ from h).1
 | tup ds =>
  obtain⟨b,vs,e,hq,_⟩:=h;cases e;exact⟨_,hq⟩
 | fdi ks ds =>
  obtain⟨b,vs,e,⟨o,_,hq⟩,_⟩:=h;cases e;exact⟨_,hq⟩
theorem SlotOk.pres{F:Option (Db×Db)}{U V' M':Db->Prop}{s:Slot}{o:Option V}(h:SlotOk K F V' M H s o)(p:Pres M H M' H')(m:∀a,M a->M' a)(e:Ext U H H')(uV:∀a,U a->V' a):SlotOk K F V' M' H' s o:=by
 cases s with
 | no=>trivial
 | sh d=>obtain⟨v,e1,h1⟩:=h; exact⟨v,e1,h1.pres p⟩
 | br d=>obtain⟨v,e1,h1⟩:=h; exact⟨v,e1,h1.pres p e uV⟩
 | fd=>exact h
 | ow d=>obtain⟨a,e1,h1,h2,h3⟩:=h; exact⟨a,e1,m a h1,h2,h3.pres p λo q=>e.keep q λz=>h2 (uV a z)⟩
 | lt a d=>obtain⟨e1,h1,h2,h3⟩:=h; exact⟨e1,m a h1,h2,h3.pres p λo q=>e.keep q λz=>h2 (uV a z)⟩
theorem Rel.step(R:Rel K C M H n ρ σ)(e:Ext C.U H H')(f:FeedC K C.F M H' n'):Rel K C M H' n' ρ σ:=by
 have p:=R.pres e;refine⟨R.len,R.sub,λa z=>?_,R.ext.trans e,R.fU,R.uV,R.vM,f,λi s q=>(R.sl i s q).pres p (λ_ z=>z) e R.uV,λq hq=>(R.pin q hq).trans p,R.br0,R.new,R.two,λq hq=>?_⟩
 ·obtain⟨o,h1⟩:=R.dom a z
  obtain⟨o',h2,_⟩:=e a o h1;exact⟨o',h2⟩
 ·obtain⟨h1,h2,h3,h4⟩:=R.kept q hq
  exact⟨e.keep h1 λz=>h3 (R.uV _ z),h2,h3,h4⟩
theorem Rel.udom(R:Rel K C M H n ρ σ):∀a,C.U a->∃o,H a=some o:=λa z=>R.dom a (R.vM a (R.uV a z))
theorem At.tp{U:Db->Prop}(uM:∀a,U a->M a)(h:At K M H d v):AtT K U M H d v:=by
 cases d with
 | lst ds =>
  obtain⟨a,vs,e,hn,hs⟩:=h;exact⟨a,vs,e,λz=>hn.1 (uM a z),.inl hn.2,hs⟩
 | dic ks ds =>
  obtain⟨a,vs,e,hn,hl,hs⟩:=h;exact⟨a,vs,e,λz=>hn.1 (uM a z),hn.2,hl,hs⟩
 | dit ks ds =>
  obtain⟨a,vs,e,hn,hl,hs⟩:=h;exact⟨a,vs,e,λz=>hn.1 (uM a z),hn.2,hl,hs⟩
 | non=>exact h
 | bl b=>exact h
 | int i=>exact h
 | str x=>exact h
 | tup ds=>exact h
 | fdi ks ds=>exact h
theorem VR.back{U V':Db->Prop}{H1:Hp}(e:Ext U H H1)(h:VR K V' M H1 H' κ v d):VR K V' M H H' κ v d:=by
 cases κ with
 | sh=>exact h
 | tp=>exact h
 | fr =>
  obtain⟨a,e1,h1,h2⟩:=h;exact⟨a,e1,e.free h1,h2⟩
theorem VR.shOf{U:Db->Prop}(dom:∀a,M a->∃o,H a=some o)(h:VR K U M H H' κ v d)(hk:κ≠.tp):At K M H' d v:=by
 cases κ with
 | sh=>exact h
 | tp=>exact absurd rfl hk
 | fr =>
  obtain⟨a,rfl,h1,h2⟩:=h;refine(h2.pres (Pres.less (M':=M) λ_ z=>.inl z) λ_ z=>z).at λz=>?_;obtain⟨o,q⟩:=dom a z;rw [h1] at q; cases q
theorem VR.tpOf{U:Db->Prop}(dom:∀a,M a->∃o,H a=some o)(uM:∀a,U a->M a)(h:VR K U M H H' κ v d):AtT K U M H' d v:=by
 cases κ with
 | sh=>exact At.tp uM h
 | tp=>exact h
 | fr=>exact At.tp uM (VR.shOf dom h (by intro z; cases z))
theorem El{α:Type}{l:List α}{i j:Nat}{x y:α}(h:(l.set i x)[j]?=some y):(j=i/\i<l.length/\y=x)\/(j≠i/\l[j]?=some y):=by
 rw [iN] at h
 by_cases e:i=j
 ·rw [if_pos e] at h
  by_cases hl:i<l.length
  ·rw [if_pos hl] at h
   exact .inl ⟨e.symm,hl,(bg h).symm⟩
  ·rw [if_neg hl] at h; cases h
 ·rw [if_neg e] at h
  exact .inr ⟨λz=>e z.symm,h⟩
theorem L_{l:L2.St}{i j:Nat}{x:Option V}(h:j≠i):((l.set i x)[j]?).getD none=(l[j]?).getD none:=by
 rw [iN,if_neg (λz=>h z.symm)]
theorem S8{l:L2.St}{i:Nat}{x:Option V}(h:i<l.length):((l.set i x)[i]?).getD none=x:=by
 rw [iN,if_pos rfl,if_pos h];rfl
theorem Rel.set(R:Rel K C M H n ρ σ){i:Nat}(h:At K M H d v):Rel K C M H n (ρ.set i (.sh d)) (σ.set i (some v)):=by
 have two:∀(j:Nat) (s:Slot),(ρ.set i (.sh d))[j]?=some s->s.owns=true->ρ[j]?=some s/\((σ.set i (some v))[j]?).getD none=(σ[j]?).getD none:=λj s q o=>by
  rcases El q with ⟨_,_,rfl⟩ | ⟨hj,q⟩
  ·cases o
  ·exact⟨q,L_ hj⟩
 refine⟨by rw [d9,d9]; exact R.len,R.sub,R.dom,R.ext,R.fU,R.uV,R.vM,R.feed,λj s q=>?_,R.pin,λj e a q q2=>?_,λj s a q o q2=>?_,λj k s t a q1 o1 q2 o2 z1 z2=>?_,λp hp=>?_⟩
 ·rcases El q with ⟨rfl,hl,rfl⟩ | ⟨hj,q⟩
  ·rw [S8 (by rw [← R.len]; exact hl)]
   exact⟨v,rfl,h⟩
  ·rw [L_ hj]
   exact R.sl j s q
 ·rcases El q with ⟨_,_,e⟩ | ⟨hj,q⟩
  ·cases e
  ·rw [L_ hj] at q2
   exact R.br0 j e a q q2
 ·obtain⟨q1,e⟩:=two j s q o
  rw [e] at q2;exact R.new j s a q1 o q2
 ·obtain⟨p1,e1⟩:=two j s q1 o1
  obtain⟨p2,e2⟩:=two k t q2 o2;rw [e1] at z1;rw [e2] at z2;exact R.two j k s t a p1 o1 p2 o2 z1 z2
 ·obtain⟨h1,h2,h3,h4⟩:=R.kept p hp
  refine⟨h1,h2,h3,λj e q=>?_⟩;obtain⟨q1,e2⟩:=two j _ q rfl;rw [e2];exact h4 j e q1
theorem Rel.owner(R:Rel K C M H n ρ σ){i:Nat}{s:Slot}(h:ρ[i]?=some s)(o:s.owns=true):∃a e,(σ[i]?).getD none=some (.ref a)/\M a/\¬C.V a/\Tops K M H a e/\¬C.M0 a/\C.H0 a=none:=by
 have q:=R.sl i s h;cases s with
 | ow d=>obtain⟨a,e1,h1,h2,h3⟩:=q; exact⟨a,d,e1,h1,h2,h3,R.new i _ a h o e1⟩
 | lt a d=>obtain⟨e1,h1,h2,h3⟩:=q; exact⟨a,d,e1,h1,h2,h3,R.new i _ a h o e1⟩
 | _=>cases o
theorem Rel.setOw(R:Rel K C M H n ρ σ){i:Nat}{a:Db}(e:Ext C.U H H')(f:FeedC K C.F M H' n')(ha:H a=none)(h:Tops K (λb=>M b\/b=a) H' a d) :
  Rel K C (λb=>M b\/b=a) H' n' (ρ.set i (.ow d)) (σ.set i (some (.ref a))):=by
 have R1:=R.step e f
 have ne:∀b,M b->b≠a:=λb z q=>by
  obtain⟨o,w⟩:=R.dom b z;rw [q,ha] at w; cases w
 have a0:¬C.M0 a/\C.H0 a=none:=⟨λz=>ne a (R.sub a z) rfl,R.ext.free ha⟩;have pr:Pres M H (λb=>M b\/b=a) H':=⟨λb o q nb=>e.keep q λz=>nb (R.vM b (R.uV b z)),λb z=>z.elim .inl λz=>.inr (by rw [z]; exact ha),λb vs q=>e.tup q⟩
 have two:∀(j:Nat) (s:Slot),(ρ.set i (.ow d))[j]?=some s->(j=i/\s=.ow d/\((σ.set i (some (.ref a)))[j]?).getD none=some (.ref a))\/(j≠i/\ρ[j]?=some s/\((σ.set i (some (.ref a)))[j]?).getD none=(σ[j]?).getD none):=λj s q=>by
  rcases El q with ⟨rfl,hl,rfl⟩ | ⟨hj,q⟩
  ·exact .inl ⟨rfl,rfl,S8 (by rw [← R.len]; exact hl)⟩
  ·exact .inr ⟨hj,q,L_ hj⟩
 have old:∀(j:Nat) (s:Slot) (b:Db),ρ[j]?=some s->s.owns=true->(σ[j]?).getD none=some (.ref b)->b≠a:=λj s b q o z=>by
  obtain⟨c,_,e1,m,_⟩:=R.owner q o;rw [e1] at z;cases z;exact ne _ m
 have hd:∃o,H' a=some o:=by
  cases d with
  | lst ds=>obtain⟨vs,q,_⟩:=h; exact⟨_,q⟩
  | dic ks ds=>obtain⟨vs,q,_⟩:=h; exact⟨_,q⟩
  | dit ks ds=>obtain⟨vs,q,_⟩:=h; exact⟨_,q⟩
  | _=>exact(show False from h).elim
 refine⟨by rw [d9,d9]; exact R.len,λb z=>.inl (R.sub b z),λb z=>?_,R1.ext,R.fU,R.uV,λb z=>.inl (R.vM b z),f.more a λg hg q=>?_,λj s q=>?_,λq hq=>(R.pin q hq).trans pr,λj e2 b q q2=>?_,λj s b q o q2=>?_,λj k s t b q1 o1 q2 o2 z1 z2=>?_,λp hp=>?_⟩
 ·rcases z with z | z
  ·exact R1.dom b z
  ·rw [z]; exact hd
 ·obtain⟨_,_,_,_,_,h3,_⟩:=R.feed g hg
  have:=h3.2
  rw [q,ha] at this; cases this
 ·rcases two j s q with ⟨rfl,rfl,e1⟩ | ⟨hj,q1,e1⟩
  ·rw [e1]
   exact⟨a,rfl,.inr rfl,λz=>ne a (R.vM a z) rfl,h⟩
  ·rw [e1]
   exact(R.sl j s q1).pres pr (λ_ z=>.inl z) e R.uV
 ·rcases two j _ q with ⟨_,e1,_⟩ | ⟨hj,q1,e1⟩
  ·cases e1
  ·rw [e1] at q2
   exact R.br0 j e2 b q1 q2
 ·rcases two j s q with ⟨_,_,e1⟩ | ⟨hj,q1,e1⟩
  ·rw [e1] at q2
   cases q2;exact a0
  ·rw [e1] at q2
   exact R.new j s b q1 o q2
 ·rcases two j s q1 with ⟨rfl,_,e1⟩ | ⟨hj,p1,e1⟩
  ·rw [e1] at z1
   cases z1
   rcases two k t q2 with ⟨rfl,_,_⟩ | ⟨hk,p2,e2⟩
   ·rfl
   ·rw [e2] at z2
    exact absurd rfl (old k t a p2 o2 z2)
  ·rw [e1] at z1
   rcases two k t q2 with ⟨rfl,_,e2⟩ | ⟨hk,p2,e2⟩
   ·rw [e2] at z2
    cases z2;exact absurd rfl (old j s a p1 o1 z1)
   ·rw [e2] at z2
    exact R.two j k s t b p1 o1 p2 o2 z1 z2
 ·obtain⟨h1,h2,h3,h4⟩:=R1.kept p hp
  refine⟨h1,.inl h2,h3,λj e2 q=>?_⟩
  rcases two j _ q with ⟨_,_,e1⟩ | ⟨hj,q1,e1⟩
  ·rw [e1]
   intro z;cases z;exact ne _ h2 rfl
  ·rw [e1]
   exact h4 j e2 q1
theorem Rel.mut(R:Rel K C M H n ρ σ){i:Nat}{a:Db}{e:D}{o:HO}(hi:ρ[i]?=some (.ow d))(ha:(σ[i]?).getD none=some (.ref a))(h:Tops K M (BC H a o) a e) :
  Rel K C M (BC H a o) n (ρ.set i (.ow e)) σ:=by
 obtain⟨b,_,e1,m,nv,t,n0,h0⟩:=R.owner hi rfl;rw [ha] at e1;cases e1;have pr:Pres M H M (BC H a o):=⟨λb o' q nb=>by rw [AU (λz=>nb (by rw [z]; exact m))]; exact q,λ_ z=>.inl z,λb vs q=>by rw [AU (λz=>t.notT (by rw [← z]; exact q))]; exact q⟩
 have old:∀(j:Nat) (s:Slot),(ρ.set i (.ow e))[j]?=some s->(j=i/\s=.ow e)\/(j≠i/\ρ[j]?=some s):=λj s q=>by
  rcases El q with ⟨rfl,hl,rfl⟩ | ⟨hj,q⟩
  ·exact .inl ⟨rfl,rfl⟩
  ·exact .inr ⟨hj,q⟩
 have far:∀(j:Nat) (s:Slot) (b:Db),j≠i->ρ[j]?=some s->s.owns=true->(σ[j]?).getD none=some (.ref b)->b≠a:=λj s b hj q o z w=>by
  subst w;exact hj (R.two j i s _ b q o hi rfl z ha)
 refine⟨by rw [d9]; exact R.len,R.sub,λb z=>?_,λb o' q=>?_,R.fU,R.uV,R.vM,R.feed.pres pr λf o' hf q=>?_,λj s q=>?_,λq hq=>(R.pin q hq).trans pr,λj e2 b q q2=>?_,λj s b q o2 q2=>?_,λj k s t b q1 o1 q2 o2 z1 z2=>?_,λp hp=>?_⟩
 ·by_cases hb:b=a
  ·exact⟨o,by rw [hb,Ai]⟩
  ·obtain⟨o',q⟩:=R.dom b z
   exact⟨o',by rw [AU hb]; exact q⟩
 ·obtain⟨o2,q2,r⟩:=R.ext b o' q
  have hb:b≠a:=λz=>by rw [z,h0] at q; cases q
  exact⟨o2,by rw [AU hb]; exact q2,r⟩
 ·have hb:f.1≠a:=λz=>nv (by rw [← z]; exact R.uV _ (R.fU f hf))
  rw [AU hb]; exact q
 ·rcases old j s q with ⟨rfl,rfl⟩ | ⟨hj,q1⟩
  ·rw [ha]
   exact⟨a,rfl,m,nv,h⟩
  ·have q2:=R.sl j s q1
   cases s with
   | no=>trivial
   | sh d=>obtain⟨v,e1,h1⟩:=q2; exact⟨v,e1,h1.pres pr⟩
   | br d =>
    obtain⟨v,e1,h1⟩:=q2;refine⟨v,e1,h1.same pr (λb o' z q=>?_) λ_ _ z=>z⟩;subst z;obtain⟨o3,w⟩:=R.br0 j d b q1 e1;rw [AU (λz=>by rw [z,h0] at w; cases w)];exact q
   | fd=>exact q2
   | ow d =>
    obtain⟨b,e1,h1,h2,h3⟩:=q2;exact⟨b,e1,h1,h2,h3.pres pr λo' w=>by rw [AU (far j _ b hj q1 rfl e1)]; exact w⟩
   | lt b d =>
    obtain⟨e1,h1,h2,h3⟩:=q2;exact⟨e1,h1,h2,h3.pres pr λo' w=>by rw [AU (far j _ b hj q1 rfl e1)]; exact w⟩
 ·rcases old j _ q with ⟨_,e1⟩ | ⟨hj,q1⟩
  ·cases e1
  ·exact R.br0 j e2 b q1 q2
 ·rcases old j s q with ⟨rfl,_⟩ | ⟨hj,q1⟩
  ·exact R.new j _ b hi rfl q2
  ·exact R.new j s b q1 o2 q2
 ·rcases old j s q1 with ⟨rfl,rfl⟩ | ⟨hj,p1⟩
  ·rcases old k t q2 with ⟨rfl,_⟩ | ⟨hk,p2⟩
   ·rfl
   ·exact R.two j k _ t b hi rfl p2 o2 z1 z2
  ·rcases old k t q2 with ⟨rfl,rfl⟩ | ⟨hk,p2⟩
   ·exact R.two j k s _ b p1 o1 hi rfl z1 z2
   ·exact R.two j k s t b p1 o1 p2 o2 z1 z2
 ·obtain⟨h1,h2,h3,h4⟩:=R.kept p hp
  have hb:p.1≠a:=λz=>h4 i d hi (by rw [ha,z]);refine⟨by rw [AU hb]; exact h1,h2,h3,λj e2 q=>?_⟩
  rcases old j _ q with ⟨rfl,_⟩ | ⟨hj,q1⟩
  ·exact h4 j d hi
  ·exact h4 j e2 q1
theorem Rel.freeze(R:Rel K C M H n ρ σ){i:Nat}{a:Db}(hi:ρ[i]?=some (.ow d))(ha:(σ[i]?).getD none=some (.ref a)):Rel K C (λb=>M b/\b≠a) H n (ρ.set i (.sh d)) σ:=by
 obtain⟨b,_,e1,m,nv,_,n0,h0⟩:=R.owner hi rfl;rw [ha] at e1;cases e1;have less:∀b,M b/\b≠a->M b:=λ_ z=>z.1;have pr:Pres M H (λb=>M b/\b≠a) H:=Pres.less less
 have old:∀(j:Nat) (s:Slot),(ρ.set i (.sh d))[j]?=some s->(j=i/\s=.sh d)\/(j≠i/\ρ[j]?=some s):=λj s q=>by
  rcases El q with ⟨rfl,hl,rfl⟩ | ⟨hj,q⟩
  ·exact .inl ⟨rfl,rfl⟩
  ·exact .inr ⟨hj,q⟩
 have far:∀(j:Nat) (s:Slot) (b:Db),j≠i->ρ[j]?=some s->s.owns=true->(σ[j]?).getD none=some (.ref b)->b≠a:=λj s b hj q o z w=>by
  subst w;exact hj (R.two j i s _ b q o hi rfl z ha)
 have t:Tops K M H a d:=by
  obtain⟨b,e1,_,_,h3⟩:=R.sl i _ hi;rw [ha] at e1;cases e1;exact h3
 refine⟨by rw [d9]; exact R.len,λb z=>⟨R.sub b z,λw=>n0 (by rw [← w]; exact z)⟩,λb z=>R.dom b z.1,R.ext,R.fU,R.uV,λb z=>⟨R.vM b z,λw=>nv (by rw [← w]; exact z)⟩,R.feed.pres pr λ_ _ _ q=>q,λj s q=>?_,λq hq=>(R.pin q hq).trans pr,λj e2 b q q2=>?_,λj s b q o2 q2=>?_,λj k s t b q1 o1 q2 o2 z1 z2=>?_,λp hp=>?_⟩
 ·rcases old j s q with ⟨rfl,rfl⟩ | ⟨hj,q1⟩
  ·rw [ha]
   exact⟨_,rfl,(t.pres pr λ_ z=>z).at λz=>z.2 rfl⟩
  ·have q2:=R.sl j s q1
   cases s with
   | no=>trivial
   | sh d=>obtain⟨v,e1,h1⟩:=q2; exact⟨v,e1,h1.pres pr⟩
   | br d=>obtain⟨v,e1,h1⟩:=q2; exact⟨v,e1,h1.same pr (λ_ _ _ z=>z) λ_ _ z=>z⟩
   | fd=>exact q2
   | ow d =>
    obtain⟨b,e1,h1,h2,h3⟩:=q2;exact⟨b,e1,⟨h1,far j _ b hj q1 rfl e1⟩,h2,h3.pres pr λ_ z=>z⟩
   | lt b d =>
    obtain⟨e1,h1,h2,h3⟩:=q2;exact⟨e1,⟨h1,far j _ b hj q1 rfl e1⟩,h2,h3.pres pr λ_ z=>z⟩
 ·rcases old j _ q with ⟨_,e1⟩ | ⟨hj,q1⟩
  ·cases e1
  ·exact R.br0 j e2 b q1 q2
 ·rcases old j s q with ⟨_,rfl⟩ | ⟨hj,q1⟩
  ·cases o2
  ·exact R.new j s b q1 o2 q2
 ·rcases old j s q1 with ⟨_,rfl⟩ | ⟨hj,p1⟩
  ·cases o1
  ·rcases old k t q2 with ⟨_,rfl⟩ | ⟨hk,p2⟩
   ·cases o2
   ·exact R.two j k s t b p1 o1 p2 o2 z1 z2
 ·obtain⟨h1,h2,h3,h4⟩:=R.kept p hp
  have hb:p.1≠a:=λz=>h4 i d hi (by rw [ha,z]);refine⟨h1,⟨h2,hb⟩,h3,λj e2 q=>?_⟩
  rcases old j _ q with ⟨_,e1⟩ | ⟨hj,q1⟩
  ·cases e1
  ·exact h4 j e2 q1
theorem Rel.lend(R:Rel K C M H n ρ σ){i:Nat}{a:Db}{o:HO}(hi:ρ[i]?=some (.ow d))(ha:(σ[i]?).getD none=some (.ref a))(ho:H a=some o):Rel K { C with kp:=(a,o)::C.kp } M H n (ρ.set i (.lt a d)) σ:=by
 obtain⟨b,e1,m,nv,t⟩:=R.sl i _ hi;rw [ha] at e1;cases e1
 have old:∀(j:Nat) (s:Slot),(ρ.set i (.lt a d))[j]?=some s->(j=i/\s=.lt a d)\/(j≠i/\ρ[j]?=some s):=λj s q=>by
  rcases El q with ⟨rfl,hl,rfl⟩ | ⟨hj,q⟩
  ·exact .inl ⟨rfl,rfl⟩
  ·exact .inr ⟨hj,q⟩
 refine⟨by rw [d9]; exact R.len,R.sub,R.dom,R.ext,R.fU,R.uV,R.vM,R.feed,λj s q=>?_,R.pin,λj e2 b q q2=>?_,λj s b q o2 q2=>?_,λj k s t b q1 o1 q2 o2 z1 z2=>?_,λp hp=>?_⟩
 ·rcases old j s q with ⟨rfl,rfl⟩ | ⟨hj,q1⟩
  ·exact⟨ha,m,nv,t⟩
  ·exact R.sl j s q1
 ·rcases old j _ q with ⟨_,e1⟩ | ⟨hj,q1⟩
  ·cases e1
  ·exact R.br0 j e2 b q1 q2
 ·rcases old j s q with ⟨rfl,_⟩ | ⟨hj,q1⟩
  ·exact R.new j _ b hi rfl q2
  ·exact R.new j s b q1 o2 q2
 ·rcases old j s q1 with ⟨rfl,rfl⟩ | ⟨hj,p1⟩
  ·rcases old k t q2 with ⟨rfl,_⟩ | ⟨hk,p2⟩
   ·rfl
   ·exact R.two j k _ t b hi rfl p2 o2 z1 z2
  ·rcases old k t q2 with ⟨rfl,rfl⟩ | ⟨hk,p2⟩
   ·exact R.two j k s _ b p1 o1 hi rfl z1 z2
   ·exact R.two j k s t b p1 o1 p2 o2 z1 z2
 ·rcases TW.mp hp with rfl | hp
  ·refine⟨ho,m,nv,λj e2 q z=>?_⟩
   rcases old j _ q with ⟨_,e1⟩ | ⟨hj,q1⟩
   ·cases e1
   ·exact hj (R.two j i _ _ a q1 rfl hi rfl z ha)
  ·obtain⟨h1,h2,h3,h4⟩:=R.kept p hp
   refine⟨h1,h2,h3,λj e2 q=>?_⟩
   rcases old j _ q with ⟨_,e1⟩ | ⟨hj,q1⟩
   ·cases e1
   ·exact h4 j e2 q1
theorem Rel.unlend{a:Db}{o:HO}(R:Rel K { C with kp:=(a,o)::C.kp } M H n ρ σ){i:Nat}(hi:ρ[i]?=some (.lt a d))(hk:∀p∈C.kp,p.1≠a):Rel K C M H n (ρ.set i (.ow d)) σ:=by
 obtain⟨ha,m,nv,t⟩:=R.sl i _ hi
 have old:∀(j:Nat) (s:Slot),(ρ.set i (.ow d))[j]?=some s->(j=i/\s=.ow d)\/(j≠i/\ρ[j]?=some s):=λj s q=>by
  rcases El q with ⟨rfl,hl,rfl⟩ | ⟨hj,q⟩
  ·exact .inl ⟨rfl,rfl⟩
  ·exact .inr ⟨hj,q⟩
 refine⟨by rw [d9]; exact R.len,R.sub,R.dom,R.ext,R.fU,R.uV,R.vM,R.feed,λj s q=>?_,R.pin,λj e2 b q q2=>?_,λj s b q o2 q2=>?_,λj k s t b q1 o1 q2 o2 z1 z2=>?_,λp hp=>?_⟩
 ·rcases old j s q with ⟨rfl,rfl⟩ | ⟨hj,q1⟩
  ·exact⟨a,ha,m,nv,t⟩
  ·exact R.sl j s q1
 ·rcases old j _ q with ⟨_,e1⟩ | ⟨hj,q1⟩
  ·cases e1
  ·exact R.br0 j e2 b q1 q2
 ·rcases old j s q with ⟨rfl,_⟩ | ⟨hj,q1⟩
  ·exact R.new j _ b hi rfl q2
  ·exact R.new j s b q1 o2 q2
 ·rcases old j s q1 with ⟨rfl,rfl⟩ | ⟨hj,p1⟩
  ·rcases old k t q2 with ⟨rfl,_⟩ | ⟨hk,p2⟩
   ·rfl
   ·exact R.two j k _ t b hi rfl p2 o2 z1 z2
  ·rcases old k t q2 with ⟨rfl,rfl⟩ | ⟨hk,p2⟩
   ·exact R.two j k s _ b p1 o1 hi rfl z1 z2
   ·exact R.two j k s t b p1 o1 p2 o2 z1 z2
 ·obtain⟨h1,h2,h3,h4⟩:=R.kept p (TM _ hp)
  refine⟨h1,h2,h3,λj e2 q=>?_⟩
  rcases old j _ q with ⟨rfl,_⟩ | ⟨hj,q1⟩
  ·rw [ha]
   intro z;cases z;exact hk p hp rfl
  ·exact h4 j e2 q1
end
abbrev DW:=Nat->List Slot->(D->Nat->Prop)->Prop
abbrev Ij:=Nat->List Slot->(Bool->Nat->Prop)->Prop
abbrev Ee:=Nat->List Slot->(List D->Nat->Prop)->Prop
abbrev Yp:=Nat->List Slot->(List Slot->Nat->Prop)->Prop
section
variable (X:Cx)
def DE(e:cC)(κ:Kd)(w:DW):Prop:=∃t,PE X e t/\∀(C:Fm) (M:Db->Prop) (H:Hp) (n:Nat) (ρ:List Slot) (σ:L2.St) (P:D->Nat->Prop) (Q:VK),Rel X.K C M H n ρ σ->w n ρ P ->
 (∀v H' d n',Ext C.U H H'->FeedC X.K C.F M H' n'->VR X.K C.V M H H' κ v d->P d n'->Q v H')->t σ H Q
def DT(e:cC)(w:Ij):Prop:=∃t,PT X e t/\∀(C:Fm) (M:Db->Prop) (H:Hp) (n:Nat) (ρ:List Slot) (σ:L2.St) (P:Bool->Nat->Prop) (Q:Bool->Hp->Prop),Rel X.K C M H n ρ σ->w n ρ P ->
 (∀b H' n',Ext C.U H H'->FeedC X.K C.F M H' n'->P b n'->Q b H')->t σ H Q
def DTW(e:cC)(w:Ij):Prop:=∃t,PW X e t/\∀(C:Fm) (M:Db->Prop) (H:Hp) (n:Nat) (ρ:List Slot) (σ:L2.St) (P:Bool->Nat->Prop) (Q:Bool->Hp->Prop),Rel X.K C M H n ρ σ->w n ρ P ->
 (∀b H' n',Ext C.U H H'->FeedC X.K C.F M H' n'->P b n'->Q b H')->t σ H Q
def U_(es:List cC)(w:Ee):Prop:=∃t,PA X es t/\∀(C:Fm) (M:Db->Prop) (H:Hp) (n:Nat) (ρ:List Slot) (σ:L2.St) (P:List D->Nat->Prop) (Q:List V->Hp->Prop),Rel X.K C M H n ρ σ->w n ρ P ->
 (∀vs H' ds n',Ext C.U H H'->FeedC X.K C.F M H' n'->Paired (λv d=>AtT X.K C.V M H' d v) vs ds->P ds n'->Q vs H')->t σ H Q
def Yq(es:List cC)(w:Ee):Prop:=∃t,PA X es t/\∀(C:Fm) (M:Db->Prop) (H:Hp) (n:Nat) (ρ:List Slot) (σ:L2.St) (P:List D->Nat->Prop) (Q:List V->Hp->Prop),Rel X.K C M H n ρ σ->w n ρ P ->
 (∀vs H' ds n',Ext C.U H H'->FeedC X.K C.F M H' n'->Ats X.K M H' ds vs->P ds n'->Q vs H')->t σ H Q
def L1(K:Frag)(F:Option (Db×Db))(V' M:Db->Prop)(H:Hp)(v:V)(s:Slot):Prop:=SlotOk K F V' M H s (some v)/\s.owns=false
def aM(e:cC)(w:Nat->List Slot->(Slot->Nat->Prop)->Prop):Prop:=∃t,PE X e t/\∀(C:Fm) (M:Db->Prop) (H:Hp) (n:Nat) (ρ:List Slot) (σ:L2.St) (P:Slot->Nat->Prop) (Q:VK),Rel X.K C M H n ρ σ->w n ρ P ->
 (∀v H' s n',Ext C.U H H'->FeedC X.K C.F M H' n'->L1 X.K C.F C.V M H' v s->P s n'->Q v H')->t σ H Q
def Z5(es:List cC)(w:Yp):Prop:=∃t,PA X es t/\∀(C:Fm) (M:Db->Prop) (H:Hp) (n:Nat) (ρ:List Slot) (σ:L2.St) (P:List Slot->Nat->Prop) (Q:List V->Hp->Prop),Rel X.K C M H n ρ σ->w n ρ P ->
 (∀vs H' ss n',Ext C.U H H'->FeedC X.K C.F M H' n'->Paired (L1 X.K C.F C.V M H') vs ss->P ss n'->Q vs H')->t σ H Q
end
def AB(i:Nat):DW:=λn ρ P=>match ρ[i]? with
 | some (.sh d)=>P d n
 | _=>False
def BB(i:Nat):DW:=λn ρ P=>match ρ[i]? with
 | some (.sh d)=>P d n
 | some (.br d)=>P d n
 | some (.ow d)=>P d n
 | some (.lt _ d)=>P d n
 | _=>False
def wC(d:D):DW:=λn _ P=>P d n
section
variable {X:Cx}{a b c e:Expr}{κ κa κb:Kd}{wa wb wc:DW}{pos:Pos}
theorem getD_some{σ:L2.St}{i:Nat}{v:V}(h:(σ[i]?).getD none=some v):σ[i]?=some (some v):=by
 cases q:σ[i]? with
 | none=>rw [q] at h; cases h
 | some o=>rw [q] at h; exact congrArg some h
theorem WG{i:Nat}(h:PE X e (B3 i)):DE X e .sh (AB i):=by
 refine⟨_,h,λC M H n ρ σ P Q R w q=>?_⟩;unfold AB at w
 split at w
 ·rename_i d hd
  obtain⟨v,e1,h1⟩:=R.sl i _ hd;exact⟨v,getD_some e1,q v H d n (Ext.refl _ _) R.feed h1 w⟩
 ·exact w.elim
theorem Ug{i:Nat}(h:PE X e (B3 i)):DE X e .tp (BB i):=by
 refine⟨_,h,λC M H n ρ σ P Q R w q=>?_⟩;unfold BB at w
 split at w
 ·rename_i d hd
  obtain⟨v,e1,h1⟩:=R.sl i _ hd;exact⟨v,getD_some e1,q v H d n (Ext.refl _ _) R.feed (At.tp R.vM h1) w⟩
 ·rename_i d hd
  obtain⟨v,e1,h1⟩:=R.sl i _ hd;exact⟨v,getD_some e1,q v H d n (Ext.refl _ _) R.feed h1 w⟩
 ·rename_i d hd
  obtain⟨a,e1,_,h2,h3⟩:=R.sl i _ hd;exact⟨.ref a,getD_some e1,q _ H d n (Ext.refl _ _) R.feed (h3.att h2) w⟩
 ·rename_i a d hd
  obtain⟨e1,_,h2,h3⟩:=R.sl i _ hd;exact⟨.ref a,getD_some e1,q _ H d n (Ext.refl _ _) R.feed (h3.att h2) w⟩
 ·exact w.elim
theorem dv(i:Nat){x:Str}{pos:Pos}(hN:X.N[i]?=some x:=by rfl)(hv:Yh X.env.scope x:=by first | exact be rfl | exact di (be rfl) | exact di (di rfl))(hd:(x==("__debug__":Str))=false:=by decide)
  (hcd:(x==("__classdict__":Str))=false:=by decide):DE X (.Name x pos) .sh (AB i):=WG (MP hN hv hd hcd)
theorem Kv(i:Nat){x:Str}{pos:Pos}(hN:X.N[i]?=some x:=by rfl)(hv:Yh X.env.scope x:=by first | exact be rfl | exact di (be rfl) | exact di (di rfl))(hd:(x==("__debug__":Str))=false:=by decide)
  (hcd:(x==("__classdict__":Str))=false:=by decide):DE X (.Name x pos) .tp (BB i):=Ug (MP hN hv hd hcd)
theorem G4{d:D}{v:V}(h:PE X e (tC v))(hd:∀M H,At X.K M H d v):DE X e .sh (wC d) :=
 ⟨_,h,λC M H n ρ σ P Q R w q=>q v H d n (Ext.refl _ _) R.feed (hd M H) w⟩
theorem AD{i:Int}{j pos}:DE X (.Constant (.int i) j pos) .sh (wC (.int i)):=G4 A_ λ_ _=>rfl
theorem CG{b:Bool}{j pos}:DE X (.Constant (.bool b) j pos) .sh (wC (.bl b)):=G4 ZV λ_ _=>rfl
theorem BU{j pos}:DE X (.Constant .none j pos) .sh (wC .non):=G4 Xw λ_ _=>rfl
theorem Bq{x:Str}{j pos}(hx:decide (x.length<=1000)=true:=by rfl):DE X (.Constant (.str x) j pos) .sh (wC (.str x)) :=
 G4 Xs λ_ _=>⟨rfl,cG (of_decide_eq_true hx) (by rw [cX]; decide)⟩
theorem DE.sh(h:DE X e κ wa)(hk:κ≠.tp:=by intro z; cases z):DE X e .sh wa:=by
 obtain⟨t,h1,h2⟩:=h;exact⟨t,h1,λC M H n ρ σ P Q R w q=>h2 C M H n ρ σ P Q R w λv H' d n' e f r p=>q v H' d n' e f (r.shOf R.dom hk) p⟩
def Fa(K:Frag)(κ:Kd)(r:R2)(f:D->D->(D->Prop)->Prop):Prop:=∀(U:Db->Prop) (M:Db->Prop) (H:Hp) (d e:D) (x y:V) (P:D->Prop) (Q:VK),(∀a,M a->∃o,H a=some o)->(∀a,U a->M a) ->
 AtT K U M H d x->AtT K U M H e y->f d e P->(∀v H' z,Grow H H'->VR K U M H H' κ v z->P z->Q v H')->r x y H Q
def AT(f:D->D->(D->Prop)->Prop)(wa wb:DW):DW:=λn ρ P=>wa n ρ λx n1=>wb n1 ρ λy n2=>f x y λz=>P z n2
theorem ER{r:R2}{f:D->D->(D->Prop)->Prop}(hA:Fa X.K κ r f){ta tb:TE}(ha:∀(C:Fm) (M:Db->Prop) (H:Hp) (n:Nat) (ρ:List Slot) (σ:L2.St) (P:D->Nat->Prop) (Q:VK),Rel X.K C M H n ρ σ->wa n ρ P ->
   (∀v H' d n',Ext C.U H H'->FeedC X.K C.F M H' n'->VR X.K C.V M H H' κa v d->P d n'->Q v H')->ta σ H Q)
  (hb:∀(C:Fm) (M:Db->Prop) (H:Hp) (n:Nat) (ρ:List Slot) (σ:L2.St) (P:D->Nat->Prop) (Q:VK),Rel X.K C M H n ρ σ->wb n ρ P ->
   (∀v H' d n',Ext C.U H H'->FeedC X.K C.F M H' n'->VR X.K C.V M H H' κb v d->P d n'->Q v H')->tb σ H Q)
  (C:Fm) (M:Db->Prop) (H:Hp) (n:Nat) (ρ:List Slot) (σ:L2.St) (P:D->Nat->Prop) (Q:VK) (R:Rel X.K C M H n ρ σ) (w:AT f wa wb n ρ P)
  (q:∀v H' d n',Ext C.U H H'->FeedC X.K C.F M H' n'->VR X.K C.V M H H' κ v d->P d n'->Q v H'):Dh r ta tb σ H Q:=by
 refine ha C M H n ρ σ _ _ R w λx H1 d n1 e1 f1 r1 w1=>?_;have R1:=R.step e1 f1;refine hb C M H1 n1 ρ σ _ _ R1 w1 λy H2 e n2 e2 f2 r2 w2=>?_;have R2':=R1.step e2 f2;refine hA C.V M H2 d e x y _ _ R2'.dom R2'.vM ((r1.tpOf R.dom R.vM).pres (R1.pres e2) e2 R.uV) (r2.tpOf R1.dom R1.vM) w2 λv H3 z g vr p=>?_;exact q v H3 z n2 ((e1.trans e2).trans g.ext) (f2.grow g) (VR.back (e1.trans e2) vr) p
theorem A7{op:Operator}{r:R2}{f:D->D->(D->Prop)->Prop}(ho:OpR X (binaryOp op) r)(hA:Fa X.K κ r f)(ha:DE X a κa wa)(hb:DE X b κb wb):DE X (.BinOp a op b pos) κ (AT f wa wb):=by
 obtain⟨ta,ha1,ha2⟩:=ha;obtain⟨tb,hb1,hb2⟩:=hb;exact⟨_,Bn ho ha1 hb1,λC M H n ρ σ P Q R w q=>ER hA ha2 hb2 C M H n ρ σ P Q R w q⟩
theorem AN{r:R2}{f:D->D->(D->Prop)->Prop}(ho:IxR X r)(hA:Fa X.K κ r f)(ha:DE X a κa wa)(hb:DE X b κb wb)(hs:Q5 b:=by intro _ _; rfl):DE X (.Subscript a b pos) κ (AT f wa wb):=by
 obtain⟨ta,ha1,ha2⟩:=ha;obtain⟨tb,hb1,hb2⟩:=hb;exact⟨_,EV ho ha1 hb1 hs,λC M H n ρ σ P Q R w q=>ER hA ha2 hb2 C M H n ρ σ P Q R w q⟩
theorem FC{op:CmpOp}{r:R2}{f:D->D->(D->Prop)->Prop}(ho:OpR X (compareOp op) r)(hA:Fa X.K .sh r f)(ha:DE X a κa wa)(hb:DE X b κb wb)(hm:behindInMarks op b=false):DE X (.Compare a [op] [b] pos) .sh (AT f wa wb):=by
 obtain⟨ta,ha1,ha2⟩:=ha;obtain⟨tb,hb1,hb2⟩:=hb;exact⟨_,Vc ho ha1 hb1 hm,λC M H n ρ σ P Q R w q=>ER hA ha2 hb2 C M H n ρ σ P Q R w q⟩
def AY(w:DW):Ij:=λn ρ P=>w n ρ λd n1=>match d with
 | .bl b=>P b n1
 | _=>False
theorem Io{U:Db->Prop}{K:Frag}{M:Db->Prop}{H H':Hp}{v:V}{b:Bool}(h:VR K U M H H' κ v (.bl b)):v=.bl b:=by
 cases κ with
 | sh=>exact h
 | tp=>exact h
 | fr=>obtain⟨a,_,_,t⟩:=h; exact(show False from t).elim
theorem Ak{op:CmpOp}{r:R2}{f:D->D->(D->Prop)->Prop}(ho:OpR X (compareOp op) r)(hA:Fa X.K .sh r f)(ha:DE X a κa wa)(hb:DE X b κb wb)(hm:behindInMarks op b=false):DT X (.Compare a [op] [b] pos) (AY (AT f wa wb)):=by
 obtain⟨ta,ha1,ha2⟩:=ha;obtain⟨tb,hb1,hb2⟩:=hb;refine⟨_,Gh ho ha1 hb1 hm,λC M H n ρ σ P Q R w q=>?_⟩;refine ER hA ha2 hb2 C M H n ρ σ _ _ R w λv H' d n' e f r p=>?_;cases d with
 | bl b=>exact⟨b,Io r,q b H' n' e f p⟩
 | _=>exact p.elim
theorem B4(h:DE X e κ wa)(he:∀whole,isTrue e X.env whole=(do let v ← whole; standAt e.pos; holding [v] (truthy v)):=by intro _; rfl):DT X e (AY wa):=by
 obtain⟨t,h1,h2⟩:=h;refine⟨_,Xo h1 he,λC M H n ρ σ P Q R w q=>?_⟩;refine h2 C M H n ρ σ _ _ R w λv H' d n' e f r p=>?_;cases d with
 | bl b=>exact⟨b,Io r,q b H' n' e f p⟩
 | _=>exact p.elim
def IB(u v:Ij):Ij:=λn ρ P=>u n ρ λc n1=>if c=true then v n1 ρ P else P false n1
def Ef(u v:Ij):Ij:=λn ρ P=>u n ρ λc n1=>if c=true then P true n1 else v n1 ρ P
def DX(u:Ij):Ij:=λn ρ P=>u n ρ λc n1=>P (!c) n1
variable {wA wB:Ij}{rest:List Expr}
theorem G1(h:DT X a wA):DTW X (.BoolOp .And [a] pos) wA:=by
 obtain⟨t,h1,h2⟩:=h;exact⟨t,QE h1,h2⟩
theorem Cy(h:DT X a wA):DTW X (.BoolOp .Or [a] pos) wA:=by
 obtain⟨t,h1,h2⟩:=h;exact⟨t,Xn h1,h2⟩
theorem Hy(ha:DT X a wA)(hb:DTW X (.BoolOp .And (b::rest) pos) wB):DTW X (.BoolOp .And (a::b::rest) pos) (IB wA wB):=by
 obtain⟨t,h1,h2⟩:=ha;obtain⟨u,g1,g2⟩:=hb;refine⟨_,TN h1 g1,λC M H n ρ σ P Q R w q=>?_⟩;refine h2 C M H n ρ σ _ _ R w λc H1 n1 e1 f1 p=>?_;cases c with
 | false=>exact q false H1 n1 e1 f1 p
 | true=>exact g2 C M H1 n1 ρ σ P Q (R.step e1 f1) p λb H2 n2 e2 f2 p2=>q b H2 n2 (e1.trans e2) f2 p2
theorem DK(ha:DT X a wA)(hb:DTW X (.BoolOp .Or (b::rest) pos) wB):DTW X (.BoolOp .Or (a::b::rest) pos) (Ef wA wB):=by
 obtain⟨t,h1,h2⟩:=ha;obtain⟨u,g1,g2⟩:=hb;refine⟨_,ZT h1 g1,λC M H n ρ σ P Q R w q=>?_⟩;refine h2 C M H n ρ σ _ _ R w λc H1 n1 e1 f1 p=>?_;cases c with
 | true=>exact q true H1 n1 e1 f1 p
 | false=>exact g2 C M H1 n1 ρ σ P Q (R.step e1 f1) p λb H2 n2 e2 f2 p2=>q b H2 n2 (e1.trans e2) f2 p2
theorem DTW.dt(h:DTW X e wA):DT X e wA:=by
 obtain⟨t,h1,h2⟩:=h;exact⟨t,h1.pt,h2⟩
theorem Cb(ha:DT X a wA):DT X (.UnaryOp .Not a pos) (DX wA):=by
 obtain⟨t,h1,h2⟩:=ha;refine⟨_,Xp h1,λC M H n ρ σ P Q R w q=>?_⟩;exact h2 C M H n ρ σ _ _ R w λc H1 n1 e1 f1 p=>q (!c) H1 n1 e1 f1 p
def RA(u v:DW):DW:=λn ρ P=>u n ρ λc n1=>match c with
 | .bl true=>v n1 ρ P
 | .bl false=>P (.bl false) n1
 | _=>False
def Yx(u:DW):DW:=λn ρ P=>u n ρ λc n1=>match c with
 | .bl b=>P (.bl (!b)) n1
 | _=>False
theorem M5{op}(h:DE X a κ wa):DE X (.BoolOp op [a] pos) κ wa:=by
 obtain⟨t,h1,h2⟩:=h;exact⟨t,Xu h1,h2⟩
theorem Ka(ha:DE X a κa wa)(hb:DE X (.BoolOp .And (b::rest) pos) .sh wb):DE X (.BoolOp .And (a::b::rest) pos) .sh (RA wa wb):=by
 obtain⟨t,h1,h2⟩:=ha;obtain⟨u,g1,g2⟩:=hb;refine⟨_,Xx h1 g1,λC M H n ρ σ P Q R w q=>?_⟩;refine h2 C M H n ρ σ _ _ R w λc H1 d n1 e1 f1 r1 p=>?_;cases d with
 | bl k =>
  refine⟨k,Io r1,?_⟩;cases k with
  | false=>exact q _ H1 _ n1 e1 f1 (show VR X.K C.V M H H1 .sh (.bl false) (.bl false) from rfl) p
  | true =>
   show u σ H1 Q;exact g2 C M H1 n1 ρ σ P Q (R.step e1 f1) p λv H2 d n2 e2 f2 r2 p2=>q v H2 d n2 (e1.trans e2) f2 r2 p2
 | _=>exact p.elim
theorem YS(ha:DE X a κa wa):DE X (.UnaryOp .Not a pos) .sh (Yx wa):=by
 obtain⟨t,h1,h2⟩:=ha;refine⟨_,Xv h1,λC M H n ρ σ P Q R w q=>?_⟩;refine h2 C M H n ρ σ _ _ R w λc H1 d n1 e1 f1 r1 p=>?_;cases d with
 | bl k=>exact⟨k,Io r1,q _ H1 _ n1 e1 f1 (show VR X.K C.V M H H1 .sh (.bl (!k)) (.bl (!k)) from rfl) p⟩
 | _=>exact p.elim
def Yr(t:Ij)(u v:DW):DW:=λn ρ P=>t n ρ λc n1=>if c=true then u n1 ρ P else v n1 ρ P
theorem Qq(hc:DT X c wA)(ha:DE X a κ wa)(hb:DE X b κ wb):DE X (.IfExp c a b pos) κ (Yr wA wa wb):=by
 obtain⟨t,h1,h2⟩:=hc;obtain⟨u,g1,g2⟩:=ha;obtain⟨u',k1,k2⟩:=hb;refine⟨_,Nu h1 g1 k1,λC M H n ρ σ P Q R w q=>?_⟩;refine h2 C M H n ρ σ _ _ R w λc H1 n1 e1 f1 p=>?_;cases c with
 | true=>exact g2 C M H1 n1 ρ σ P Q (R.step e1 f1) p λv H2 d n2 e2 f2 r2 p2=>q v H2 d n2 (e1.trans e2) f2 (VR.back e1 r2) p2
 | false=>exact k2 C M H1 n1 ρ σ P Q (R.step e1 f1) p λv H2 d n2 e2 f2 r2 p2=>q v H2 d n2 (e1.trans e2) f2 (VR.back e1 r2) p2
def Ab:Ee:=λn _ P=>P [] n
def AF(w:DW)(ws:Ee):Ee:=λn ρ P=>w n ρ λd n1=>ws n1 ρ λds n2=>P (d::ds) n2
variable {es:List Expr}{ws:Ee}
theorem Ae:U_ X [] Ab:=⟨_,DD,λC M H n ρ σ P Q R w q=>q [] H [] n (Ext.refl _ _) R.feed .nil w⟩
theorem Ag:Yq X [] Ab:=⟨_,DD,λC M H n ρ σ P Q R w q=>q [] H [] n (Ext.refl _ _) R.feed rfl w⟩
theorem AS(ha:DE X e κ wa)(hr:U_ X es ws)(hs:starEach (e::es) X.env=(false,eval e X.env)::starEach es X.env:=by rfl):U_ X (e::es) (AF wa ws):=by
 obtain⟨t,h1,h2⟩:=ha;obtain⟨u,g1,g2⟩:=hr;refine⟨_,Bt h1 g1 hs,λC M H n ρ σ P Q R w q=>?_⟩;refine h2 C M H n ρ σ _ _ R w λv H1 d n1 e1 f1 r1 p=>?_;have R1:=R.step e1 f1;refine g2 C M H1 n1 ρ σ _ _ R1 p λvs H2 ds n2 e2 f2 r2 p2=>?_;exact q (v::vs) H2 (d::ds) n2 (e1.trans e2) f2 (.cons ((r1.tpOf R.dom R.vM).pres (R1.pres e2) e2 R.uV) r2) p2
theorem AJ(ha:DE X e κ wa)(hr:Yq X es ws)(hk:κ≠.tp:=by intro z; cases z)(hs:starEach (e::es) X.env=(false,eval e X.env)::starEach es X.env:=by rfl):Yq X (e::es) (AF wa ws):=by
 obtain⟨t,h1,h2⟩:=ha;obtain⟨u,g1,g2⟩:=hr;refine⟨_,Bt h1 g1 hs,λC M H n ρ σ P Q R w q=>?_⟩;refine h2 C M H n ρ σ _ _ R w λv H1 d n1 e1 f1 r1 p=>?_;have R1:=R.step e1 f1;refine g2 C M H1 n1 ρ σ _ _ R1 p λvs H2 ds n2 e2 f2 r2 p2=>?_;exact q (v::vs) H2 (d::ds) n2 (e1.trans e2) f2 ⟨v,vs,rfl,(r1.shOf R.dom hk).pres (R1.pres e2),r2⟩ p2
def B7(ws:Ee):DW:=λn ρ P=>ws n ρ λds n1=>ds.length<=sizeLine/\P (.tup ds) n1
def Ek(ws:Ee):DW:=λn ρ P=>ws n ρ λds n1=>ds.length<=sizeLine/\P (.lst ds) n1
theorem GN{M:Db->Prop}{H:Hp}{p:Db}{o:HO}(h:H p=none):Pres M H (λb=>M b\/b=p) (BC H p o):=⟨λb u e _=>by rw [AU (Al e h)]; exact e,λb z=>z.elim .inl λz=>.inr (by rw [z]; exact h),λb vs e=>by rw [AU (Al e h)]; exact e⟩
theorem Ay{H:Hp}{p:Db}{o:HO}(h:H p=none):Grow H (BC H p o):=.inr ⟨p,o,h,rfl⟩
theorem Bc{x1}(h:Yq X es ws):DE X (.Tuple es x1 pos) .sh (B7 ws):=by
 obtain⟨t,h1,h2⟩:=h;refine⟨_,Xr h1,λC M H n ρ σ P Q R w q=>?_⟩;refine h2 C M H n ρ σ _ _ R w λvs H1 ds n1 e1 f1 r1 p=>?_;refine⟨by rw [r1.length]; exact p.1,λa ha=>?_⟩;have g:Grow H1 (BC H1 a (.tup vs)):=Ay ha;refine q _ _ (.tup ds) n1 (e1.trans g.ext) (f1.grow g) ⟨a,vs,rfl,Ai,r1.pres g.pres⟩ p.2
theorem Cd(h:Yq X es ws):DE X (.List es pos) .fr (Ek ws):=by
 obtain⟨t,h1,h2⟩:=h;refine⟨_,PM h1,λC M H n ρ σ P Q R w q=>?_⟩;refine h2 C M H n ρ σ _ _ R w λvs H1 ds n1 e1 f1 r1 p=>?_;refine⟨by rw [r1.length]; exact p.1,λa ha=>?_⟩;have g:Grow H1 (BC H1 a (.lst vs)):=Ay ha;exact q _ _ (.lst ds) n1 (e1.trans g.ext) (f1.grow g) (VR.back e1 ⟨a,rfl,ha,vs,Ai,r1.pres (GN ha)⟩) p.2
def EB(K:Frag)(κ:Kd)(r:List V->Hp->VK->Prop)(f:List D->(D->Prop)->Prop):Prop:=∀(U:Db->Prop) (M:Db->Prop) (H:Hp) (ds:List D) (vs:List V) (P:D->Prop) (Q:VK),(∀a,M a->∃o,H a=some o)->(∀a,U a->M a) ->
 Paired (λv d=>AtT K U M H d v) vs ds->f ds P->(∀v H' z,Grow H H'->VR K U M H H' κ v z->P z->Q v H')->r vs H Q
def DR(f:List D->(D->Prop)->Prop)(ws:Ee):DW:=λn ρ P=>ws n ρ λds n1=>f ds λz=>P z n1
theorem XA{r:List V->Hp->VK->Prop}{f:List D->(D->Prop)->Prop}{t:TA}(hA:EB X.K κ r f)(h2:∀(C:Fm) (M:Db->Prop) (H:Hp) (n:Nat) (ρ:List Slot) (σ:L2.St) (P:List D->Nat->Prop) (Q:List V->Hp->Prop),Rel X.K C M H n ρ σ->ws n ρ P ->
   (∀vs H' ds n',Ext C.U H H'->FeedC X.K C.F M H' n'->Paired (λv d=>AtT X.K C.V M H' d v) vs ds->P ds n'->Q vs H')->t σ H Q)
  (C:Fm) (M:Db->Prop) (H:Hp) (n:Nat) (ρ:List Slot) (σ:L2.St) (P:D->Nat->Prop) (Q:VK) (R:Rel X.K C M H n ρ σ) (w:DR f ws n ρ P)
  (q:∀v H' d n',Ext C.U H H'->FeedC X.K C.F M H' n'->VR X.K C.V M H H' κ v d->P d n'->Q v H'):aA r t σ H Q:=by
 refine h2 C M H n ρ σ _ _ R w λvs H1 ds n1 e1 f1 r1 p=>?_;have R1:=R.step e1 f1;refine hA C.V M H1 ds vs _ _ R1.dom R1.vM r1 p λv H2 z g vr pz=>?_;exact q v H2 z n1 (e1.trans g.ext) (f1.grow g) (VR.back e1 vr) pz
theorem As{x:Str}{id:String}{p:Pos}{r:List V->Hp->VK->Prop}{f:List D->(D->Prop)->Prop}(hc:C7 X (.builtin id) r)(hA:EB X.K κ r f)(hg:Gl X x)(hm:X.mg x=none)(hv:bootBuiltins x=some (.builtin id))(ha:U_ X (e::es) ws)
  (hn:x ≠ "__name__":=by decide) (hdb:(x==("__debug__":Str))=false:=by decide)
  (he:starEach (e::es) X.env=(false,eval e X.env)::starEach es X.env:=by rfl) (hpl:(backTo pos (starEach es X.env)).any (·.1)=false:=by rfl):DE X (.Call (.Name x p) (e::es) [] pos) κ (DR f ws):=by
 obtain⟨t,h1,h2⟩:=ha;exact⟨_,Gk hc hg hm hv h1 hn hdb he hpl,λC M H n ρ σ P Q R w q=>XA hA h2 C M H n ρ σ P Q R w q⟩
theorem Ce{x:Str}{T:String}{p:Pos}{r:List V->Hp->VK->Prop}{f:List D->(D->Prop)->Prop}(hc:C7 X (.type T) r)(hA:EB X.K κ r f)(hg:Gl X x)(hm:X.mg x=none)(hv:bootBuiltins x=some (.type T))(ha:U_ X (e::es) ws)
  (hn:x ≠ "__name__":=by decide) (hdb:(x==("__debug__":Str))=false:=by decide)
  (he:starEach (e::es) X.env=(false,eval e X.env)::starEach es X.env:=by rfl) (hpl:(backTo pos (starEach es X.env)).any (·.1)=false:=by rfl):DE X (.Call (.Name x p) (e::es) [] pos) κ (DR f ws):=by
 obtain⟨t,h1,h2⟩:=ha;exact⟨_,LU hc hg hm hv h1 hn hdb he hpl,λC M H n ρ σ P Q R w q=>XA hA h2 C M H n ρ σ P Q R w q⟩
end
end Dp
namespace L2
open PySem PySem.Spec PyProof.Rows
def bB(z:Str):It:=⟨λi _=>i<z.cps.size,λi H x H'=>H'=H/\∃c,z.cps[i]?=some c/\x=.str ⟨#[c]⟩,λi _=>z.cps.size<=i⟩
theorem NV{P:cL}{w:cQ}{K:Frag}{tg:cC}(it:Db)(z:Str)(t:Tok)(ty:String)(hty:ty = "str_ascii_iterator"\/ty = "str_iterator")
  (W:∀A':cw,A'.handled=none->Walks P w A' it [it] [it] z.cps.size (SignAt z) (λi h=>h.IsStrIter it ty z t i)):Turn P w K tg (bB z) [it] it (λi h=>h.IsStrIter it ty z t i) where
 mem:=by simp
 obj:=λi h st b hb=>by
  have e:b=it:=by simpa using hb
  subst e;obtain⟨o,e,c,d⟩:=st;exact⟨o,e,λv z=>by rw [d] at z; cases z⟩
 keep:=λi h h' st k=>let ⟨o,ho,r⟩:=st; ⟨o,k it (by simp) o ho,r⟩
 item:=by
  intro X hP hw hK hc i pins s σ H E I hf st hg;subst hP hw hK;obtain⟨f0,f1,f2,f3,f4,f5⟩:=hf it (by simp);refine(W X.A (I.ok.hd hc)).item i s _ _ hg st λv h' tk hv st' kk=>?_;obtain⟨c,u,hcu,rfl⟩:=hv;have I1:Inv X pins σ H { s with heap:=h',toks:=tk }:=I.turned (λb o hb e=>kk b o (by simpa using hb) e) f0 f1 f3 f4 f5;obtain⟨o,e,cc,d⟩:=id st';exact⟨_,rfl,OS (s:={ s with heap:=h',toks:=tk }) e cc d (by rcases hty with rfl | rfl <;> decide) ⟨.str ⟨#[c]⟩,H,I1,⟨_,rfl⟩,⟨rfl,c,hcu,rfl⟩,st',λb hb=>(hf b hb).1⟩⟩
 done:=by
  intro X hP hw hK hc i pins s σ H E I hf st hg;subst hP hw hK;obtain⟨f0,f1,f2,f3,f4,f5⟩:=hf it (by simp)
  have hx:z.cps[i]?=none:=by
   have:z.cps.size<=i:=hg
   simp [this]
  rcases hty with rfl | rfl
  ·exact wpAny_pyNext_ascii_end (I.ok.hd hc) st hx λh' eb=>⟨rfl,I.turned (t':=s.toks) (λb o hb e=>eb b o hb e) f0 f1 f3 f4 f5⟩
  ·exact wpAny_pyNext_wide_end (I.ok.hd hc) st hx λh' eb=>⟨rfl,I.turned (t':=s.toks) (λb o hb e=>eb b o hb e) f0 f1 f3 f4 f5⟩
 self:=λA i s Q E st h=>by
  rcases hty with rfl | rfl
  ·exact wpAny_pyIter_striter_ascii st h
  ·exact wpAny_pyIter_striter_wide st h
section
variable {X:Cx}{tg:Expr}
def am(K:Frag)(tl:TE):TI:=λσ H R=>tl σ H λx H1 =>
 (∃a,x=.ref a/\(∃xs,SqL K H1 a xs)/\R (bC K a) H1)\/(∃a,x=.ref a/\(∃xs,SqT K H1 a xs)/\R (Yn K a) H1)\/∃z,x=.str z/\R (bB z) H1
theorem MN{l:cC}{tl:TE}(hl:PE X l tl):PI X tg l (am X.K tl):=by
 intro pins s σ H R I h;refine thn (hl pins s σ H _ I h) λv s1 ⟨x,H1,I1,r1,q1⟩=>?_
 have hne:∀b,b∈[s1.heap.objs.size]->HN X pins H1 b:=λb hb=>by
  have e:b=s1.heap.objs.size:=by simpa using hb
  subst e;exact I1.fpOk (Rs _) (I1.hok.fresh (Rs _))
 rcases q1 with ⟨a,e,⟨xs,hq⟩,q⟩ | ⟨a,e,⟨xs,hq⟩,q⟩ | ⟨z,e,q⟩
 ·subst e
  cases r1;obtain⟨its,rv,p,hz⟩:=I1.list hq;refine dW p.isList ?_;exact⟨s1.heap.objs.size,[s1.heap.objs.size],_,_,H1,rfl,I1.kept (t':=s1.toks) λb o e=>FM _ e,RB a _,⟨_,Uf _ rfl,rfl,rfl⟩,hne,q⟩
 ·subst e
  cases r1;obtain⟨its,rv,p,hz⟩:=I1.tuple hq;refine dI (show s1.heap.IsTuple a its.toArray from p) ?_;exact⟨s1.heap.objs.size,[s1.heap.objs.size],_,_,H1,rfl,I1.kept (t':=s1.toks) λb o e=>FM _ e,JP a _,⟨_,Uf _ rfl,rfl,rfl⟩,hne,q⟩
 ·subst e
  obtain⟨t,rfl⟩:=r1;cases ha:z.cps.all (·<128)
  ·refine wpAny_pyIter_wide ha ?_
   exact⟨s1.heap.objs.size,[s1.heap.objs.size],_,_,H1,rfl,I1.kept (t':=s1.toks) λb o e=>FM _ e,NV _ z t "str_iterator" (.inr rfl) (λA' hA=>Walks.strWide hA _ z t),⟨_,Uf _ rfl,rfl,rfl⟩,hne,q⟩
  ·refine wpAny_pyIter_ascii ha ?_
   exact⟨s1.heap.objs.size,[s1.heap.objs.size],_,_,H1,rfl,I1.kept (t':=s1.toks) λb o e=>FM _ e,NV _ z t "str_ascii_iterator" (.inl rfl) (λA' hA=>Walks.strAscii hA _ z t),⟨_,Uf _ rfl,rfl,rfl⟩,hne,q⟩
end
section
variable {X:Cx}
theorem K6(bs:List Bool):((cF bs.length).all λi=>(bs[i]?).getD true)=bs.all id:=by
 induction bs with
 | nil=>rfl
 | cons b r ih =>
  rw [ZB,iz,gP,gj,gP];simp only [List.getElem?_cons_zero,Option.getD_some,id_eq]
  congr 1
theorem Kk(hc:X.calm=true):C7 X (.builtin "all") (λxs H Q=>∃(p:Db) (bs:List Bool),xs=[.ref p]/\SqL X.K H p (bs.map V.bl)/\Q (.bl (bs.all id)) H):=by
 intro pins s σ H xs us Q I r h;obtain⟨p,bs,rfl,hq,q⟩:=h;obtain⟨u,rfl,rx⟩:=vals1 r;cases rx;obtain⟨its,r',pl,hz⟩:=I.list hq;have hlen:=r'.length;have hl:s.heap.IsList p its.toArray:=pl.isList;have hlt:p<s.heap.objs.size:=by obtain⟨_,e,_⟩:=id hl; exact XV e
 refine call_all_walk (dW hl ?_)
 refine⟨s.heap.objs.size,[s.heap.objs.size,p],[s.heap.objs.size],its.toArray.size,_,_,λi=>(bs[i]?).getD true,rfl,Walks.list (A:=X.A.in1) (I.ok.hd hc) _ p (b8 hlt) its.toArray,
  ⟨⟨_,Uf _ rfl,rfl,rfl⟩,hl.push _⟩,λi v s' Q' E' hP hQ=>?_,λh' tk hk=>?_⟩
 ·have hv:its[i]?=some v:=by simpa using hP
  have hb:∃b,bs[i]?=some b:=by
   have hi:i<its.length:=(bh.mp hv).1;rw [No] at hlen;exact⟨bs[i]'(by omega),Go (by omega)⟩
  obtain⟨b,eb⟩:=hb;obtain⟨u,eu,ru⟩:=r'.get (i:=i) (x:=.bl b) (by rw [bv,eb]; rfl);rw [hv] at eu;cases eu;cases ru;simp only [eb,Option.getD_some] at hQ;exact eN hQ
 ·have e:((cF its.toArray.size).all λi=>(bs[i]?).getD true)=bs.all id:=by
   rw [UF,← hlen,No]; exact K6 bs
  rw [e];exact⟨.bl _,H,I.kept (t':=tk) λb x e=>hk b x (λhm=>by rw [Re.mp hm] at e; exact cy _ (XV e)) (FM _ e),rfl,q⟩
theorem Oh:C7 X (.builtin "isinstance") (λxs H Q=>∃x T t b,xs=[x,.ty T]/\GW X.K H x t/\PySem.W.kitOne X.K t (.type T)=some b/\Q (.bl b) H):=by
 intro pins s σ H xs us Q I r h;obtain⟨x,T,t,b,rfl,ty,e,q⟩:=h;obtain⟨u,w',rfl,rx,rt⟩:=vals2 r;cases rt;exact R9 I rx ty e λtk=>⟨.bl b,H,I.tok _,rfl,q⟩
theorem Ra:OpR X (compareOp .LtE) (λx y H Q=>∃i j,x=.str i/\y=.str j/\Q (.bl (!(j.cps.toList<i.cps.toList))) H):=by
 intro pins s σ H x y v u Q I rx ry h;obtain⟨i,j,rfl,rfl,q⟩:=h;obtain⟨t,rfl⟩:=rx;obtain⟨t',rfl⟩:=ry;exact PySem.P.le_str ⟨.bl _,H,I,rfl,q⟩
theorem JY{ys:List Str}:∀{us:List Ev},Vals (ys.map V.str) us->StrsAre us ys:=by
 induction ys with
 | nil=>intro us r; rw [fJ] at r; cases r; exact .nil
 | cons n ns ih =>
  intro us r;rw [bm] at r;cases r with
  | cons r1 r2 =>
   obtain⟨t,e⟩:=r1;subst e;exact .cons n t (ih r2)
theorem Vm:Z2 X "str.join" (λx xs H Q=>∃(z:Str) (p:Db) (ys:List Str),x=.str z/\xs=[.ref p]/\SqL X.K H p (ys.map V.str)/\(ys.map (·.length)).sum+ys.length*z.length<=16777216/\Q (.str (Txt.join z ys)) H):=by
 intro pins s σ H x xs v us Q I rx rv h;obtain⟨z,p,ys,rfl,rfl,hq,hz,q⟩:=h;obtain⟨t,rfl⟩:=rx;obtain⟨u,rfl,ru⟩:=vals1 rv;cases ru;obtain⟨its,r',pl,_⟩:=I.list hq;exact join_list pl.isList (JY r') hz λt' k=>⟨.str _,H,I.tok _,⟨_,rfl⟩,q⟩
theorem Xe:SlR X (λx lo hi H Q=>∃z,x=.str z/\z.length<=sizeLine/\Q (.str (Txt.slice z lo hi)) H):=by
 intro pins s σ H x v vl vu lo hi sl Q I rx hs pl pu h;obtain⟨z,rfl,hz,q⟩:=h;obtain⟨t,rfl⟩:=rx;refine⟨"str",_,F.slot_str_getitem.lookup,gA _ _ _,?_⟩;have fin:∀t' k,EP X pins σ Q (.str (Txt.slice z lo hi) t') { s with toks:=k }:=λt' k=>⟨.str _,H,I.tok _,⟨_,rfl⟩,q⟩;cases pl with
 | none =>
  cases pu with
  | none=>exact fO (l:=none) (u:=none) (st:=none) hs rfl (gk ⟨cG (Txt.slice_le z _ _) hz,λt' k=>fin t' k⟩)
  | int j tj=>exact fO (l:=none) (u:=some (j,tj)) (st:=none) hs rfl (gk ⟨cG (Txt.slice_le z _ _) hz,λt' k=>fin t' k⟩)
 | int i ti =>
  cases pu with
  | none=>exact fO (l:=some (i,ti)) (u:=none) (st:=none) hs rfl (gk ⟨cG (Txt.slice_le z _ _) hz,λt' k=>fin t' k⟩)
  | int j tj=>exact fO (l:=some (i,ti)) (u:=some (j,tj)) (st:=none) hs rfl (gk ⟨cG (Txt.slice_le z _ _) hz,λt' k=>fin t' k⟩)
theorem RY(hu:X.A.units<cLine):OpR X (compareOp .NotEq) (λx y H Q=>∃a b xs,x=.ref a/\y=.ref b/\SqL X.K H a xs/\SqL X.K H b []/\Q (.bl (!xs.isEmpty)) H):=by
 intro pins s σ H x y v u Q I rx ry h;obtain⟨a,b,xs,rfl,rfl,ha,hb,q⟩:=h;cases rx;cases ry;obtain⟨its,r1,p1,_⟩:=I.list ha;obtain⟨its2,r2,p2,_⟩:=I.list hb;cases r2;cases r1 with
 | nil=>exact SeqAt.RcNeAt.lists (e:=λ_=>true) p1.isList p2.isList rfl hu (λj h1 h2=>absurd h1 (by simp)) X.prog X.w X.xe _ ⟨.bl _,H,I,rfl,q⟩
 | cons r1 r2=>exact SeqAt.RcNeAt.lists_lengths p1.isList p2.isList (by simp) hu X.prog X.w X.xe _ ⟨.bl _,H,I,rfl,q⟩
end
end L2
namespace Dp
open PySem PySem.Spec PyProof.Rows L2
def Zw(K:Frag)(F:Option (Db×Db))(U V' M:Db->Prop)(H:Hp)(n:Nat)(ss:List Slot)(vs:List V):Prop :=
 (∀a,M a->∃o,H a=some o)/\(∀f,F=some f->U f.1)/\(∀a,U a->V' a)/\(∀a,V' a->M a)/\FeedC K F M H n/\Paired (L1 K F V' M H) vs ss
abbrev W2:=List Slot->Nat->(D->Nat->Prop)->Prop
def DY(K:Frag)(κ:Kd)(W:W2)(np:Nat):Sp:=λvs H Q _=>vs.length=np/\∃(F:Option (Db×Db)) (U V' M:Db->Prop) (n:Nat) (ss:List Slot) (P:D->Nat->Prop),Zw K F U V' M H n ss vs/\W ss n P /\
 ∀v H' d n',Ext U H H'->FeedC K F M H' n'->VR K V' M H H' κ v d->P d n'->Q v H'
def AG(w:DW):Nat->List Slot->(Slot->Nat->Prop)->Prop:=λn ρ P=>w n ρ λd n1=>P (.sh d) n1
def EC(w:DW):Nat->List Slot->(Slot->Nat->Prop)->Prop:=λn ρ P=>w n ρ λd n1=>P (.br d) n1
def BH(i:Nat):Nat->List Slot->(Slot->Nat->Prop)->Prop:=λn ρ P=>match ρ[i]? with
 | some .fd=>P .fd n
 | _=>False
def AW:Yp:=λn _ P=>P [] n
def AC(w:Nat->List Slot->(Slot->Nat->Prop)->Prop)(ws:Yp):Yp:=λn ρ P=>w n ρ λs n1=>ws n1 ρ λss n2=>P (s::ss) n2
def AV(W:W2)(was:Yp):DW:=λn ρ P=>was n ρ λss n1=>W ss n1 P
section
variable {X:Cx}{a b c e:Expr}{es:List Expr}{κ κa κb:Kd}{wa wb wc:DW}{pos:Pos}{w1:Nat->List Slot->(Slot->Nat->Prop)->Prop}{was:Yp}{ws:Ee}
theorem AM(h:DE X e κ wa)(hk:κ≠.tp:=by intro z; cases z):aM X e (AG wa):=by
 obtain⟨t,h1,h2⟩:=h;refine⟨t,h1,λC M H n ρ σ P Q R w q=>h2 C M H n ρ σ _ _ R w λv H' d n' e f r p=>?_⟩;exact q v H' (.sh d) n' e f ⟨⟨v,rfl,r.shOf R.dom hk⟩,rfl⟩ p
theorem Lg(h:DE X e κ wa):aM X e (EC wa):=by
 obtain⟨t,h1,h2⟩:=h;refine⟨t,h1,λC M H n ρ σ P Q R w q=>h2 C M H n ρ σ _ _ R w λv H' d n' e f r p=>?_⟩;exact q v H' (.br d) n' e f ⟨⟨v,rfl,r.tpOf R.dom R.vM⟩,rfl⟩ p
theorem Bz(i:Nat){x:Str}{pos:Pos}(hN:X.N[i]?=some x:=by rfl)(hv:Yh X.env.scope x:=by first | exact be rfl | exact di (be rfl) | exact di (di rfl))(hd:(x==("__debug__":Str))=false:=by decide)
  (hcd:(x==("__classdict__":Str))=false:=by decide):aM X (.Name x pos) (BH i):=by
 refine⟨_,MP hN hv hd hcd,λC M H n ρ σ P Q R w q=>?_⟩;unfold BH at w
 split at w
 ·rename_i hd
  obtain⟨f,e1,h1⟩:=R.sl i _ hd;exact⟨.ref f.1,getD_some e1,q _ H .fd n (Ext.refl _ _) R.feed ⟨⟨f,rfl,h1⟩,rfl⟩ w⟩
 ·exact w.elim
theorem AO:Z5 X [] AW:=⟨_,DD,λC M H n ρ σ P Q R w q=>q [] H [] n (Ext.refl _ _) R.feed .nil w⟩
theorem AA(ha:aM X e w1)(hr:Z5 X es was)(hs:starEach (e::es) X.env=(false,eval e X.env)::starEach es X.env:=by rfl):Z5 X (e::es) (AC w1 was):=by
 obtain⟨t,h1,h2⟩:=ha;obtain⟨u,g1,g2⟩:=hr;refine⟨_,Bt h1 g1 hs,λC M H n ρ σ P Q R w q=>?_⟩;refine h2 C M H n ρ σ _ _ R w λv H1 d n1 e1 f1 r1 p=>?_;have R1:=R.step e1 f1;refine g2 C M H1 n1 ρ σ _ _ R1 p λvs H2 ds n2 e2 f2 r2 p2=>?_;exact q (v::vs) H2 (d::ds) n2 (e1.trans e2) f2 (.cons ⟨r1.1.pres (R1.pres e2) (λ_ z=>z) e2 R.uV,r1.2⟩ r2) p2
theorem WK{k:Nat}{f:Db}{fd:bo}{ps:List Str}{W:W2}{x:Str}{p:Pos}(G:BG X.prog X.w X.K X.mg X.base CP k f fd ps (DY X.K κ W ps.length))(hW:∀ss n P,W ss n P->ss.length=ps.length)
  (hr:Room k X.A) (hg:Gl X x) (hm:X.mg x=some (.ref f)) (hk:keepIn X.K (.ref f)=true) (hb:Binds X.K fd ps []) (ha:Z5 X (e::es) was)
  (hdb:(x==("__debug__":Str))=false:=by decide) (he:starEach (e::es) X.env=(false,eval e X.env)::starEach es X.env:=by rfl) (hpl:(backTo pos (starEach es X.env)).any (·.1)=false:=by rfl) :
  DE X (.Call (.Name x p) (e::es) [] pos) κ (AV W was):=by
 obtain⟨t,h1,h2⟩:=ha;refine⟨_,QK G hr hg hm hk hb .nil Wz h1 hdb he hpl,λC M H n ρ σ P Q R w q=>?_⟩;refine h2 C M H n ρ σ _ _ R w λvs H1 ss n1 e1 f1 r1 p=>?_;have R1:=R.step e1 f1;show DY X.K κ W ps.length (vs++[]) H1 Q E0;rw [cH];refine⟨(Paired.length r1).trans (hW _ _ _ p),C.F,C.U,C.V,M,n1,ss,P,⟨R1.dom,R1.fU,R1.uV,R1.vM,f1,r1⟩,p,λv H2 d n2 e2 f2 r2 p2=>?_⟩;exact q v H2 d n2 (e1.trans e2) f2 (VR.back e1 r2) p2
def bP(K:Frag)(κ:Kd)(T:String)(r:V->List V->Hp->VK->Prop)(f:D->List D->(D->Prop)->Prop):Prop:=∀(U:Db->Prop) (M:Db->Prop) (H:Hp) (d:D) (ds:List D) (x:V) (vs:List V) (P:D->Prop) (Q:VK),(∀a,M a->∃o,H a=some o)->(∀a,U a->M a) ->
 AtT K U M H d x->Paired (λv d=>AtT K U M H d v) vs ds->f d ds P->(∀v H' z,Grow H H'->VR K U M H H' κ v z->P z->Q v H')->r x vs H Q
def aj(T:String)(d:D):Prop:=match d with
 | .str _=>T = "str"
 | .int _=>T = "int"
 | .lst _=>T = "list"
 | _=>False
def aN(T:String)(f:D->List D->(D->Prop)->Prop)(wo:DW)(ws:Ee):DW:=λn ρ P=>wo n ρ λd n1=>aj T d/\ws n1 ρ λds n2=>f d ds λz=>P z n2
theorem UG{T:String}{K:Frag}{U:Db->Prop}{M:Db->Prop}{H:Hp}{d:D}{x:V}(h:aj T d)(hx:AtT K U M H d x):aO K T x H:=by
 cases d with
 | str z=>obtain⟨e,_⟩:=hx; subst e; exact h
 | int i=>cases (show x=.int i from hx); exact h
 | lst ds=>obtain⟨a,vs,e,_,hq,_⟩:=hx; subst e; exact .inl ⟨h,vs,.inl hq⟩
 | _=>exact(show False from h).elim
theorem Zp{name:Str}{apos cpos:Pos}{T id:String}{r:V->List V->Hp->VK->Prop}{f:D->List D->(D->Prop)->Prop}(pa:PlainAttrs T)(slot:PySem.Slot T name id)(hty:typeOf (.builtin id)=pure (.type "method_descriptor"))(hm:Z2 X id r)
  (hA:bP X.K κ T r f) (ho:DE X a κa wa) (ha:U_ X (e::es) ws)
  (hbase:attributeBase a name X.env (eval a X.env)=eval a X.env:=by rfl)
  (hfew:((backTo cpos (starEach (e::es) X.env)).all (λx=>!x.1)&&(backToKw cpos (keywordEach [] X.env)).all (λx=>x.1.isSome)
   && decide ((e::es).length+([]:List gB).length+(if ([]:List gB).isEmpty then 0 else 1)<30))=true:=by rfl)
  (hline:(apos.endLine==cpos.line)=true:=by rfl) (hs:starEach (e::es) X.env=(false,eval e X.env)::starEach es X.env:=by rfl) (hplain:(backTo cpos (starEach es X.env)).any (·.1)=false:=by rfl) :
  DE X (.Call (.Attribute a name apos) (e::es) [] cpos) κ (aN T f wa ws):=by
 obtain⟨t,h1,h2⟩:=ho;obtain⟨u,g1,g2⟩:=ha;refine⟨_,Wy pa slot hty hm h1 g1 hbase hfew hline hs hplain,λC M H n ρ σ P Q R w q=>?_⟩;refine h2 C M H n ρ σ _ _ R w λx H1 d n1 e1 f1 r1 p=>?_;have R1:=R.step e1 f1;have tx:=r1.tpOf R.dom R.vM;refine⟨UG p.1 tx,?_⟩;refine g2 C M H1 n1 ρ σ _ _ R1 p.2 λvs H2 ds n2 e2 f2 r2 p2=>?_;have R2':=R1.step e2 f2;refine hA C.V M H2 d ds x vs _ _ R2'.dom R2'.vM (tx.pres (R1.pres e2) e2 R.uV) r2 p2 λv H3 z g vr pz=>?_;exact q v H3 z n2 ((e1.trans e2).trans g.ext) (f2.grow g) (VR.back (e1.trans e2) vr) pz
def DO(X:Cx)(e:Option cC)(w:Nat->List Slot->(Option Int->Nat->Prop)->Prop):Prop:=∃t,PO X e t/\∀(C:Fm) (M:Db->Prop) (H:Hp) (n:Nat) (ρ:List Slot) (σ:L2.St) (P:Option Int->Nat->Prop) (Q:Option Int->Hp->Prop),Rel X.K C M H n ρ σ->w n ρ P ->
 (∀o H' n',Ext C.U H H'->FeedC X.K C.F M H' n'->P o n'->Q o H')->t σ H Q
def Br:Nat->List Slot->(Option Int->Nat->Prop)->Prop:=λn _ P=>P none n
def B8(w:DW):Nat->List Slot->(Option Int->Nat->Prop)->Prop:=λn ρ P=>w n ρ λd n1=>match d with
 | .int i=>P (some i) n1
 | _=>False
theorem C9:DO X none Br:=⟨_,QI,λC M H n ρ σ P Q R w q=>q none H n (Ext.refl _ _) R.feed w⟩
theorem Mh{U:Db->Prop}{K:Frag}{M:Db->Prop}{H H':Hp}{v:V}{i:Int}(h:VR K U M H H' κ v (.int i)):v=.int i:=by
 cases κ with
 | sh=>exact h
 | tp=>exact h
 | fr=>obtain⟨a,_,_,t⟩:=h; exact(show False from t).elim
theorem Bw(h:DE X e κ wa):DO X (some e) (B8 wa):=by
 obtain⟨t,h1,h2⟩:=h;refine⟨_,QH h1,λC M H n ρ σ P Q R w q=>?_⟩;refine h2 C M H n ρ σ _ _ R w λv H1 d n1 e1 f1 r1 p=>?_;cases d with
 | int i=>exact⟨i,Mh r1,q _ H1 n1 e1 f1 p⟩
 | _=>exact p.elim
def bL(K:Frag)(κ:Kd)(r:V->Option Int->Option Int->Hp->VK->Prop)(f:D->Option Int->Option Int->(D->Prop)->Prop):Prop:=∀(U:Db->Prop) (M:Db->Prop) (H:Hp) (d:D) (x:V) (lo hi:Option Int) (P:D->Prop) (Q:VK),(∀a,M a->∃o,H a=some o)->(∀a,U a->M a) ->
 AtT K U M H d x->f d lo hi P->(∀v H' z,Grow H H'->VR K U M H H' κ v z->P z->Q v H')->r x lo hi H Q
def NQ(f:D->Option Int->Option Int->(D->Prop)->Prop)(w:DW)(wl wh:Nat->List Slot->(Option Int->Nat->Prop)->Prop):DW:=λn ρ P=>w n ρ λd n1=>wl n1 ρ λlo n2=>wh n2 ρ λhi n3=>f d lo hi λz=>P z n3
theorem FA{lo hi:Option cC}{p2:Pos}{r:V->Option Int->Option Int->Hp->VK->Prop}{f:D->Option Int->Option Int->(D->Prop)->Prop}{wl wh:Nat->List Slot->(Option Int->Nat->Prop)->Prop}(hr:SlR X r)(hA:bL X.K κ r f)(he:DE X e κa wa)(hl:DO X lo wl)(hh:DO X hi wh) :
  DE X (.Subscript e (.Slice lo hi none p2) pos) κ (NQ f wa wl wh):=by
 obtain⟨t,h1,h2⟩:=he;obtain⟨u,g1,g2⟩:=hl;obtain⟨u',k1,k2⟩:=hh;refine⟨_,Nq hr h1 g1 k1,λC M H n ρ σ P Q R w q=>?_⟩;refine h2 C M H n ρ σ _ _ R w λv H1 d n1 e1 f1 r1 p=>?_;have R1:=R.step e1 f1;have tv:=r1.tpOf R.dom R.vM;refine g2 C M H1 n1 ρ σ _ _ R1 p λlo H2 n2 e2 f2 p2=>?_;have R2':=R1.step e2 f2;refine k2 C M H2 n2 ρ σ _ _ R2' p2 λhi H3 n3 e3 f3 p3=>?_;have R3:=R2'.step e3 f3;refine hA C.V M H3 d v lo hi _ _ R3.dom R3.vM ((tv.pres (R1.pres e2) e2 R.uV).pres (R2'.pres e3) e3 R.uV) p3 λv H4 z g vr pz=>?_;exact q v H4 z n3 (((e1.trans e2).trans e3).trans g.ext) (f3.grow g) (VR.back ((e1.trans e2).trans e3) vr) pz
end
structure E2 where
 nx:Nat->List Slot->Prop
 rt:D->Nat->Prop
 bk:Nat->List Slot->Prop:=λ_ _=>False
 ct:Nat->List Slot->Prop:=λ_ _=>False
abbrev Af:=E2->Nat->List Slot->Prop
structure U2 (K:Frag) (C:Fm) (κ:Kd) (D2:E2) (E:Ends):Prop where
 nx:∀M H n ρ σ,Rel K C M H n ρ σ->D2.nx n ρ->E.nx σ H
 rt:∀v H d n,Ext C.U C.H0 H->FeedC K C.F C.M0 H n->VR K C.V C.M0 C.H0 H κ v d->D2.rt d n->E.rt v H
 bk:∀M H n ρ σ,Rel K C M H n ρ σ->D2.bk n ρ->E.bk σ H
 ct:∀M H n ρ σ,Rel K C M H n ρ σ->D2.ct n ρ->E.ct σ H
def DS(X:Cx)(κ:Kd)(st:cS)(w:Af):Prop:=∃t,PS X st t/\∀(C:Fm) (M:Db->Prop) (H:Hp) (n:Nat) (ρ:List Slot) (σ:L2.St) (D2:E2) (E:Ends),Rel X.K C M H n ρ σ->U2 X.K C κ D2 E->w D2 n ρ->t E σ H
def Q6(X:Cx)(κ:Kd)(st:List cS)(w:Af):Prop:=∃t,PSs X st t/\∀(C:Fm) (M:Db->Prop) (H:Hp) (n:Nat) (ρ:List Slot) (σ:L2.St) (D2:E2) (E:Ends),Rel X.K C M H n ρ σ->U2 X.K C κ D2 E->w D2 n ρ->t E σ H
def A9:Af:=λD2 n ρ=>D2.nx n ρ
def AZ(u v:Af):Af:=λD2 n ρ=>u { D2 with nx:=v D2 } n ρ
def Av(w:DW):Af:=λD2 n ρ=>w n ρ λd n1=>D2.rt d n1
def BP(t:Ij)(u v:Af):Af:=λD2 n ρ=>t n ρ λc n1=>if c=true then u D2 n1 ρ else v D2 n1 ρ
def Ax(i:Nat)(w:DW):Af:=λD2 n ρ=>w n ρ λd n1=>D2.nx n1 (ρ.set i (.sh d))
section
variable {X:Cx}{κ κe:Kd}{st:Stmt}{rest:List Stmt}{u v:Af}{wa:DW}{wA:Ij}{e c:Expr}{pos:Pos}
theorem Ar:Q6 X κ [] A9:=⟨_,ML,λC M H n ρ σ D2 E R L w=>L.nx M H n ρ σ R w⟩
theorem AE(h1:DS X κ st u)(h2:Q6 X κ rest v):Q6 X κ (st::rest) (AZ u v):=by
 obtain⟨t,a1,a2⟩:=h1;obtain⟨t',b1,b2⟩:=h2;refine⟨_,BL a1 b1,λC M H n ρ σ D2 E R L w=>?_⟩;exact a2 C M H n ρ σ { D2 with nx:=v D2 } { E with nx:=t' E } R ⟨λM H n ρ σ R w=>b2 C M H n ρ σ D2 E R L w,L.rt,L.bk,L.ct⟩ w
theorem AK(h1:DS X κ st u):Q6 X κ [st] u:=by
 obtain⟨t,a1,a2⟩:=h1;exact⟨t,De a1,a2⟩
theorem Xh{K:Frag}{C:Fm}{M:Db->Prop}{H H':Hp}{n n':Nat}{ρ:List Slot}{σ:L2.St}{D2:E2}{E:Ends}{d:D}{v:V}(R:Rel K C M H n ρ σ)(L:U2 K C κ D2 E)(e:Ext C.U H H')(f:FeedC K C.F M H' n')(r:VR K C.V M H H' κ v d)(hk:κ≠.tp)(p:D2.rt d n'):E.rt v H':=by
 have less:Pres M H' C.M0 H':=Pres.less R.sub;refine L.rt v H' d n' (R.ext.trans e) (f.pres less λ_ _ _ z=>z) ?_ p;cases κ with
 | sh=>exact At.pres less r
 | tp=>exact absurd rfl hk
 | fr =>
  have r':=VR.back (κ:=.fr) R.ext r;obtain⟨a,e1,h1,h2⟩:=r';exact⟨a,e1,h1,h2.pres (Pres.less λb z=>z.imp (R.sub b) id) λ_ z=>z⟩
theorem Ad(h:DE X e κ wa)(hk:κ≠.tp:=by intro z; cases z):DS X κ (.Return (some e) pos) (Av wa):=by
 obtain⟨t,a1,a2⟩:=h;refine⟨_,GF a1,λC M H n ρ σ D2 E R L w=>?_⟩;exact a2 C M H n ρ σ _ _ R w λv H' d n' e1 f1 r1 p=>Xh R L e1 f1 r1 hk p
theorem BI{a b:List cS}(hc:DT X c wA)(ha:Q6 X κ a u)(hb:Q6 X κ b v):DS X κ (.If c a b pos) (BP wA u v):=by
 obtain⟨t,a1,a2⟩:=hc;obtain⟨t',b1,b2⟩:=ha;obtain⟨t'',c1,c2⟩:=hb;refine⟨_,TV a1 b1 c1,λC M H n ρ σ D2 E R L w=>?_⟩;refine a2 C M H n ρ σ _ _ R w λb H1 n1 e1 f1 p=>?_;cases b with
 | true=>exact b2 C M H1 n1 ρ σ D2 E (R.step e1 f1) L p
 | false=>exact c2 C M H1 n1 ρ σ D2 E (R.step e1 f1) L p
theorem Am{i:Nat}{x:Str}{pos':Pos}(hN:X.N.Nodup)(hi:X.N[i]?=some x)(hx:Loc X.env.scope x)(he:DE X e κe wa)(hk:κe≠.tp:=by intro z; cases z)(hs:swapsWith e (some (.Name x pos')) pos.line X.env=pure false:=by rfl)
  (hf:X.fn x=true\/X.env.scope.names.lookup x=some .local:=by first | exact .inl rfl | exact .inr rfl | assumption):DS X κ (.Assign [.Name x pos'] e pos) (Ax i wa):=by
 obtain⟨t,a1,a2⟩:=he;refine⟨_,E3 hN hi hx a1 hs hf,λC M H n ρ σ D2 E R L w=>?_⟩;refine a2 C M H n ρ σ _ _ R w λv H' d n' e1 f1 r1 p=>?_;exact L.nx M H' n' _ _ ((R.step e1 f1).set (r1.shOf R.dom hk)) p
end
section
variable {X:Cx}{κ κe:Kd}{e:Expr}{wa:DW}{pos:Pos}
def DV(i:Nat)(w:DW):Af:=λD2 n ρ=>w n ρ λd n1=>D2.nx n1 (ρ.set i (.ow d))
theorem CM{i:Nat}{x:Str}{pos':Pos}(hN:X.N.Nodup)(hi:X.N[i]?=some x)(hx:Loc X.env.scope x)(he:DE X e .fr wa)(hs:swapsWith e (some (.Name x pos')) pos.line X.env=pure false:=by rfl)
  (hf:X.fn x=true\/X.env.scope.names.lookup x=some .local:=by first | exact .inl rfl | exact .inr rfl | assumption):DS X κ (.Assign [.Name x pos'] e pos) (DV i wa):=by
 obtain⟨t,a1,a2⟩:=he;refine⟨_,E3 hN hi hx a1 hs hf,λC M H n ρ σ D2 E R L w=>?_⟩;refine a2 C M H n ρ σ _ _ R w λv H' d n' e1 f1 r1 p=>?_;obtain⟨a,rfl,h1,h2⟩:=r1;exact L.nx _ H' n' _ _ (R.setOw e1 f1 h1 h2) p
def Yy(i:Nat)(w:Af):Af:=λD2 n ρ=>∃d,ρ[i]?=some (.ow d)/\w D2 n (ρ.set i (.sh d))
theorem YH{K:Frag}{C:Fm}{M:Db->Prop}{H:Hp}{n:Nat}{ρ:List Slot}{σ:L2.St}{i:Nat}{d:D}(R:Rel K C M H n ρ σ)(hi:ρ[i]?=some (.ow d)):∃M',Rel K C M' H n (ρ.set i (.sh d)) σ:=by
 obtain⟨a,e1,_⟩:=R.sl i _ hi;exact⟨_,R.freeze hi e1⟩
theorem V9{st:List cS}{w:Af}(i:Nat)(h:Q6 X κ st w):Q6 X κ st (Yy i w):=by
 obtain⟨t,a1,a2⟩:=h;refine⟨t,a1,λC M H n ρ σ D2 E R L ⟨d,hd,hw⟩=>?_⟩;obtain⟨M',R'⟩:=YH R hd;exact a2 C M' H n _ σ D2 E R' L hw
def NR(i:Nat):Af:=λD2 n ρ=>∃d,ρ[i]?=some (.ow d)/\D2.rt d n
theorem Ql{x:Str}{p:Pos}(i:Nat)(h:PE X (.Name x p) (B3 i)):DS X .fr (.Return (some (.Name x p)) pos) (NR i):=by
 refine⟨_,GF h,λC M H n ρ σ D2 E R L ⟨d,hd,hw⟩=>?_⟩;obtain⟨a,e1,m,nv,t⟩:=R.sl i _ hd;refine⟨.ref a,getD_some e1,L.rt _ H d n R.ext (R.feed.pres (Pres.less R.sub) λ_ _ _ z=>z) ⟨a,rfl,(R.new i _ a hd rfl e1).2,?_⟩ hw⟩;exact t.pres (Pres.less λb z=>z.elim (R.sub b) λz=>by rw [z]; exact m) λ_ z=>z
def WV(K:Frag)(r:V->List V->Hp->VK->Prop)(f:D->List D->(D->D->Prop)->Prop):Prop:=∀(M:Db->Prop) (H:Hp) (a:Db) (d:D) (ds:List D) (vs:List V) (P:D->D->Prop) (Q:VK),M a->Tops K M H a d->Ats K M H ds vs->f d ds P ->
 (∀o e z v,Tops K M (BC H a o) a e->At K M (BC H a o) z v->P e z->Q v (BC H a o))->r (.ref a) vs H Q
def Oy(i:Nat)(T:String)(f:D->List D->(D->D->Prop)->Prop)(ws:Ee):Af:=λD2 n ρ=>∃d,ρ[i]?=some (.ow d)/\aj T d/\ws n ρ λds n1=>f d ds λe _=>D2.nx n1 (ρ.set i (.ow e))
theorem EK{M:Db->Prop}{H:Hp}{a:Db}{o u:HO}(m:M a)(e:H a=some u)(t:∀vs,u≠.tup vs:=by intro _ z; cases z):Pres M H M (BC H a o):=⟨λb o' q nb=>by rw [AU (λz=>nb (by rw [z]; exact m))]; exact q,λ_ z=>.inl z,λb vs q=>by rw [AU (λz=>by rw [z,e] at q; exact t vs (bg q))]; exact q⟩
theorem Fp{x name:Str}{p apos cpos:Pos}{T id:String}{r:V->List V->Hp->VK->Prop}{f:D->List D->(D->D->Prop)->Prop}{es:List cC}{ws:Ee}(i:Nat)(pa:PlainAttrs T)(slot:PySem.Slot T name id)(hty:typeOf (.builtin id)=pure (.type "method_descriptor"))
  (hm:Z2 X id r) (hA:WV X.K r f) (h:PE X (.Name x p) (B3 i)) (ha:Yq X (e::es) ws)
  (hbase:attributeBase (.Name x p) name X.env (eval (.Name x p) X.env)=eval (.Name x p) X.env:=by rfl)
  (hfew:((backTo cpos (starEach (e::es) X.env)).all (λx=>!x.1)&&(backToKw cpos (keywordEach [] X.env)).all (λx=>x.1.isSome)
   && decide ((e::es).length+([]:List gB).length+(if ([]:List gB).isEmpty then 0 else 1)<30))=true:=by rfl)
  (hline:(apos.endLine==cpos.line)=true:=by rfl) (hs:starEach (e::es) X.env=(false,eval e X.env)::starEach es X.env:=by rfl) (hplain:(backTo cpos (starEach es X.env)).any (·.1)=false:=by rfl)
  (hsw:swapsWith (.Call (.Attribute (.Name x p) name apos) (e::es) [] cpos) none pos.line X.env=pure false:=by rfl) :
  DS X κ (.Expr (.Call (.Attribute (.Name x p) name apos) (e::es) [] cpos) pos) (Oy i T f ws):=by
 obtain⟨t,a1,a2⟩:=ha;refine⟨_,VT (Wy pa slot hty hm h a1 hbase hfew hline hs hplain) hsw,λC M H n ρ σ D2 E R L ⟨d,hd,hT,hw⟩=>?_⟩;obtain⟨a,e1,m,nv,tt⟩:=R.sl i _ hd;refine⟨.ref a,getD_some e1,UG hT (tt.att nv),?_⟩;refine a2 C M H n ρ σ _ _ R hw λvs H1 ds n1 ee f1 r1 p=>?_;have R1:=R.step ee f1;obtain⟨a',e1',m',nv',tt'⟩:=R1.sl i _ hd;rw [e1] at e1';cases e1';exact hA M H1 a d ds vs _ _ m' tt' r1 p λo d' z v t2 hz pp=>L.nx M _ n1 _ σ (R1.mut hd e1 t2) pp
def Hv(d:D)(ds:List D)(P:D->D->Prop):Prop:=∃xs y,d=.lst xs/\ds=[y]/\xs.length<sizeLine/\P (.lst (xs++[y])) .non
theorem IP{K:Frag}:WV K QD Hv:=by
 intro M H a d ds vs P Q m t hv w q;obtain⟨xs,y,rfl,rfl,hl,w⟩:=w;obtain⟨us,h1,h2⟩:=t;obtain⟨u,r,rfl,hu,hr⟩:=hv;cases (show r=[] from hr);refine⟨a,us,u,rfl,rfl,h1,by rw [h2.length]; exact hl,q _ (.lst (xs++[y])) .non _ ⟨us++[u],Ai,?_⟩ rfl w⟩;exact(h2.append (Ats.one hu)).pres (EK m h1)
end
def Yields(K:Frag)(M:Db->Prop)(H:Hp)(J:It)(ds:List D):Prop:=∀(i:Nat) (M':Db->Prop) (H':Hp),Pres M H M' H'->(∀a,M' a->∃o,H' a=some o) ->
 (∀d,ds[i]?=some d->J.go i H'/\∀x H2,J.yld i H' x H2->Grow H' H2/\At K M' H2 d x)/\(ds.length<=i->J.stop i H')
def Qz(K:Frag)(U M:Db->Prop)(H:Hp)(J:It)(ds:List D):Prop:=∀(i:Nat) (M':Db->Prop) (H':Hp),Pres M H M' H'->Ext U H H'->(∀a,M' a->∃o,H' a=some o) ->
 (∀d,ds[i]?=some d->J.go i H'/\∀x H2,J.yld i H' x H2->Grow H' H2/\At K M' H2 d x)/\(ds.length<=i->J.stop i H')
theorem Yields.e{K:Frag}{U M:Db->Prop}{H:Hp}{J:It}{ds:List D}(h:Yields K M H J ds):Qz K U M H J ds:=λi M' H' p _ d=>h i M' H' p d
def Yv(X:Cx)(tg iter:cC)(w:Ee):Prop:=∃wi,PI X tg iter wi/\∀(C:Fm) (M:Db->Prop) (H:Hp) (n:Nat) (ρ:List Slot) (σ:L2.St) (P:List D->Nat->Prop) (R:It->Hp->Prop),Rel X.K C M H n ρ σ->w n ρ P ->
 (∀J H' ds n',Ext C.U H H'->FeedC X.K C.F M H' n'->Qz X.K C.U M H' J ds->P ds n'->R J H')->wi σ H R
def DI(X:Cx)(tg iter:cC)(w:Ee):Prop:=∃wi,PI X tg iter wi/\∀(C:Fm) (M:Db->Prop) (H:Hp) (n:Nat) (ρ:List Slot) (σ:L2.St) (P:List D->Nat->Prop) (R:It->Hp->Prop),Rel X.K C M H n ρ σ->w n ρ P ->
 (∀J H' ds n',Ext C.U H H'->FeedC X.K C.F M H' n'->Yields X.K M H' J ds->P ds n'->R J H')->wi σ H R
def signs(x:Str):List D:=x.cps.toList.map λc=>.str ⟨#[c]⟩
def BO(w:DW):Ee:=λn ρ P=>w n ρ λd n1=>match d with
 | .lst ds=>P ds n1
 | .tup ds=>P ds n1
 | .str x=>P (signs x) n1
 | _=>False
theorem NN{K:Frag}{M:Db->Prop}{H:Hp}{a:Db}{vs:List V}{ds:List D}(h:NdL M H a vs)(hs:Ats K M H ds vs):Yields K M H (bC K a) ds:=by
 intro i M' H' p _;have hq:SqL K H' a vs:=(h.pres p).sq;refine⟨λd hd=>?_,λhl=>⟨vs,hq,by rw [hs.length]; exact hl⟩⟩;obtain⟨v,e,hv⟩:=(hs.pres p).get hd;refine⟨⟨vs,v,hq,e⟩,λx H2 y=>?_⟩;obtain⟨e2,y⟩:=y;subst e2
 have:some v=some x:=e.symm.trans (y vs hq)
 cases this;exact⟨.refl,hv⟩
theorem JK{K:Frag}{M:Db->Prop}{H:Hp}{a:Db}{vs:List V}{ds:List D}(h:NdT M H a vs)(hs:Ats K M H ds vs):Yields K M H (Yn K a) ds:=by
 intro i M' H' p _;have hq:SqT K H' a vs:=(h.pres p).sq;refine⟨λd hd=>?_,λhl=>⟨vs,hq,by rw [hs.length]; exact hl⟩⟩;obtain⟨v,e,hv⟩:=(hs.pres p).get hd;refine⟨⟨vs,v,hq,e⟩,λx H2 y=>?_⟩;obtain⟨e2,y⟩:=y;subst e2
 have:some v=some x:=e.symm.trans (y vs hq)
 cases this;exact⟨.refl,hv⟩
theorem yields_str{K:Frag}{M:Db->Prop}{H:Hp}{z:Str}:Yields K M H (bB z) (signs z):=by
 intro i M' H' p _;refine⟨λd hd=>?_,λhl=>?_⟩
 ·unfold signs at hd
  rw [bv] at hd
  have hi:i<z.cps.size:=by
   cases q:z.cps.toList[i]? with
   | none=>rw [q] at hd; cases hd
   | some c=>simpa using (bh.mp q).1
  refine⟨hi,λx H2 y=>?_⟩;obtain⟨e2,c,hc,rfl⟩:=y;subst e2
  have:z.cps.toList[i]?=some c:=by simpa using hc
  rw [this] at hd;have hd':D.str ⟨#[c]⟩=d:=bg hd;subst hd';exact⟨.refl,rfl,by rw [cX]; show 1<=16777216; decide⟩
 ·show z.cps.size<=i
  unfold signs at hl
  simpa using hl
def Cv(lo:Int)(n:Nat):List D:=(cF n).map fun(i:Nat)=>.int (lo+(i:Int))
theorem GX{K:Frag}{M:Db->Prop}{H:Hp}{lo:Int}{m:Nat}:Yields K M H (Z3 lo m) (Cv lo m):=by
 intro i M' H' p _;refine⟨λd hd=>?_,λhl=>?_⟩
 ·unfold Cv at hd
  rw [bv] at hd
  have hi:i<m:=by
   cases q:(cF m)[i]? with
   | none=>rw [q] at hd; cases hd
   | some c=>simpa using (bh.mp q).1
  rw [List.getElem?_range hi] at hd;have hd':D.int (lo+i)=d:=bg hd;subst hd';refine⟨hi,λx H2 y=>?_⟩;obtain⟨e2,e3⟩:=y;subst e2;exact⟨.refl,e3⟩
 ·show m<=i
  unfold Cv at hl
  simpa using hl
section
variable {X:Cx}{tg e e2:Expr}{es:List Expr}{κ:Kd}{wa:DW}{ws:Ee}{p pos:Pos}
theorem Hz(h:DE X e κ wa)(hk:κ≠.tp:=by intro z; cases z):DI X tg e (BO wa):=by
 obtain⟨t,a1,a2⟩:=h;refine⟨_,MN a1,λC M H n ρ σ P Rr R w q=>?_⟩;refine a2 C M H n ρ σ _ _ R w λv H1 d n1 e1 f1 r1 p=>?_;have hv:=r1.shOf R.dom hk;cases d with
 | lst ds =>
  obtain⟨a,vs,e,hn,hs⟩:=hv;exact .inl ⟨a,e,⟨vs,hn.sq⟩,q _ H1 ds n1 e1 f1 (NN hn hs) p⟩
 | tup ds =>
  obtain⟨a,vs,e,hn,hs⟩:=hv;exact .inr (.inl ⟨a,e,⟨vs,hn.sq⟩,q _ H1 ds n1 e1 f1 (JK hn hs) p⟩)
 | str z=>exact .inr (.inr ⟨z,hv.1,q _ H1 _ n1 e1 f1 yields_str p⟩)
 | _=>exact p.elim
def EU(ws:Ee):Ee:=λn ρ P=>ws n ρ λds n1=>∃j:Int,ds=[.int j]/\(-(2 ^ 62)<=j/\j<2 ^ 62)/\P (Cv 0 j.toNat) n1
theorem Cc(hg:Gl X "range")(hm:X.mg "range"=none)(ha:U_ X [e] ws)(hs:starEach [e] X.env=[(false,eval e X.env)]:=by rfl):DI X tg (.Call (.Name "range" p) [e] [] pos) (EU ws):=by
 obtain⟨t,a1,a2⟩:=ha;refine⟨_,RS hg hm a1 hs,λC M H n ρ σ P Rr R w q=>?_⟩;refine a2 C M H n ρ σ _ _ R w λvs H1 ds n1 e1 f1 r1 p=>?_;obtain⟨j,rfl,hj,p⟩:=p;cases r1 with
 | cons r rr =>
  cases rr;have hv:_=V.int j:=r;exact⟨j,by rw [hv],hj.1,hj.2,q _ H1 _ n1 e1 f1 GX p⟩
theorem DI.c(h:DI X tg e ws):Yv X tg e ws:=by
 obtain⟨wi,a1,a2⟩:=h;exact⟨wi,a1,λC M H n ρ σ P Rr R w q=>a2 C M H n ρ σ P Rr R w λJ H' ds n' e1 f1 y p=>q J H' ds n' e1 f1 y.e p⟩
theorem CA(h:DE X e κ wa):Yv X tg e (BO wa):=by
 obtain⟨t,a1,a2⟩:=h;refine⟨_,MN a1,λC M H n ρ σ P Rr R w q=>?_⟩;refine a2 C M H n ρ σ _ _ R w λv H1 d n1 e1 f1 r1 p=>?_;have hv:AtT X.K C.V M H1 d v:=r1.tpOf R.dom R.vM;cases d with
 | lst ds =>
  obtain⟨a,vs,e,nv,hr,hs⟩:=hv;refine .inl ⟨a,e,⟨vs,.inl hr⟩,q _ H1 ds n1 e1 f1 (λi M' H' pr ex _=>?_) p⟩
  have hq:SqL X.K H' a vs:=by
   rcases hr with hr | ⟨o,hr⟩
   ·exact .inl (.inl (ex.keep hr λz=>nv (R.uV a z)))
   ·exact .inl (.inr ⟨o,ex.keep hr λz=>nv (R.uV a z)⟩)
  refine⟨λd hd=>?_,λhl=>⟨vs,hq,by rw [hs.length]; exact hl⟩⟩;obtain⟨v,e,hv⟩:=(hs.pres pr).get hd;refine⟨⟨vs,v,hq,e⟩,λx H2 y=>?_⟩;obtain⟨e2,y⟩:=y;subst e2
  have:some v=some x:=e.symm.trans (y vs hq)
  cases this;exact⟨.refl,hv⟩
 | tup ds =>
  obtain⟨a,vs,e,hn,hs⟩:=hv;exact .inr (.inl ⟨a,e,⟨vs,hn.sq⟩,q _ H1 ds n1 e1 f1 (JK hn hs).e p⟩)
 | str z=>exact .inr (.inr ⟨z,hv.1,q _ H1 _ n1 e1 f1 yields_str.e p⟩)
 | _=>exact p.elim
end
abbrev BW:=D->List Slot->(List Slot->Prop)->Prop
def DG(X:Cx)(tg:cC)(b:BW):Prop:=∃g,PG X tg g/\∀(C:Fm) (M:Db->Prop) (H:Hp) (n:Nat) (ρ:List Slot) (σ:L2.St) (d:D) (v:V) (P:List Slot->Prop) (Q:L2.St->Hp->Prop),Rel X.K C M H n ρ σ->At X.K M H d v->b d ρ P ->
 (∀ρ' σ',Rel X.K C M H n ρ' σ'->P ρ'->Q σ' H)->g v σ H Q
def Aa(i:Nat):BW:=λd ρ P=>P (ρ.set i (.sh d))
theorem AX{X:Cx}{i:Nat}{x:Str}{pos:Pos}(hN:X.N.Nodup)(hi:X.N[i]?=some x)(hx:Loc X.env.scope x)(hf:X.fn x=true\/X.env.scope.names.lookup x=some .local:=by first | exact .inl rfl | exact .inr rfl | assumption):DG X (.Name x pos) (Aa i) :=
 ⟨_,Gj hN hi hx hf,λC M H n ρ σ d v P Q R h w q=>q _ _ (R.set h) w⟩
def BR(b:BW)(body:Af)(D2:E2):List D->Nat->List Slot->Prop
 | [],n,ρ=>D2.nx n ρ
 | d::ds,n,ρ=>b d ρ λρ1=>body { D2 with nx:=BR b body D2 ds,ct:=BR b body D2 ds,bk:=D2.nx } n ρ1
def Dy(src:Ee)(b:BW)(body:Af):Af:=λD2 n ρ=>src n ρ λds n1=>BR b body D2 ds n1 ρ
theorem Rel.unpin{K:Frag}{C:Fm}{p:(Db->Prop)×Hp}{M:Db->Prop}{H:Hp}{n:Nat}{ρ:List Slot}{σ:L2.St}(R:Rel K { C with pins:=p::C.pins } M H n ρ σ):Rel K C M H n ρ σ :=
 ⟨R.len,R.sub,R.dom,R.ext,R.fU,R.uV,R.vM,R.feed,R.sl,λq hq=>R.pin q (TM _ hq),R.br0,R.new,R.two,R.kept⟩
theorem Rel.pinned{K:Frag}{C:Fm}{M:Db->Prop}{H:Hp}{n:Nat}{ρ:List Slot}{σ:L2.St}(R:Rel K C M H n ρ σ):Rel K { C with pins:=(M,H)::C.pins } M H n ρ σ :=
 ⟨R.len,R.sub,R.dom,R.ext,R.fU,R.uV,R.vM,R.feed,R.sl,λq hq=>(TW.mp hq).elim (λe=>e▸Pres.refl M H) (R.pin q),R.br0,R.new,R.two,R.kept⟩
section
variable {X:Cx}{κ:Kd}{tg iter:Expr}{body:List Stmt}{src:Ee}{b:BW}{wb:Af}{pos:Pos}
theorem B5(hp:g_ (model X.prog X.w) X.A X.env X.xe)(hc:X.calm=true)(hi:DI X tg iter src)(hg:DG X tg b)(hb:Q6 X κ body wb)
  (hs:∀x,foldedSetIterable iter X.env x=pure x:=by intro _; rfl):DS X κ (.For tg iter body [] pos) (Dy src b wb):=by
 obtain⟨wi,a1,a2⟩:=hi;obtain⟨g,g1,g2⟩:=hg;obtain⟨tb,b1,b2⟩:=hb;refine⟨_,Jq hp hc a1 g1 b1 hs,λC M H n ρ σ D2 E R L w=>?_⟩;refine a2 C M H n ρ σ _ _ R w λJ H1 ds n1 e1 f1 y w1=>?_;have R1:=R.step e1 f1;refine⟨λi m σ' H'=>m=ds.length - i/\i<=ds.length/\∃M' n' ρ',Rel X.K { C with pins:=(M,H1)::C.pins } M' H' n' ρ' σ'/\BR b wb D2 (ds.drop i) n' ρ',⟨ds.length,by simp,bn _,M,n1,ρ,R1.pinned,w1⟩,?_⟩;rintro i m σ' H' ⟨rfl,hi,M',n',ρ',R',w'⟩;have pr:Pres M H1 M' H':=R'.pin (M,H1) On
 by_cases hlt:i<ds.length
 ·have ed:ds.drop i=ds[i]::ds.drop (i+1):=c9 hlt
  rw [ed] at w';obtain⟨go,yl⟩:=(y i M' H' pr R'.dom).1 ds[i] (Go hlt);refine .inr ⟨go,λσ2 H2=>∃M2 n2 ρ2,Rel X.K { C with pins:=(M,H1)::C.pins } M2 H2 n2 ρ2 σ2/\BR b wb D2 (ds.drop (i+1)) n2 ρ2,λσ2 H2 ⟨M2,n2,ρ2,R2',w2⟩=>⟨ds.length - (i+1),by omega,rfl,hlt,M2,n2,ρ2,R2',w2⟩,λx H2 hy=>?_⟩;obtain⟨gr,hx⟩:=yl x H2 hy;have R2':=R'.step gr.ext (R'.feed.grow gr);refine g2 _ M' H2 n' ρ' σ' ds[i] x _ _ R2' hx w' λρ3 σ3 R3 w3=>?_;refine b2 _ M' H2 n' ρ3 σ3 { D2 with nx:=BR b wb D2 (ds.drop (i+1)),ct:=BR b wb D2 (ds.drop (i+1)),bk:=D2.nx } _ R3 ⟨λM4 H4 n4 ρ4 σ4 R4 w4=>⟨M4,n4,ρ4,R4,w4⟩,L.rt,λM4 H4 n4 ρ4 σ4 R4 w4=>L.nx M4 H4 n4 ρ4 σ4 R4.unpin w4,λM4 H4 n4 ρ4 σ4 R4 w4=>⟨M4,n4,ρ4,R4,w4⟩⟩ w3
 ·have e:i=ds.length:=by omega
  subst e;rw [fK] at w';exact .inl ⟨(y _ M' H' pr R'.dom).2 (Rs _),L.nx M' H' n' ρ' σ' R'.unpin w'⟩
end
def B9(b:BW)(tt:Ij)(te:DW)(P:List D->Nat->Prop):List D->List D->Nat->List Slot->Prop
 | [],acc,n,_=>P acc n
 | d::ds,acc,n,ρ=>b d ρ λρ1=>tt n ρ1 λc n1=>if c=true then te n1 ρ1 λy n2=>B9 b tt te P ds (acc++[y]) n2 ρ1 else B9 b tt te P ds acc n1 ρ1
def Rw:Slot->Slot
 | .ow d=>.br d
 | .lt _ d=>.br d
 | s=>s
theorem Rv(s:Slot):(Rw s).owns=false:=by cases s <;> rfl
theorem EM{js:List (Option Nat)}{ρ:List Slot}{i:Nat}{s:Slot}(h:(js.map λo=>match o with | some i=>Rw ((ρ[i]?).getD .no) | none=>Slot.no)[i]?=some s):s.owns=false:=by
 rw [bv] at h;cases q:js[i]? with
 | none=>rw [q] at h; cases h
 | some o =>
  rw [q] at h;cases o with
  | none =>
   have e:Slot.no=s:=bg h;rw [← e]; rfl
  | some j =>
   have e:Rw ((ρ[j]?).getD .no)=s:=bg h;rw [← e]; exact Rv _
def Gu(js:List (Option Nat))(ρ:List Slot):List Slot:=js.map λo=>match o with
 | some i=>Rw ((ρ[i]?).getD .no)
 | none=>.no
def Bl(js:List (Option Nat))(src:Ee)(b:BW)(tt:Ij)(te:DW):DW:=λn ρ P=>src n ρ λds n1=>ds.length<=10000000/\B9 b tt te (λacc n2=>P (.lst acc) n2) ds [] n1 (Gu js ρ)
def Z4(X:Cx)(ifs:List cC)(w:Ij):Prop:=∃t,Zy X ifs t/\∀(C:Fm) (M:Db->Prop) (H:Hp) (n:Nat) (ρ:List Slot) (σ:L2.St) (P:Bool->Nat->Prop) (Q:Bool->Hp->Prop),Rel X.K C M H n ρ σ->w n ρ P ->
 (∀b H' n',Ext C.U H H'->FeedC X.K C.F M H' n'->P b n'->Q b H')->t σ H Q
def CI:Ij:=λn _ P=>P true n
theorem Be{X:Cx}:Z4 X [] CI:=⟨_,VX,λC M H n ρ σ P Q R w q=>q true H n (Ext.refl _ _) R.feed w⟩
theorem I0{X:Cx}{c:cC}{w:Ij}(h:DT X c w):Z4 X [c] w:=by
 obtain⟨t,h1,h2⟩:=h;exact⟨t,VW h1,h2⟩
theorem LY{js:List (Option Nat)}{ρ:List Slot}{σ:L2.St}{i:Nat}{s:Slot}(hs:(Gu js ρ)[i]?=some s):s=.no\/∃(j:Nat) (s':Slot),ρ[j]?=some s'/\s=Rw s'/\((CU js σ)[i]?).getD none=(σ[j]?).getD none:=by
 unfold Gu at hs;unfold CU;rw [bv] at hs ⊢;cases q:js[i]? with
 | none=>rw [q] at hs; cases hs
 | some o =>
  rw [q] at hs;cases o with
  | none=>exact .inl (bg hs).symm
  | some j =>
   have e:Rw ((ρ[j]?).getD .no)=s:=bg hs;cases q2:ρ[j]? with
   | none=>rw [q2] at e; exact .inl e.symm
   | some s' =>
    rw [q2] at e;exact .inr ⟨j,s',q2,e.symm,rfl⟩
theorem OF{K:Frag}{F:Option (Db×Db)}{U U' M M':Db->Prop}{H H':Hp}{js:List (Option Nat)}{ρ:List Slot}{σ:L2.St}(hsl:∀(i:Nat) (s:Slot),ρ[i]?=some s->SlotOk K F U M H s ((σ[i]?).getD none))
  (pr:Pres M H M' H') (br:∀d v,AtT K U M H d v->AtT K U' M' H' d v):∀(i:Nat) (s:Slot),(Gu js ρ)[i]?=some s->SlotOk K F U' M' H' s (((CU js σ)[i]?).getD none):=by
 intro i s hs
 rcases LY (σ:=σ) hs with rfl | ⟨j,s',q,rfl,e⟩
 ·trivial
 ·rw [e]
  have h1:=hsl j s' q;cases s' with
  | no=>trivial
  | sh d=>obtain⟨v,e1,h2⟩:=h1; exact⟨v,e1,h2.pres pr⟩
  | br d=>obtain⟨v,e1,h2⟩:=h1; exact⟨v,e1,br d v h2⟩
  | fd=>exact h1
  | ow d=>obtain⟨a,e1,_,nv,t⟩:=h1; exact⟨.ref a,e1,br d _ (t.att nv)⟩
  | lt a d=>obtain⟨e1,_,nv,t⟩:=h1; exact⟨.ref a,e1,br d _ (t.att nv)⟩
theorem QV{K:Frag}{F:Option (Db×Db)}{U M:Db->Prop}{H:Hp}{js:List (Option Nat)}{ρ:List Slot}{σ:L2.St}(hsl:∀(i:Nat) (s:Slot),ρ[i]?=some s->SlotOk K F U M H s ((σ[i]?).getD none)){i:Nat}{d:D}{a:Db}
  (hs:(Gu js ρ)[i]?=some (.br d)) (ha:((CU js σ)[i]?).getD none=some (.ref a)):∃o,H a=some o:=by
 rcases LY (σ:=σ) hs with z | ⟨j,s',q,z,e⟩
 ·cases z
 ·rw [e] at ha
  have h1:=hsl j s' q;rw [ha] at h1;cases s' with
  | br d=>obtain⟨v,e1,h2⟩:=h1; cases e1; exact h2.lies
  | ow d=>obtain⟨b,e1,_,nv,t⟩:=h1; cases e1; exact(t.att nv).lies
  | lt b d=>obtain⟨e1,_,nv,t⟩:=h1; cases e1; exact(t.att nv).lies
  | no=>cases z
  | sh d=>cases z
  | fd=>cases z
section
variable {X:Cx}{κe:Kd}{tg elt iter:Expr}{ifs:List Expr}{sc:Scope}{pos:Pos}{src:Ee}{b:BW}{tt:Ij}{te:DW}
theorem Bg(hc:X.calm=true)(N':List Str)(js:List (Option Nat))(hi:Yv X tg iter src)(hg:∀cl C s H fp,DG (BE X sc N' cl C s H fp) tg b)(ht:∀cl C s H fp,Z4 (BE X sc N' cl C s H fp) ifs tt)(he:∀cl C s H fp,DE (BE X sc N' cl C s H fp) elt κe te)
  (hB:Kc sc X.env.scope X.N N' js=true) (hk:κe≠.tp:=by intro z; cases z)
  (hs:∀x,foldedSetIterable iter X.env x=pure x:=by intro _; rfl):DE X (.ListComp elt [⟨tg,iter,ifs,0⟩] sc pos) .fr (Bl js src b tt te):=by
 obtain⟨wi,a1,a2⟩:=hi;refine⟨_,Vb hc N' js a1 hB hs,λC M H n ρ σ P Q R w q=>?_⟩;refine a2 C M H n ρ σ _ _ R w λJ H1 ds n1 e1 f1 y w1=>?_;obtain⟨hlen,w1⟩:=w1;have R1:=R.step e1 f1;intro l hl hkl cl Ca s0 H0 fp;obtain⟨g,g1,g2⟩:=hg cl Ca s0 H0 fp;obtain⟨tc,c1,c2⟩:=ht cl Ca s0 H0 fp;obtain⟨tx,x1,x2⟩:=he cl Ca s0 H0 fp
 have noU:¬C.U l:=λz=>by
  obtain⟨o,z⟩:=R1.udom l z;rw [hl] at z; cases z
 generalize hM':(λb=>M b\/b=l)=M';have M'l:M' l:=by rw [← hM']; exact .inr rfl
 have M'of:∀b,M b->M' b:=λb z=>by rw [← hM']; exact .inl z
 have ofM':∀b,M' b->M b\/b=l:=λb z=>by rw [← hM'] at z; exact z
 have inV:∀b,C.V b\/b=l->M' b:=λb z=>z.elim (λz=>M'of b (R1.vM b z)) λz=>by rw [z]; exact M'l
 have lenj:js.length=N'.length:=FD (CompOk.of hB).cap
 refine⟨g,tc,tx,λi m σ' H'=>m=ds.length - i/\i<=ds.length/\∃n' ρ' acc vs,Rel X.K ⟨M',C.F,C.U,λb=>C.V b\/b=l,H1,[],[]⟩ M' H' n' ρ' σ'/\H' l=some (.lst vs)/\Ats X.K M' H' acc vs/\acc.length<=i/\Pres M H1 M' H' /\
   B9 b tt te (λacc n2=>P (.lst acc) n2) (ds.drop i) acc n' ρ',g1,c1,x1,⟨ds.length,by simp,bn _,n1,Gu js ρ,[],[],?_⟩,?_⟩
 ·have gr:Grow H1 (BC H1 l (.lst [])):=Ay hl
  have pr:Pres M H1 M' (BC H1 l (.lst [])):=⟨λb o e _=>gr.all b o e,λb z=>(ofM' b z).elim .inl λz=>.inr (by rw [z]; exact hl),λb vs e=>gr.all b _ e⟩;refine⟨⟨?_,λa z=>z,λa z=>?_,gr.ext,R1.fU,λa z=>.inl (R1.uV a z),inV,f1.pres pr λf o _ e=>gr.all f.1 o e,?_,λp hp=>absurd hp (by simp),λi d a q z=>QV R1.sl q z,λi s a q o _=>absurd o (by rw [EM q]; decide),λi j s t a q o _ _ _ _=>absurd o (by rw [EM q]; decide),λp hp=>absurd hp (by simp)⟩,Ai,rfl,bn _,pr,w1⟩
  ·unfold Gu CU
   rw [No,No]
  ·rcases ofM' a z with z | z
   ·obtain⟨o,z⟩:=R1.dom a z
    exact⟨o,gr.all a o z⟩
   ·subst z
    exact⟨_,Ai⟩
  ·refine OF R1.sl pr λd v h=>h.same pr (λa o _ e=>gr.all a o e) λa e n1 z=>z.elim n1 λz=>?_
   subst e;obtain⟨o,w⟩:=h.lies;rw [z,hl] at w;cases w
 ·rintro i m σ' H' ⟨rfl,hi,n',ρ',acc,vs,R',hlv,hac,hal,pr,w'⟩
  by_cases hlt:i<ds.length
  ·have ed:ds.drop i=ds[i]::ds.drop (i+1):=c9 hlt
   rw [ed] at w';obtain⟨go,yl⟩:=(y i M' H' pr R'.ext R'.dom).1 ds[i] (Go hlt);refine .inr ⟨go,λx H2 hy=>?_⟩;obtain⟨gr,hx⟩:=yl x H2 hy;have R2':=R'.step gr.ext (R'.feed.grow gr);refine g2 _ M' H2 n' ρ' σ' ds[i] x _ _ R2' hx w' λρ3 σ3 R3 w3=>?_;refine c2 _ M' H2 n' ρ3 σ3 _ _ R3 w3 λc H4 n4 e4 f4 w4=>?_;have R4:=R3.step e4 f4;have p4:Pres M' H' M' H4:=gr.pres.trans (R3.pres e4);have l4:H4 l=some (.lst vs):=e4.keep (gr.all _ _ hlv) noU;cases c with
   | false=>exact⟨ds.length - (i+1),by omega,rfl,hlt,n4,ρ3,acc,vs,R4,l4,hac.pres p4,by omega,pr.trans p4,w4⟩
   | true =>
    refine x2 _ M' H4 n4 ρ3 σ3 _ _ R4 w4 λyv H5 d5 n5 e5 f5 r5 w5=>?_;have R5:=R4.step e5 f5;have p5:Pres M' H4 M' H5:=R4.pres e5;have l5:H5 l=some (.lst vs):=e5.keep l4 noU;have hy5:=r5.shOf R4.dom hk;have a5:=(hac.pres p4).pres p5;have pu:Pres M' H5 M' (BC H5 l (.lst (vs++[yv]))):=EK M'l l5;have hvl:vs.length=acc.length:=hac.length;refine⟨vs,l5,by rw [cX]; omega,ds.length - (i+1),by omega,rfl,hlt,n5,ρ3,acc++[d5],vs++[yv],?_,Ai,(a5.append (Ats.one hy5)).pres pu,by rw [bi,cA]; omega,(pr.trans p4).trans (p5.trans pu),w5⟩;refine⟨R5.len,R5.sub,λa z=>?_,λb o e=>?_,R5.fU,R5.uV,R5.vM,?_,λj s hs=>?_,λp hp=>absurd hp (by simp),R5.br0,R5.new,R5.two,λp hp=>absurd hp (by simp)⟩
    ·by_cases ha:a=l
     ·subst ha; exact⟨_,Ai⟩
     ·rw [AU ha]; exact R5.dom a z
    ·obtain⟨o',q1,q2⟩:=R5.ext b o e
     by_cases hb:b=l
     ·subst hb
      have e':H1 b=some o:=e;rw [hl] at e'; cases e'
     ·exact⟨o',by rw [AU hb]; exact q1,q2⟩
    ·refine f5.pres pu λf o hf e=>?_
     rw [AU (λz=>noU (by rw [← z]; exact R1.fU f hf))];exact e
    ·have hs5:=R5.sl j s hs
     cases s with
     | no=>trivial
     | sh d=>obtain⟨v,e1,h2⟩:=hs5; exact⟨v,e1,h2.pres pu⟩
     | br d =>
      obtain⟨v,e1,h2⟩:=hs5;refine⟨v,e1,h2.same pu (λa o z e=>?_) λ_ _ z=>z⟩;subst z;obtain⟨o3,w⟩:=R5.br0 j d a hs e1
      have hal:a≠l:=λz=>by
       have w':H1 a=some o3:=w;rw [z,hl] at w'; cases w'
      rw [AU hal]; exact e
     | ow d =>
      obtain⟨a,e1,h2,_⟩:=hs5;exact absurd h2 (R5.new j _ a hs rfl e1).1
     | lt a d =>
      obtain⟨e1,h2,_⟩:=hs5;exact absurd h2 (R5.new j _ a hs rfl e1).1
     | fd=>exact hs5
  ·have e:i=ds.length:=by omega
   subst e;rw [fK] at w';refine .inl ⟨(y _ M' H' pr R'.ext R'.dom).2 (Rs _),?_⟩;have eb:Ext C.U H1 H':=R'.ext;have less:Pres M' H' M H':=Pres.less M'of;refine q _ H' (.lst acc) n' (e1.trans eb) (R'.feed.pres less λ_ _ _ z=>z) (VR.back e1 ?_) w';exact⟨l,rfl,hl,vs,hlv,by rw [hM']; exact hac⟩
end
theorem RK{K:Frag}{F:Option (Db×Db)}{U V' M:Db->Prop}{H:Hp}{n:Nat}{ss:List Slot}{vs:List V}{N:List Str}(h:Zw K F U V' M H n ss vs)(hl:vs.length<=N.length) :
  Rel K ⟨M,F,U,V',H,[],[]⟩ M H n (ss++bj (N.length - ss.length) .no) (L2.start N vs):=by
 obtain⟨dom,fU,uV,vM,fd,pa⟩:=h;have el:vs.length=ss.length:=Paired.length pa
 have go:∀{vs:List V} {ss:List Slot} {i:Nat} {s:Slot},Paired (L1 K F V' M H) vs ss->ss[i]?=some s->∃v,vs[i]?=some v/\L1 K F V' M H v s:=by
  intro vs ss i s pa
  induction pa generalizing i with
  | nil=>intro e; simp at e
  | cons r t ih =>
   intro e;cases i with
   | zero=>simp at e; subst e; exact⟨_,rfl,r⟩
   | succ i =>
    obtain⟨v,e1,h1⟩:=ih (i:=i) (by simpa using e);exact⟨v,by simpa using e1,h1⟩
 have at_:∀(i:Nat) (s:Slot),(ss++bj (N.length - ss.length) Slot.no)[i]?=some s->s=.no\/∃v,((L2.start N vs)[i]?).getD none=some v/\L1 K F V' M H v s:=by
  intro i s hs
  by_cases hi:i<ss.length
  ·rw [fC hi] at hs
   obtain⟨v,e1,h1⟩:=go pa hs;refine .inr ⟨v,?_,h1⟩;unfold L2.start;rw [fC (by rw [No,el]; exact hi),bv,e1];rfl
  ·rw [cf (by omega),gF] at hs
   split at hs
   ·exact .inl (bg hs).symm
   ·cases hs
 refine⟨?_,λa z=>z,dom,Ext.refl _ _,fU,uV,vM,fd,λi s hs=>?_,λp hp=>absurd hp (by simp),λi d a hs ha=>?_,λi s a hs o _=>?_,λi j s t a hs o _ _ _ _=>?_,λp hp=>absurd hp (by simp)⟩
 ·unfold L2.start
  simp only [bi,No,i9];omega
 ·rcases at_ i s hs with rfl | ⟨v,e,h⟩
  ·trivial
  ·rw [e]; exact h.1
 ·rcases at_ i _ hs with z | ⟨v,e,h⟩
  ·cases z
  ·rw [e] at ha
   cases ha;obtain⟨v,e1,h1⟩:=h.1;cases e1;exact h1.lies
 ·rcases at_ i s hs with rfl | ⟨v,e,h⟩
  ·cases o
  ·rw [h.2] at o; cases o
 ·rcases at_ i s hs with rfl | ⟨v,e,h⟩
  ·cases o
  ·rw [h.2] at o; cases o
theorem Ej{P:cL}{w:cQ}{K:Frag}{mg:Str->Option Ev}{base:b9}{x qual:Str}{st:cS}{f:Db}{fd:bo}{N ps:List Str}{k:Nat}{κ:Kd}{W:W2}{wb:Af}(F:Fun K x qual st f fd)(S:Ah N ps (AR st))(hNp:ps.length<=N.length)
  (hb:∀(cdv:Ev) (A:cw) (outer:List Env) (s:Op) (H:Hp) (E:XK),Room k (A.deeper (envOfC qual (AR st) s.heap.objs.size f cdv))->Q6 (M7 CP P w K mg base N qual (AR st) f cdv A outer s H E).nox κ (CO st) wb)
  (hW:∀ss n Pd,ss.length=ps.length->W ss n Pd->wb { nx:=λn _=>κ=.sh/\Pd .non n,rt:=Pd } n (ss++bj (N.length - ps.length) .no)) :
  BG P w K mg base CP (k+1) f fd ps (DY K κ W ps.length):=by
 refine F.ok S (λvs H Q E h=>h.1) (λcdv A outer s H vs Q E hr h=>?_);obtain⟨hl,F0,U,V',M,n,ss,Pd,ra,hw,q⟩:=h;obtain⟨t,t1,t2⟩:=hb cdv A outer s H E hr;refine⟨t,t1,?_⟩;have el:vs.length=ss.length:=Paired.length ra.2.2.2.2.2;have R:=RK (N:=N) ra (by omega);refine t2 ⟨M,F0,U,V',H,[],[]⟩ M H n _ _ { nx:=λn _=>κ=.sh/\Pd .non n,rt:=Pd } _ R ⟨λM1 H1 n1 ρ1 σ1 R1 p=>?_,λv H1 d n1 e1 f1 r1 p=>q v H1 d n1 e1 f1 r1 p,λ_ _ _ _ _ _ z=>z.elim,λ_ _ _ _ _ _ z=>z.elim⟩ ?_
 ·obtain⟨hk,p⟩:=p
  subst hk;exact q .non H1 .non n1 R1.ext (R1.feed.pres (Pres.less R1.sub) λ_ _ _ z=>z) rfl p
 ·have e:ss.length=ps.length:=by omega
  have h1:=hW ss n Pd e hw;rw [← e] at h1;exact h1
end Dp
namespace L2
open PySem PySem.Spec PyProof.Rows
section
variable {X:Cx}
theorem Inv.rdl{pins:List (Db×Obj)}{σ:L2.St}{H:Hp}{s:Op}{l:Db}{xs:List V}(I:Inv X pins σ H s)(h:Rd H l (.lst xs)):xs.length<=sizeLine/\∃(its:List Ev) (n:Nat),Vals xs its/\xs.length=its.length/\s.heap.get? l=some { cls:=.type "list",data:=.seq its.toArray n }:=by
 obtain⟨z,its,n,r,e⟩:=h.ok I.hok;exact⟨z,its,n,r,r.length,e⟩
theorem Vg:OpR X (binaryOp .Add) (λx y H Q=>∃l b xs zs,x=.ref l/\y=.ref b/\Rd H l (.lst xs)/\Rd H b (.lst zs)/\xs.length+zs.length<=sizeLine/\∀p,H p=none->Q (.ref p) (BC H p (.lst (xs++zs)))):=by
 intro pins s σ H x y v u Q I rx ry h;obtain⟨l,b,xs,zs,rfl,rfl,hH,hB,hz,q⟩:=h;cases rx;cases ry;obtain⟨z,its,n,r,hl,e⟩:=I.rdl hH;obtain⟨z2,its2,n2,r2,hl2,e2⟩:=I.rdl hB;refine PySem.P.add_list e e2 ?_ (by rw [UF,UF]; omega);have ea:its.toArray++its2.toArray=(its++its2).toArray:=by simp
 rw [ea];exact⟨.ref _,_,I.lnew (t':=s.toks) (r.append r2) (by rw [bi]; omega),rfl,q _ I.fresh⟩
end
end L2
namespace Dp
open PySem PySem.Spec PyProof.Rows L2
section
variable {K:Frag}
theorem AtT.int{U M:Db->Prop}{H:Hp}{i:Int}{v:V}(h:AtT K U M H (.int i) v):v=.int i:=h
theorem AtT.bl{U M:Db->Prop}{H:Hp}{i:Bool}{v:V}(h:AtT K U M H (.bl i) v):v=.bl i:=h
theorem AtT.str{U M:Db->Prop}{H:Hp}{x:Str}{v:V}(h:AtT K U M H (.str x) v):v=.str x/\x.length<=sizeLine:=h
theorem AtT.tup{U M:Db->Prop}{H:Hp}{ds:List D}{v:V}(h:AtT K U M H (.tup ds) v):∃a vs,v=.ref a/\NdT M H a vs/\Ats K M H ds vs:=h
def aG(g:Int->Int->(D->Prop)->Prop)(d e:D)(P:D->Prop):Prop:=match d,e with
 | .int i,.int j=>g i j P
 | _,_=>False
theorem Mo{g:Int->Int->(D->Prop)->Prop}{d e:D}{P:D->Prop}(w:aG g d e P):∃i j,d=.int i/\e=.int j/\g i j P:=by
 unfold aG at w
 split at w
 ·exact⟨_,_,rfl,rfl,w⟩
 ·exact w.elim
def f2(g:Int->Int->D):D->D->(D->Prop)->Prop:=aG λi j P=>P (g i j)
def U8(C:Int->Int->Prop)(g:Int->Int->D):D->D->(D->Prop)->Prop:=aG λi j P=>C i j/\P (g i j)
theorem Uy{g:Int->Int->Int}:Fa K .sh (IC λi j=>.int (g i j)) (f2 λi j=>.int (g i j)):=by
 intro U M H d e x y P Q dom vM hx hy w q;obtain⟨i,j,rfl,rfl,w⟩:=Mo w;exact⟨i,j,hx,hy,q _ H (.int (g i j)) .refl rfl w⟩
theorem NE{g:Int->Int->Bool}:Fa K .sh (IC λi j=>.bl (g i j)) (f2 λi j=>.bl (g i j)):=by
 intro U M H d e x y P Q dom vM hx hy w q;obtain⟨i,j,rfl,rfl,w⟩:=Mo w;exact⟨i,j,hx,hy,q _ H (.bl (g i j)) .refl rfl w⟩
theorem H_{C:Int->Int->Prop}{g:Int->Int->Int}:Fa K .sh (rI C λi j=>.int (g i j)) (U8 C λi j=>.int (g i j)):=by
 intro U M H d e x y P Q dom vM hx hy w q;obtain⟨i,j,rfl,rfl,w⟩:=Mo w;exact⟨i,j,hx,hy,w.1,q _ H (.int (g i j)) .refl rfl w.2⟩
def aF(g:Str->Str->(D->Prop)->Prop)(d e:D)(P:D->Prop):Prop:=match d,e with
 | .str i,.str j=>g i j P
 | _,_=>False
theorem Qg{g:Str->Str->(D->Prop)->Prop}{d e:D}{P:D->Prop}(w:aF g d e P):∃i j,d=.str i/\e=.str j/\g i j P:=by
 unfold aF at w
 split at w
 ·exact⟨_,_,rfl,rfl,w⟩
 ·exact w.elim
theorem Uv{g:Str->Str->Bool}:Fa K .sh (λx y H Q=>∃i j,x=.str i/\y=.str j/\Q (.bl (g i j)) H) (aF λi j P=>P (.bl (g i j))):=by
 intro U M H d e x y P Q dom vM hx hy w q;obtain⟨i,j,rfl,rfl,w⟩:=Qg w;exact⟨i,j,hx.1,hy.1,q _ H (.bl (g i j)) .refl rfl w⟩
theorem SW:Fa K .sh (λx y H Q=>∃i j,x=.str i/\y=.str j/\i.length+j.length<=sizeLine/\Q (.str (i++j)) H) (aF λi j P=>i.length+j.length<=sizeLine/\P (.str (i++j))):=by
 intro U M H d e x y P Q dom vM hx hy w q;obtain⟨i,j,rfl,rfl,w⟩:=Qg w;exact⟨i,j,hx.1,hy.1,w.1,q _ H (.str (i++j)) .refl ⟨rfl,by rw [show (i++j).length=i.length+j.length from iO i j]; exact w.1⟩ w.2⟩
def ar(g:List D->List D->(D->Prop)->Prop)(d e:D)(P:D->Prop):Prop:=match d,e with
 | .tup i,.tup j=>g i j P
 | _,_=>False
def au(g:List D->List D->(D->Prop)->Prop)(d e:D)(P:D->Prop):Prop:=match d,e with
 | .lst i,.lst j=>g i j P
 | _,_=>False
theorem Vu{g:List D->List D->(D->Prop)->Prop}{d e:D}{P:D->Prop}(w:ar g d e P):∃i j,d=.tup i/\e=.tup j/\g i j P:=by
 unfold ar at w
 split at w
 ·exact⟨_,_,rfl,rfl,w⟩
 ·exact w.elim
theorem Vx{g:List D->List D->(D->Prop)->Prop}{d e:D}{P:D->Prop}(w:au g d e P):∃i j,d=.lst i/\e=.lst j/\g i j P:=by
 unfold au at w
 split at w
 ·exact⟨_,_,rfl,rfl,w⟩
 ·exact w.elim
theorem Cq{M:Db->Prop}{H:Hp}{p:Db}{vs:List V}{ds:List D}(dom:∀a,M a->∃o,H a=some o)(hp:H p=none)(h:Ats K M H ds vs):At K M (BC H p (.tup vs)) (.tup ds) (.ref p):=by
 exact⟨p,vs,rfl,Ai,h.pres (Ay hp).pres⟩
theorem D7{U M:Db->Prop}{H:Hp}{p:Db}{vs:List V}{ds:List D}(hp:H p=none)(h:Ats K M H ds vs):VR K U M H (BC H p (.lst vs)) .fr (.ref p) (.lst ds) :=
 ⟨p,rfl,hp,vs,Ai,h.pres (GN hp)⟩
theorem SV:Fa K .sh (TK K) (ar λi j P=>i≠[]/\i.length+j.length<=sizeLine/\P (.tup (i++j))):=by
 intro U M H d e x y P Q dom vM hx hy w q;obtain⟨i,j,rfl,rfl,w⟩:=Vu w;obtain⟨a,vs,rfl,ha,hs⟩:=hx.tup;obtain⟨b,us,rfl,hb,ht⟩:=hy.tup;have l1:=hs.length;have l2:=ht.length;refine⟨a,b,vs,us,rfl,rfl,ha.sq,hb.sq,λz=>w.1 ?_,by rw [l1,l2]; exact w.2.1,λz=>?_,λz p hp=>?_⟩
 ·rw [z] at l1; exact eQ.mp l1.symm
 ·rw [z] at l2
  have:j=[]:=eQ.mp l2.symm
  subst this;exact q _ H (.tup i) .refl ⟨a,vs,rfl,ha,hs⟩ (by have:=w.2.2; rw [cH] at this; exact this)
 ·exact q _ _ (.tup (i++j)) (Ay hp) (Cq dom hp (hs.append ht)) w.2.2
theorem SX:Fa K .fr (λx y H Q=>∃l b xs zs,x=.ref l/\y=.ref b/\Rd H l (.lst xs)/\Rd H b (.lst zs)/\xs.length+zs.length<=sizeLine/\∀p,H p=none->Q (.ref p) (BC H p (.lst (xs++zs)))) (au λi j P=>i.length+j.length<=sizeLine/\P (.lst (i++j))):=by
 intro U M H d e x y P Q dom vM hx hy w q;obtain⟨i,j,rfl,rfl,w⟩:=Vx w;obtain⟨a,vs,rfl,_,ha,hs⟩:=hx;obtain⟨b,us,rfl,_,hb,ht⟩:=hy;exact⟨a,b,vs,us,rfl,rfl,ha,hb,by rw [hs.length,ht.length]; exact w.1,λp hp=>q _ _ (.lst (i++j)) (Ay hp) (D7 hp (hs.append ht)) w.2⟩
def Ig(neg:Bool)(d e:D)(P:D->Prop):Prop:=match d,e with
 | .bl i,.bl j=>P (.bl (if neg then !(i==j) else i==j))
 | .int i,.int j=>P (.bl (if neg then !(i==j) else i==j))
 | .str i,.str j=>P (.bl (if neg then !(i==j) else i==j))
 | _,_=>False
theorem Qh{neg:Bool}{d e:D}{P:D->Prop}(w:Ig neg d e P):(∃i j,d=.bl i/\e=.bl j/\P (.bl (if neg then !(i==j) else i==j)))\/(∃i j,d=.int i/\e=.int j/\P (.bl (if neg then !(i==j) else i==j)))\/∃i j,d=.str i/\e=.str j/\P (.bl (if neg then !(i==j) else i==j)):=by
 unfold Ig at w
 split at w
 ·exact .inl ⟨_,_,rfl,rfl,w⟩
 ·exact .inr (.inl ⟨_,_,rfl,rfl,w⟩)
 ·exact .inr (.inr ⟨_,_,rfl,rfl,w⟩)
 ·exact w.elim
theorem LG:Fa K .sh bK (Ig false):=by
 intro U M H d e x y P Q dom vM hx hy w q
 rcases Qh w with ⟨i,j,rfl,rfl,w⟩ | ⟨i,j,rfl,rfl,w⟩ | ⟨i,j,rfl,rfl,w⟩
 ·rw [hx.bl,hy.bl]; exact⟨rfl,q _ H _ .refl (by rw [Mz]; rfl) w⟩
 ·rw [hx.int,hy.int]; exact⟨rfl,q _ H _ .refl (by rw [JC]; rfl) w⟩
 ·rw [hx.str.1,hy.str.1]; exact⟨rfl,q _ H _ .refl (by rw [JB]; rfl) w⟩
theorem Ot:Fa K .sh bG (Ig true):=by
 intro U M H d e x y P Q dom vM hx hy w q
 rcases Qh w with ⟨i,j,rfl,rfl,w⟩ | ⟨i,j,rfl,rfl,w⟩ | ⟨i,j,rfl,rfl,w⟩
 ·rw [hx.bl,hy.bl]; exact⟨rfl,q _ H _ .refl (by rw [Mz]; rfl) w⟩
 ·rw [hx.int,hy.int]; exact⟨rfl,q _ H _ .refl (by rw [JC]; rfl) w⟩
 ·rw [hx.str.1,hy.str.1]; exact⟨rfl,q _ H _ .refl (by rw [JB]; rfl) w⟩
def OP:D->Bool
 | .non=>true
 | _=>false
theorem OO{U M:Db->Prop}{H:Hp}{d:D}{x:V}(h:AtT K U M H d x):decide (x=.non)=OP d:=by
 cases d with
 | non=>rw [show x=.non from h]; rfl
 | bl b=>rw [h.bl]; rfl
 | int i=>rw [h.int]; rfl
 | str z=>rw [h.str.1]; rfl
 | tup ds=>obtain⟨a,vs,rfl,_⟩:=h.tup; rfl
 | lst ds=>obtain⟨a,vs,rfl,_⟩:=h; rfl
 | dic ks ds=>obtain⟨a,vs,rfl,_⟩:=h; rfl
 | fdi ks ds=>obtain⟨a,vs,rfl,_⟩:=h; rfl
 | dit ks ds=>obtain⟨a,vs,rfl,_⟩:=h; rfl
def Aw(d e:D)(P:D->Prop):Prop:=match d,e with
 | .lst ds,.int i=>∃z,atI ds i=some z/\P z
 | .tup ds,.int i=>∃z,atI ds i=some z/\P z
 | .str x,.int i=>∃c,atI x.cps.toList i=some c/\P (.str ⟨#[c]⟩)
 | _,_=>False
theorem Vy{d e:D}{P:D->Prop}(w:Aw d e P):(∃ds i z,d=.lst ds/\e=.int i/\atI ds i=some z/\P z)\/(∃ds i z,d=.tup ds/\e=.int i/\atI ds i=some z/\P z)\/∃x i c,d=.str x/\e=.int i/\atI x.cps.toList i=some c/\P (.str ⟨#[c]⟩):=by
 unfold Aw at w
 split at w
 ·obtain⟨z,h1,h2⟩:=w; exact .inl ⟨_,_,z,rfl,rfl,h1,h2⟩
 ·obtain⟨z,h1,h2⟩:=w; exact .inr (.inl ⟨_,_,z,rfl,rfl,h1,h2⟩)
 ·obtain⟨z,h1,h2⟩:=w; exact .inr (.inr ⟨_,_,z,rfl,rfl,h1,h2⟩)
 ·exact w.elim
theorem Ats.atI{M:Db->Prop}{H:Hp}{ds:List D}{vs:List V}{i:Int}{z:D}(h:Ats K M H ds vs)(e:atI ds i=some z):∃v,L2.atI vs i=some v/\At K M H z v:=by
 unfold L2.atI at e ⊢;rw [h.length];cases q:U6 ds.length i with
 | none=>rw [q] at e; cases e
 | some j =>
  rw [q] at e;exact h.get e
theorem Ac:Fa K .sh (bH K) Aw:=by
 intro U M H d e x y P Q dom vM hx hy w q
 rcases Vy w with ⟨ds,i,z,rfl,rfl,hz,w⟩ | ⟨ds,i,z,rfl,rfl,hz,w⟩ | ⟨x,i,c,rfl,rfl,hc,w⟩
 ·obtain⟨a,vs,rfl,_,ha,hs⟩:=hx
  obtain⟨v,hv,hAt⟩:=hs.atI hz;exact .inl ⟨a,vs,i,v,rfl,hy,.inl ha,hv,q v H z .refl hAt w⟩
 ·obtain⟨a,vs,rfl,ha,hs⟩:=hx.tup
  obtain⟨v,hv,hAt⟩:=hs.atI hz;exact .inr (.inl ⟨a,vs,i,v,rfl,hy,ha.sq,hv,q v H z .refl hAt w⟩)
 ·exact .inr (.inr ⟨x,i,c,hx.str.1,hy,hx.str.2,hc,q _ H (.str ⟨#[c]⟩) .refl ⟨rfl,by rw [cX]; show 1<=16777216; decide⟩ w⟩)
def cutD{α:Type}(xs:List α)(lo hi:Option Int):List α:=(xs.drop (HT.sIx xs.length 0 lo)).take (HT.sIx xs.length xs.length hi - HT.sIx xs.length 0 lo)
theorem Gm{R:V->D->Prop}{vs:List V}{d:D}(h:Paired R vs [d]):∃v,vs=[v]/\R v d:=by
 cases h with
 | cons r t=>cases t; exact⟨_,rfl,r⟩
def af:D->Option Nat
 | .str x=>some x.length
 | .tup xs=>some xs.length
 | .lst xs=>some xs.length
 | _=>none
def KQ(ds:List D)(P:D->Prop):Prop:=∃d n,ds=[d]/\af d=some n/\P (.int (n:Int))
theorem Fz:EB K .sh (λxs H Q=>∃x n,xs=[x]/\Ym K x H n/\Q (.int n) H) KQ:=by
 intro U M H ds vs P Q dom vM hp w q;obtain⟨d,n,rfl,hn,w⟩:=w;obtain⟨v,rfl,hx⟩:=Gm hp;refine⟨v,n,rfl,?_,q _ H (.int (n:Int)) .refl rfl w⟩;cases d with
 | str z=>cases hn; rw [hx.str.1]; exact⟨hx.str.2,rfl⟩
 | tup xs =>
  cases hn;obtain⟨a,us,rfl,ha,hs⟩:=hx.tup;exact .inr ⟨us,ha.sq,hs.length.symm⟩
 | lst xs =>
  cases hn;obtain⟨a,us,rfl,_,ha,hs⟩:=hx;exact .inl ⟨us,.inl ha,hs.length.symm⟩
 | _=>cases hn
def allB:List D->Option (List Bool)
 | []=>some []
 | .bl b::r=>(allB r).map (b::·)
 | _::_=>none
theorem Qv{M:Db->Prop}{H:Hp}:∀{ds:List D} {vs:List V} {bs:List Bool},allB ds=some bs->Ats K M H ds vs->vs=bs.map V.bl
 | [],vs,bs,e,h=>by cases e; exact h
 | .bl b::r,vs,bs,e,h=>by
  obtain⟨v,r',e1,h1,h2⟩:=h;unfold allB at e;obtain⟨bs',e2,rfl⟩:=cU.mp e;rw [e1,Qv e2 h2,show v=.bl b from h1];rfl
 | .non::r,vs,bs,e,h=>by unfold allB at e; cases e
 | .int _::r,vs,bs,e,h=>by unfold allB at e; cases e
 | .str _::r,vs,bs,e,h=>by unfold allB at e; cases e
 | .tup _::r,vs,bs,e,h=>by unfold allB at e; cases e
 | .lst _::r,vs,bs,e,h=>by unfold allB at e; cases e
 | .dic _ _::r,vs,bs,e,h=>by unfold allB at e; cases e
 | .fdi _ _::r,vs,bs,e,h=>by unfold allB at e; cases e
 | .dit _ _::r,vs,bs,e,h=>by unfold allB at e; cases e
def SF(ds:List D)(P:D->Prop):Prop:=∃xs bs,ds=[.lst xs]/\allB xs=some bs/\P (.bl (bs.all id))
theorem Uz:EB K .sh (λxs H Q=>∃(p:Db) (bs:List Bool),xs=[.ref p]/\SqL K H p (bs.map V.bl)/\Q (.bl (bs.all id)) H) SF:=by
 intro U M H ds vs P Q dom vM hp w q;obtain⟨xs,bs,rfl,e,w⟩:=w;obtain⟨v,rfl,hx⟩:=Gm hp;obtain⟨a,us,rfl,_,ha,hs⟩:=hx
 have:=Qv e hs
 subst this;exact⟨a,bs,rfl,.inl ha,q _ H (.bl (bs.all id)) .refl rfl w⟩
def Cs:List D->Option (List Str)
 | []=>some []
 | .str b::r=>(Cs r).map (b::·)
 | _::_=>none
theorem NB{M:Db->Prop}{H:Hp}:∀{ds:List D} {vs:List V} {bs:List Str},Cs ds=some bs->Ats K M H ds vs->vs=bs.map V.str
 | [],vs,bs,e,h=>by cases e; exact h
 | .str b::r,vs,bs,e,h=>by
  obtain⟨v,r',e1,h1,h2⟩:=h;unfold Cs at e;obtain⟨bs',e2,rfl⟩:=cU.mp e;rw [e1,NB e2 h2,h1.1];rfl
 | .non::r,vs,bs,e,h=>by unfold Cs at e; cases e
 | .int _::r,vs,bs,e,h=>by unfold Cs at e; cases e
 | .bl _::r,vs,bs,e,h=>by unfold Cs at e; cases e
 | .tup _::r,vs,bs,e,h=>by unfold Cs at e; cases e
 | .lst _::r,vs,bs,e,h=>by unfold Cs at e; cases e
 | .dic _ _::r,vs,bs,e,h=>by unfold Cs at e; cases e
 | .fdi _ _::r,vs,bs,e,h=>by unfold Cs at e; cases e
 | .dit _ _::r,vs,bs,e,h=>by unfold Cs at e; cases e
def US(d:D)(ds:List D)(P:D->Prop):Prop:=∃(z:Str) (xs:List D) (ys:List Str),d=.str z/\ds=[.lst xs]/\Cs xs=some ys/\(ys.map (·.length)).sum+ys.length*z.length<=16777216/\(Txt.join z ys).length<=16777216/\P (.str (Txt.join z ys))
theorem Ye:bP K .sh "str" (λx xs H Q=>∃(z:Str) (p:Db) (ys:List Str),x=.str z/\xs=[.ref p]/\SqL K H p (ys.map V.str)/\(ys.map (·.length)).sum+ys.length*z.length<=16777216/\Q (.str (Txt.join z ys)) H) US:=by
 intro U M H d ds x vs P Q dom vM hx hp w q;obtain⟨z,xs,ys,rfl,rfl,e,h1,h2,w⟩:=w;obtain⟨v,rfl,hy⟩:=Gm hp;obtain⟨a,us,rfl,_,ha,hs⟩:=hy
 have:=NB e hs
 subst this;exact⟨z,a,ys,hx.str.1,rfl,.inl ha,h1,q _ H (.str (Txt.join z ys)) .refl ⟨rfl,by rw [cX]; exact h2⟩ w⟩
end
def Y0:D->String
 | .non => "NoneType"
 | .bl _ => "bool"
 | .int _ => "int"
 | .str _ => "str"
 | .tup _ => "tuple"
 | .lst _ => "list"
 | .dic _ _ => "dict"
 | .fdi _ _ => "dict"
 | .dit _ _ => "dict"
def YC(t T:String):Bool:=t==T||(t == "bool"&&T == "int")
def Kw(T:String)(wa:DW):DW:=λn ρ P=>wa n ρ λd n1=>P (.bl (YC (Y0 d) T)) n1
structure U3 (K:Frag) (T:String):Prop where
 ans:∀t∈["NoneType","bool","int","str","tuple","list","dict"],PySem.W.kitOne K (.type t) (.type T)=some (YC t T)
theorem VF{K:Frag}{M U:Db->Prop}{H:Hp}{d:D}{x:V}(h:AtT K U M H d x):GW K H x (.type (Y0 d)):=by
 cases d with
 | non=>cases (show x=.non from h); exact .non
 | bl b=>cases h.bl; exact .bl b
 | int i=>cases h.int; exact .int i
 | str z=>cases h.str.1; exact .str z
 | tup ds =>
  obtain⟨a,vs,rfl,ha,hs⟩:=h.tup;exact .tup ha
 | lst ds =>
  obtain⟨a,vs,rfl,_,ha,hs⟩:=h
  rcases ha with ha | ⟨o,ha⟩
  ·exact .lst ha
  ·exact .frz ha
 | dic ks ds =>
  obtain⟨a,vs,rfl,_,ha,_⟩:=h;exact .dK ha
 | fdi ks ds =>
  obtain⟨a,vs,rfl,⟨o,_,ha⟩,_⟩:=h;exact .dF ha
 | dit ks ds =>
  obtain⟨a,vs,rfl,_,ha,_⟩:=h;exact .dT ha
theorem VG(d:D):Y0 d∈["NoneType","bool","int","str","tuple","list","dict"]:=by cases d <;> simp [Y0]
theorem EQ{X:Cx}{a:cC}{κ:Kd}{wa:DW}{T:String}{Tn:Str}{p p2 pos:Pos}(kt:U3 X.K T)(ha:DE X a κ wa)(hg:Gl X "isinstance")(hm:X.mg "isinstance"=none)(hgT:Gl X Tn)(hmT:X.mg Tn=none)(hvT:bootBuiltins Tn=some (.type T))
  (hnT:Tn ≠ "__name__":=by decide) (hdT:(Tn==("__debug__":Str))=false:=by decide)
  (he:starEach [a,.Name Tn p2] X.env=(false,eval a X.env)::starEach [.Name Tn p2] X.env:=by rfl) (he2:starEach [.Name Tn p2] X.env=[(false,eval (.Name Tn p2) X.env)]:=by rfl)
  (hpl:(backTo pos (starEach [.Name Tn p2] X.env)).any (·.1)=false:=by rfl):DE X (.Call (.Name "isinstance" p) [a,.Name Tn p2] [] pos) .sh (Kw T wa):=by
 obtain⟨t,h1,h2⟩:=ha;have pT:PE X (.Name Tn p2) (tC (.ty T)):=Vd hgT hmT hvT (v:=.ty T) rfl hnT hdT;refine⟨_,Gk Oh hg hm (by decide +kernel) (Bt h1 (Bt pT DD he2) he) (by decide) (by decide) he hpl,λC M H n ρ σ P Q R w q=>?_⟩;refine h2 C M H n ρ σ _ _ R w λv H1 d n1 e1 f1 r1 p=>?_;exact⟨v,T,_,_,rfl,VF (r1.tpOf R.dom R.vM),kt.ans _ (VG d),q _ H1 (.bl (YC (Y0 d) T)) n1 e1 f1 rfl p⟩
section
variable {K:Frag}{X:Cx}
def W7(d e:D)(P:D->Prop):Prop:=match d,e with
 | .int i,.int j=>P (.int (i+j))
 | .str i,.str j=>i.length+j.length<=sizeLine/\P (.str (i++j))
 | .tup i,.tup j=>i≠[]/\i.length+j.length<=sizeLine/\P (.tup (i++j))
 | .lst i,.lst j=>i.length+j.length<=sizeLine/\P (.lst (i++j))
 | _,_=>False
def Wv:R2:=λx y H Q=>∃l b xs zs,x=.ref l/\y=.ref b/\Rd H l (.lst xs)/\Rd H b (.lst zs)/\xs.length+zs.length<=sizeLine/\∀p,H p=none->Q (.ref p) (BC H p (.lst (xs++zs)))
def Wu:R2:=λx y H Q=>∃i j,x=.str i/\y=.str j/\i.length+j.length<=sizeLine/\Q (.str (i++j)) H
def Wg(g:Str->Str->Bool):R2:=λx y H Q=>∃i j,x=.str i/\y=.str j/\Q (.bl (g i j)) H
def TL(K:Frag):R2:=λx y H Q=>(IC λi j=>.int (i+j)) x y H Q\/Wu x y H Q\/TK K x y H Q\/Wv x y H Q
theorem op_addU:OpR X (binaryOp .Add) (TL X.K):=op_add.or ((show OpR X (binaryOp .Add) Wu from PP).or (op_catT.or (show OpR X (binaryOp .Add) Wv from Vg)))
theorem NF:Fa X.K .sh (TL X.K) W7:=λU M H d e x y P Q dom vM hx hy w q=>by
 unfold W7 at w
 split at w
 ·exact .inl (Uy (K:=X.K) (g:=λi j=>i+j) U M H (.int _) (.int _) x y P Q dom vM hx hy w q)
 ·exact .inr (.inl (SW (K:=X.K) U M H (.str _) (.str _) x y P Q dom vM hx hy w q))
 ·exact .inr (.inr (.inl (SV (K:=X.K) U M H (.tup _) (.tup _) x y P Q dom vM hx hy w q)))
 ·exact .inr (.inr (.inr (SX (K:=X.K) U M H (.lst _) (.lst _) x y P Q dom vM hx hy w λv H' z g r p=>q v H' z g (r.shOf dom (by intro z; cases z)) p)))
 ·exact w.elim
def Zk(d e:D)(P:D->Prop):Prop:=match d,e with
 | .int i,.int j=>P (.bl (decide (i<j)))
 | .str i,.str j=>P (.bl (decide (i.cps.toList<j.cps.toList)))
 | _,_=>False
def Xj:R2:=λx y H Q=>(IC λi j=>.bl (decide (i<j))) x y H Q\/Wg (λi j=>decide (i.cps.toList<j.cps.toList)) x y H Q
theorem op_ltU:OpR X (compareOp .Lt) Xj:=op_lt.or RZ
theorem XC:Fa X.K .sh Xj Zk:=λU M H d e x y P Q dom vM hx hy w q=>by
 unfold Zk at w
 split at w
 ·exact .inl (NE (K:=X.K) (g:=λi j=>decide (i<j)) U M H (.int _) (.int _) x y P Q dom vM hx hy w q)
 ·exact .inr (Uv (K:=X.K) (g:=λi j=>decide (i.cps.toList<j.cps.toList)) U M H (.str _) (.str _) x y P Q dom vM hx hy w q)
 ·exact w.elim
def Vw(d e:D)(P:D->Prop):Prop:=match d,e with
 | .int i,.int j=>P (.bl (decide (i<=j)))
 | .str i,.str j=>P (.bl (!(decide (j.cps.toList<i.cps.toList))))
 | _,_=>False
def ZL:R2:=λx y H Q=>(IC λi j=>.bl (decide (i<=j))) x y H Q\/Wg (λi j=>!(decide (j.cps.toList<i.cps.toList))) x y H Q
theorem To:OpR X (compareOp .LtE) ZL:=op_le.or Ra
theorem XD:Fa X.K .sh ZL Vw:=λU M H d e x y P Q dom vM hx hy w q=>by
 unfold Vw at w
 split at w
 ·exact .inl (NE (K:=X.K) (g:=λi j=>decide (i<=j)) U M H (.int _) (.int _) x y P Q dom vM hx hy w q)
 ·exact .inr (Uv (K:=X.K) (g:=λi j=>!(decide (j.cps.toList<i.cps.toList))) U M H (.str _) (.str _) x y P Q dom vM hx hy w q)
 ·exact w.elim
def ZP:R2:=IC λi j=>.bl (decide (j<i))
theorem Tp:OpR X (compareOp .Gt) ZP:=W0
theorem XF:Fa X.K .sh ZP (f2 λi j=>.bl (decide (j<i))):=NE
def ZQ:R2:=IC λi j=>.bl (decide (j<=i))
theorem X0:OpR X (compareOp .GtE) ZQ:=W1
theorem Zt:Fa X.K .sh ZQ (f2 λi j=>.bl (decide (j<=i))):=NE
def ZF:V->Option Int->Option Int->Hp->VK->Prop:=λx lo hi H Q=>∃z,x=.str z/\z.length<=sizeLine/\Q (.str (Txt.slice z lo hi)) H
theorem sl_U:SlR X ZF:=Xe
def Q_(w:DW):DW:=λn ρ P=>w n ρ λd n1=>∃i,d=.int i/\P (.int (-i)) n1
theorem KZ{a:cC}{κ:Kd}{wa:DW}{pos:Pos}(h:DE X a κ wa):DE X (.UnaryOp .USub a pos) .sh (Q_ wa):=by
 obtain⟨t,h1,h2⟩:=h;refine⟨_,ZU XS h1,λC M H n ρ σ P Q R w q=>?_⟩;refine h2 C M H n ρ σ _ _ R w λv H1 d n1 e1 f1 r1 p=>?_;obtain⟨i,rfl,p⟩:=p;exact⟨i,Mh r1,q _ H1 (.int (-i)) n1 e1 f1 rfl p⟩
def Got(P:cL)(w:cQ)(K:Frag)(mg:Str->Option Ev)(base:b9)(x:Str)(k:Nat)(ps:List Str)(κ:Kd)(W:W2):Prop :=
 ∃f fd,BG P w K mg base CP k f fd ps (DY K κ W ps.length)/\mg x=some (.ref f)/\keepIn K (.ref f)=true/\Binds K fd ps []/\∀ss n P,W ss n P->ss.length=ps.length
theorem AL{e:cC}{es:List cC}{k:Nat}{ps:List Str}{κ:Kd}{W:W2}{x:Str}{p pos:Pos}{was:Yp}(G:Got X.prog X.w X.K X.mg X.base x k ps κ W)
  (hr:Room k X.A) (hg:Gl X x) (ha:Z5 X (e::es) was)
  (hdb:(x==("__debug__":Str))=false:=by decide) (he:starEach (e::es) X.env=(false,eval e X.env)::starEach es X.env:=by rfl) (hpl:(backTo pos (starEach es X.env)).any (·.1)=false:=by rfl) :
  DE X (.Call (.Name x p) (e::es) [] pos) κ (AV W was):=by
 obtain⟨f,fd,G,hm,hk,hb,hW⟩:=G;exact WK G hW hr hg hm hk hb ha hdb he hpl
def Wx(np:Nat)(g:List D->D):W2:=λss n P=>∃ds:List D,ds.length=np/\ss=ds.map .sh/\P (g ds) n
theorem RP{np:Nat}{g:List D->D}{ss:List Slot}{n:Nat}{P:D->Nat->Prop}(h:Wx np g ss n P):ss.length=np:=by
 obtain⟨ds,e,rfl,_⟩:=h;rw [No]; exact e
theorem Vp:U3 K "int":=⟨λt ht=>by
 simp only [TW,bu,or_false] at ht
 rcases ht with rfl | rfl | rfl | rfl | rfl | rfl | rfl <;> kernel_rfl⟩
theorem UA:U3 K "bool":=⟨λt ht=>by
 simp only [TW,bu,or_false] at ht
 rcases ht with rfl | rfl | rfl | rfl | rfl | rfl | rfl <;> kernel_rfl⟩
theorem QZ:U3 K "str":=⟨λt ht=>by
 simp only [TW,bu,or_false] at ht
 rcases ht with rfl | rfl | rfl | rfl | rfl | rfl | rfl <;> kernel_rfl⟩
theorem kit_tuple:U3 K "tuple":=⟨λt ht=>by
 simp only [TW,bu,or_false] at ht
 rcases ht with rfl | rfl | rfl | rfl | rfl | rfl | rfl <;> kernel_rfl⟩
end
theorem GI{i:Nat}{te:DW}{P:List D->Nat->Prop}{g:D->D}(I:List Slot->Prop)(hI:∀d ρ,I ρ->I (ρ.set i (.sh d))) :
  ∀(ds acc:List D) (n:Nat) (ρ:List Slot),(∀d∈ds,∀ρ n P',I ρ->P' (g d) n->te n (ρ.set i (.sh d)) P')->I ρ->P (acc++ds.map g) n->B9 (Aa i) CI te P ds acc n ρ
 | [],acc,n,ρ,_,_,h=>by
  rw [fJ,cH] at h;exact h
 | d::ds,acc,n,ρ,ht,hρ,h=>by
  refine ht d On ρ n _ hρ ?_;refine GI I hI ds (acc++[g d]) n _ (λd hd=>ht d (TM _ hd)) (hI d ρ hρ) ?_;rw [cb];exact h
theorem HC{α:Type}(p:α->Bool):∀l:List α,allB (l.map λc=>.bl (p c))=some (l.map p)
 | []=>rfl
 | a::l=>by
  rw [bm,bm];unfold allB;rw [HC p l];rfl
theorem Uo{b1 b2:Bool}{P:D->Nat->Prop}{n:Nat}{k:(D->Nat->Prop)->Prop}(hk:b1=true->P (.bl b2) n->k P)(h:P (.bl (b1&&b2)) n):(match (.bl b1:D) with | .bl true=>k P | .bl false=>P (.bl false) n | _=>False):=by
 cases b1 with
 | false=>exact h
 | true=>exact hk rfl h
theorem YG{P:cL}{w:cQ}{K:Frag}{mg:Str->Option Ev}{base:b9}{x:Str}{st:cS}{f:Db}{fd:bo}{k:Nat}{ps:List Str}{κ:Kd}{W:W2}(F:Fun K x x st f fd)(m:mg x=some (.ref f))(b:Binds K fd ps [])
  (hW:∀ss n P,W ss n P->ss.length=ps.length) (ok:BG P w K mg base CP k f fd ps (DY K κ W ps.length)):Got P w K mg base x k ps κ W:=⟨f,fd,ok,m,F.kp,b,hW⟩
def Nd(K:Frag):Sp:=λvs H Q _=>∃a ns,vs=[V.ref a]/\(fG (α:=Int) ns<=63/\SqL K H a (ns.map V.int))/\∀H',Q (.bl true) H'
def L8(K:Frag):Sp:=λvs H Q _=>∃a ns,vs=[V.ref a]/\(fG (α:=Int) ns<=63/\SqL K H a (ns.map V.int)) /\
 ∀(c f:Db) (H':Hp),c≠f->H' c=some (.lst (ns.map V.int))->H' f=some (.lst [.ref c,.int 0,.int 0])->Q (.ref f) H'
theorem Zq{ns:List Int}(h:ns.length<=63):LC (ns.map V.int) none (some 63)=ns.map V.int:=by
 have e:HT.sIx (ns.map V.int).length (ns.map V.int).length (some 63)=ns.length:=by
  rw [show (63:Int)=((63:Nat):Int) from rfl,HT.sIx_nat,No,Nat.min_eq_right h]
 unfold LC;rw [e,HT.sIx_none,List.drop_zero,Nat.sub_zero];exact gL (by rw [No]; exact Rs _)
theorem Zh{P:cL}{w:cQ}{K:Frag}{mg:Str->Option Ev}{base:b9}{st s1:cS}{rest:List cS}{f:Db}{fd:bo}{Nr:List Str}{k n0:Nat}{wb:Af}(F:Fun K "law" "law" st f fd)
  (S:Ah ("_law_script" :: "_law_feed_here"::Nr) ["_law_script"] (AR st)) (hbd:CO st=s1::rest) (hn0:n0<=2 ^ 60)
  (h1:∀(cdv:Ev) (A:cw) (outer:List Env) (s:Op) (H:Hp) (E:XK),Room k (A.deeper (envOfC "law" (AR st) s.heap.objs.size f cdv)) ->
   PS (M7 CP P w K mg base ("_law_script" :: "_law_feed_here"::Nr) "law" (AR st) f cdv A outer s H E).nox s1 (Na (S2 (L8 K) [] E0 (P9 (B3 0) VL)) (IH 1)))
  (h2:∀(cdv:Ev) (A:cw) (outer:List Env) (s:Op) (H:Hp) (E:XK),Room k (A.deeper (envOfC "law" (AR st) s.heap.objs.size f cdv)) ->
   Q6 (M7 CP P w K mg base ("_law_script" :: "_law_feed_here"::Nr) "law" (AR st) f cdv A outer s H E).nox .sh rest wb)
  (hW:wb { nx:=λ_ _=>False,rt:=λd _=>d=.bl true } n0 (.no::.fd::bj Nr.length .no)):BG P w K mg base CP (k+1) f fd ["_law_script"] (Nd K):=by
 refine F.ok S (λvs H Q E h=>?_) (λcdv A outer s H vs Q E hr h=>?_)
 ·obtain⟨a,ns,rfl,_⟩:=h
  rfl
 ·obtain⟨a,ns,rfl,⟨hl,hS⟩,q⟩:=h
  obtain⟨t,t1,t2⟩:=h2 cdv A outer s H E hr;refine⟨RG (Na (S2 (L8 K) [] E0 (P9 (B3 0) VL)) (IH 1)) t,by rw [hbd]; exact BL (h1 cdv A outer s H E hr) t1,?_⟩;refine⟨_,rfl,a,ns,rfl,⟨hl,hS⟩,λc g H' hcg hc hg=>?_⟩
  have at_:∀(i:Nat) (sl:Slot),(Slot.no::Slot.fd::bj Nr.length Slot.no)[i]?=some sl->Slot.no=sl\/(Slot.fd=sl/\i=1):=by
   intro i sl hs
   match i,hs with
   | 0,hs=>exact .inl (bg hs)
   | 1,hs=>exact .inr ⟨bg hs,rfl⟩
   | i+2,hs =>
    rw [im,im,gF] at hs
    split at hs
    ·exact .inl (bg hs)
    ·cases hs
  have R:Rel K ⟨λb=>b=g,some (g,c),λb=>b=g,λb=>b=g,H',[],[]⟩ (λb=>b=g) H' n0 (.no::.fd::bj Nr.length .no) ((start ("_law_script" :: "_law_feed_here"::Nr) [V.ref a]).set 1 (some (.ref g))):=by
   refine⟨by simp [L2.start],λ_ z=>z,λb z=>⟨_,(congrArg H' z).trans hg⟩,Ext.refl _ _,λb z=>by rw [← bg z],λ_ z=>z,λ_ z=>z,λb z=>?_,λi sl hs=>?_,λp hp=>absurd hp (by simp),λi d b hs _=>?_,λi sl b hs o _=>?_,λi j sl t b hs o _ _ _ _=>?_,λp hp=>absurd hp (by simp)⟩
   ·have e:(g,c)=b:=bg z
    subst e;exact⟨0,0,ns,hg,hcg,⟨hcg,hc⟩,hl,by decide,by omega⟩
   ·rcases at_ i sl hs with e | ⟨e,rfl⟩
    ·rw [← e]; trivial
    ·rw [← e]
     exact⟨(g,c),by simp [L2.start],rfl⟩
   ·rcases at_ i _ hs with e | ⟨e,_⟩ <;> cases e
   ·rcases at_ i sl hs with e | ⟨e,_⟩ <;> (rw [← e] at o; cases o)
   ·rcases at_ i sl hs with e | ⟨e,_⟩ <;> (rw [← e] at o; cases o)
  refine t2 _ _ H' n0 _ _ { nx:=λ_ _=>False,rt:=λd _=>d=.bl true } _ R ⟨λ_ _ _ _ _ _ z=>z.elim,λv H2 d n' _ _ r p=>?_,λ_ _ _ _ _ _ z=>z.elim,λ_ _ _ _ _ _ z=>z.elim⟩ hW;have e:d=.bl true:=p;subst e;have e2:v=.bl true:=r;subst e2;exact q H2
end Dp
namespace L2
open PySem PySem.Spec PyProof.Rows
section
variable {X:Cx}
theorem GZ:∀{us:List Ev} {ys:List Str},StrsAre us ys->Vals (ys.map V.str) us
 | _,_,.nil=>.nil
 | _,_,.cons x t r=>.cons ⟨t,rfl⟩ (GZ r)
def TH(K:Frag):List V->Hp->VK->Prop:=λxs H Q=>∃(p:Db) (ss:List Str),xs=[.ref p]/\SqL K H p (ss.map V.str)/\ss.length<64/\∀(ss':List Str) (l:Db),ss'.Perm ss->sortedS ss'=true->H l=none->Q (.ref l) (BC H l (.lst (ss'.map V.str)))
theorem Kj:C7 X (.builtin "sorted") (TH X.K):=by
 intro pins s σ H xs us Q I r h;obtain⟨p,ss,rfl,hq,h64,q⟩:=h;obtain⟨u,rfl,rx⟩:=vals1 r;cases rx;obtain⟨its,r',pl,hz⟩:=I.list hq;have hlen:=r'.length;rw [No] at hlen;refine sorted_strs pl.isList (JY r') (by omega) λout ss' a1 a2 a3=>?_;obtain⟨e,he⟩:=sortedAll_at s.heap its out;have hl':ss'.length=ss.length:=a2.length_eq;have hn:H (s.heap.objs.size+1)=none:=I.hok.fresh (dQ _);refine⟨.ref (s.heap.objs.size+1),_,I.laid (t':=s.toks) (λb o z=>sortedAll_old z) (dQ _) (show ObjOk X.prog X.w _ _ _ (.lst (ss'.map V.str)) from⟨?_,out.toList,e,GZ a1,?_⟩),rfl,q ss' _ a2 a3 hn⟩
 ·rw [No,cX]; omega
 ·exact he
def Wl:R2:=λx y H Q=>∃z k,x=.str z/\y=.int k/\MulOk z k/\Q (.str (Txt.mul z k)) H
theorem Vf:OpR X (binaryOp .Mult) Wl:=by
 intro pins s σ H x y v u Q I rx ry h;obtain⟨z,k,rfl,rfl,hm,q⟩:=h;obtain⟨t,rfl⟩:=rx;obtain⟨t',rfl⟩:=ry;exact SB.mul hm λt' k=>⟨.str _,H,I.tok _,⟨_,rfl⟩,q⟩
end
end L2
namespace Dp
open PySem PySem.Spec PyProof.Rows L2
section
variable {K:Frag}
def B_(ds:List D)(P:D->Prop):Prop:=match ds with
 | [.lst xs]=>P (.tup xs)
 | [.tup xs]=>P (.tup xs)
 | _=>False
theorem DN:EB K .sh (λxs H Q=>∃p ys,xs=[.ref p]/\((SqL K H p ys/\∀l,H l=none->Q (.ref l) (BC H l (.tup ys)))\/(SqT K H p ys/\Q (.ref p) H))) B_:=by
 intro U M H ds vs P Q dom vM hp w q;unfold B_ at w
 split at w
 ·obtain⟨v,rfl,hx⟩:=Gm hp
  obtain⟨a,us,rfl,_,ha,hs⟩:=hx;exact⟨a,us,rfl,.inl ⟨.inl ha,λl hl=>q _ _ (.tup _) (Ay hl) (Cq dom hl hs) w⟩⟩
 ·obtain⟨v,rfl,hx⟩:=Gm hp
  obtain⟨a,us,rfl,ha,hs⟩:=hx.tup;exact⟨a,us,rfl,.inr ⟨ha.sq,q _ H (.tup _) .refl ⟨a,us,rfl,ha,hs⟩ w⟩⟩
 ·exact w.elim
theorem Ats.strs{M:Db->Prop}{H:Hp}:∀{ss:List Str},(∀x∈ss,x.length<=sizeLine)->Ats K M H (ss.map D.str) (ss.map V.str)
 | [],_=>rfl
 | x::r,h=>⟨.str x,r.map V.str,rfl,⟨rfl,h x On⟩,Ats.strs λy hy=>h y (TM _ hy)⟩
theorem Ats.strs_le{M:Db->Prop}{H:Hp}:∀{ss:List Str} {vs:List V},Ats K M H (ss.map D.str) vs->∀x∈ss,x.length<=sizeLine
 | [],_,_=>λx hx=>by cases hx
 | y::r,vs,h=>λx hx=>by
  obtain⟨v,t,e,h1,h2⟩:=h
  rcases TW.mp hx with rfl | hx
  ·exact h1.2
  ·exact Ats.strs_le h2 x hx
def KO(ds:List D)(P:D->Prop):Prop:=∃(xs:List D) (ss:List Str),ds=[.lst xs]/\Cs xs=some ss/\ss.length<64/\∀ss':List Str,ss'.Perm ss->sortedS ss'=true->P (.lst (ss'.map .str))
theorem Qu:∀{xs:List D} {ss:List Str},Cs xs=some ss->xs=ss.map .str
 | [],ss,h=>by cases h; rfl
 | .str b::r,ss,h=>by
  unfold Cs at h;obtain⟨t,e,rfl⟩:=cU.mp h;rw [bm,← Qu e]
 | .non::r,ss,h=>by unfold Cs at h; cases h
 | .int _::r,ss,h=>by unfold Cs at h; cases h
 | .bl _::r,ss,h=>by unfold Cs at h; cases h
 | .tup _::r,ss,h=>by unfold Cs at h; cases h
 | .lst _::r,ss,h=>by unfold Cs at h; cases h
 | .dic _ _::r,ss,h=>by unfold Cs at h; cases h
 | .fdi _ _::r,ss,h=>by unfold Cs at h; cases h
 | .dit _ _::r,ss,h=>by unfold Cs at h; cases h
theorem Qy:EB K .fr (TH K) KO:=by
 intro U M H ds vs P Q dom vM hp w q;obtain⟨xs,ss,rfl,e,h64,w⟩:=w;obtain⟨v,rfl,hx⟩:=Gm hp;obtain⟨a,us,rfl,_,ha,hs⟩:=hx
 have:=NB e hs
 subst this;have e2:=Qu e;subst e2;refine⟨a,ss,rfl,.inl ha,h64,λss' l h1 h2 hl=>?_⟩;exact q _ _ _ (Ay hl) (D7 hl (Ats.strs λx hx=>hs.strs_le x (h1.mem_iff.mp hx))) (w ss' h1 h2)
def By(d e:D)(P:D->Prop):Prop:=match d,e with
 | .int i,.int j=>CMul i j/\P (.int (i*j))
 | .str z,.int k=>MulOk z k/\(Txt.mul z k).length<=sizeLine/\P (.str (Txt.mul z k))
 | _,_=>False
def Wm:R2:=λx y H Q=>(rI CMul λi j=>.int (i*j)) x y H Q\/Wl x y H Q
theorem BY{X:Cx}:OpR X (binaryOp .Mult) Wm:=op_mul.or Vf
theorem B6:Fa K .sh Wm By:=λU M H d e x y P Q dom vM hx hy w q=>by
 unfold By at w
 split at w
 ·exact .inl (H_ (K:=K) (C:=CMul) (g:=λi j=>i*j) U M H (.int _) (.int _) x y P Q dom vM hx hy w q)
 ·rename_i z k
  exact .inr ⟨z,k,hx.1,hy,w.1,q _ H (.str _) .refl ⟨rfl,w.2.1⟩ w.2.2⟩
 ·exact w.elim
end
section
variable {X:Cx}{tg e e2:Expr}{es:List Expr}{ws:Ee}{p pos:Pos}
def Sm(ws:Ee):Ee:=λn ρ P=>ws n ρ λds n1=>∃i j:Int,ds=[.int i,.int j]/\(-(2 ^ 62)<=i/\i<2 ^ 62/\-(2 ^ 62)<=j/\j<2 ^ 62)/\P (Cv i (j - i).toNat) n1
theorem Lf(hg:Gl X "range")(hm:X.mg "range"=none)(ha:U_ X [e,e2] ws)(hs:starEach [e,e2] X.env=[(false,eval e X.env),(false,eval e2 X.env)]:=by rfl)(hs2:starEach [e2] X.env=[(false,eval e2 X.env)]:=by rfl):DI X tg (.Call (.Name "range" p) [e,e2] [] pos) (Sm ws):=by
 obtain⟨t,a1,a2⟩:=ha;refine⟨_,RR hg hm a1 hs hs2,λC M H n ρ σ P Rr R w q=>?_⟩;refine a2 C M H n ρ σ _ _ R w λvs H1 ds n1 e1 f1 r1 p=>?_;obtain⟨i,j,rfl,hj,p⟩:=p;cases r1 with
 | cons r rr =>
  cases rr with
  | cons r' rr =>
   cases rr;have hv:_=V.int i:=r;have hv':_=V.int j:=r';exact⟨i,j,by rw [hv,hv'],hj,q _ H1 _ n1 e1 f1 GX p⟩
def aL(X:Cx)(ts:List cC)(b:List D->List Slot->(List Slot->Prop)->Prop):Prop:=∃g,Zz X ts g/\∀(C:Fm) (M:Db->Prop) (H:Hp) (n:Nat) (ρ:List Slot) (σ:L2.St) (ds:List D) (vs:List V) (P:List Slot->Prop) (Q:L2.St->Hp->Prop),Rel X.K C M H n ρ σ->Ats X.K M H ds vs->b ds ρ P ->
 (∀ρ' σ',Rel X.K C M H n ρ' σ'->P ρ'->Q σ' H)->g vs σ H Q
def B0:List D->List Slot->(List Slot->Prop)->Prop:=λds ρ P=>ds=[]/\P ρ
def An(b:BW)(bs:List D->List Slot->(List Slot->Prop)->Prop):List D->List Slot->(List Slot->Prop)->Prop:=λds ρ P=>match ds with
 | d::r=>b d ρ λρ1=>bs r ρ1 P
 | []=>False
theorem CN:aL X [] B0:=⟨_,QJ,λC M H n ρ σ ds vs P Q R h w q=>by
 obtain⟨rfl,w⟩:=w;exact⟨h,q ρ σ R w⟩⟩
theorem Au{b:BW}{bs:List D->List Slot->(List Slot->Prop)->Prop}(h1:DG X e b)(h2:aL X es bs)(hs:(assignEach (e::es) X.env).map (·.2)=assign e X.env::(assignEach es X.env).map (·.2):=by rfl):aL X (e::es) (An b bs):=by
 obtain⟨g,a1,a2⟩:=h1;obtain⟨g',b1,b2⟩:=h2;refine⟨_,Gi a1 b1 hs,λC M H n ρ σ ds vs P Q R h w q=>?_⟩;cases ds with
 | nil=>exact w.elim
 | cons d r =>
  obtain⟨v,vr,e,hv,hr⟩:=h;exact⟨v,vr,e,a2 C M H n ρ σ d v _ _ R hv w λρ' σ' R' w'=>b2 C M H n ρ' σ' r vr _ _ R' hr w' q⟩
def DU(k:Nat)(bs:List D->List Slot->(List Slot->Prop)->Prop):BW:=λd ρ P=>match d with
 | .tup ds=>ds.length=k/\bs ds ρ P
 | _=>False
theorem DL{bs:List D->List Slot->(List Slot->Prop)->Prop}{k:Nat}{j:Nat}(hc:X.calm=true)(h:aL X es bs)(hn:(assignEach es X.env).length=k:=by rfl)(hst:(assignEach es X.env).findIdx? (·.1)=none:=by rfl):DG X (.Tuple es j pos) (DU k bs):=by
 obtain⟨g,a1,a2⟩:=h;refine⟨_,Tc hc a1 hn hst,λC M H n ρ σ d v P Q R h w q=>?_⟩;cases d with
 | tup ds =>
  obtain⟨a,vs,rfl,hq,hs⟩:=h;exact⟨a,vs,rfl,hq.sq,by rw [hs.length]; exact w.1,a2 C M H n ρ σ ds vs P Q R hs w.2 q⟩
 | _=>exact w.elim
def Yz(wa:DW)(b:BW):Af:=λD2 n ρ=>wa n ρ λd n1=>b d ρ λρ1=>D2.nx n1 ρ1
theorem YO{κ κe:Kd}{wa:DW}{b:BW}(he:DE X e κe wa)(hg:DG X tg b)(hk:κe≠.tp:=by intro z; cases z)(hs:swapsWithSole [tg] e pos.line X.env=pure false:=by rfl)(hw:swappedStores [tg] e X.env=pure none:=by rfl)
  (h1:(assignEach [tg] X.env).map (·.2)=[assign tg X.env]:=by rfl):DS X κ (.Assign [tg] e pos) (Yz wa b):=by
 obtain⟨t,a1,a2⟩:=he;obtain⟨g,g1,g2⟩:=hg;refine⟨_,MM a1 g1 hs hw h1,λC M H n ρ σ D2 E R L w=>?_⟩;refine a2 C M H n ρ σ _ _ R w λv H' d n' e1 f1 r1 p=>?_;exact g2 C M H' n' ρ σ d v _ _ (R.step e1 f1) (r1.shOf R.dom hk) p λρ' σ' R' w'=>L.nx M H' n' ρ' σ' R' w'
end
end Dp
namespace L2
open PySem PySem.Spec PyProof.Rows
mutual
def RV(H:Hp):fw->V->Prop
 | .none,v=>v=.non
 | .bool b,v=>v=.bl b
 | .int i,v=>v=.int i
 | .str x,v=>v=.str x
 | .tuple xs,v=>∃a vs,v=.ref a/\H a=some (.tup vs)/\RVs H xs vs
 | .list xs,v=>∃a vs,v=.ref a/\Rd H a (.lst vs)/\RVs H xs vs
 | .dict _,_=>False
def RVs(H:Hp):List fw->List V->Prop
 | [],vs=>vs=[]
 | x::xs,vs=>∃v r,vs=v::r/\RV H x v/\RVs H xs r
end
section
variable {X:Cx}{pins:List (Addr×Obj)}{σ:L2.St}{H:Hp}{s:Shared}
mutual
theorem RV.reads(I:Inv X pins σ H s):∀{d:fw} {v:V} {u:Ev},RV H d v->RelV v u->∃as,Reads s.heap u d as
 | .none,v,u,h,r=>by
  cases (show v=.non from h);cases (show u=cR from r);exact⟨_,.none⟩
 | .bool b,v,u,h,r=>by
  cases (show v=.bl b from h);cases (show u=eY b from r);exact⟨_,.bool b⟩
 | .int i,v,u,h,r=>by
  cases (show v=.int i from h);obtain⟨t,rfl⟩:=r;exact⟨_,.int i t⟩
 | .str x,v,u,h,r=>by
  cases (show v=.str x from h);obtain⟨t,rfl⟩:=r;exact⟨_,.str x t⟩
 | .tuple xs,v,u,h,r=>by
  obtain⟨a,vs,rfl,hq,hs⟩:=h;cases r;obtain⟨its,rv,⟨o,e,c,n,d⟩,_⟩:=I.tuple (X:=X) (xs:=vs) (.inl (.inl hq));obtain⟨as,ra⟩:=RVs.reads I hs rv;exact⟨_,.tuple e c d ra⟩
 | .list xs,v,u,h,r=>by
  obtain⟨a,vs,rfl,hq,hs⟩:=h;cases r;obtain⟨its,rv,pl,_⟩:=I.list (X:=X) (xs:=vs) (.inl hq);obtain⟨o,e,c,n,d⟩:=pl.isList;obtain⟨as,ra⟩:=RVs.reads I hs rv;exact⟨_,.list e c d ra⟩
 | .dict _,v,u,h,r=>h.elim
theorem RVs.reads(I:Inv X pins σ H s):∀{ds:List fw} {vs:List V} {us:List Ev},RVs H ds vs->Vals vs us->∃as,ReadsAll s.heap us ds as
 | [],vs,us,h,r=>by
  cases (show vs=[] from h);cases r;exact⟨_,.nil⟩
 | d::ds,vs,us,h,r=>by
  obtain⟨v,w,rfl,h1,h2⟩:=h;cases r with
  | cons r1 r2 =>
   obtain⟨as,a1⟩:=RV.reads I h1 r1;obtain⟨bs,a2⟩:=RVs.reads I h2 r2;exact⟨_,.cons a1 a2⟩
end
end
theorem RV.noDict{H:Hp}:∀(d:fw) (v:V),RV H d v->d.hasDict=false
 | d,v,h=>by
  have go:∀(n:Nat),(∀(d:fw) (v:V),sizeOf d<=n->RV H d v->d.hasDict=false)/\∀(ds:List fw) (vs:List V),sizeOf ds<=n->RVs H ds vs->iP ds=false:=by
   intro n
   induction n with
   | zero =>
    refine⟨λd v h _=>?_,λds vs h _=>?_⟩
    ·cases d <;> simp at h
    ·cases ds <;> simp at h
   | succ n ih =>
    refine⟨λd v h hr=>?_,λds vs h hr=>?_⟩
    ·cases d with
     | tuple xs =>
      obtain⟨a,vs,_,_,hs⟩:=hr;simp only [fh];exact ih.2 xs vs (by simp at h; omega) hs
     | list xs =>
      obtain⟨a,vs,_,_,hs⟩:=hr;simp only [fh];exact ih.2 xs vs (by simp at h; omega) hs
     | dict kvs=>exact(show False from hr).elim
     | none=>simp only [fh]
     | bool b=>simp only [fh]
     | int i=>simp only [fh]
     | str x=>simp only [fh]
    ·cases ds with
     | nil=>simp only [iP]
     | cons x xs =>
      obtain⟨v,w,_,h1,h2⟩:=hr;simp only [iP,ih.1 x v (by simp at h; omega) h1,ih.2 xs w (by simp at h; omega) h2,jF]
  exact(go (sizeOf d)).1 d v (Rs _) h
section
variable {X:Cx}
def Wj:List V->Hp->VK->Prop:=λxs H Q=>∃x d,xs=[x]/\RV H d x/\d.showable=true/\d.depth<=100/\d.shown.length<=sizeLine/\Q (.str d.shown) H
theorem FX{k:Nat}(hr:Room k X.A):C7 X (.builtin "repr") Wj:=by
 intro pins s σ H xs us Q I r h;obtain⟨x,d,rfl,hx,hs,hd,hz,q⟩:=h;obtain⟨u,rfl,rx⟩:=vals1 r;have hu:=hr.un;cases d with
 | none =>
  cases (show x=.non from hx);cases (show u=cR from rx);exact PySem.P.repr_of_none ⟨.str _,H,I.tok _,⟨_,rfl⟩,q⟩
 | bool b =>
  cases (show x=.bl b from hx);cases (show u=eY b from rx);refine PySem.P.repr_of_bool ⟨.str _,H,I.tok _,⟨_,rfl⟩,?_⟩;have e:PyData.shown (.bool b)=if b then ("True":Str) else "False":=by cases b <;> rfl
  rw [e] at q;exact q
 | int i =>
  cases (show x=.int i from hx);obtain⟨t,rfl⟩:=rx;refine PySem.P.repr_of_int (by simpa [PyData.showable] using hs) ⟨.str _,H,I.tok _,⟨_,rfl⟩,q⟩
 | str z =>
  cases (show x=.str z from hx);obtain⟨t,rfl⟩:=rx;exact PySem.P.repr_of_str ⟨.str _,H,I.tok _,⟨_,rfl⟩,q⟩ hz
 | tuple ds =>
  obtain⟨as,ra⟩:=RV.reads I hx rx;obtain⟨a,vs,rfl,_⟩:=id hx;cases rx;refine repr_of_reads' ra hs (PyData.noDict_hsm (RV.noDict _ _ hx)) hr.gd (by omega) (λ_ _ e=>e) (λh' u tk hk=>⟨.str _,H,I.kept (t':=tk) hk,⟨_,rfl⟩,q⟩) hz
 | list ds =>
  obtain⟨as,ra⟩:=RV.reads I hx rx;obtain⟨a,vs,rfl,_⟩:=id hx;cases rx;refine repr_of_reads' ra hs (PyData.noDict_hsm (RV.noDict _ _ hx)) hr.gd (by omega) (λ_ _ e=>e) (λh' u tk hk=>⟨.str _,H,I.kept (t':=tk) hk,⟨_,rfl⟩,q⟩) hz
 | dict _=>exact(show False from hx).elim
def ZR:R2:=λx y H Q=>∃d e,RV H d x/\RV H e y/\d.canLay0=true/\e.canLay0=true/\d.depth<=100/\Q (.bl (dL d e)) H
theorem Tq{k:Nat}(hr:Room k X.A):OpR X (compareOp .Eq) ZR:=by
 intro pins s σ H x y v u Q I rx ry h;obtain⟨d,e,hx,hy,h1,h2,hd,q⟩:=h;obtain⟨as,ra⟩:=RV.reads I hx rx;obtain⟨bs,rb⟩:=RV.reads I hy ry;have hu:=hr.un;have hm:min d.depth e.depth<=d.depth:=Nat.min_le_left _ _;exact PySem.SeqAt.compareEq_reads ra rb h1 h2 (by omega) ⟨.bl _,H,I,rfl,q⟩
def Xl(neg:Bool):R2:=λx y H Q=>∃d es,RV H d x/\(RV H (.list es) y\/RV H (.tuple es) y)/\d.canLay0=true/\dq es=true/\d.depth<=100/\Q (.bl (if neg then !(es.any λy=>dL y d) else es.any λy=>dL y d)) H
theorem E4{k:Nat}(hr:Room k X.A):OpR X (compareOp .In) (Xl false):=by
 intro pins s σ H x y v u Q I rx ry h;obtain⟨d,es,hx,hy,h1,h2,hd,q⟩:=h;obtain⟨as,ra⟩:=RV.reads I hx rx;have hu:=hr.un;have hm:min (dD es) d.depth<=d.depth:=gS _ _
 rcases hy with hy | hy
 ·obtain⟨bs,rb⟩:=RV.reads I hy ry
  exact PySem.SeqAt.in_list_reads rb ra h2 h1 (by omega) ⟨.bl _,H,I,rfl,q⟩
 ·obtain⟨bs,rb⟩:=RV.reads I hy ry
  exact PySem.SeqAt.in_tuple_reads rb ra h2 h1 (by omega) ⟨.bl _,H,I,rfl,q⟩
theorem LV{k:Nat}(hr:Room k X.A):OpR X (compareOp .NotIn) (Xl true):=by
 intro pins s σ H x y v u Q I rx ry h;obtain⟨d,es,hx,hy,h1,h2,hd,q⟩:=h;obtain⟨as,ra⟩:=RV.reads I hx rx;have hu:=hr.un;have hm:min (dD es) d.depth<=d.depth:=gS _ _
 rcases hy with hy | hy
 ·obtain⟨bs,rb⟩:=RV.reads I hy ry
  exact PySem.SeqAt.notIn_list_reads rb ra h2 h1 (by omega) ⟨.bl _,H,I,rfl,q⟩
 ·obtain⟨bs,rb⟩:=RV.reads I hy ry
  exact PySem.SeqAt.notIn_tuple_reads rb ra h2 h1 (by omega) ⟨.bl _,H,I,rfl,q⟩
end
end L2
namespace Dp
open PySem PySem.Spec PyProof.Rows L2
mutual
def toPy:D->fw
 | .non=>.none
 | .bl b=>.bool b
 | .int i=>.int i
 | .str x=>.str x
 | .tup ds=>.tuple (BA ds)
 | .lst ds=>.list (BA ds)
 | .dic _ _=>.dict []
 | .fdi _ _=>.dict []
 | .dit _ _=>.dict []
def BA:List D->List fw
 | []=>[]
 | d::ds=>toPy d::BA ds
end
mutual
def EW:D->Bool
 | .tup ds=>Bo ds
 | .lst ds=>Bo ds
 | .dic _ _=>false
 | .fdi _ _=>false
 | .dit _ _=>false
 | _=>true
def Bo:List D->Bool
 | []=>true
 | d::ds=>EW d&&Bo ds
end
theorem FQ(ds:List D):BA ds=ds.map toPy:=by
 induction ds with
 | nil=>rfl
 | cons d r ih=>rw [BA,ih,bm]
section
variable {K:Frag}{M:Addr->Prop}{H:Hp}
mutual
theorem At.rv:∀{d:D} {v:V},At K M H d v->EW d=true->RV H (toPy d) v
 | .non,v,h,_=>h
 | .bl b,v,h,_=>h
 | .int i,v,h,_=>h
 | .str x,v,h,_=>h.1
 | .tup ds,v,h,n=>by
  obtain⟨a,vs,e,hn,hs⟩:=h;exact⟨a,vs,e,hn,Ats.rv hs n⟩
 | .lst ds,v,h,n=>by
  obtain⟨a,vs,e,hn,hs⟩:=h;exact⟨a,vs,e,.inl hn.2,Ats.rv hs n⟩
 | .dic ks ds,v,h,n=>by cases n
 | .fdi ks ds,v,h,n=>by cases n
 | .dit ks ds,v,h,n=>by cases n
theorem Ats.rv:∀{ds:List D} {vs:List V},Ats K M H ds vs->Bo ds=true->RVs H (BA ds) vs
 | [],vs,h,_=>h
 | d::ds,vs,h,n=>by
  obtain⟨v,r,e,h1,h2⟩:=h;have n':(EW d&&Bo ds)=true:=n;rw [bz] at n';exact⟨v,r,e,At.rv h1 n'.1,Ats.rv h2 n'.2⟩
end
theorem AtT.rv{U:Db->Prop}{d:D}{v:V}(h:AtT K U M H d v)(n:EW d=true):RV H (toPy d) v:=by
 cases d with
 | lst ds =>
  obtain⟨a,vs,e,_,hq,hs⟩:=h;exact⟨a,vs,e,hq,Ats.rv hs n⟩
 | dic ks ds=>cases n
 | fdi ks ds=>cases n
 | dit ks ds=>cases n
 | non=>exact h
 | bl b=>exact h
 | int i=>exact h
 | str x=>exact h.1
 | tup ds=>exact At.rv (K:=K) (M:=M) (d:=.tup ds) h n
def Nf(d:D):Prop:=EW d=true/\(toPy d).showable=true/\(toPy d).depth<=100/\(toPy d).shown.length<=sizeLine
def Jc(d:D):Str:=(toPy d).shown
def OT(ds:List D)(P:D->Prop):Prop:=∃d,ds=[d]/\Nf d/\P (.str (Jc d))
theorem ND:EB K .sh Wj OT:=by
 intro U M H ds vs P Q dom vM hp w q;obtain⟨d,rfl,hd,w⟩:=w;obtain⟨v,rfl,hx⟩:=Gm hp;exact⟨v,toPy d,rfl,hx.rv hd.1,hd.2.1,hd.2.2.1,hd.2.2.2,q _ H (.str (Jc d)) .refl ⟨rfl,hd.2.2.2⟩ w⟩
def E9(d:D):Prop:=EW d=true/\(toPy d).canLay0=true/\(toPy d).depth<=100
def GQ(d e:D):Bool:=dL (toPy d) (toPy e)
def YJ(d e:D)(P:D->Prop):Prop:=E9 d/\E9 e/\P (.bl (GQ d e))
theorem XG:Fa K .sh ZR YJ:=λU M H d e x y P Q dom vM hx hy w q =>
 ⟨toPy d,toPy e,hx.rv w.1.1,hy.rv w.2.1.1,w.1.2.1,w.2.1.2.1,w.1.2.2,q _ H (.bl (GQ d e)) .refl rfl w.2.2⟩
def Em:D->Option (List D)
 | .lst ds=>some ds
 | .tup ds=>some ds
 | _=>none
def GP(neg:Bool)(d e:D)(P:D->Prop):Prop:=E9 d/\E9 e/\∃es,Em e=some es/\P (.bl (if neg then !(es.any λy=>GQ y d) else es.any λy=>GQ y d))
theorem F1{neg:Bool}:Fa K .sh (Xl neg) (GP neg):=λU M H d e x y P Q dom vM hx hy w q=>by
 obtain⟨h1,h2,es,he,w⟩:=w;have any_eq:∀es:List D,(es.map toPy).any (λy=>dL y (toPy d))=es.any λy=>GQ y d:=λes=>by rw [List.any_map]; rfl
 cases e with
 | lst ds =>
  cases he;refine⟨toPy d,BA es,hx.rv h1.1,.inl (hy.rv h2.1),h1.2.1,by simpa [toPy,PyData.canLay0] using h2.2.1,h1.2.2,?_⟩;rw [FQ,any_eq];exact q _ H (.bl _) .refl rfl w
 | tup ds =>
  cases he;refine⟨toPy d,BA es,hx.rv h1.1,.inr (hy.rv h2.1),h1.2.1,by simpa [toPy,PyData.canLay0] using h2.2.1,h1.2.2,?_⟩;rw [FQ,any_eq];exact q _ H (.bl _) .refl rfl w
 | _=>cases he
end
end Dp
namespace L2
open PySem PySem.Spec PyProof.Rows
end L2
namespace Dp
open PySem PySem.Spec PyProof.Rows L2
end Dp
namespace L2
open PySem PySem.Spec PyProof.Rows
def kOf:Key->V
 | .inl i=>.int i
 | .inr x=>.str x
def aD:Key->Key->Bool
 | .inl i,.inl j=>decide (i<j)
 | .inr x,.inr y=>decide (x.cps.toList<y.cps.toList)
 | _,_=>false
def LS:Key->Key->Bool
 | .inl _,.inl _=>true
 | .inr _,.inr _=>true
 | _,_=>false
def E6:List Key->List Key->Bool
 | [],[]=>false
 | [],_::_=>true
 | _::_,[]=>false
 | x::xs,y::ys=>if x=y then E6 xs ys else aD x y
def CB:List Key->List Key->Bool
 | x::xs,y::ys=>LS x y&&CB xs ys
 | _,_=>true
theorem UV{A:cw}{s:Op}{x y:Key}{u v:Ev}(rx:RelV (kOf x) u)(ry:RelV (kOf y) v):∃e,SeqAt.EqAt A s u v e/\(e=true↔x=y):=by
 cases x with
 | inl i =>
  cases y with
  | inl j=>exact⟨_,Mq rx ry rfl rfl,by simp [kOf,Zl]⟩
  | inr z=>exact⟨_,Mq rx ry rfl rfl,by simp [kOf,Zl]⟩
 | inr z =>
  cases y with
  | inl j=>exact⟨_,Mq rx ry rfl rfl,by simp [kOf,Zl]⟩
  | inr z'=>exact⟨_,Mq rx ry rfl rfl,by simp [kOf,Zl]⟩
theorem TD(A:cw)(s:Op){x y:Key}{u v:Ev}(rx:RelV (kOf x) u)(ry:RelV (kOf y) v)(hs:LS x y=true)(prog:cL)(w:cQ)(E:Ev->Op->Prop)(Q:Ev->Op->Prop)(h:Q (.bool (aD x y)) s) :
  wpAny (model prog w) A (richCompare .Lt u v) Q E s:=by
 cases x with
 | inl i =>
  cases y with
  | inl j =>
   obtain⟨t,rfl⟩:=rx;obtain⟨t',rfl⟩:=ry;exact(iy h:wpAny (model prog w) A (compareOp .Lt (.int i t) (.int j t')) Q E s)
  | inr z=>cases hs
 | inr z =>
  cases y with
  | inl j=>cases hs
  | inr z' =>
   obtain⟨t,rfl⟩:=rx;obtain⟨t',rfl⟩:=ry;exact(PySem.P.lt_str h:wpAny (model prog w) A (compareOp .Lt (.str z t) (.str z' t')) Q E s)
section
open PySem.SeqAt
open PySem.AutoSeq1 (wpAny_loadPart')
open PySem.MeetsSeq PySem.MeetsSeq2 PySem.MeetsSeq3
theorem Fi(l b:Db)(items items2:Array Ev)(n n2:Nat)(dd dd2:Option Db)(sl sl2:Array (Option Ev))(ns ms:List Key)(hi:Vals (ns.map kOf) items.toList)(hj:Vals (ms.map kOf) items2.toList)(hsame:CB ns ms=true) :
  Meets (dh.«tuple.__lt__» ⟨[.ref l,.ref b],[]⟩)
   (λ_ R s=>s.heap.get? l=some { cls:=.type "tuple",dict:=dd,data:=.seq items n,slots:=sl }/\s.heap.get? b=some { cls:=.type "tuple",dict:=dd2,data:=.seq items2 n2,slots:=sl2 } /\
    R (.ok (.ret (.bool (E6 ns ms)))) s) :=
 .of_wp λprog w A R s h=>by
  obtain⟨hp,g,d,tk,os⟩:=s; obtain⟨hl,hb,h⟩:=h
  have f2:=AutoSeq1.sub_tuple_tuple;have z1:items.size=ns.length:=by have:=hi.length; rw [No] at this; rw [this]; simp
  have z2:items2.size=ms.length:=by have:=hj.length; rw [No] at this; rw [this]; simp
  wp_walk using dM hl,dM hb,wpAny_forIn_list _ (λrest b s'=>b.1=none/\s'=⟨hp,g,d,tk,os⟩/\∃(vs ws:List Ev) (ns' ms':List Key),rest=vs.zip ws /\
   Vals (ns'.map kOf) vs/\Vals (ms'.map kOf) ws/\CB ns' ms'=true/\ns'.length+items2.size=ms'.length+items.size/\R (.ok (.ret (.bool (E6 ns' ms')))) ⟨hp,g,d,tk,os⟩) _
  case turn =>
   rintro ⟨y,x⟩ rest b s' ⟨hb',rfl,vs,ws,ns',ms',hz,hvi,hwi,hsm,hlen,hR⟩;cases ns' with
   | nil=>cases hvi; rw [List.zip_nil_left] at hz; cases hz
   | cons a ns' =>
    cases ms' with
    | nil=>cases hwi; rw [List.zip_nil_right] at hz; cases hz
    | cons c ms' =>
     rw [bm] at hvi hwi;cases hvi with
     | cons ra hvi' =>
      cases hwi with
      | cons rc hwi' =>
       rw [hV] at hz;injection hz with hyx hrest
       injection hyx with hy hx
       subst hy hx;have hR':R (.ok (.ret (.bool (if a=c then E6 ns' ms' else aD a c)))) ⟨hp,g,d,tk,os⟩:=hR;have hsm':(LS a c&&CB ns' ms')=true:=hsm;rw [bz] at hsm';simp only [ZB] at hlen;obtain⟨e,he,hiff⟩:=UV (A:=A.in1) (s:=⟨hp,g,d,tk,os⟩) ra rc;refine Ch (he prog w _ _ ?_);cases e with
       | true =>
        rw [if_pos (hiff.mp rfl)] at hR'
        wp_walk
        exact⟨rfl,rfl,_,_,_,_,hrest,hvi',hwi',hsm'.2,by omega,hR'⟩
       | false =>
        rw [if_neg (λq=>absurd (hiff.mpr q) bw)] at hR';have hri:=TD A.in1 ⟨hp,g,d,tk,os⟩ ra rc hsm'.1 prog w
        wp_walk using hri
        exact⟨_,rfl,by simpa using hR'⟩
  case fin =>
   rintro ⟨b1,b2⟩ s' ⟨hb',rfl,vs,ws,ns',ms',hz,hvi,hwi,hsm,hlen,hR⟩;simp only at hb';subst hb'
   have hv:E6 ns' ms'=decide (items.size<items2.size):=by
    cases ns' with
    | nil =>
     cases ms' with
     | nil =>
      simp only [dR] at hlen;exact(decide_eq_false (by omega)).symm
     | cons c u =>
      simp only [dR,ZB] at hlen;exact(decide_eq_true (by omega)).symm
    | cons a t =>
     cases ms' with
     | nil =>
      simp only [dR,ZB] at hlen;exact(decide_eq_false (by omega)).symm
     | cons c u =>
      rw [bm] at hvi hwi;cases hvi;cases hwi;rw [hV] at hz;cases hz
   rw [hv] at hR
   wp_walk
   exact⟨_,rfl,by simpa [Builtin.Tuple.tupleCompareSizes] using hR⟩
  case h =>
   exact⟨rfl,rfl,items.toList,items2.toList,ns,ms,rfl,hi,hj,hsame,by omega,h⟩
end
section
variable {X:Cx}
def ZJ(K:Frag):R2:=λx y H Q=>∃a b ns ms,x=.ref a/\y=.ref b/\SqT K H a (ns.map kOf)/\SqT K H b (ms.map kOf)/\CB ns ms=true/\Q (.bl (E6 ns ms)) H
theorem Xz(hu:X.A.units<cLine):OpR X (compareOp .Lt) (ZJ X.K):=by
 intro pins s σ H x y v u Q I rx ry h;obtain⟨a,b,ns,ms,rfl,rfl,ha,hb,hsm,q⟩:=h;cases rx;cases ry;obtain⟨its,r1,p1,_⟩:=I.tuple ha;obtain⟨its2,r2,p2,_⟩:=I.tuple hb;obtain⟨⟨cls,dd,data,sl⟩,ho,hc,n,hd⟩:=id p1;obtain⟨⟨cls2,dd2,data2,sl2⟩,ho2,hc2,n2,hd2⟩:=id p2;simp only at hc hd hc2 hd2;subst hc hd hc2 hd2
 exact richCompare_meets_room (op:=.Lt) ⟨_,ho,rfl⟩ ⟨_,ho2,rfl⟩ PySem.F.slot_tuple_lt PySem.F.entry_tuple_lt (PySem.F.args_tuple_lt_2 _ _) (Fi a b its.toArray its2.toArray n n2 dd dd2 sl sl2 ns ms r1 r2 hsm)
  ⟨ho,ho2,show eY (E6 ns ms)≠jE/\EP X pins σ Q (.bool (E6 ns ms)) s from⟨(λx=>nomatch x),⟨.bl _,H,I,rfl,q⟩⟩⟩ hu
end
def ItAt(κ:Bool)(h:b9)(it l:Db)(k:Nat):Prop:=match κ with
 | true=>h.IsListIter it l k
 | false=>h.IsTupleIter it l k
def SqAt(κ:Bool)(h:b9)(l:Db)(items:Array Ev):Prop:=match κ with
 | true=>h.IsList l items
 | false=>h.IsTuple l items
section
variable {κ:Bool}{h h':Heap}{it l b:Addr}{k:Nat}{items:Array Value}
theorem ItAt.mv(x:ItAt κ h it l k)(e:∀o,h.get? it=some o->h'.get? it=some o):ItAt κ h' it l k:=by
 cases κ with
 | true=>obtain⟨o,ho,r⟩:=x; exact⟨o,e o ho,r⟩
 | false=>obtain⟨o,ho,r⟩:=x; exact⟨o,e o ho,r⟩
theorem SqAt.mv(x:SqAt κ h l items)(e:∀o,h.get? l=some o->h'.get? l=some o):SqAt κ h' l items:=by
 cases κ with
 | true=>obtain⟨o,ho,r⟩:=x; exact⟨o,e o ho,r⟩
 | false=>obtain⟨o,ho,r⟩:=x; exact⟨o,e o ho,r⟩
theorem ItAt.eb(x:ItAt κ h it l k)(hs:Heap.ExtBut b h h')(n:it≠b):ItAt κ h' it l k:=x.mv λo e=>hs it o n e
theorem SqAt.eb(x:SqAt κ h l items)(hs:Heap.ExtBut b h h')(n:l≠b):SqAt κ h' l items:=x.mv λo e=>hs l o n e
theorem ItAt.lies(x:ItAt κ h it l k):∃o,h.get? it=some o/\∀v,o.data≠.cell v:=by
 cases κ with
 | true=>obtain⟨o,ho,_,d⟩:=x; exact⟨o,ho,λv z=>by rw [d] at z; cases z⟩
 | false=>obtain⟨o,ho,_,d⟩:=x; exact⟨o,ho,λv z=>by rw [d] at z; cases z⟩
theorem SqAt.lies(x:SqAt κ h l items):∃o,h.get? l=some o:=by
 cases κ with
 | true=>obtain⟨o,ho,_⟩:=x; exact⟨o,ho⟩
 | false=>obtain⟨o,ho,_⟩:=x; exact⟨o,ho⟩
end
section
variable {prog:Program}{w:World}{A:Around}{E:Value->Shared->Prop}{s:Shared}
theorem C_{κ:Bool}{it l:Db}{i:Nat}{items:Array Ev}{x:Ev}{Q:Ev->Op->Prop}(hit:ItAt κ s.heap it l i)(hl:SqAt κ s.heap l items)(hx:items[i]?=some x)
  (hQ:∀h',ItAt κ h' it l (i+1)->fe it s.heap h'->Q x { s with heap:=h' }):wpAny (model prog w) A (cP (.ref it)) Q E s:=by
 cases κ with
 | true=>exact wpAny_nextOf_list_item hit hl hx hQ
 | false =>
  have hit':s.heap.IsTupleIter it l i:=hit;have hl':s.heap.IsTuple l items:=hl;obtain⟨o,ho,hc,hd⟩:=id hit'; obtain⟨ol,hol,_,nl,hdl⟩:=hl'
  unfold cP;refine Ch (cz (name:=cZ "__next__") hit'.typeIs e8 (df e8 hit'.typeIs hX ?_ (gy _)));show wpAny (model prog w) _ (field (.ref it) 0 >>= _) _ _ s; refine Ch (cT ho hd (x:=.ref l) rfl ?_)
  show wpAny (model prog w) _ (if (cV l==cR)=true then _ else _) _ _ s; rw [if_neg (show ¬((cV l==cR)=true) from bw)]
  show wpAny (model prog w) _ (field (.ref it) 1 >>= _) _ _ s; refine Ch (cT ho hd (x:=.int i 0) rfl ?_)
  show wpAny (model prog w) _ (seqItems? (.ref l) >>= _) _ _ s; refine Ch (dB hol hdl ?_); simp only [fA,hx]
  refine Ch (wpAny_setField ho hd (by simp) (Sc ⟨x,rfl,Sc (hQ _ (show Heap.IsTupleIter _ it l (i+1) from ?_) (jJ ..))⟩));exact⟨_,fg _ ho (Obj.isFreed_of_fields (Obj.data_mapFields hd _)),(Obj.cls_mapFields ..).trans hc,by(rw [Obj.data_mapFields hd]; simp [rawInt])⟩
theorem E_{κ:Bool}{it l:Db}{i:Nat}{items:Array Ev}{Q:Ev->Op->Prop}(hh:A.handled=none)(hit:ItAt κ s.heap it l i)(hl:SqAt κ s.heap l items)(hx:items[i]?=none)
  (hE:∀h' e,Heap.ExtBut it s.heap h'->(∃o,h'.get? e=some o/\o.cls=.type "StopIteration")->E (.ref e) { s with heap:=h' }):wpAny (model prog w) A (cP (.ref it)) Q E s:=by
 cases κ with
 | true=>exact wpAny_nextOf_list_end hh hit hl hx hE
 | false =>
  have hit':s.heap.IsTupleIter it l i:=hit;have hl':s.heap.IsTuple l items:=hl;obtain⟨o,ho,hc,hd⟩:=id hit'; obtain⟨ol,hol,_,nl,hdl⟩:=hl'
  unfold cP;refine Ch (cz (name:=cZ "__next__") hit'.typeIs e8 (df e8 hit'.typeIs hX ?_ (gy _)));show wpAny (model prog w) _ (field (.ref it) 0 >>= _) _ _ s; refine Ch (cT ho hd (x:=.ref l) rfl ?_)
  show wpAny (model prog w) _ (if (cV l==cR)=true then _ else _) _ _ s; rw [if_neg (show ¬((cV l==cR)=true) from bw)]
  show wpAny (model prog w) _ (field (.ref it) 1 >>= _) _ _ s; refine Ch (cT ho hd (x:=.int i 0) rfl ?_)
  show wpAny (model prog w) _ (seqItems? (.ref l) >>= _) _ _ s; refine Ch (dB hol hdl ?_); simp only [fA,hx]
  refine Ch (fk (Ch (wpAny_setField ho hd (by simp) ?_))); show wpAny (model prog w) _ (newExc (.type "StopIteration") [] >>= _) _ _ _
  refine Ch ?_; simp only [newExc,newTuple]; refine Ch (cW ?_ (by size_fits))
  refine Ch (m:=firstArgMember _ _) (i4 (a:=cR) (by first | rfl | (simp only [firstArgMember]; rfl)) ?_); refine cW ?_ (by size_fits)
  simp only [raiseNew]; refine Ch (wpAny_handled ?_); first | rw [show A.in1.handled=none from hh] | rw [hh]
  refine Ch (Sc (wpAny_throw ?_)); exact hE _ _ (((jJ ..).extBut.push _).push _) ⟨_,Uf _ rfl,rfl⟩
structure Se (z TI TO i1 i2 l1 l2:Db):Prop where
 TIz:TI≠z
 TOz:TO≠z
 i1z:i1≠z
 i2z:i2≠z
 TOi1:TO≠i1
 TOi2:TO≠i2
 i12:i1≠i2
 l1z:l1≠z
 l1TO:l1≠TO
 l1i1:l1≠i1
 l1i2:l1≠i2
 l2z:l2≠z
 l2TO:l2≠TO
 l2i1:l2≠i1
 l2i2:l2≠i2
theorem Sf{κ1 κ2:Bool}{z TI TO i1 i2 l1 l2:Db}{k:Nat}{xs ys:Array Ev}{x y a b:Ev}{Q:Ev->Op->Prop}(D:Se z TI TO i1 i2 l1 l2)
  (hz:fD s.heap z TI TO .none) (hTI:cx s.heap TI (.ref i1) (.ref i2)) (hTO:cx s.heap TO a b) (h1:ItAt κ1 s.heap i1 l1 k) (h2:ItAt κ2 s.heap i2 l2 k) (hl1:SqAt κ1 s.heap l1 xs) (hl2:SqAt κ2 s.heap l2 ys) (hx:xs[k]?=some x) (hy:ys[k]?=some y)
  (hQ:∀h',fD h' z TI TO (rawInt s.heap.objs.size)->cx h' TO x y->ItAt κ1 h' i1 l1 (k+1)->ItAt κ2 h' i2 l2 (k+1)->cx h' s.heap.objs.size x y->h'.objs.size=s.heap.objs.size+1->(∀c o,c≠z->c≠TO->c≠i1->c≠i2->s.heap.get? c=some o->h'.get? c=some o)->Q (.ref s.heap.objs.size) { s with heap:=h' }) :
  wpAny (model prog w) A (dh.«zip.__next__» ⟨[.ref z],[]⟩) (λfin s'=>∃v,fin=.done (.ret v)/\Q v s') E s:=by
 show wpAny (model prog w) A (field (.ref z) 2 >>= _) _ _ _; refine Ch (cT hz rfl (x:=.bool false) rfl ?_)
 show wpAny (model prog w) A (field (.ref z) 3 >>= _) _ _ _; refine Ch (cT hz rfl (x:=.ref TI) rfl ?_); refine Ch (dB hTI rfl ?_)
 show wpAny (model prog w) A (cO (.ref z) >>= _) _ _ _; refine Ch ?_; unfold cO
 refine Ch (cT hz rfl (x:=.none) rfl (Sc ?_)); simp only [if_true]; refine Ch (fk ?_); refine Ch (cT hz rfl (x:=.ref TO) rfl ?_)
 refine Ch (eE hz (by simp) λha hza hsa=>?_);replace hza:fD ha z TI TO .ellipsis:=hza;refine Ch ?_; simp only [List.zipIdx_cons,List.zipIdx_nil,fW,gz]
 refine Ch (Ch (iB ?_)); show wpAny (model prog w) _ (cP (.ref i1) >>= _) _ _ _
 refine Ch (C_ (h1.eb hsa.extBut D.i1z) (hl1.eb hsa.extBut D.l1z) hx λhb h1b hsb=>Sc ?_);have hTOb:cx hb TO a b:=hsb.extBut _ _ D.TOi1 (hsa.extBut _ _ D.TOz hTO);refine Ch (dB hTOb rfl ?_); refine Ch (gl hTOb λhc hTOc hsc=>?_)
 replace hTOc:cx hc TO x b:=hTOc;refine Ch (fY (Sc ?_)); refine Ch (Ch (iB ?_)); show wpAny (model prog w) _ (cP (.ref i2) >>= _) _ _ _
 refine Ch (C_ (((h2.eb hsa.extBut D.i2z).eb hsb.extBut D.i12.symm).eb hsc.extBut D.TOi2.symm) (((hl2.eb hsa.extBut D.l2z).eb hsb.extBut D.l2i1).eb hsc.extBut D.l2TO) hy λhd h2d hsd=>Sc ?_);have hTOd:cx hd TO x b:=hsd.extBut _ _ D.TOi2 hTOc;refine Ch (dB hTOd rfl ?_); refine Ch (gl hTOd λhe hTOe hse=>?_)
 replace hTOe:cx he TO x y:=hTOe;refine Ch (fY (Sc (Sc ?_))); refine Ch (dB hTOe rfl ?_); refine Ch (g7 ?_)
 have hsz:he.objs.size=s.heap.objs.size:=by rw [hse.1,hsd.1,hsc.1,hsb.1,hsa.1]
 have hze:fD he z TI TO .ellipsis:=hse.extBut _ _ D.TOz.symm (hsd.extBut _ _ D.i2z.symm (hsc.extBut _ _ D.TOz.symm (hsb.extBut _ _ D.i1z.symm hza)));have hke:∀c o,c≠z->c≠TO->c≠i1->c≠i2->s.heap.get? c=some o->he.get? c=some o:=λc o c1 c2 c3 c4 e=>hse.extBut _ _ c2 (hsd.extBut _ _ c4 (hsc.extBut _ _ c2 (hsb.extBut _ _ c3 (hsa.extBut _ _ c1 e))));have h1e:ItAt κ1 he i1 l1 (k+1):=((h1b.eb hsc.extBut D.TOi1.symm).eb hsd.extBut D.i12).eb hse.extBut D.TOi1.symm;have h2e:ItAt κ2 he i2 l2 (k+1):=h2d.eb hse.extBut D.TOi2.symm;have hzlt:z<he.objs.size:=XV hze;show wpAny (model prog w) _ (fz (.ref z) (.ref he.objs.size) >>= _) _ _ _; refine Ch ?_; unfold fz
 have hzf:fD (he.push { cls:=.type "tuple",data:=.seq #[x,y] }) z TI TO .ellipsis:=FM _ hze;refine Ch (eE hzf (by simp) λhg hzg hsg=>?_);replace hzg:fD hg z TI TO (rawInt he.objs.size):=hzg;refine eE hzg (by simp) λhi hzi hsi=>?_;replace hzi:fD hi z TI TO (rawInt he.objs.size):=hzi;have up:∀c o,c≠z->he.get? c=some o->hi.get? c=some o:=λc o c1 e=>hsi.extBut _ _ c1 (hsg.extBut _ _ c1 (FM _ e));have hTi:cx hi he.objs.size x y:=hsi.extBut _ _ (fI hzlt) (hsg.extBut _ _ (fI hzlt) (Uf _ rfl));have hzs:hi.objs.size=he.objs.size+1:=by rw [hsi.1,hsg.1,dH]
 rw [hsz] at hzi hTi hzs;refine Sc ⟨_,rfl,?_⟩;show Q (.ref he.objs.size) _; rw [hsz]
 exact hQ hi hzi (up _ _ D.TOz hTOe) (h1e.mv λo e=>up _ o D.i1z e) (h2e.mv λo e=>up _ o D.i2z e) hTi hzs λc o c1 c2 c3 c4 e=>up c o c1 (hke c o c1 c2 c3 c4 e)
theorem VC{κ1 κ2:Bool}{z TI TO i1 i2 l1 l2:Db}{k:Nat}{xs ys:Array Ev}{a b:Ev}{Q:Fin->Op->Prop}(hh:A.handled=none)(D:Se z TI TO i1 i2 l1 l2)
  (hz:fD s.heap z TI TO .none) (hTI:cx s.heap TI (.ref i1) (.ref i2)) (hTO:cx s.heap TO a b) (h1:ItAt κ1 s.heap i1 l1 k) (h2:ItAt κ2 s.heap i2 l2 k) (hl1:SqAt κ1 s.heap l1 xs) (hl2:SqAt κ2 s.heap l2 ys) (hend:xs[k]?=none\/ys[k]?=none)
  (hE:∀h' e,(∀c o,c≠z->c≠TO->c≠i1->c≠i2->s.heap.get? c=some o->h'.get? c=some o)->(∃o,h'.get? e=some o/\o.cls=.type "StopIteration")->E (.ref e) { s with heap:=h' }) :
  wpAny (model prog w) A (dh.«zip.__next__» ⟨[.ref z],[]⟩) Q E s:=by
 show wpAny (model prog w) A (field (.ref z) 2 >>= _) _ _ _; refine Ch (cT hz rfl (x:=.bool false) rfl ?_)
 show wpAny (model prog w) A (field (.ref z) 3 >>= _) _ _ _; refine Ch (cT hz rfl (x:=.ref TI) rfl ?_); refine Ch (dB hTI rfl ?_)
 show wpAny (model prog w) A (cO (.ref z) >>= _) _ _ _; refine Ch ?_; unfold cO
 refine Ch (cT hz rfl (x:=.none) rfl (Sc ?_)); simp only [if_true]; refine Ch (fk ?_); refine Ch (cT hz rfl (x:=.ref TO) rfl ?_)
 refine Ch (eE hz (by simp) λha hza hsa=>?_);replace hza:fD ha z TI TO .ellipsis:=hza;refine Ch ?_; simp only [List.zipIdx_cons,List.zipIdx_nil,fW,gz]
 refine Ch (Ch (iB ?_)); show wpAny (model prog w) _ (cP (.ref i1) >>= _) _ _ _
 cases hx:xs[k]? with
 | none =>
  refine Ch (E_ hh (h1.eb hsa.extBut D.i1z) (hl1.eb hsa.extBut D.l1z) hx λhb e hsb he=>?_);obtain⟨oe,hoe,hce⟩:=he;have hzb:fD hb z TI TO .ellipsis:=hsb _ _ D.i1z.symm hza;have hez:e≠z:=λx=>by subst x; rw [hzb] at hoe; cases hoe; simp at hce
  exact eE hzb (by simp) λhc _ hsc=>hE hc e (λc o c1 _ c3 _ x=>hsc.extBut _ _ c1 (hsb _ _ c3 (hsa.extBut _ _ c1 x))) ⟨oe,hsc.extBut _ _ hez hoe,hce⟩
 | some x =>
  have hy:ys[k]?=none:=by
   rcases hend with h | h
   ·rw [hx] at h; cases h
   ·exact h
  refine Ch (C_ (h1.eb hsa.extBut D.i1z) (hl1.eb hsa.extBut D.l1z) hx λhb h1b hsb=>Sc ?_);have hTOb:cx hb TO a b:=hsb.extBut _ _ D.TOi1 (hsa.extBut _ _ D.TOz hTO);refine Ch (dB hTOb rfl ?_); refine Ch (gl hTOb λhc hTOc hsc=>?_)
  refine Ch (fY (Sc ?_)); refine Ch (Ch (iB ?_)); show wpAny (model prog w) _ (cP (.ref i2) >>= _) _ _ _
  refine Ch (E_ hh (((h2.eb hsa.extBut D.i2z).eb hsb.extBut D.i12.symm).eb hsc.extBut D.TOi2.symm) (((hl2.eb hsa.extBut D.l2z).eb hsb.extBut D.l2i1).eb hsc.extBut D.l2TO) hy λhd e hsd he=>?_);obtain⟨oe,hoe,hce⟩:=he;have hzd:fD hd z TI TO .ellipsis:=hsd _ _ D.i2z.symm (hsc.extBut _ _ D.TOz.symm (hsb.extBut _ _ D.i1z.symm hza));have hez:e≠z:=λx=>by subst x; rw [hzd] at hoe; cases hoe; simp at hce
  exact eE hzd (by simp) λhf _ hsf=>hE hf e (λc o c1 c2 c3 c4 x=>hsf.extBut _ _ c1 (hsd _ _ c4 (hsc.extBut _ _ c2 (hsb.extBut _ _ c3 (hsa.extBut _ _ c1 x))))) ⟨oe,hsf.extBut _ _ hez hoe,hce⟩
end
def YB(κ:Bool):String:=match κ with
 | true => "list_iterator"
 | false => "tuple_iterator"
def IF(κ:Bool)(l:Db):Obj:={ cls:=.type (YB κ),data:=.fields #[.ref l,.int 0 0] }
abbrev zA(κ1:Bool)(h:b9)(l1:Db):b9:=h.push (IF κ1 l1)
abbrev zB(κ1 κ2:Bool)(h:b9)(l1 l2:Db):b9:=(zA κ1 h l1).push (IF κ2 l2)
abbrev zC(κ1 κ2:Bool)(h:b9)(l1 l2:Db):b9:=(zB κ1 κ2 h l1 l2).push { cls:=.type "tuple",data:=.seq #[.ref h.objs.size,.ref (zA κ1 h l1).objs.size] }
abbrev zD(κ1 κ2:Bool)(h:b9)(l1 l2:Db):b9:=(zC κ1 κ2 h l1 l2).push { cls:=.type "tuple",data:=.seq #[.none,.none] }
abbrev zE(κ1 κ2:Bool)(h:b9)(l1 l2:Db):b9:=(zD κ1 κ2 h l1 l2).push { cls:=.type "zip",data:=.fields #[.none,.bool false,.bool false,.ref (zB κ1 κ2 h l1 l2).objs.size,.ref (zC κ1 κ2 h l1 l2).objs.size] }
theorem Vl(κ1 κ2:Bool)(l1 l2:Db)(xs ys:Array Ev):Meets (dh.«zip.__new__» ⟨[.type "zip",.ref l1,.ref l2],[]⟩)
  (λ_ R s=>SqAt κ1 s.heap l1 xs/\SqAt κ2 s.heap l2 ys/\R (.ok (.ret (.ref (zD κ1 κ2 s.heap l1 l2).objs.size))) { s with heap:=zE κ1 κ2 s.heap l1 l2 }) :=
 .of_wp λprog w A R s h=>by
  obtain⟨hp,g,d,tk,os⟩:=s; obtain⟨hl1,hl2,h⟩:=h
  have hsub:=sub_zip;have hL2:SqAt κ2 (zA κ1 hp l1) l2 ys:=hl2.mv λo e=>FM _ e;cases κ1 with
  | true =>
   have g1:i5 (fZ ⟨hp,g,d,tk,os⟩) l1 xs:=hl1;cases κ2 with
   | true =>
    have g2:i5 (fZ ⟨hp.push { cls:=.type "list_iterator",data:=.fields #[.ref l1,.int 0 0] },g,d,tk,os⟩) l2 ys:=hL2
    wp_walk using dW g1,dW g2
    exact⟨_,rfl,h⟩
   | false =>
    have g2:ia (fZ ⟨hp.push { cls:=.type "list_iterator",data:=.fields #[.ref l1,.int 0 0] },g,d,tk,os⟩) l2 ys:=hL2
    wp_walk using dW g1,dI g2
    exact⟨_,rfl,h⟩
  | false =>
   have g1:ia (fZ ⟨hp,g,d,tk,os⟩) l1 xs:=hl1;cases κ2 with
   | true =>
    have g2:i5 (fZ ⟨hp.push { cls:=.type "tuple_iterator",data:=.fields #[.ref l1,.int 0 0] },g,d,tk,os⟩) l2 ys:=hL2
    wp_walk using dI g1,dW g2
    exact⟨_,rfl,h⟩
   | false =>
    have g2:ia (fZ ⟨hp.push { cls:=.type "tuple_iterator",data:=.fields #[.ref l1,.int 0 0] },g,d,tk,os⟩) l2 ys:=hL2
    wp_walk using dI g1,dI g2
    exact⟨_,rfl,h⟩
theorem KD(κ:Bool)(h:b9)(l:Db):ItAt κ (h.push (IF κ l)) h.objs.size l 0:=by
 cases κ with
 | true=>exact⟨_,Uf _ rfl,rfl,rfl⟩
 | false=>exact⟨_,Uf _ rfl,rfl,rfl⟩
section
variable {prog:Program}{w:World}{A:Around}{E:Value->Shared->Prop}{s:Shared}
theorem G7{κ1 κ2:Bool}{l1 l2:Db}{xs ys:Array Ev}{Q:Ev->Op->Prop}(hl1:SqAt κ1 s.heap l1 xs)(hl2:SqAt κ2 s.heap l2 ys)
  (h:∀h',fD h' (s.heap.objs.size+4) (s.heap.objs.size+2) (s.heap.objs.size+3) .none->cx h' (s.heap.objs.size+2) (.ref s.heap.objs.size) (.ref (s.heap.objs.size+1))->cx h' (s.heap.objs.size+3) .none .none ->
   ItAt κ1 h' s.heap.objs.size l1 0->ItAt κ2 h' (s.heap.objs.size+1) l2 0->(∀c o,s.heap.get? c=some o->h'.get? c=some o)->Q (.ref (s.heap.objs.size+4)) { s with heap:=h' }) :
  wpAny (model prog w) A (call (.type "zip") [.ref l1,.ref l2]) Q E s:=by
 refine callType_new F.called_zip (by decide) (F.typeCall_zip_2 _ _) (F.newCall_zip_2 _ _) (λobj=>F.args_object_init_3 obj _ _) F.entry_zip_new (Vl κ1 κ2 l1 l2 xs ys) ⟨hl1,hl2,?_⟩;have z1:(zA κ1 s.heap l1).objs.size=s.heap.objs.size+1:=dH ..;have z2:(zB κ1 κ2 s.heap l1 l2).objs.size=s.heap.objs.size+2:=by rw [dH,z1]
 have z3:(zC κ1 κ2 s.heap l1 l2).objs.size=s.heap.objs.size+3:=by rw [dH,z2]
 have z4:(zD κ1 κ2 s.heap l1 l2).objs.size=s.heap.objs.size+4:=by rw [dH,z3]
 have g5:(zE κ1 κ2 s.heap l1 l2).get? (zD κ1 κ2 s.heap l1 l2).objs.size=some _:=Uf _ rfl;have g4:(zE κ1 κ2 s.heap l1 l2).get? (zC κ1 κ2 s.heap l1 l2).objs.size=some _:=FM _ (Uf _ rfl);have g3:(zE κ1 κ2 s.heap l1 l2).get? (zB κ1 κ2 s.heap l1 l2).objs.size=some _:=FM _ (FM _ (Uf _ rfl));have i2:ItAt κ2 (zE κ1 κ2 s.heap l1 l2) (zA κ1 s.heap l1).objs.size l2 0:=(KD κ2 (zA κ1 s.heap l1) l2).mv λo e=>FM _ (FM _ (FM _ e));have i1:ItAt κ1 (zE κ1 κ2 s.heap l1 l2) s.heap.objs.size l1 0:=(KD κ1 s.heap l1).mv λo e=>FM _ (FM _ (FM _ (FM _ e)));rw [z4] at g5;rw [z3] at g4;rw [z2] at g3;rw [z1] at i2;have fin:=h (zE κ1 κ2 s.heap l1 l2) (by rw [fD,g5,z2,z3]) (by rw [cx,g3,z1]) g4 i1 i2 (λc o e=>FM _ (FM _ (FM _ (FM _ (FM _ e)))));refine⟨⟨_,by rw [z4]; exact g5,rfl⟩,?_⟩;rw [z4];exact fin
theorem Fl{κ1 κ2:Bool}{z TI TO i1 i2 l1 l2:Db}{k:Nat}{xs ys:Array Ev}{x y a b:Ev}{Q:Option Ev->Op->Prop}(D:Se z TI TO i1 i2 l1 l2)
  (hz:fD s.heap z TI TO .none) (hTI:cx s.heap TI (.ref i1) (.ref i2)) (hTO:cx s.heap TO a b) (h1:ItAt κ1 s.heap i1 l1 k) (h2:ItAt κ2 s.heap i2 l2 k) (hl1:SqAt κ1 s.heap l1 xs) (hl2:SqAt κ2 s.heap l2 ys) (hx:xs[k]?=some x) (hy:ys[k]?=some y)
  (hQ:∀h',fD h' z TI TO (rawInt s.heap.objs.size)->cx h' TO x y->ItAt κ1 h' i1 l1 (k+1)->ItAt κ2 h' i2 l2 (k+1)->cx h' s.heap.objs.size x y->h'.objs.size=s.heap.objs.size+1->(∀c o,c≠z->c≠TO->c≠i1->c≠i2->s.heap.get? c=some o->h'.get? c=some o)->Q (some (.ref s.heap.objs.size)) { s with heap:=h' }) :
  wpAny (model prog w) A (pyNext (.ref z)) Q E s:=by
 have hT:s.TypeIs (.ref z) "zip":=⟨_,hz,rfl⟩;unfold pyNext
 exact Ch (gQ (cz (name:=cZ "__next__") hT eL (df eL hT gT
  (Sf D hz hTI hTO h1 h2 hl1 hl2 hx hy λh' a1 a2 a3 a4 a5 a6 a7=>Sc (hQ h' a1 a2 a3 a4 a5 a6 a7)) (gI _))))
theorem Gq{κ1 κ2:Bool}{z TI TO i1 i2 l1 l2:Db}{k:Nat}{xs ys:Array Ev}{a b:Ev}{Q:Option Ev->Op->Prop}(hh:A.handled=none)(D:Se z TI TO i1 i2 l1 l2)
  (hz:fD s.heap z TI TO .none) (hTI:cx s.heap TI (.ref i1) (.ref i2)) (hTO:cx s.heap TO a b) (h1:ItAt κ1 s.heap i1 l1 k) (h2:ItAt κ2 s.heap i2 l2 k) (hl1:SqAt κ1 s.heap l1 xs) (hl2:SqAt κ2 s.heap l2 ys) (hend:xs[k]?=none\/ys[k]?=none)
  (hQ:∀h',(∀c o,c≠z->c≠TO->c≠i1->c≠i2->s.heap.get? c=some o->h'.get? c=some o)->Q none { s with heap:=h' }):wpAny (model prog w) A (pyNext (.ref z)) Q E s:=by
 have hT:s.TypeIs (.ref z) "zip":=⟨_,hz,rfl⟩;unfold pyNext;refine Ch (gQ (cz (name:=cZ "__next__") hT eL (df eL hT gT (VC hh D hz hTI hTO h1 h2 hl1 hl2 hend λh' e hk he=>?_) (gI _))));obtain⟨o,ho,hc⟩:=he;exact Ch (ic (T := "StopIteration") (b:=true) ⟨o,ho,hc⟩ isSubtype_stop (Sc (hQ _ hk)))
end
section
variable {X:Cx}{pins:List (Addr×Obj)}{σ:L2.St}{H:Hp}{s:Shared}{h':Heap}
theorem Inv.turnedL{t':Nat}{ch:List Db}(I:Inv X pins σ H s)(hf:∀b∈ch,HN X pins H b)(k:∀b o,b∉ch->s.heap.get? b=some o->h'.get? b=some o):Inv X pins σ H { s with heap:=h',toks:=t' }:=by
 have nit:∀b u,H b=some u->b∉ch:=λb u e z=>by rw [(hf b z).1] at e; cases e
 refine I.step (g':=s.gens) (d':=s.drawn) (ch:=ch) (λb hb=>?_) (λb o _ _ hc e _=>k b o hc e) (λb o _ _ hc e _=>⟨o.slots,k b o hc e⟩) (λ_ _ _ _ n=>n) (λb o hc e=>⟨o,k b o hc e⟩) (λ_ _ e=>e) (λ_ _ _ e=>e) (λb ps e=>⟨#[],by rw [e]; simp⟩) (λm hm=>?_) (λb u e=>?_) I.bare
 ·obtain⟨f0,f1,f2,f3,f4,f5⟩:=hf b hb
  exact⟨f3,f1,f4,f5⟩
 ·obtain⟨o,es,ep,ho,r⟩:=hm
  exact⟨o,es,ep,k _ o (λz=>(hf _ z).2.1 rfl) ho,r⟩
 ·exact(I.hok b u e).stay (λc v hc q=>k c v (hc.elim (λz=>by rw [z]; exact nit b u e) λz=>nit c _ z) q) (λ_ q=>q) λ_ _ q=>q
theorem Inv.turnLaid{t':Nat}{ch:List Db}{a:Db}{o:HO}(I:Inv X pins σ H s)(hf:∀b∈ch,HN X pins H b)(k:∀b o,b∉ch->s.heap.get? b=some o->h'.get? b=some o)(ha:s.heap.objs.size<=a)(new:ObjOk X.prog X.w (BC H a o) h' a o) :
  Inv X pins σ (BC H a o) { s with heap:=h',toks:=t' }:=by
 have nit:∀b u,H b=some u->b∉ch:=λb u e z=>by rw [(hf b z).1] at e; cases e
 have hn:H a=none:=I.hok.fresh ha;have up:∀b u,H b=some u->BC H a o b=some u:=λb u e=>by rw [AU (Al e hn)]; exact e
 refine I.step (g':=s.gens) (d':=s.drawn) (ch:=ch) (λb hb=>?_) (λb o _ _ hc e _=>k b o hc e) (λb o _ _ hc e _=>⟨o.slots,k b o hc e⟩) (λb u _ e n=>?_) (λb o hc e=>⟨o,k b o hc e⟩) (λb xs e=>up _ _ e) (λb o u e=>up _ _ e) (λb ps e=>⟨#[],by rw [up _ _ e]; simp⟩) (λm hm=>?_) (λb u e=>?_) I.bare
 ·obtain⟨f0,f1,f2,f3,f4,f5⟩:=hf b hb
  exact⟨f3,f1,f4,f5⟩
 ·rw [AU (b8 (cJ (XV e) ha))]; exact n
 ·obtain⟨o,es,ep,ho,r⟩:=hm
  exact⟨o,es,ep,k _ o (λz=>(hf _ z).2.1 rfl) ho,r⟩
 ·by_cases hb:b=a
  ·subst hb; rw [Ai] at e; cases e; exact new
  ·rw [AU hb] at e
   exact(I.hok b u e).stay (λc v hc q=>k c v (hc.elim (λz=>by rw [z]; exact nit b u e) λz=>nit c _ z) q) (λc q=>up _ _ q) λc xs q=>up _ _ q
end
def SqK(κ:Bool)(K:Frag)(H:Hp)(a:Db)(xs:List V):Prop:=match κ with
 | true=>SqL K H a xs
 | false=>SqT K H a xs
theorem SqK.at{κ:Bool}{X:Cx}{pins:List (Db×Obj)}{σ:L2.St}{H:Hp}{s:Op}{a:Db}{xs:List V}(I:Inv X pins σ H s)(h:SqK κ X.K H a xs):∃its:List Ev,Vals xs its/\SqAt κ s.heap a its.toArray:=by
 cases κ with
 | true=>obtain⟨its,r,pl,_⟩:=I.list h; exact⟨its,r,pl.isList⟩
 | false=>obtain⟨its,r,p,_⟩:=I.tuple h; exact⟨its,r,p⟩
def Yt (K : Frag) (κ1 κ2 : Bool) (a b : Db) (xs ys : List V) : It :=
  ⟨λi H => SqK κ1 K H a xs ∧ SqK κ2 K H b ys ∧ i < xs.length ∧ i < ys.length, λi H x H' => ∃ T p q, x = .ref T ∧ H T = none ∧ H' = BC H T (.tup [p, q]) ∧ xs[i]? = some p ∧ ys[i]? = some q,
   λi H => SqK κ1 K H a xs ∧ SqK κ2 K H b ys ∧ (xs.length ≤ i ∨ ys.length ≤ i)⟩
structure Zv (κ1 κ2:Bool) (z TI TO i1 i2 a b:Db) (k:Nat) (h:b9):Prop where
 z:fD h z TI TO .none
 ti:cx h TI (.ref i1) (.ref i2)
 to:∃a b,cx h TO a b
 i1:ItAt κ1 h i1 a k
 i2:ItAt κ2 h i2 b k
theorem Sy{P:cL}{w:cQ}{K:Frag}{es:List cC}{j:Nat}{pos:Pos}(κ1 κ2:Bool)(z TI TO i1 i2 a b:Db)(xs ys:List V)(D:Se z TI TO i1 i2 a b)(hTI:TI∉[z,TO,i1,i2]) :
  Turn P w K (.Tuple es j pos) (Yt K κ1 κ2 a b xs ys) [z,TI,TO,i1,i2] z (Zv κ1 κ2 z TI TO i1 i2 a b) where
 mem:=by simp
 obj:=λi h st c hc=>by
  simp only [TW,bu,or_false] at hc
  rcases hc with rfl | rfl | rfl | rfl | rfl
  ·exact⟨_,st.z,λv q=>by cases q⟩
  ·exact⟨_,st.ti,λv q=>by cases q⟩
  ·obtain⟨a,b,e⟩:=st.to
   exact⟨_,e,λv q=>by cases q⟩
  ·exact st.i1.lies
  ·exact st.i2.lies
 keep:=λi h h' st k=>by
  obtain⟨p,q,e⟩:=st.to;exact⟨k z (by simp) _ st.z,k TI (by simp) _ st.ti,⟨p,q,k TO (by simp) _ e⟩,st.i1.mv λo e=>k i1 (by simp) o e,st.i2.mv λo e=>k i2 (by simp) o e⟩
 item:=by
  intro X hP hw hK hc i pins s σ H E I hf st hg;subst hP hw hK;obtain⟨ha,hb,hi,hj⟩:=hg;obtain⟨us,r1,q1⟩:=ha.at I;obtain⟨ws,r2,q2⟩:=hb.at I;obtain⟨u,hu,ru⟩:=r1.get (Go hi);obtain⟨v,hv,rv⟩:=r2.get (Go hj);obtain⟨p,q,e⟩:=st.to;refine Fl D st.z st.ti e st.i1 st.i2 q1 q2 (x:=u) (y:=v) (by simpa using hu) (by simpa using hv) λh' a1 a2 a3 a4 a5 a6 a7=>⟨_,rfl,?_⟩;refine wpAny_letOwnedTupleGo_zip a1 λh2 b1 b2=>?_;have hT:H s.heap.objs.size=none:=I.hok.fresh (Rs _)
  have kk:∀c o,c∉[z,TO,i1,i2]->s.heap.get? c=some o->h2.get? c=some o:=λc o hc e=>by
   simp only [TW,bu,or_false,not_or] at hc;exact b2.extBut _ _ hc.1 (a7 c o hc.1 hc.2.1 hc.2.2.1 hc.2.2.2 e)
  have I2:Inv X pins σ (BC H s.heap.objs.size (.tup [xs[i],ys[i]])) { s with heap:=h2 }:=by
   refine I.turnLaid (t':=s.toks) (ch:=[z,TO,i1,i2]) (λc hc=>hf c ?_) kk (Rs _) ?_
   ·simp only [TW,bu,or_false] at hc ⊢
    rcases hc with rfl | rfl | rfl | rfl <;> simp
   ·have nT:s.heap.objs.size≠z:=fI (XV st.z)
    exact⟨by show 2<=sizeLine; decide,[u,v],.cons ru (.cons rv .nil),⟨_,b2.extBut _ _ nT a5,rfl,_,rfl,rfl,rfl⟩⟩
  have ti2:cx h2 TI (.ref i1) (.ref i2):=kk _ _ hTI st.ti;refine⟨.ref s.heap.objs.size,_,I2,rfl,⟨_,_,_,rfl,hT,rfl,Go hi,Go hj⟩,⟨b1,ti2,⟨_,_,b2.extBut _ _ D.TOz a2⟩,a3.eb b2.extBut D.i1z,a4.eb b2.extBut D.i2z⟩,λc hc=>?_⟩;have hcn:H c=none:=(hf c hc).1
  have hlt:c≠s.heap.objs.size:=λz=>by
   obtain⟨o,ho,_⟩:∃o,s.heap.get? c=some o/\True:=by
    simp only [TW,bu,or_false] at hc
    rcases hc with rfl | rfl | rfl | rfl | rfl
    ·exact⟨_,st.z,trivial⟩
    ·exact⟨_,st.ti,trivial⟩
    ·exact⟨_,e,trivial⟩
    ·obtain⟨o,q,_⟩:=st.i1.lies; exact⟨o,q,trivial⟩
    ·obtain⟨o,q,_⟩:=st.i2.lies; exact⟨o,q,trivial⟩
   rw [z] at ho;exact cy _ (XV ho)
  rw [AU hlt]; exact hcn
 done:=by
  intro X hP hw hK hc i pins s σ H E I hf st hg;subst hP hw hK;obtain⟨ha,hb,hi⟩:=hg;obtain⟨us,r1,q1⟩:=ha.at I;obtain⟨ws,r2,q2⟩:=hb.at I;obtain⟨p,q,e⟩:=st.to;have l1:=r1.length;have l2:=r2.length;refine Gq (I.ok.hd hc) D st.z st.ti e st.i1 st.i2 q1 q2 (hi.imp (λhi=>by simp; omega) λhi=>by simp; omega) λh' kk=>⟨rfl,?_⟩;refine I.turnedL (t':=s.toks) (ch:=[z,TO,i1,i2]) (λc hc=>hf c ?_) λc o hc e=>?_
  ·simp only [TW,bu,or_false] at hc ⊢
   rcases hc with rfl | rfl | rfl | rfl <;> simp
  ·simp only [TW,bu,or_false,not_or] at hc
   exact kk c o hc.1 hc.2.1 hc.2.2.1 hc.2.2.2 e
 self:=λA i s Q E st h=>ie st.z h
section
variable {X:Cx}
theorem Sh(n a b:Nat)(h1:a<n)(h2:b<n):Se (n+4) (n+2) (n+3) n (n+1) a b:=by
 constructor <;> (show (_:Nat)≠(_:Nat); omega)
theorem XN(n:Nat):(n+2)∉[n+4,n+3,n,n+1]:=by
 simp only [TW,bu,or_false,not_or];omega
theorem XO(n c:Nat)(h:c∈[n+4,n+2,n+3,n,n+1]):n<=c:=by
 simp only [TW,bu,or_false] at h;omega
def ak(K:Frag)(ta:TA):TI:=λσ H R=>ta σ H λvs H1=>∃κ1 κ2 a b xs ys,vs=[.ref a,.ref b]/\SqK κ1 K H1 a xs/\SqK κ2 K H1 b ys/\R (Yt K κ1 κ2 a b xs ys) H1
theorem TZ{e1 e2:cC}{es:List cC}{j:Nat}{tpos:Pos}{ta:TA}{p pos:Pos}(hg:Gl X "zip")(hm:X.mg "zip"=none)(ha:PA X [e1,e2] ta)(hs:starEach [e1,e2] X.env=[(false,eval e1 X.env),(false,eval e2 X.env)]:=by rfl)(hs2:starEach [e2] X.env=[(false,eval e2 X.env)]:=by rfl) :
  PI X (.Tuple es j tpos) (.Call (.Name "zip" p) [e1,e2] [] pos) (ak X.K ta):=by
 intro pins s σ H R I h;refine Call_ (Cw I hg hm boot_zip (cY (thn (ha pos pins s σ H _ I h) λus s1 ⟨vs,H1,I1,r1,q1⟩=>?_) (by rw [hs,hs2]) (by rw [hs2]; rfl)));obtain⟨κ1,κ2,a,b,xs,ys,e,h1,h2,q⟩:=q1;subst e;obtain⟨u,v,rfl,ru,rv⟩:=vals2 r1;cases ru;cases rv;obtain⟨us,r1',q1⟩:=h1.at I1;obtain⟨ws,r2',q2⟩:=h2.at I1;have la:a<s1.heap.objs.size:=by obtain⟨o,e⟩:=q1.lies; exact XV e
 have lb:b<s1.heap.objs.size:=by obtain⟨o,e⟩:=q2.lies; exact XV e
 refine G7 q1 q2 λh' hz hTI hTO hi1 hi2 hk=>?_;refine ie hz ?_;have D:=Sh s1.heap.objs.size a b la lb;refine⟨s1.heap.objs.size+4,[s1.heap.objs.size+4,s1.heap.objs.size+2,s1.heap.objs.size+3,s1.heap.objs.size,s1.heap.objs.size+1],_,Yt X.K κ1 κ2 a b xs ys,H1,rfl,I1.kept (t':=s1.toks) hk,Sy κ1 κ2 _ _ _ _ _ a b xs ys D (XN s1.heap.objs.size),⟨hz,hTI,⟨_,_,hTO⟩,hi1,hi2⟩,λc hc=>?_,q⟩;have hge:s1.heap.objs.size<=c:=XO s1.heap.objs.size c hc;exact I1.fpOk hge (I1.hok.fresh hge)
end
end L2
namespace Dp
open PySem PySem.Spec PyProof.Rows L2
def DA(ds es:List D):List D:=f6 (λd e=>.tup [d,e]) ds es
section
variable {K:Frag}
theorem HZ{U V' M:Db->Prop}{H:Hp}{d:D}{v:V}{ds:List D}(h:AtT K V' M H d v)(e:Em d=some ds)(uV:∀a,U a->V' a)(vM:∀a,V' a->M a):∃κ a vs,v=.ref a/\Ats K M H ds vs/\∀M' H',Pres M H M' H'->Ext U H H'->SqK κ K H' a vs:=by
 cases d with
 | lst xs =>
  cases e;obtain⟨a,vs,e1,n1,hq,hs⟩:=h;refine⟨true,a,vs,e1,hs,λM' H' _ ex=>?_⟩
  rcases hq with hq | ⟨o,hq⟩
  ·exact .inl (.inl (ex.keep hq λz=>n1 (uV a z)))
  ·exact .inl (.inr ⟨o,ex.keep hq λz=>n1 (uV a z)⟩)
 | tup xs =>
  cases e;obtain⟨a,vs,e1,hq,hs⟩:=h;exact⟨false,a,vs,e1,hs,λM' H' pr _=>(hq.pres pr).sq⟩
 | _=>cases e
theorem O5{M:Db->Prop}{H:Hp}{d:D}{v:V}{ds:List D}(h:At K M H d v)(e:Em d=some ds):∃κ a vs,v=.ref a/\Ats K M H ds vs/\∀M' H',Pres M H M' H'->SqK κ K H' a vs:=by
 cases d with
 | lst xs =>
  cases e;obtain⟨a,vs,e1,hq,hs⟩:=h;exact⟨true,a,vs,e1,hs,λM' H' pr=>(hq.pres pr).sq⟩
 | tup xs =>
  cases e;obtain⟨a,vs,e1,hq,hs⟩:=h;exact⟨false,a,vs,e1,hs,λM' H' pr=>(hq.pres pr).sq⟩
 | _=>cases e
theorem JJ{M:Db->Prop}{H:Hp}{κ1 κ2:Bool}{a b:Db}{vs us:List V}{ds es:List D}(hs:Ats K M H ds vs)(ht:Ats K M H es us){i:Nat}{M':Db->Prop}{H':Hp}(pr:Pres M H M' H')(h1:SqK κ1 K H' a vs)(h2:SqK κ2 K H' b us)(dom:∀a,M' a->∃o,H' a=some o) :
  (∀d,(DA ds es)[i]?=some d->(Yt K κ1 κ2 a b vs us).go i H'/\∀x H2,(Yt K κ1 κ2 a b vs us).yld i H' x H2->Grow H' H2/\At K M' H2 d x)/\((DA ds es).length<=i->(Yt K κ1 κ2 a b vs us).stop i H'):=by
 have l1:=hs.length;have l2:=ht.length;refine⟨λd hd=>?_,λhl=>⟨h1,h2,?_⟩⟩
 ·unfold DA at hd
  rw [gY] at hd;cases q1:ds[i]? with
  | none=>rw [q1] at hd; simp at hd
  | some d1 =>
   cases q2:es[i]? with
   | none=>rw [q1,q2] at hd; simp at hd
   | some d2 =>
    rw [q1,q2] at hd;have hd':D.tup [d1,d2]=d:=bg hd;have i1:i<ds.length:=(bh.mp q1).1;have i2:i<es.length:=(bh.mp q2).1;refine⟨⟨h1,h2,by omega,by omega⟩,λx H2 y=>?_⟩;obtain⟨T,p,q,rfl,hT,rfl,e1,e2⟩:=y;obtain⟨v1,f1,a1⟩:=(hs.pres pr).get q1;obtain⟨v2,f2,a2⟩:=(ht.pres pr).get q2;rw [e1] at f1;rw [e2] at f2;cases f1;cases f2;subst hd';exact⟨Ay hT,Cq dom hT ⟨p,[q],rfl,a1,q,[],rfl,a2,rfl⟩⟩
 ·unfold DA at hl
  rw [fN] at hl;omega
end
section
variable {X:Cx}{e1 e2:Expr}{es:List Expr}{j:Nat}{tpos p pos:Pos}{ws:Ee}
def Q9(ws:Ee):Ee:=λn ρ P=>ws n ρ λds n1=>∃d e xs ys,ds=[d,e]/\Em d=some xs/\Em e=some ys/\P (DA xs ys) n1
theorem Qm(hg:Gl X "zip")(hm:X.mg "zip"=none)(ha:U_ X [e1,e2] ws)(hs:starEach [e1,e2] X.env=[(false,eval e1 X.env),(false,eval e2 X.env)]:=by rfl)(hs2:starEach [e2] X.env=[(false,eval e2 X.env)]:=by rfl) :
  Yv X (.Tuple es j tpos) (.Call (.Name "zip" p) [e1,e2] [] pos) (Q9 ws):=by
 obtain⟨t,a1,a2⟩:=ha;refine⟨_,TZ hg hm a1 hs hs2,λC M H n ρ σ P Rr R w q=>?_⟩;refine a2 C M H n ρ σ _ _ R w λvs H1 ds n1 ee f1 r1 p=>?_;obtain⟨d,e,xs,ys,rfl,hd,he,p⟩:=p;cases r1 with
 | cons r rr =>
  cases rr with
  | cons r' rr =>
   cases rr;have R1:=R.step ee f1;obtain⟨κ1,a,us,rfl,h1,s1⟩:=HZ (U:=C.U) r hd R.uV R1.vM;obtain⟨κ2,b,us',rfl,h2,s2⟩:=HZ (U:=C.U) r' he R.uV R1.vM;refine⟨κ1,κ2,a,b,us,us',rfl,s1 M H1 (Pres.refl _ _) (Ext.refl _ _),s2 M H1 (Pres.refl _ _) (Ext.refl _ _),q _ H1 _ n1 ee f1 (λi M' H' pr ex dom=>JJ h1 h2 pr (s1 M' H' pr ex) (s2 M' H' pr ex) dom) p⟩
theorem Uc(hg:Gl X "zip")(hm:X.mg "zip"=none)(ha:Yq X [e1,e2] ws)(hs:starEach [e1,e2] X.env=[(false,eval e1 X.env),(false,eval e2 X.env)]:=by rfl)(hs2:starEach [e2] X.env=[(false,eval e2 X.env)]:=by rfl) :
  DI X (.Tuple es j tpos) (.Call (.Name "zip" p) [e1,e2] [] pos) (Q9 ws):=by
 obtain⟨t,a1,a2⟩:=ha;refine⟨_,TZ hg hm a1 hs hs2,λC M H n ρ σ P Rr R w q=>?_⟩;refine a2 C M H n ρ σ _ _ R w λvs H1 ds n1 ee f1 r1 p=>?_;obtain⟨d,e,xs,ys,rfl,hd,he,p⟩:=p;obtain⟨v,r,rfl,r1,v',r',rfl,r2,rr⟩:=r1;cases (show r'=[] from rr);obtain⟨κ1,a,us,rfl,h1,s1⟩:=O5 r1 hd;obtain⟨κ2,b,us',rfl,h2,s2⟩:=O5 r2 he;exact⟨κ1,κ2,a,b,us,us',rfl,s1 M H1 (Pres.refl _ _),s2 M H1 (Pres.refl _ _),q _ H1 _ n1 ee f1 (λi M' H' pr dom=>JJ h1 h2 pr (s1 M' H' pr) (s2 M' H' pr) dom) p⟩
def ah:D->Option Key
 | .int i=>some (.inl i)
 | .str x=>some (.inr x)
 | _=>none
def Gy:List D->Option (List Key)
 | []=>some []
 | d::ds=>match ah d,Gy ds with
  | some k,some ks=>some (k::ks)
  | _,_=>none
theorem Gx{K:Frag}{M:Db->Prop}{H:Hp}:∀{ds:List D} {vs:List V} {ks:List Key},Gy ds=some ks->Ats K M H ds vs->vs=ks.map kOf
 | [],vs,ks,e,h=>by cases e; exact h
 | d::ds,vs,ks,e,h=>by
  obtain⟨v,r,e1,h1,h2⟩:=h;unfold Gy at e
  split at e
  ·rename_i k ks' hk hks
   cases e;rw [e1,Gx hks h2,bm]
   congr 1
   cases d with
   | int i=>cases hk; exact h1
   | str x=>cases hk; exact h1.1
   | _=>cases hk
  ·cases e
def GO(d e:D)(P:D->Prop):Prop:=match d,e with
 | .int i,.int j=>P (.bl (decide (i<j)))
 | .str i,.str j=>P (.bl (decide (i.cps.toList<j.cps.toList)))
 | .tup xs,.tup ys=>∃ks ls,Gy xs=some ks/\Gy ys=some ls/\CB ks ls=true/\P (.bl (E6 ks ls))
 | _,_=>False
def ZK(K:Frag):R2:=λx y H Q=>Xj x y H Q\/ZJ K x y H Q
theorem Hj{k:Nat}(hr:Room k X.A):OpR X (compareOp .Lt) (ZK X.K):=op_ltU.or (Xz hr.units0)
theorem Lu:Fa X.K .sh (ZK X.K) GO:=λU M H d e x y P Q dom vM hx hy w q=>by
 unfold GO at w
 split at w
 ·exact .inl (XC (X:=X) U M H (.int _) (.int _) x y P Q dom vM hx hy w q)
 ·exact .inl (XC (X:=X) U M H (.str _) (.str _) x y P Q dom vM hx hy w q)
 ·obtain⟨ks,ls,h1,h2,h3,w⟩:=w
  obtain⟨a,vs,rfl,ha,hs⟩:=hx.tup;obtain⟨b,us,rfl,hb,ht⟩:=hy.tup;have e1:=Gx h1 hs;have e2:=Gx h2 ht;subst e1 e2;exact .inr ⟨a,b,ks,ls,rfl,rfl,ha.sq,hb.sq,h3,q _ H (.bl _) .refl rfl w⟩
 ·exact w.elim
end
end Dp
namespace L2
open PySem PySem.Spec PyProof.Rows
section
variable {prog:Program}{w:World}{A:Around}{E:Value->Shared->Prop}{s:Shared}
theorem NW{t sl:Db}{items:Array Ev}{vl vu:Ev}{lo hi:Option Int}{Q:Ev->Op->Prop}(ht:IsTup s.heap t items)(hs:s.heap.IsSliceOf sl vl vu .none)(pl:gi vl lo)(pu:gi vu hi)
  (hw:HT.sIx items.size 0 lo=0/\HT.sIx items.size items.size hi=items.size) (h:Q (.ref t) s):wpAny (model prog w) A (getItem (.ref t) (.ref sl)) Q E s:=by
 obtain⟨os,hos,hcs,hds⟩:=id hs;have hTs:s.TypeIs (.ref sl) "slice":=⟨os,hos,hcs⟩;unfold getItem
 (try with_reducible refine cu ?_); (first | refine Ch (Sc ?_) | skip)
 refine Ch (iJ ht.typeIs (by decide) (Ch (cz (name:=cZ "__getitem__") ht.typeIs cM (df cM ht.typeIs gt ?_ (hU _ _)))));show wpAny (model prog w) _ (fo (.ref t) >>= _) _ _ s;refine Ch (tupleItemsOf_ ht (Ch (eh hTs ?_))); rw [if_pos (by decide)]
 refine Ch (HT.sliceApplied_gen hs pl pu ?_);have hyes:(((HT.sIx items.size 0 lo:Nat):Int)==0&&(1:Int)==1&&(HT.sIx items.size items.size hi - HT.sIx items.size 0 lo)==items.size)=true:=by rw [hw.1,hw.2]; simp
 show wpAny (model prog w) _ (if (((HT.sIx items.size 0 lo:Nat):Int)==0&&(1:Int)==1&&(HT.sIx items.size items.size hi - HT.sIx items.size 0 lo)==items.size)=true then _ else _) _ _ s;rw [if_pos hyes];refine Ch (m:=iC _) ?_;unfold iC;refine Ch (eh ht.typeIs (Sc ?_));show wpAny (model prog w) _ (if ((f_ "tuple"==f_ "tuple")=true) then _ else _) _ _ s;rw [if_pos (by decide)]
 first
  | exact Ch (fk (Ch (Sc (Sc ⟨_,rfl,Sc h⟩))))
  | exact Ch (fk (Sc ⟨_,rfl,Sc h⟩))
  | exact Ch (Ch (fk (Sc (Sc ⟨_,rfl,Sc h⟩))))
theorem KJ{α β:Type}{f g:α->Option β}:∀{l:List α},(∀a∈l,f a=g a)->l.filterMap f=l.filterMap g
 | [],_=>rfl
 | a::l,h=>by
  have ih:=KJ (f:=f) (g:=g) (l:=l) λx hx=>h x (TM _ hx);rw [eS,eS,h a On,ih]
theorem S_(l:List Ev):∀(n:Nat),n<=l.length->((cF n).filterMap fun(k:Nat)=>l[n - 1 - k]?)=(l.take n).reverse:=by
 intro n
 induction n with
 | zero=>intro _; simp
 | succ n ih =>
  intro h;have hlt:n<l.length:=h;rw [iz,eS];have e0:l[n+1 - 1 - 0]?=some l[n]:=by rw [show n+1 - 1 - 0=n by omega,Go hlt]
  simp only [e0];rw [hG]
  have e1:((fun(k:Nat)=>l[n+1 - 1 - k]?)∘Nat.succ)=fun(k:Nat)=>l[n - 1 - k]?:=by
   funext k
   show l[n+1 - 1 - (k+1)]?=l[n - 1 - k]?;rw [show n+1 - 1 - (k+1)=n - 1 - k by omega]
  rw [e1,ih (by omega),iQ,Go hlt,List.reverse_append];rfl
theorem Ge(xs:Array Ev):((cF xs.size).filterMap fun(k:Nat)=>xs[(((xs.size:Int) - 1)+(k:Int)*(-1)).toNat]?).toArray=xs.toList.reverse.toArray:=by
 have h:=S_ xs.toList xs.toList.length (Rs _);rw [fL] at h
 have e:(cF xs.size).filterMap (fun(k:Nat)=>xs[(((xs.size:Int) - 1)+(k:Int)*(-1)).toNat]?)=(cF xs.toList.length).filterMap fun(k:Nat)=>xs.toList[xs.toList.length - 1 - k]?:=by
  rw [show xs.toList.length=xs.size from cn];refine KJ λk hk=>?_;have hk:=cq.mp hk;rw [show (((xs.size:Int) - 1)+(k:Int)*(-1)).toNat=xs.size - 1 - k by omega];simp
 rw [e,h]
theorem Oq{sl:Db}{t:Tok}{n:Nat}{Q:Int×Int×Nat->Op->Prop}(hs:s.heap.IsSliceOf sl .none .none (.int (-1) t))(h:Q ((n:Int) - 1,-1,n) s):wpAny (model prog w) A (e7 (.ref sl) (pure (n:Int))) Q E s:=by
 obtain⟨os,hos,hcs,hds⟩:=id hs;unfold e7 iR;refine Ch (Ch (cT hos hds (x:=.none) rfl (Ch (cT hos hds (x:=.none) rfl (Ch (cT hos hds (x:=.int (-1) t) rfl (Sc ?_)))))));refine Ch (HT.slicePart_ (IsPart.int (-1) t) ?_);show wpAny (model prog w) _ (if ((-1:Int)==0)=true then _ else _) _ _ s;rw [if_neg (by decide)];refine Ch (HT.slicePart_ IsPart.none (Ch (HT.slicePart_ IsPart.none (Ch (Sc ?_)))));show wpAny (model prog w) _ (match eG none none (-1) (n:Int) with | (lo,hi)=>pure (lo,(-1:Int),c8 lo hi (-1))) _ _ s;have e1:eG none none (-1) (n:Int)=((n:Int) - 1,-1):=rfl;rw [e1]
 have e2:c8 ((n:Int) - 1) (-1) (-1)=n:=by
  unfold c8;rw [if_neg (by decide)]
  by_cases hn:(n:Int) - 1 > -1
  ·rw [if_pos hn]
   simp
  ·rw [if_neg hn]
   omega
 show wpAny (model prog w) _ (pure ((n:Int) - 1,(-1:Int),c8 ((n:Int) - 1) (-1) (-1))) _ _ s;rw [e2];exact Sc h
theorem RE{t sl:Db}{items:Array Ev}{tk:Tok}{Q:Ev->Op->Prop}(ht:IsTup s.heap t items)(hs:s.heap.IsSliceOf sl .none .none (.int (-1) tk))(hsz:items.size<=sizeLine)
  (h:Q (.ref s.heap.objs.size) { s with heap:=s.heap.push { cls:=.type "tuple",data:=.seq items.toList.reverse.toArray } }):wpAny (model prog w) A (getItem (.ref t) (.ref sl)) Q E s:=by
 obtain⟨os,hos,hcs,hds⟩:=id hs;have hTs:s.TypeIs (.ref sl) "slice":=⟨os,hos,hcs⟩
 have htake:sizeOk (.seq items.toList.reverse.toArray):=by
  show items.toList.reverse.toArray.size<=sizeLine
  simpa using hsz
 unfold getItem
 (try with_reducible refine cu ?_); (first | refine Ch (Sc ?_) | skip)
 refine Ch (iJ ht.typeIs (by decide) (Ch (cz (name:=cZ "__getitem__") ht.typeIs cM (df cM ht.typeIs gt ?_ (hU _ _)))));show wpAny (model prog w) _ (fo (.ref t) >>= _) _ _ s;refine Ch (tupleItemsOf_ ht (Ch (eh hTs ?_))); rw [if_pos (by decide)]
 refine Ch (Oq hs ?_);have hno:¬(((items.size:Int) - 1==0&&(-1:Int)==1&&items.size==items.size)=true):=by simp
 show wpAny (model prog w) _ (if ((items.size:Int) - 1==0&&(-1:Int)==1&&items.size==items.size)=true then _ else _) _ _ s;rw [if_neg hno,Ge]
 first
  | exact Ch (m:=ca _) (cW (Sc ⟨_,rfl,Sc h⟩) htake)
  | exact Ch (m:=ca _) (cW (Ch (Sc (Sc ⟨_,rfl,Sc h⟩))) htake)
  | exact Ch (Ch (m:=ca _) (cW (Sc (Sc ⟨_,rfl,Sc h⟩)) htake))
  | exact Ch (Ch (m:=ca _) (cW (Sc ⟨_,rfl,Sc h⟩) htake))
theorem LA(items:Array Ev):slicePick items none none (some (-1))=items.toList.reverse.toArray:=by
 unfold slicePick;have e1:sliceBounds none none (some (-1)) items.size=((items.size:Int) - 1,-1,-1):=rfl;rw [e1];simp only [sliceRange];rw [← Ge,hG]
 congr 1
 have e2:(if (-1:Int) > 0 then if (items.size:Int) - 1 < -1 then (-1 - ((items.size:Int) - 1)+-1 - 1) / -1 else 0 else if (items.size:Int) - 1 > -1 then ((items.size:Int) - 1 - -1 - -1 - 1) / - -1 else 0).toNat=items.size:=by
  rw [if_neg (by decide)]
  by_cases hn:(items.size:Int) - 1 > -1
  ·rw [if_pos hn]
   have:- -1=(1:Int):=rfl
   rw [this,Int.ediv_one];omega
  ·rw [if_neg hn]
   omega
 rw [e2];refine KJ λk _=>?_;show items[((items.size:Int) - 1+-1*(k:Int)).toNat]?=items[((items.size:Int) - 1+(k:Int)*(-1)).toNat]?;rw [fM]
end
section
variable {X:Cx}{e st:Expr}{te tst:TE}{pos p2:Pos}
def aZ(K:Frag):V->Hp->VK->Prop:=λx H Q=>(∃a xs,x=.ref a/\SqL K H a xs/\∀p,H p=none->Q (.ref p) (BC H p (.lst xs.reverse)))\/∃a xs,x=.ref a/\SqT K H a xs/\∀p,H p=none->Q (.ref p) (BC H p (.tup xs.reverse))
def aS(K:Frag)(te tst:TE):TE:=λσ H Q=>te σ H λx H1=>tst σ H1 λi H2=>i=.int (-1)/\aZ K x H2 Q
theorem Xt(he:PE X e te)(hst:PE X st tst):PE X (.Subscript e (.Slice none none (some st) p2) pos) (aS X.K te tst):=by
 intro pins s σ H Q I h;refine Subscript_ (thn (he pins s σ H _ I h) λv s1 ⟨x,H1,I1,r1,q1⟩=>?_);refine wpAny_Slice ?_;rw [evalPart_none,evalPart_some];refine Sc (Sc (thn (hst pins s1 σ H1 _ I1 q1) λvs s3 ⟨i,H3,I3,r3,q3⟩=>?_));obtain⟨rfl,q3⟩:=q3;obtain⟨t,rfl⟩:=r3;have I4:Inv X pins σ H3 { s3 with heap:=s3.heap.push { cls:=.type "slice",data:=.fields #[.none,.none,.int (-1) t] } }:=I3.kept (t':=s3.toks) λb ob q=>FM _ q;have hs:({ s3 with heap:=s3.heap.push { cls:=.type "slice",data:=.fields #[.none,.none,.int (-1) t] } }:Op).heap.IsSliceOf s3.heap.objs.size .none .none (.int (-1) t):=jQ ..;show wpAny (model X.prog X.w) X.A (subscriptTail e (.Slice none none (some st) p2) v (.ref s3.heap.objs.size)) (EP X pins σ Q) X.xe { s3 with heap:=s3.heap.push { cls:=.type "slice",data:=.fields #[.none,.none,.int (-1) t] } }
 rcases q3 with ⟨a,xs,rfl,hq,q⟩ | ⟨a,xs,rfl,hq,q⟩
 ·cases r1
  obtain⟨its,r,ht,hz⟩:=I4.list hq;have hlen:=r.length;refine tail_any (ops:=[.ref a,.ref s3.heap.objs.size]) ht.isList.typeIs iK.lookup ?_ (by with_unfolding_all rfl);refine wpAny_getItem_list_slice ht.isList hs .none .none (.int (-1) t) (by decide) ?_ (by rw [UF]; omega);rw [LA];refine⟨.ref _,_,I4.laid (t':=s3.toks) (o:=.lst xs.reverse) (λb ob q=>FM _ q) (Rs _) ?_,rfl,q _ (I4.hok.fresh (Rs _))⟩;exact⟨by rw [eU]; exact hz,_,0,r.reverse,Uf _ rfl⟩
 ·cases r1
  obtain⟨its,r,ht,hz⟩:=I4.tuple hq;have hlen:=r.length;refine tail_any (ops:=[.ref a,.ref s3.heap.objs.size]) ht.typeIs cM.lookup ?_ (by with_unfolding_all rfl);refine RE ht hs (by rw [UF]; omega) ?_;refine⟨.ref _,_,I4.laid (t':=s3.toks) (o:=.tup xs.reverse) (λb ob q=>FM _ q) (Rs _) ?_,rfl,q _ (I4.hok.fresh (Rs _))⟩;exact⟨by rw [eU]; exact hz,_,r.reverse,IsTupN.new _ _⟩
def Wh(K:Frag):V->Option Int->Option Int->Hp->VK->Prop:=λx lo hi H Q=>∃a xs,x=.ref a/\SqT K H a xs/\(HT.sIx xs.length 0 lo=0/\HT.sIx xs.length xs.length hi=xs.length)/\Q (.ref a) H
theorem VN:SlR X (Wh X.K):=by
 intro pins s σ H x v vl vu lo hi sl Q I rx hs pl pu h;obtain⟨a,xs,rfl,hx,hw,q⟩:=h;cases rx;obtain⟨its,r,ht,hz⟩:=I.tuple hx;have hlen:its.toArray.size=xs.length:=by rw [UF]; exact r.length.symm
 exact⟨"tuple",_,cM.lookup,ht.typeIs,NW ht hs pl pu (by rw [hlen]; exact hw) ⟨.ref a,H,I,rfl,q⟩⟩
end
section
variable {X:Cx}
def TJ(K:Frag):R2:=λx y H Q=>∃a b ys,x=.ref a/\y=.ref b/\SqT K H a []/\SqT K H b ys/\Q (.ref b) H
theorem Ts:OpR X (binaryOp .Add) (TJ X.K):=by
 intro pins s σ H x y v u Q I rx ry h;obtain⟨a,b,ys,rfl,rfl,ha,hb,q⟩:=h;cases rx;cases ry;obtain⟨its,r1,p1,_⟩:=I.tuple ha;obtain⟨its2,r2,p2,_⟩:=I.tuple hb;cases r1;obtain⟨⟨cls,dd,data,sl⟩,ho,hc,n,hd⟩:=id p1;obtain⟨⟨cls2,dd2,data2,sl2⟩,ho2,hc2,n2,hd2⟩:=id p2;simp only at hc hd hc2 hd2;subst hc hd hc2 hd2;exact concat_meets ⟨_,ho,rfl⟩ ⟨_,ho2,rfl⟩ iX seq_tuple_add PySem.F.slot_tuple_add PySem.F.entry_tuple_add (PySem.F.args_tuple_add_2 _ _) (tuple_addW0 a b _ its2.toArray n n2 dd dd2 sl sl2 (by simp)) ⟨ho,ho2,⟨.ref b,H,I,rfl,q⟩⟩
def bI(b:Bool):Int:=if b=true then 1 else 0
def aB(g:Int->Int->Int):R2:=λx y H Q=>∃k j,x=.bl k/\y=.int j/\Q (.int (g (bI k) j)) H
def bJ(g:Int->Int->Int):R2:=λx y H Q=>∃i k,x=.int i/\y=.bl k/\Q (.int (g i (bI k))) H
theorem op_add_bi:OpR X (binaryOp .Add) (aB λi j=>i+j):=by
 intro pins s σ H x y v u Q I rx ry h;obtain⟨k,j,rfl,rfl,q⟩:=h;cases rx;obtain⟨t,rfl⟩:=ry;exact PySem.IntBool.add_bool_int ⟨.int _,H,I.tok _,⟨_,rfl⟩,q⟩
theorem op_sub_bi:OpR X (binaryOp .Sub) (aB λi j=>i - j):=by
 intro pins s σ H x y v u Q I rx ry h;obtain⟨k,j,rfl,rfl,q⟩:=h;cases rx;obtain⟨t,rfl⟩:=ry;exact PySem.IntBool.sub_bool_int ⟨.int _,H,I.tok _,⟨_,rfl⟩,q⟩
theorem RX:OpR X (binaryOp .Sub) (bJ λi j=>i - j):=by
 intro pins s σ H x y v u Q I rx ry h;obtain⟨i,k,rfl,rfl,q⟩:=h;obtain⟨t,rfl⟩:=rx;cases ry;exact PySem.IntBool.sub_int_bool ⟨.int _,H,I.tok _,⟨_,rfl⟩,q⟩
def ZO(neg:Bool):R2:=λx y H Q=>∃a b,x=.bl a/\y=.bl b/\Q (.bl (if neg then !(a==b) else a==b)) H
theorem LW:OpR X (compareOp .IsNot) (ZO true):=by
 intro pins s σ H x y v u Q I rx ry h;obtain⟨a,b,rfl,rfl,q⟩:=h;cases rx;cases ry;exact isnot_bool ⟨.bl _,H,I,rfl,q⟩
end
end L2
namespace Dp
open PySem PySem.Spec PyProof.Rows L2
section
variable {K:Frag}{X:Cx}
def Az(d e:D)(P:D->Prop):Prop:=match d,e with
 | .int i,.int j=>P (.int (i+j))
 | .bl k,.int j=>P (.int (bI k+j))
 | .str i,.str j=>i.length+j.length<=sizeLine/\P (.str (i++j))
 | .tup i,.tup j=>i.length+j.length<=sizeLine/\P (.tup (i++j))
 | .lst i,.lst j=>i.length+j.length<=sizeLine/\P (.lst (i++j))
 | _,_=>False
def Ww(K:Frag):R2:=λx y H Q=>TL K x y H Q\/(aB λi j=>i+j) x y H Q\/TJ K x y H Q
theorem BF:OpR X (binaryOp .Add) (Ww X.K):=op_addU.or (op_add_bi.or Ts)
theorem BQ:Fa X.K .sh (Ww X.K) Az:=λU M H d e x y P Q dom vM hx hy w q=>by
 unfold Az at w
 split at w
 ·exact .inl (NF (X:=X) U M H (.int _) (.int _) x y P Q dom vM hx hy w q)
 ·rename_i k j
  exact .inr (.inl ⟨k,j,hx,hy,q _ H (.int _) .refl rfl w⟩)
 ·exact .inl (NF (X:=X) U M H (.str _) (.str _) x y P Q dom vM hx hy w q)
 ·rename_i i j
  cases i with
  | nil =>
   obtain⟨a,vs,rfl,ha,hs⟩:=hx.tup;obtain⟨b,us,rfl,hb,ht⟩:=hy.tup;cases (show vs=[] from hs);exact .inr (.inr ⟨a,b,us,rfl,rfl,ha.sq,hb.sq,q _ H (.tup j) .refl ⟨b,us,rfl,hb,ht⟩ (by have:=w.2; rw [cK] at this; exact this)⟩)
  | cons i0 i=>exact .inl (NF (X:=X) U M H (.tup (i0::i)) (.tup j) x y P Q dom vM hx hy ⟨(by intro z; cases z),w⟩ q)
 ·exact .inl (NF (X:=X) U M H (.lst _) (.lst _) x y P Q dom vM hx hy w q)
 ·exact w.elim
def Qf(d e:D)(P:D->Prop):Prop:=match d,e with
 | .int i,.int j=>P (.int (i - j))
 | .bl k,.int j=>P (.int (bI k - j))
 | .int i,.bl k=>P (.int (i - bI k))
 | _,_=>False
def Wf:R2:=λx y H Q=>(IC λi j=>.int (i - j)) x y H Q\/(aB λi j=>i - j) x y H Q\/(bJ λi j=>i - j) x y H Q
theorem QO:OpR X (binaryOp .Sub) Wf:=op_sub.or (op_sub_bi.or RX)
theorem Uu:Fa K .sh Wf Qf:=λU M H d e x y P Q dom vM hx hy w q=>by
 unfold Qf at w
 split at w
 ·exact .inl (Uy (K:=K) (g:=λi j=>i - j) U M H (.int _) (.int _) x y P Q dom vM hx hy w q)
 ·rename_i k j
  exact .inr (.inl ⟨k,j,hx,hy,q _ H (.int _) .refl rfl w⟩)
 ·rename_i i k
  exact .inr (.inr ⟨i,k,hx,hy,q _ H (.int _) .refl rfl w⟩)
 ·exact w.elim
def Vz(neg:Bool)(d e:D)(P:D->Prop):Prop:=match d,e with
 | .bl a,.bl b=>P (.bl (if neg then !(a==b) else a==b))
 | _,_=>False
theorem XE{neg:Bool}:Fa K .sh (ZO neg) (Vz neg):=λU M H d e x y P Q dom vM hx hy w q=>by
 unfold Vz at w
 split at w
 ·rename_i a b
  exact⟨a,b,hx,hy,q _ H (.bl _) .refl rfl w⟩
 ·exact w.elim
def Eh(d:D)(lo hi:Option Int)(P:D->Prop):Prop:=match d with
 | .str z=>P (.str (Txt.slice z lo hi))
 | .lst xs=>P (.lst (cutD xs lo hi))
 | .tup xs=>P (.tup (cutD xs lo hi))
 | _=>False
def ZI(K:Frag):V->Option Int->Option Int->Hp->VK->Prop:=λx lo hi H Q=>ZF x lo hi H Q\/ZH K x lo hi H Q\/ZG K x lo hi H Q\/Wh K x lo hi H Q
theorem Jb:SlR X (ZI X.K):=sl_U.or (sl_list.or (sl_tup.or VN))
theorem Qr{M:Db->Prop}{H:Hp}{ds:List D}{vs:List V}(lo hi:Option Int)(h:Ats K M H ds vs):Ats K M H (cutD ds lo hi) (LC vs lo hi):=by
 unfold cutD LC;rw [h.length];exact(h.drop _).take _
theorem FG:bL K .sh (ZI K) Eh:=by
 intro U M H d x lo hi P Q dom vM hx w q;unfold Eh at w
 split at w
 ·rename_i z
  exact .inl ⟨z,hx.str.1,hx.str.2,q _ H (.str (Txt.slice z lo hi)) .refl ⟨rfl,cG (Txt.slice_le z lo hi) hx.str.2⟩ w⟩
 ·rename_i xs
  obtain⟨a,vs,rfl,_,ha,hs⟩:=hx;exact .inr (.inl ⟨a,vs,rfl,.inl ha,λp hp=>q _ _ (.lst _) (Ay hp) ((D7 (U:=U) hp (Qr lo hi hs)).shOf dom (by intro z; cases z)) w⟩)
 ·rename_i xs
  obtain⟨a,vs,rfl,ha,hs⟩:=hx.tup
  by_cases hw:HT.sIx vs.length 0 lo=0/\HT.sIx vs.length vs.length hi=vs.length
  ·refine .inr (.inr (.inr ⟨a,vs,rfl,ha.sq,hw,?_⟩))
   have e:cutD xs lo hi=xs:=by
    unfold cutD;rw [← hs.length,hw.1,hw.2,List.drop_zero,Nat.sub_zero,hs.length,fL]
   rw [e] at w;exact q _ H (.tup xs) .refl ⟨a,vs,rfl,ha,hs⟩ w
  ·exact .inr (.inr (.inl ⟨a,vs,rfl,ha.sq,hw,λp hp=>q _ _ (.tup _) (Ay hp) (Cq dom hp (Qr lo hi hs)) w⟩))
 ·exact w.elim
def Yw(wa wst:DW):DW:=λn ρ P=>wa n ρ λd n1=>wst n1 ρ λi n2=>i=.int (-1)/\match d with
 | .lst xs=>P (.lst xs.reverse) n2
 | .tup xs=>P (.tup xs.reverse) n2
 | _=>False
theorem YR{a st:cC}{κa κs:Kd}{wa wst:DW}{pos p2:Pos}(ha:DE X a κa wa)(hst:DE X st κs wst):DE X (.Subscript a (.Slice none none (some st) p2) pos) .sh (Yw wa wst):=by
 obtain⟨t,h1,h2⟩:=ha;obtain⟨u,g1,g2⟩:=hst;refine⟨_,Xt h1 g1,λC M H n ρ σ P Q R w q=>?_⟩;refine h2 C M H n ρ σ _ _ R w λv H1 d n1 e1 f1 r1 p=>?_;have R1:=R.step e1 f1;have tv:=r1.tpOf R.dom R.vM;refine g2 C M H1 n1 ρ σ _ _ R1 p λi H2 z n2 e2 f2 r2 p2=>?_;have R2':=R1.step e2 f2;have tv2:=tv.pres (R1.pres e2) e2 R.uV;obtain⟨rfl,p2⟩:=p2;refine⟨Mh r2,?_⟩;cases d with
 | lst xs =>
  obtain⟨a,vs,rfl,_,ha,hs⟩:=tv2;refine .inl ⟨a,vs,rfl,.inl ha,λp hp=>?_⟩;have g:Grow H2 (BC H2 p (.lst vs.reverse)):=Ay hp;exact q _ _ (.lst xs.reverse) n2 ((e1.trans e2).trans g.ext) (f2.grow g) ((D7 (U:=C.V) hp hs.reverse).shOf R2'.dom (by intro z; cases z)) p2
 | tup xs =>
  obtain⟨a,vs,rfl,ha,hs⟩:=tv2.tup;refine .inr ⟨a,vs,rfl,ha.sq,λp hp=>?_⟩;have g:Grow H2 (BC H2 p (.tup vs.reverse)):=Ay hp;exact q _ _ (.tup xs.reverse) n2 ((e1.trans e2).trans g.ext) (f2.grow g) (Cq R2'.dom hp hs.reverse) p2
 | _=>exact p2.elim
end
end Dp
namespace Nt
open PySem PySem.Spec PyProof.Rows L2 Dp
def BN:W2:=λss n P=>∃m:Int,ss=[.fd,.sh (.int m)]/\1<=m/\m<1073741824/\1<=n/\∀r:Int,0<=r->r<m->P (.int r) (n - 1)
def WT:W2:=λss n P=>∃s:Int,ss=[.fd,.sh (.int s)]/\1<=n/\∀r:Int,1<=r->r<=1000000->P (.int r) (n - 1)
def Fy:Af:=(AZ (BP (AY (AT (Ig false) (AB 1) (wC (D.int 0)))) (Av (AT Az (wC (D.int 1)) (AV BN (AC (BH 0) (AC (AG (wC (D.int 3))) AW))))) A9)
 (AZ (BP (AY (AT (Ig false) (AB 1) (wC (D.int 1)))) (Av (AT Az (wC (D.int 1)) (AV BN (AC (BH 0) (AC (AG (wC (D.int 12))) AW))))) A9)
 (Av (Yr (AY (AT (Ig false) (AB 1) (wC (D.int 2)))) (AT Qf (AT (U8 WW λi j=>D.int (i ^ j.toNat)) (wC (D.int 10)) (wC (D.int 6))) (AV BN (AC (BH 0) (AC (AG (wC (D.int 5))) AW)))) (AT Az (wC (D.int 1)) (AV BN (AC (BH 0) (AC (AG (AT (U8 WW λi j=>D.int (i ^ j.toNat)) (wC (D.int 10)) (wC (D.int 6)))) AW))))))))
def Fw:Af:=(AZ (Ax 2 (AV BN (AC (BH 0) (AC (AG (wC (D.int 3))) AW))))
 (AZ (Ax 3 (Ek (AF (wC (D.str "a")) (AF (wC (D.str "aa")) (AF (wC (D.str "ab")) (AF (wC (D.str "b")) (AF (wC (D.str "far")) (AF (wC (D.str "in")) (AF (wC (D.str "near")) (AF (wC (D.str "out")) (AF (wC (D.str "place")) (AF (wC (D.str "tie")) (AF (wC (D.str "ties")) (AF (wC (D.str "way")) Ab))))))))))))))
 (AZ (BP (IB (AY (AT (Ig false) (AB 2) (wC (D.int 0)))) (AY (AT GO (AB 1) (wC (D.int 13))))) (AZ (Ax 4 (AV BN (AC (BH 0) (AC (AG (wC (D.int 12))) AW))))
 (Av (DR KO (AF (Bl [some 3,some 4,none] (EU (AF (AB 1) Ab)) (Aa 2) CI (AT Aw (AB 0) (AT (U8 (λ_ j=>0<j) λi j=>D.int (i % j)) (AT Az (AB 1) (AB 2)) (wC (D.int 12))))) Ab)))) A9)
 (AZ (Ax 5 (wC (D.str "abcdefghijklmnopqrstuvwxyz")))
 (AZ (Ax 6 (aN "str" US (wC (D.str "")) (AF (Bl [some 5,some 0,none] (EU (AF (wC (D.int 8)) Ab)) (Aa 2) CI (AT Aw (AB 0) (AV BN (AC (BH 1) (AC (AG (wC (D.int 26))) AW))))) Ab)))
 (AZ (BP (IB (AY (AT (Ig false) (AB 2) (wC (D.int 1)))) (AY (AT GO (AB 1) (wC (D.int 9))))) (Av (Bl [some 6,none] (EU (AF (AB 1) Ab)) (Aa 1) CI (NQ Eh (AB 0) Br (B8 (AT Az (wC (D.int 1)) (AB 1)))))) A9)
 (AZ (Ax 7 (AV BN (AC (BH 0) (AC (AG (wC (D.int 7))) AW))))
 (AZ (Ax 4 (AV BN (AC (BH 0) (AC (AG (wC (D.int 26))) AW))))
 (AZ (DV 8 (Ek Ab))
 (AZ (Dy (EU (AF (AB 1) Ab)) (Aa 9) (AZ (Ax 10 (AT Aw (AB 5) (AT (U8 (λ_ j=>0<j) λi j=>D.int (i % j)) (AT Az (AB 4) (AB 9)) (wC (D.int 26)))))
 (Oy 8 "list" Hv (AF (AT Az (AT Az (AT Az (NQ Eh (AB 6) Br (B8 (AB 7))) (AB 10)) (NQ Eh (AB 6) (B8 (AT Az (AB 7) (wC (D.int 1)))) (B8 (wC (D.int 7))))) (AT By (wC (D.str "z")) (AT (U8 (λ_ j=>0<j) λi j=>D.int (i % j)) (AB 9) (wC (D.int 2))))) Ab))))
 (Av (DR KO (AF (BB 8) Ab)))))))))))))
def cs(x:Str):List Nat:=x.cps.toList
theorem Du(x:Str):(cs x).length=x.length:=cn
theorem YV{x y:Str}(h:cs x=cs y):x=y:=by
 obtain⟨a⟩:=x;obtain⟨b⟩:=y;unfold cs at h;exact congrArg Str.mk (Array.ext' h)
theorem Kb(x y:Str):cs (x++y)=cs x++cs y:=PySem.W.KT.app_list x y
theorem W_{x:Str}{j:Int}(h0:0<=j)(h1:j<=(x.length:Int)):cs (Txt.slice x none (some j))=(cs x).take j.toNat:=by
 have e:(x.cps.toList.length:Int)=(x.length:Int):=by rw [show x.cps.toList.length=x.length from Du x]
 have h:=eq_of_beq (slice_closes_to (x:=x) (j:=j) ⟨h0,by omega⟩);rw [h];show ((x.cps.toList.drop (0:Int).toNat).take (j - 0).toNat)=(x.cps.toList).take j.toNat
 rw [Int.sub_zero];rfl
theorem YU{x:Str}{i j:Int}(h0:0<=i)(h1:i<=j)(h2:j<=(x.length:Int)):cs (Txt.slice x (some i) (some j))=((cs x).drop i.toNat).take (j - i).toNat:=by
 have e:(x.cps.toList.length:Int)=(x.length:Int):=by rw [show x.cps.toList.length=x.length from Du x]
 have h:=eq_of_beq (slice_closes (x:=x) (i:=i) (j:=j) ⟨h0,h1,by omega⟩);rw [h];rfl
def U7(x:Str):Prop:=1<=x.length/\x.length<=8/\∀c∈cs x,97<=c/\c<=122
def rising(xs:List Str):Prop:=xs.Pairwise λx y=>cs x<cs y
theorem T7(a b:List Nat):ltCps a b=decide (a<b):=ltCps_eq a b
theorem IE:∀(l:List Str) (p:Str),risingS p l=true->(p::l).Pairwise λa b=>¬cs b<cs a
 | [],p,_=>gG _ _
 | x::r,p,h=>by
  have h':(!ltCps x.cps.toList p.cps.toList&&risingS x r)=true:=h;rw [bz,Bool.not_eq_true',T7,decide_eq_false_iff_not] at h';have ih:=IE r x h'.2;refine dA.mpr ⟨λy hy=>?_,ih⟩
  rcases TW.mp hy with rfl | hy
  ·exact h'.1
  ·have h2:=(dA.mp ih).1 y hy
   exact List.le_trans (l₁:=cs p) (l₂:=cs x) (l₃:=cs y) h'.1 h2
theorem Fj{l:List Str}(h:sortedS l=true)(nd:l.Nodup):rising l:=by
 have hp:l.Pairwise λa b=>¬cs b<cs a:=by
  cases l with
  | nil=>exact iL
  | cons x r=>exact IE r x h
 refine(hp.and nd).imp λ{a b} ⟨h1,h2⟩=>?_;exact eI λh3=>h2 (YV (List.le_antisymm (as:=cs a) (bs:=cs b) h1 h3))
theorem P8:∀(l:List Nat) (i j:Nat),i<j->i<l.length->l.take i<l.take j
 | [],_,_,_,h=>absurd h (Nat.not_lt_zero _)
 | c::r,0,j+1,_,_=>List.nil_lt_cons _ _
 | c::r,i+1,j+1,h1,h2=>by
  rw [List.take_succ_cons,List.take_succ_cons];exact List.cons_lt_cons_iff.mpr (.inr ⟨rfl,P8 r i j (by omega) (by simpa using h2)⟩)
theorem LX{b:BW}{te:DW}{P:List D->Nat->Prop}(I:Nat->Nat->List D->List Slot->Prop)(hend:∀n acc ρ,I 0 n acc ρ->P acc n)
  (hstep:∀(k:Nat) (d:D) (n:Nat) (acc:List D) (ρ:List Slot) (nx:List D->Nat->List Slot->Prop),I (k+1) n acc ρ->(∀acc' n' ρ',I k n' acc' ρ'->nx acc' n' ρ')->b d ρ λρ1=>te n ρ1 λy n2=>nx (acc++[y]) n2 ρ1) :
  ∀(ds acc:List D) (n:Nat) (ρ:List Slot),I ds.length n acc ρ->B9 b CI te P ds acc n ρ
 | [],acc,n,ρ,h=>hend n acc ρ h
 | d::ds,acc,n,ρ,h=>hstep ds.length d n acc ρ (λacc n ρ=>B9 b CI te P ds acc n ρ) h λacc' n' ρ' h'=>LX I hend hstep ds acc' n' ρ' h'
theorem CK(lo:Int)(n:Nat):(Cv lo n).length=n:=by unfold Cv; rw [No,d6]
theorem Nj{lo:Int}{n:Nat}{d:D}(h:d∈Cv lo n):∃k:Nat,k<n/\d=.int (lo+k):=by
 unfold Cv at h;obtain⟨k,hk,rfl⟩:=Tk.mp h;exact⟨k,cq.mp hk,rfl⟩
theorem RO{ss:List Slot}{n:Nat}{Pd:D->Nat->Prop}(h:WT ss n Pd):Fy { nx:=λn _=>Kd.sh=.sh/\Pd .non n,rt:=Pd } n (ss++bj 0 .no):=by
 obtain⟨s,rfl,hn,p⟩:=h;unfold Fy;refine CD (λ_=>⟨3,rfl,by decide,by decide,by omega,λr h0 h1=>p _ (by omega) (by omega)⟩) λ_=>?_;refine CD (λ_=>⟨12,rfl,by decide,by decide,by omega,λr h0 h1=>p _ (by omega) (by omega)⟩) λ_=>?_;refine CD (λ_=>⟨⟨by decide,by decide,by decide⟩,5,rfl,by decide,by decide,by omega,λr h0 h1=>?_⟩) λ_=>⟨⟨by decide,by decide,by decide⟩,_,rfl,by decide,by decide,by omega,λr h0 h1=>?_⟩
 ·have e:((10:Int) ^ (6:Int).toNat)=1000000:=by decide
  exact p _ (by rw [e]; omega) (by rw [e]; omega)
 ·have e:((10:Int) ^ (6:Int).toNat)=1000000:=by decide
  rw [e] at h1;exact p _ (by omega) (by omega)
end Nt
namespace K91
open PySem PySem.Spec PyProof.Rows L2 Dp Nt
def top(i:Nat):cS:=PySem.Challenge.pw_thinnet_k91_whole_thinned_again_and_agai.main.body.getD i (.Pass ⟨0,0,0,0⟩)
abbrev GB:cS:=top 1
abbrev Dk:cS:=top 2
abbrev Ew:cS:=top 3
abbrev Hd:cS:=top 4
abbrev F9:cS:=top 5
abbrev F8:cS:=top 6
abbrev O9:cS:=top 7
abbrev Eu:cS:=top 8
abbrev Hf:cS:=top 9
abbrev GA:cS:=top 10
abbrev Es:cS:=top 12
abbrev CQ:cS:=top 13
abbrev Ep:cS:=top 14
abbrev EH:cS:=top 15
abbrev EI:cS:=top 16
abbrev Jg:cS:=top 17
abbrev He:cS:=top 19
abbrev CS:cS:=top 20
abbrev Di:cS:=top 21
abbrev En:cS:=top 22
abbrev GC:cS:=top 23
abbrev Et:cS:=top 28
abbrev F_:cS:=top 29
abbrev Hc:cS:=top 30
abbrev EG:cS:=top 31
abbrev Eo:cS:=top 33
abbrev Er:cS:=top 34
abbrev Ey:cS:=top 36
abbrev Dc:cS:=top 37
abbrev Do:cS:=top 38
abbrev Dq:cS:=top 39
abbrev GD:cS:=top 40
abbrev Cu:cS:=top 41
abbrev EJ:cS:=top 42
abbrev Dl:cS:=top 43
abbrev Dn:cS:=top 44
abbrev CC:cS:=top 45
abbrev Ex:cS:=top 46
abbrev CJ:cS:=top 47
abbrev Jh:cS:=top 48
structure Txt (K:Frag) (mg:Str->Option Ev):Prop where
 n_all:mg "all"=none
 n_bool:mg "bool"=none
 n_dict:mg "dict"=none
 n_enumerate:mg "enumerate"=none
 n_int:mg "int"=none
 n_isinstance:mg "isinstance"=none
 n_len:mg "len"=none
 n_list:mg "list"=none
 n_max:mg "max"=none
 n_min:mg "min"=none
 n_range:mg "range"=none
 n_repr:mg "repr"=none
 n_reversed:mg "reversed"=none
 n_sorted:mg "sorted"=none
 n_str:mg "str"=none
 n_tuple:mg "tuple"=none
 n_zip:mg "zip"=none
section
variable {P:Program}{w:World}{K:Frag}{mg:Str->Option Value}{base:Heap}
theorem jU:Ah ["_law_feed_here","_law_many","_law_digit","_law_at","_law_cell","_law_first"] ["_law_feed_here","_law_many"] (AR Dc):=⟨rfl,rfl,rfl,by decide +kernel,rfl,by decide +kernel,by decide +kernel⟩
theorem Vj{f:Db}{fd:bo}(F:Fun K "_law_next" "_law_next" Dc f fd)(ml:mg "len"=none):BG P w K mg base CP 1 f fd ["_law_feed_here","_law_many"] (DY K .sh BN 2):=by
 refine F.ok jU (λvs H Q E h=>h.1) (λcdv A outer s H vs Q E hr h=>?_);obtain⟨hl,F0,U,V',M,n,ss,Pd,ra,⟨m,rfl,hm1,hm2,hn,hP⟩,q⟩:=h;obtain⟨dom,fU,uV,vM,fd0,pa⟩:=ra;cases pa with
 | cons r1 pa =>
 cases pa with
 | cons r2 pa =>
 cases pa;obtain⟨⟨f0,c⟩,e0,hF⟩:=r1.1;cases e0;obtain⟨v2,e2,h2⟩:=r2.1;cases e2;cases (show _=V.int m from h2);obtain⟨a,r,cells,hf,hcf,hc,hcl,ha0,han⟩:=fd0 (f0,c) hF
 have fin:∀(a' r' z:Int) (H':Hp),(∀b o,H b=some o->b≠f0->H' b=some o)->H' f0=some (.lst [.ref c,.int a',.int r'])->0<=a'->a'<=a+1->0<=z->z<m->Q (.int z) H':=by
  intro a' r' z H' hk hf' h0 h1 hz0 hz1;refine q (.int z) H' (.int z) (n - 1) (λb o e=>?_) (λg hg=>?_) rfl (hP z hz0 hz1)
  ·by_cases hb:b=f0
   ·subst hb
    exact⟨_,hf',λnu=>absurd (fU (b,c) hF) nu,λvs z=>by rw [z,hf] at e; cases e⟩
   ·exact⟨o,hk b o e hb,λ_=>rfl,λ_ _=>rfl⟩
  ·have:g=(f0,c):=bg (hg.symm.trans hF)
   subst this;exact⟨a',r',cells,hf',hcf,⟨hc.1,hk c _ hc.2 hcf⟩,hcl,h0,by omega⟩
 have hu:(A.deeper (envOfC "_law_next" (AR Dc) s.heap.objs.size f cdv)).units<cLine:=hr.units0;have hsq:∀{H':Hp} {xs:List V},H' f0=some (.lst xs)->SqL K H' f0 xs:=λh=>SqL.of h;have ed:∀z:Int,0<=z % m/\z % m<m:=λz=>⟨Int.emod_nonneg _ (by omega),Int.emod_lt_of_pos _ (by omega)⟩
 refine⟨_,BL (TV (Gh W0 (EV ix_list (pv 0) A_ (λ_ _=>rfl)) A_ (Ap _))
   (BL (E3 (i:=2) jU.nd rfl (be rfl) (Bn Dr (EV ix_list (pv 0) A_ (λ_ _=>rfl)) (pv 1)))
   (BL (MM (Bn MQ (EV ix_list (pv 0) A_ (λ_ _=>rfl)) (pv 1)) (PL (pv 0) A_ set_list))
   (De (GF (pv 2))))) ML)
  (BL (E3 (i:=3) jU.nd rfl (be rfl) (EV ix_list (pv 0) A_ (λ_ _=>rfl)))
  (BL (MM (Bn op_add (pv 3) A_) (PL (pv 0) A_ set_list))
  (BL (E3 (i:=4) jU.nd rfl (be rfl) (Nu (Gh (RY hu) (EV ix_list (pv 0) A_ (λ_ _=>rfl)) (PM DD) (Ap _))
   (EV ix_list (EV ix_list (pv 0) A_ (λ_ _=>rfl)) (Bn Dr (pv 3) (Gk Bh rfl ml PySem.boot_len (Bt (EV ix_list (pv 0) A_ (λ_ _=>rfl)) DD))) (λ_ _=>rfl)) A_))
  (BL (TV (PW.pt (TN (Gh W1 (pv 4) (Bn PN A_ A_) (Ap _)) (QE (Gh op_lt (pv 3) (Gk Bh rfl ml PySem.boot_len (Bt (EV ix_list (pv 0) A_ (λ_ _=>rfl)) DD)) (Ap _)))))
   (BL (MM (Bn MQ (pv 4) (pv 1)) (PL (pv 0) A_ set_list))
   (De (GF (Bn Dr (pv 4) (pv 1))))) ML)
  (BL (E3 (i:=5) jU.nd rfl (be rfl) (Bn Dr (Bn op_mul (Bn op_add (Bn op_add (Bn op_add (Bn Dr (pv 4) A_) (Bn op_mul (Bn op_mul A_ (pv 3)) (pv 3))) (Bn op_mul A_ (pv 3))) A_) A_) A_))
  (De (GF (Bn Dr (Bn MQ (Bn Dr (Bn op_mul (Bn op_add (pv 5) (Bn op_mul A_ (pv 3))) A_) A_) A_) (pv 1))))))))),?_⟩
 refine⟨_,rfl,f0,_,2,_,rfl,rfl,hsq hf,rfl,_,_,rfl,rfl,_,rfl,?_⟩;refine CD (λc1=>?_) (λc1=>?_)
 ·refine⟨_,rfl,f0,_,2,_,rfl,rfl,hsq hf,rfl,_,rfl,_,_,rfl,rfl,(by show (0:Int)<m; omega),?_⟩
  refine⟨_,rfl,f0,_,2,_,rfl,rfl,hsq hf,rfl,_,rfl,_,_,rfl,rfl,⟨(by show (0:Int)<m; omega),hm2⟩,_,rfl,f0,_,2,2,rfl,rfl,hf,rfl,?_⟩;refine⟨_,rfl,?_⟩;exact fin a _ _ _ (λb o e hb=>by rw [AU hb]; exact e) Ai ha0 (by omega) (ed _).1 (ed _).2
 ·-- at=feed[1]; feed[1]=at+1
  refine⟨_,rfl,f0,_,1,_,rfl,rfl,hsq hf,rfl,?_⟩;refine⟨_,rfl,_,_,rfl,rfl,_,rfl,f0,_,1,1,rfl,rfl,hf,rfl,?_⟩;generalize hH1:BC H f0 (.lst ([V.ref c,V.int a,V.int r].set 1 (V.int (a+1))))=H1;have f1:H1 f0=some (.lst [.ref c,.int (a+1),.int r]):=by rw [← hH1]; exact Ai
  have k1:∀b o,H b=some o->b≠f0->H1 b=some o:=λb o e hb=>by rw [← hH1,AU hb]; exact e
  have c1':H1 c=some (.lst (cells.map V.int)):=k1 c _ hc.2 hcf
  have rest:∀(z:Int) (H2:Hp),(∀b o,H1 b=some o->H2 b=some o) ->
    (RG (Y7 (ZC (S0 (Dh (IC λi j=>V.bl (decide (j<=i))) (B3 4) (Dh (rI WW λi j=>V.int (i ^ j.toNat)) (tC (V.int 10)) (tC (V.int 18))))) (S0 (Dh (IC λi j=>V.bl (decide (i<j))) (B3 3) (aA (λxs H Q=>∃x n,xs=[x]/\Ym K x H n/\Q (V.int n) H) (P9 (Dh (Xk K) (B3 0) (tC (V.int 0))) VL))))) (RG (Na (Dh (rI WX λi j=>V.int (i / j)) (B3 4) (B3 1)) (Ze (B3 0) (tC (V.int 2)) Wi)) (VI (Dh (rI (λ_ j=>0<j) λi j=>V.int (i % j)) (B3 4) (B3 1)))) Wd) (RG (Na (Dh (rI (λ_ j=>0<j) λi j=>V.int (i % j)) (Dh (rI CMul λi j=>V.int (i*j)) (Dh (IC λi j=>V.int (i+j)) (Dh (IC λi j=>V.int (i+j)) (Dh (IC λi j=>V.int (i+j)) (Dh (rI (λ_ j=>0<j) λi j=>V.int (i % j)) (B3 4) (tC (V.int 1000003))) (Dh (rI CMul λi j=>V.int (i*j)) (Dh (rI CMul λi j=>V.int (i*j)) (tC (V.int 41)) (B3 3)) (B3 3))) (Dh (rI CMul λi j=>V.int (i*j)) (tC (V.int 17)) (B3 3))) (tC (V.int 3))) (tC (V.int 51749))) (tC (V.int 999917))) (IH 5)) (VI (Dh (rI (λ_ j=>0<j) λi j=>V.int (i % j)) (Dh (rI WX λi j=>V.int (i / j)) (Dh (rI (λ_ j=>0<j) λi j=>V.int (i % j)) (Dh (rI CMul λi j=>V.int (i*j)) (Dh (IC λi j=>V.int (i+j)) (B3 5) (Dh (rI CMul λi j=>V.int (i*j)) (tC (V.int 8111)) (B3 3))) (tC (V.int 39373))) (tC (V.int 2097143))) (tC (V.int 3))) (B3 1)))))
     { nx:=λ_ H'=>Q .non H',rt:=Q } [some (.ref f0),some (.int m),none,some (.int a),some (.int z),none] H2:=by
   intro z H2 k2;have f2:=k2 _ _ f1;have c2:=k2 _ _ c1'
   have lastWay:∀H3:Hp,H3=H2->(RG (Na (Dh (rI (λ_ j=>0<j) λi j=>V.int (i % j)) (Dh (rI CMul λi j=>V.int (i*j)) (Dh (IC λi j=>V.int (i+j)) (Dh (IC λi j=>V.int (i+j)) (Dh (IC λi j=>V.int (i+j)) (Dh (rI (λ_ j=>0<j) λi j=>V.int (i % j)) (B3 4) (tC (V.int 1000003))) (Dh (rI CMul λi j=>V.int (i*j)) (Dh (rI CMul λi j=>V.int (i*j)) (tC (V.int 41)) (B3 3)) (B3 3))) (Dh (rI CMul λi j=>V.int (i*j)) (tC (V.int 17)) (B3 3))) (tC (V.int 3))) (tC (V.int 51749))) (tC (V.int 999917))) (IH 5)) (VI (Dh (rI (λ_ j=>0<j) λi j=>V.int (i % j)) (Dh (rI WX λi j=>V.int (i / j)) (Dh (rI (λ_ j=>0<j) λi j=>V.int (i % j)) (Dh (rI CMul λi j=>V.int (i*j)) (Dh (IC λi j=>V.int (i+j)) (B3 5) (Dh (rI CMul λi j=>V.int (i*j)) (tC (V.int 8111)) (B3 3))) (tC (V.int 39373))) (tC (V.int 2097143))) (tC (V.int 3))) (B3 1))))
     { nx:=λ_ H'=>Q .non H',rt:=Q } [some (.ref f0),some (.int m),none,some (.int a),some (.int z),none] H3:=by
    intro H3 e3;subst e3;have hb:CMul (41*a) a:=.inr ⟨by omega,by omega⟩;refine⟨_,rfl,_,_,rfl,rfl,(by show (0:Int)<1000003; decide),_,rfl,_,_,rfl,rfl,.inl ⟨by decide,by decide⟩,_,rfl,_,_,rfl,rfl,hb,_,_,rfl,rfl,_,rfl,_,_,rfl,rfl,.inl ⟨by decide,by decide⟩,_,_,rfl,rfl,_,_,rfl,rfl,_,_,rfl,rfl,.inr ⟨by decide,by decide⟩,_,_,rfl,rfl,(by show (0:Int)<999917; decide),?_⟩;refine⟨_,rfl,_,rfl,_,_,rfl,rfl,.inl ⟨by decide,by decide⟩,_,_,rfl,rfl,_,_,rfl,rfl,.inr ⟨by decide,by decide⟩,_,_,rfl,rfl,(by show (0:Int)<2097143; decide),_,_,rfl,rfl,⟨by decide,by decide⟩,_,rfl,_,_,rfl,rfl,(by show (0:Int)<m; omega),?_⟩;exact fin (a+1) r _ _ (λb o e hb=>k2 b o (k1 b o e hb)) f2 (by omega) (by omega) (ed _).1 (ed _).2
   refine⟨_,rfl,_,_,rfl,rfl,⟨by decide,by decide,by decide⟩,_,_,rfl,rfl,_,rfl,?_⟩;refine CD (λc3=>?_) (λc3=>?_)
   ·refine⟨_,rfl,_,rfl,f0,_,0,_,rfl,rfl,hsq f2,rfl,_,_,rfl,.inl ⟨_,SqL.of c2,rfl⟩,_,_,rfl,rfl,_,rfl,?_⟩
    refine CD (λc4=>?_) (λc4=>lastWay H2 rfl);refine⟨_,rfl,_,rfl,_,_,rfl,rfl,⟨(by show (0:Int)<m; omega),hm2⟩,_,rfl,f0,_,2,2,rfl,rfl,f2,rfl,?_⟩;refine⟨_,rfl,_,rfl,_,_,rfl,rfl,(by show (0:Int)<m; omega),?_⟩;exact fin (a+1) _ _ _ (λb o e hb=>by rw [AU hb]; exact k2 b o (k1 b o e hb)) Ai (by omega) (by omega) (ed _).1 (ed _).2
   ·refine CD (λc4=>absurd c4 (by simp)) (λ_=>lastWay H2 rfl)
  refine⟨_,rfl,f0,_,0,_,rfl,rfl,hsq f1,rfl,(by show 0<=sizeLine; decide),λp hp=>?_⟩;have kp:∀b o,H1 b=some o->BC H1 p (.lst []) b=some o:=λb o e=>by rw [AU (Al e hp)]; exact e
  refine⟨c,p,_,rfl,rfl,SqL.of (kp _ _ c1'),SqL.of Ai,_,rfl,?_⟩;cases cells with
  | nil=>exact Cp (rest 0 _ kp)
  | cons z0 cs =>
   refine Dt ?_;have hlen:(((z0::cs).map V.int).length:Int)=(cs.length:Int)+1:=by simp
   have hpos:(0:Int)<(((z0::cs).map V.int).length:Int):=by omega
   obtain⟨z,hz⟩:∃z,atI ((z0::cs).map V.int) (a % (((z0::cs).map V.int).length:Int))=some (.int z):=by
    have h1:=Int.emod_nonneg a (show (((z0::cs).map V.int).length:Int)≠0 by omega);have h2:=Int.emod_lt_of_pos a hpos;generalize a % (((z0::cs).map V.int).length:Int)=j at h1 h2;obtain⟨k,rfl⟩:∃k:Nat,j=(k:Int):=⟨j.toNat,by omega⟩;have hk:k<(z0::cs).length:=by rw [No] at h2; omega
    refine⟨(z0::cs)[k],AQ ?_⟩;rw [bv,Go hk];rfl
   refine⟨_,rfl,f0,_,0,_,rfl,rfl,hsq (kp _ _ f1),rfl,_,rfl,_,rfl,f0,_,0,_,rfl,rfl,hsq (kp _ _ f1),rfl,_,_,rfl,.inl ⟨_,SqL.of (kp _ _ c1'),rfl⟩,_,_,rfl,rfl,hpos,c,_,_,_,rfl,rfl,SqL.of (kp _ _ c1'),hz,?_⟩;exact rest z _ kp
end
end K91
namespace Nt
open PySem PySem.Spec PyProof.Rows L2 Dp
def JI:W2:=λss n P=>∃m:Nat,ss=[.fd,.sh (.int m)]/\1<=m/\m<=26/\11<=n/\∀(xs:List Str) (n':Nat),xs.length=m->(∀x∈xs,U7 x)->rising xs->n - 11<=n'->P (.lst (xs.map .str)) n'
def words:List Str:=["a","aa","ab","b","far","in","near","out","place","tie","ties","way"]
def wordAt(i:Nat):Str:=words.getD i "a"
theorem Ox:∀i,i<12->U7 (wordAt i):=by
 have h:∀i∈cF 12,1<=(wordAt i).length/\(wordAt i).length<=8/\∀c∈cs (wordAt i),97<=c/\c<=122:=by decide +kernel
 exact λi hi=>h i (cq.mpr hi)
theorem Q7:∀i j,i<12->j<12->wordAt i=wordAt j->i=j:=by
 have h:∀i∈cF 12,∀j∈cF 12,cs (wordAt i)=cs (wordAt j)->i=j:=by decide +kernel
 exact λi j hi hj e=>h i (cq.mpr hi) j (cq.mpr hj) (congrArg cs e)
def FR:Str := "abcdefghijklmnopqrstuvwxyz"
theorem J7(i:Nat)(h:i<26):(cs FR)[i]?=some (97+i):=by
 have h2:∀i∈cF 26,(cs FR)[i]?=some (97+i):=by decide +kernel
 exact h2 i (cq.mpr h)
theorem Hl{α β:Type}{f:α->β}:∀{l:List α},l.Nodup->(∀a∈l,∀b∈l,f a=f b->a=b)->(l.map f).Nodup
 | [],_,_=>cr
 | a::l,h,hf=>by
  rw [cD] at h;rw [bm,cD];refine⟨λhm=>?_,Hl h.2 λx hx y hy=>hf x (TM _ hx) y (TM _ hy)⟩;obtain⟨b,hb,e⟩:=Tk.mp hm;exact h.1 (hf a On b (TM _ hb) e.symm▸hb)
theorem QS{f m j k:Nat}{M:Nat}(hM:m<=M)(hj:j<m)(hk:k<m)(e:(f+j) % M=(f+k) % M):j=k:=by
 have h:∀a b:Nat,a<=b->b<m->(f+a) % M=(f+b) % M->a=b:=λa b h1 h2 e=>by
  have:(f+b - (f+a)) % M=0:=Nat.sub_mod_eq_zero_of_mod_eq e.symm
  have e2:f+b - (f+a)=b - a:=by omega
  rw [e2,Nat.mod_eq_of_lt (by omega)] at this;omega
 rcases Nat.le_total j k with h1 | h1
 ·exact h j k h1 hk e
 ·exact(h k j h1 hj e.symm).symm
theorem HB(ss:List Str):Cs (ss.map .str)=some ss:=by
 induction ss with
 | nil=>rfl
 | cons y r ih =>
  rw [bm];unfold Cs;rw [ih];rfl
theorem Vq:∀(zs:List Str),cs (Txt.join (cZ "") zs)=zs.flatMap cs:=by
 intro zs;show cs (Builtin.Str.glued (cZ "") zs)=_;rw [StrLaws.glued_eq_join]
 induction zs with
 | nil=>rfl
 | cons x r ih =>
  cases r with
  | nil=>rw [fB,List.flatMap_nil,cH]; rfl
  | cons y r =>
   show cs (x++cZ ""++Str.join (cZ "") (y::r))=_;rw [Kb,Kb,ih];show cs x++[]++_=_;rw [cH];simp only [fB]
theorem Tt{zs:List Str}(h:∀z∈zs,z.length=1):(zs.flatMap cs).length=zs.length:=by
 induction zs with
 | nil=>rfl
 | cons x r ih =>
  rw [fB,bi,ih λz hz=>h z (TM _ hz),Du,h x On,ZB];omega
theorem Nb:∀(ys:List Str),(∀y∈ys,y.length=1)->(ys.map (·.length)).sum=ys.length
 | [],_=>rfl
 | y::r,h=>by
  rw [bm,gR,Nb r λz hz=>h z (TM _ hz),h y On,ZB];omega
theorem drawn{P:List D->Nat->Prop}{m n:Nat}{s:Slot}(hn:m<=n)(h:∀zs:List Str,zs.length=m->(∀z∈zs,z.length=1/\∀c∈cs z,97<=c/\c<=122)->P (zs.map .str) (n - m)) :
  B9 (Aa 2) CI (AT Aw (AB 0) (AV BN (AC (BH 1) (AC (AG (wC (D.int 26))) AW)))) P (Cv 0 m) [] n [.sh (.str FR),.fd,s]:=by
 refine LX (λk n' acc ρ=>k<=m/\n'=n - (m - k)/\(∃zs:List Str,acc=zs.map .str/\zs.length=m - k/\∀z∈zs,z.length=1/\∀c∈cs z,97<=c/\c<=122)/\∃s,ρ=[.sh (.str FR),.fd,s]) ?_ ?_ _ _ _ _ ?_
 ·rintro n' acc ρ ⟨_,rfl,⟨zs,rfl,hl,hz⟩,_⟩
  exact h zs hl hz
 ·rintro k d n' acc ρ nx ⟨hk,rfl,⟨zs,rfl,hl,hz⟩,s,rfl⟩ hnx
  refine⟨26,rfl,by decide,by decide,by omega,λr h0 h1=>?_⟩;obtain⟨q,rfl⟩:∃q:Nat,r=(q:Int):=⟨r.toNat,by omega⟩;have hq:q<26:=by omega
  refine⟨97+q,AQ (J7 q hq),hnx _ _ _ ⟨by omega,by omega,⟨zs++[⟨#[97+q]⟩],by rw [cN]; rfl,by rw [bi,cA]; omega,λz hz'=>?_⟩,_,rfl⟩⟩
  rcases b_.mp hz' with hz' | hz'
  ·exact hz z hz'
  ·rw [Re.mp hz']
   refine⟨rfl,λc hc=>?_⟩
   have:c=97+q:=by simpa [cs] using hc
   omega
 ·rw [CK]
  exact⟨Rs _,by omega,⟨[],rfl,by simp,λz hz=>by cases hz⟩,_,rfl⟩
theorem Si(i:Nat)(h:i<12):words[i]?=some (wordAt i):=by
 have hl:i<words.length:=h;unfold wordAt;rw [bp,Go hl];rfl
theorem Bj{b:BW}{body:Af}{D2:E2}{all:List D}(I:List D->Nat->List Slot->Prop)(hend:∀n ρ,I all n ρ->D2.nx n ρ)
  (hstep:∀(pre:List D) (d:D) (post:List D) (n:Nat) (ρ:List Slot) (nx:Nat->List Slot->Prop),all=pre++d::post->I pre n ρ->(∀n' ρ',I (pre++[d]) n' ρ'->nx n' ρ')->b d ρ λρ1=>body { D2 with nx:=nx,ct:=nx,bk:=D2.nx } n ρ1) :
  ∀(ds pre:List D) (n:Nat) (ρ:List Slot),all=pre++ds->I pre n ρ->BR b body D2 ds n ρ
 | [],pre,n,ρ,e,h=>by
  rw [cH] at e;subst e;exact hend n ρ h
 | d::ds,pre,n,ρ,e,h=>hstep pre d ds n ρ (BR b body D2 ds) e h λn' ρ' h'=>Bj I hend hstep ds (pre++[d]) n' ρ' (by rw [e,cb]; rfl) h'
theorem Ir{lo:Int}{n:Nat}{pre post:List D}{d:D}(h:Cv lo n=pre++d::post):d=.int (lo+(pre.length:Int))/\pre.length<n:=by
 have hl:=congrArg fG h;rw [CK,bi,ZB] at hl;have e:(Cv lo n)[pre.length]?=some d:=by rw [h,cf (Rs _),f7]; rfl
 unfold Cv at e;rw [bv,List.getElem?_range (by omega)] at e;exact⟨(bg e).symm,by omega⟩
theorem ZZ{r:Int}(h:r=0\/r=1):MulOk "z" r/\(Txt.mul "z" r).length<=1/\∀c∈cs (Txt.mul "z" r),97<=c/\c<=122:=by
 rcases h with rfl | rfl
 ·exact⟨⟨rfl,⟨λh=>absurd (by decide) h,λh=>absurd (by decide) h⟩⟩,by decide,by decide⟩
 ·exact⟨⟨rfl,⟨λ_ h=>absurd h (by decide),λ_ h=>absurd h (by decide)⟩⟩,by decide,by decide⟩
def nameAt(x:Str)(a f k:Nat):Str:=Txt.slice x none (some (a:Int))++⟨#[97+(f+k) % 26]⟩++Txt.slice x (some ((a:Int)+1)) (some 7)++Txt.mul "z" ((k:Int) % 2)
theorem Hm{x:Str}{a f k:Nat}(hx:x.length=8)(ha:a<7):cs (nameAt x a f k)=(cs x).take a++(97+(f+k) % 26)::(((cs x).drop (a+1)).take (6 - a)++cs (Txt.mul "z" ((k:Int) % 2))):=by
 unfold nameAt;rw [Kb,Kb,Kb,W_ (by omega) (by omega),YU (by omega) (by omega) (by omega)];have e1:((a:Int)).toNat=a:=by omega
 have e2:((a:Int)+1).toNat=a+1:=by omega
 have e3:(7 - ((a:Int)+1)).toNat=6 - a:=by omega
 rw [e1,e2,e3,cb,cb];rfl
theorem N9{x:Str}{a f k:Nat}(hx:x.length=8)(hc:∀c∈cs x,97<=c/\c<=122)(ha:a<7):U7 (nameAt x a f k):=by
 have e:=Hm (f:=f) (k:=k) hx ha;obtain⟨_,hz1,hz2⟩:=ZZ (r:=(k:Int) % 2) (by omega)
 have hl:(nameAt x a f k).length=7+(Txt.mul "z" ((k:Int) % 2)).length:=by
  rw [← Du,e,bi,ZB,bi,dG,dG,de,Du,Du,hx];omega
 refine⟨by omega,by omega,λc h=>?_⟩;rw [e] at h
 rcases b_.mp h with h | h
 ·exact hc c (fE h)
 ·rcases TW.mp h with rfl | h
  ·have:=gm (f+k) (show 0<26 by decide)
   omega
  ·rcases b_.mp h with h | h
   ·exact hc c (fF (fE h))
   ·exact hz2 c h
theorem Pa{x:Str}{a f m j k:Nat}(hx:x.length=8)(ha:a<7)(hm:m<=26)(hj:j<m)(hk:k<m)(e:nameAt x a f j=nameAt x a f k):j=k:=by
 have e1:=congrArg cs e;rw [Hm hx ha,Hm hx ha] at e1;have hl:((cs x).take a).length=a:=by rw [dG,Du,hx]; omega
 have e2:=congrArg (λl:List Nat=>l[a]?) e1;have e2:((cs x).take a++(97+(f+j) % 26)::(((cs x).drop (a+1)).take (6 - a)++cs (Txt.mul "z" ((j:Int) % 2))))[a]?=((cs x).take a++(97+(f+k) % 26)::(((cs x).drop (a+1)).take (6 - a)++cs (Txt.mul "z" ((k:Int) % 2))))[a]?:=e2;rw [cf (by omega),cf (by omega),hl,f7] at e2;have e3:97+(f+j) % 26=97+(f+k) % 26:=bg e2;exact QS (f:=f) (M:=26) hm hj hk (by omega)
theorem RM{ss:List Slot}{n:Nat}{Pd:D->Nat->Prop}(h:JI ss n Pd):Fw { nx:=λn _=>Kd.fr=.sh/\Pd .non n,rt:=Pd } n (ss++bj 9 .no):=by
 obtain⟨m,rfl,hm1,hm2,hn,p⟩:=h;unfold Fw;refine⟨3,rfl,by decide,by decide,by omega,λway hw0 hw1=>⟨(by decide:12<=sizeLine),?_⟩⟩;have last:∀(n':Nat),n - 1<=n'->(AZ (Ax 5 (wC (D.str "abcdefghijklmnopqrstuvwxyz")))
 (AZ (Ax 6 (aN "str" US (wC (D.str "")) (AF (Bl [some 5,some 0,none] (EU (AF (wC (D.int 8)) Ab)) (Aa 2) CI (AT Aw (AB 0) (AV BN (AC (BH 1) (AC (AG (wC (D.int 26))) AW))))) Ab)))
 (AZ (BP (IB (AY (AT (Ig false) (AB 2) (wC (D.int 1)))) (AY (AT GO (AB 1) (wC (D.int 9))))) (Av (Bl [some 6,none] (EU (AF (AB 1) Ab)) (Aa 1) CI (NQ Eh (AB 0) Br (B8 (AT Az (wC (D.int 1)) (AB 1)))))) A9)
 (AZ (Ax 7 (AV BN (AC (BH 0) (AC (AG (wC (D.int 7))) AW))))
 (AZ (Ax 4 (AV BN (AC (BH 0) (AC (AG (wC (D.int 26))) AW))))
 (AZ (DV 8 (Ek Ab))
 (AZ (Dy (EU (AF (AB 1) Ab)) (Aa 9) (AZ (Ax 10 (AT Aw (AB 5) (AT (U8 (λ_ j=>0<j) λi j=>D.int (i % j)) (AT Az (AB 4) (AB 9)) (wC (D.int 26)))))
 (Oy 8 "list" Hv (AF (AT Az (AT Az (AT Az (NQ Eh (AB 6) Br (B8 (AB 7))) (AB 10)) (NQ Eh (AB 6) (B8 (AT Az (AB 7) (wC (D.int 1)))) (B8 (wC (D.int 7))))) (AT By (wC (D.str "z")) (AT (U8 (λ_ j=>0<j) λi j=>D.int (i % j)) (AB 9) (wC (D.int 2))))) Ab))))
 (Av (DR KO (AF (BB 8) Ab)))))))))) { nx:=λn _=>Kd.fr=.sh/\Pd .non n,rt:=Pd } n' [.fd,.sh (.int m),.sh (.int way),.sh (.lst (words.map .str)),.no,.no,.no,.no,.no,.no,.no]:=by
  intro n' hn';refine⟨rfl,8,rfl,⟨by decide,by decide⟩,by rw [CK]; decide,?_⟩;refine drawn (m:=8) (by omega) λzs hz1 hz2=>?_;have hone:∀z∈zs,z.length=1:=λz hz=>(hz2 z hz).1;have hj:=Vq zs;have hl8:(Txt.join (cZ "") zs).length=8:=by rw [← Du,hj,Tt hone,hz1]
  have hc:∀c∈cs (Txt.join (cZ "") zs),97<=c/\c<=122:=λc hc=>by
   rw [hj] at hc;obtain⟨z,hz,hcz⟩:=eA.mp hc;exact(hz2 z hz).2 c hcz
  refine⟨_,_,zs,rfl,rfl,HB zs,by rw [Nb zs hone,show (cZ "").length=0 from rfl]; omega,by omega,?_⟩;generalize Txt.join (cZ "") zs=x at hl8 hc;have hx8:(cs x).length=8:=by rw [Du,hl8]
  have tail:∀(n2:Nat),n' - 8<=n2->(AZ (Ax 7 (AV BN (AC (BH 0) (AC (AG (wC (D.int 7))) AW))))
 (AZ (Ax 4 (AV BN (AC (BH 0) (AC (AG (wC (D.int 26))) AW))))
 (AZ (DV 8 (Ek Ab))
 (AZ (Dy (EU (AF (AB 1) Ab)) (Aa 9) (AZ (Ax 10 (AT Aw (AB 5) (AT (U8 (λ_ j=>0<j) λi j=>D.int (i % j)) (AT Az (AB 4) (AB 9)) (wC (D.int 26)))))
 (Oy 8 "list" Hv (AF (AT Az (AT Az (AT Az (NQ Eh (AB 6) Br (B8 (AB 7))) (AB 10)) (NQ Eh (AB 6) (B8 (AT Az (AB 7) (wC (D.int 1)))) (B8 (wC (D.int 7))))) (AT By (wC (D.str "z")) (AT (U8 (λ_ j=>0<j) λi j=>D.int (i % j)) (AB 9) (wC (D.int 2))))) Ab))))
 (Av (DR KO (AF (BB 8) Ab))))))) { nx:=λn _=>Kd.fr=.sh/\Pd .non n,rt:=Pd } n2 [.fd,.sh (.int m),.sh (.int way),.sh (.lst (words.map .str)),.no,.sh (.str FR),.sh (.str x),.no,.no,.no,.no]:=by
   intro n2 hn2;refine⟨7,rfl,by decide,by decide,by omega,λa ha0 ha1=>⟨26,rfl,by decide,by decide,by omega,λfirst hf0 hf1=>⟨(by decide:0<=sizeLine),(m:Int),rfl,⟨by omega,by omega⟩,?_⟩⟩⟩;obtain⟨a,rfl⟩:∃q:Nat,a=(q:Int):=⟨a.toNat,by omega⟩;obtain⟨f,rfl⟩:∃q:Nat,first=(q:Int):=⟨first.toNat,by omega⟩
   have ha7:a<7:=by omega
   refine Bj (all:=Cv 0 ((m:Int)).toNat) (λpre n3 ρ=>n3=n2 - 1 - 1/\∃s9 s10,ρ=[.fd,.sh (.int m),.sh (.int way),.sh (.lst (words.map .str)),.sh (.int f),.sh (.str FR),.sh (.str x),.sh (.int a),.ow (.lst (((cF pre.length).map λk=>nameAt x a f k).map .str)),s9,s10]) ?_ ?_ _ [] _ _ rfl ⟨rfl,_,_,rfl⟩
   ·rintro n3 ρ ⟨rfl,s9,s10,rfl⟩
    have el:(Cv 0 ((m:Int)).toNat).length=m:=by rw [CK]; omega
    refine⟨_,_,rfl,HB _,by rw [No,d6,el]; omega,λss' hp hs=>p ss' _ ?_ ?_ ?_ (by omega)⟩
    ·rw [hp.length_eq,No,d6,el]
    ·intro y hy
     obtain⟨k,_,rfl⟩:=Tk.mp (hp.mem_iff.mp hy);exact N9 hl8 hc ha7
    ·refine Fj hs (hp.nodup_iff.mpr (Hl List.nodup_range λj hj k hk e=>?_))
     rw [el] at hj hk;exact Pa hl8 ha7 hm2 (cq.mp hj) (cq.mp hk) e
   ·rintro pre d post n3 ρ nx hall ⟨rfl,s9,s10,rfl⟩ hnx
    obtain⟨rfl,hk⟩:=Ir hall;have epre:(pre++[D.int (0+(pre.length:Int))]).length=pre.length+1:=by rw [bi,cA]
    rw [epre] at hnx;generalize pre.length=k at hk hnx ⊢;have hlt:(f+k) % 26<26:=gm _ (by decide);have ei:((f:Int)+(0+(k:Int))) % 26=(((f+k) % 26:Nat):Int):=by omega
    have ek:(0+(k:Int)) % 2=(k:Int) % 2:=by omega
    obtain⟨hz0,hz1,_⟩:=ZZ (r:=(0+(k:Int)) % 2) (by omega);have l1:=Txt.slice_le x none (some (a:Int));have l2:=Txt.slice_le x (some ((a:Int)+1)) (some 7);have la:=iO (Txt.slice x none (some (a:Int))) ⟨#[97+(f+k) % 26]⟩;have lb:=iO (Txt.slice x none (some (a:Int))++⟨#[97+(f+k) % 26]⟩) (Txt.slice x (some ((a:Int)+1)) (some 7));have ls:(⟨#[97+(f+k) % 26]⟩:Str).length=1:=rfl;have hsz:=PySem.sizeLine_eq;refine⟨by show (0:Int)<26; decide,97+(f+k) % 26,by rw [ei]; exact AQ (J7 _ hlt),?_⟩;refine⟨_,rfl,rfl,by omega,by omega,by show (0:Int)<2; decide,hz0,by omega,by omega,?_⟩;refine⟨_,_,rfl,rfl,by rw [No,No,d6]; omega,hnx _ _ ⟨rfl,.sh (.int (0+(k:Int))),.sh (.str ⟨#[97+(f+k) % 26]⟩),?_⟩⟩;rw [ek,List.range_succ,cN,cN];rfl
  refine CD (λc1=>CD (λc2=>?_) λc2=>tail _ (Rs _)) λc1=>CD (λc2=>absurd c2 (by decide)) λ_=>tail _ (Rs _)
  have hm9:m<9:=by
   have:(m:Int)<9:=of_decide_eq_true c2
   omega
  refine⟨(m:Int),rfl,⟨by omega,by omega⟩,by rw [CK]; omega,?_⟩;refine GI (g:=λd=>match d with | .int k=>.str (Txt.slice x none (some (1+k))) | _=>.non) (λρ=>∃s,ρ=[.sh (.str x),s]) ?_ _ _ _ _ ?_ ⟨_,rfl⟩ ?_
  ·rintro d ρ ⟨s,rfl⟩
   exact⟨_,rfl⟩
  ·rintro d hd ρ n' P' ⟨s,rfl⟩ hp
   obtain⟨k,hk,rfl⟩:=Nj hd;exact hp
  ·have e:[]++(Cv 0 ((m:Int)).toNat).map (λd=>match d with | .int k=>D.str (Txt.slice x none (some (1+k))) | _=>.non)=((cF m).map λk:Nat=>Txt.slice x none (some (1+(k:Int)))).map .str:=by
    unfold Cv;rw [cK,dN,dN,fA];refine gu λk _=>?_
    have:(0+(k:Int))=k:=by omega
    simp only [Function.comp,this]
   have ct:∀k:Nat,k<m->cs (Txt.slice x none (some (1+(k:Int))))=(cs x).take (1+k):=λk hk=>by
    rw [W_ (by omega) (by omega),show (1+(k:Int)).toNat=1+k by omega]
   rw [e];refine p _ _ (by rw [No,d6]) ?_ ?_ (by omega)
   ·intro y hy
    obtain⟨k,hk,rfl⟩:=Tk.mp hy;have hk:=cq.mp hk
    have hl:(Txt.slice x none (some (1+(k:Int)))).length=1+k:=by
     rw [← Du,ct k hk,dG,hx8]; omega
    exact⟨by omega,by omega,λc h=>hc c (fE (by rw [← ct k hk]; exact h))⟩
   ·unfold rising
    rw [fc];refine ig ?_ List.pairwise_lt_range;intro i j hi hj hij;rw [ct i (cq.mp hi),ct j (cq.mp hj)];exact P8 _ _ _ (by omega) (by rw [hx8]; have:=cq.mp hj; omega)
 refine CD (λc1=>CD (λc2=>?_) λc2=>last _ (Rs _)) λc1=>CD (λc2=>absurd c2 (by decide)) λ_=>last _ (Rs _)
 have hm13:m<13:=by
  have:(m:Int)<13:=of_decide_eq_true c2
  omega
 refine⟨12,rfl,by decide,by decide,by omega,λfirst h0 h1=>?_⟩;obtain⟨f,rfl⟩:∃f:Nat,first=(f:Int):=⟨first.toNat,by omega⟩
 refine⟨(m:Int),rfl,⟨by omega,by omega⟩,by rw [CK]; omega,?_⟩;refine GI (g:=λd=>match d with | .int k=>.str (wordAt ((f+k.toNat) % 12)) | _=>.non) (λρ=>∃s,ρ=[.sh (.lst (words.map .str)),.sh (.int f),s]) ?_ _ _ _ _ ?_ ⟨_,rfl⟩ ?_
 ·rintro d ρ ⟨s,rfl⟩
  exact⟨_,rfl⟩
 ·rintro d hd ρ n' P' ⟨s,rfl⟩ hp
  obtain⟨k,hk,rfl⟩:=Nj hd;refine⟨by show (0:Int)<12; decide,D.str (wordAt ((f+k) % 12)),?_,?_⟩
  ·have hlt:(f+k) % 12<12:=gm _ (by decide)
   have ei:((f:Int)+(0+(k:Int))) % 12=(((f+k) % 12:Nat):Int):=by omega
   rw [ei];exact AQ (by rw [bv,Si _ hlt]; rfl)
  ·have e:(0+(k:Int)).toNat=k:=by omega
   simp only [e] at hp;exact hp
 ·have e:[]++(Cv 0 ((m:Int)).toNat).map (λd=>match d with | .int k=>D.str (wordAt ((f+k.toNat) % 12)) | _=>.non)=((cF m).map λk=>wordAt ((f+k) % 12)).map .str:=by
   unfold Cv;rw [cK,dN,dN,fA];refine gu λk _=>?_
   have:(0+(k:Int)).toNat=k:=by omega
   simp only [Function.comp,this]
  refine⟨_,(cF m).map λk=>wordAt ((f+k) % 12),rfl,by rw [e]; exact HB _,by rw [No,d6]; omega,λss' hp hs=>p ss' _ ?_ ?_ ?_ (by omega)⟩
  ·rw [hp.length_eq,No,d6]
  ·intro x hx
   obtain⟨k,_,rfl⟩:=Tk.mp (hp.mem_iff.mp hx);exact Ox _ (gm _ (by decide))
  ·refine Fj hs (hp.nodup_iff.mpr (Hl List.nodup_range λj hj k hk e=>?_))
   exact QS (M:=12) (by omega) (cq.mp hj) (cq.mp hk) (Q7 _ _ (gm _ (by decide)) (gm _ (by decide)) e)
structure Ao where
 a:Str
 b:Str
 len:Int
structure Net where
 ps:List Str
 ts:List Ao
def Aj(t:Ao):D:=.tup [.str t.a,.str t.b,.int t.len]
def enc(N:Net):D:=.tup [.tup (N.ps.map .str),.tup (N.ts.map Aj)]
def Bk(s t:Ao):Prop:=cs s.a<cs t.a\/(s.a=t.a/\cs s.b<cs t.b)
structure Net.Ok (N:Net):Prop where
 names:∀x∈N.ps,U7 x
 rise:rising N.ps
 tin:∀t∈N.ts,t.a∈N.ps/\t.b∈N.ps/\cs t.a<cs t.b/\1<=t.len/\t.len<=1000000
 trise:N.ts.Pairwise Bk
def WS:W2:=λss n P=>∃most ties:Nat,ss=[.fd,.sh (.int most),.sh (.int ties)]/\1<=most/\most<=26/\1500<=n/\∀(N:Net) (n':Nat),N.Ok->1<=N.ps.length->N.ps.length<=most->N.ts.length<=ties->n - 1500<=n'->P (enc N) n'
def Ko:Af:=(AZ (Ax 3 (AV JI (AC (BH 0) (AC (AG (AT Az (wC (D.int 1)) (AV BN (AC (BH 0) (AC (AG (AB 1)) AW))))) AW))))
 (AZ (Ax 4 (AT Az (wC (D.int 1)) (AV BN (AC (BH 0) (AC (AG (wC (D.int 3))) AW)))))
 (AZ (Ax 5 (AV BN (AC (BH 0) (AC (AG (wC (D.int 4))) AW))))
 (AZ (DV 6 (Ek Ab))
 (AZ (Dy (EU (AF (DR KQ (AF (AB 3) Ab)) Ab)) (Aa 7) (Dy (Sm (AF (AT Az (AB 7) (wC (D.int 1))) (AF (DR KQ (AF (AB 3) Ab)) Ab))) (Aa 8) (BP (IB (AY (AT Vw (AV BN (AC (BH 0) (AC (AG (wC (D.int 4))) AW))) (AB 4))) (AY (AT GO (DR KQ (AF (BB 6) Ab)) (AB 2)))) (Oy 6 "list" Hv (AF (B7 (AF (AT Aw (AB 3) (AB 7)) (AF (AT Aw (AB 3) (AB 8)) (AF (AV WT (AC (BH 0) (AC (AG (AB 5)) AW))) Ab)))) Ab)) A9)))
 (Av (B7 (AF (DR B_ (AF (AB 3) Ab)) (AF (DR B_ (AF (BB 6) Ab)) Ab)))))))))
structure Ix where
 i:Nat
 j:Nat
 len:Int
def Ix.tie(xs:List Str)(t:Ix):Ao:=⟨xs.getD t.i "",xs.getD t.j "",t.len⟩
def YA(s t:Ix):Prop:=s.i<t.i\/(s.i=t.i/\s.j<t.j)
theorem getD_at{xs:List Str}{i:Nat}(h:i<xs.length):xs[i]?=some (xs.getD i ""):=by
 rw [bp,Go h];rfl
theorem getD_mem{xs:List Str}{i:Nat}(h:i<xs.length):xs.getD i ""∈xs:=dJ (getD_at h)
theorem MF{xs:List Str}(h:rising xs){i j:Nat}(hij:i<j)(hj:j<xs.length):cs (xs.getD i "")<cs (xs.getD j ""):=by
 have h2:=iS.mp h i j (by omega) hj hij;have e1:xs.getD i ""=xs[i]:=by rw [bp,Go (by omega)]; rfl
 have e2:xs.getD j ""=xs[j]:=by rw [bp,Go hj]; rfl
 rw [e1,e2];exact h2
theorem X2{xs:List Str}{ts:List Ix}(hn:∀x∈xs,U7 x)(hr:rising xs)(ht:∀t∈ts,t.i<t.j/\t.j<xs.length/\1<=t.len/\t.len<=1000000)(hp:ts.Pairwise YA):Net.Ok ⟨xs,ts.map (Ix.tie xs)⟩:=by
 refine⟨hn,hr,λt h=>?_,?_⟩
 ·obtain⟨u,hu,rfl⟩:=Tk.mp h
  obtain⟨h1,h2,h3,h4⟩:=ht u hu;exact⟨getD_mem (show u.i<xs.length by omega),getD_mem h2,MF hr h1 h2,h3,h4⟩
 ·show (ts.map (Ix.tie xs)).Pairwise Bk
  rw [fc];refine ig (λ{s t} hs ht' h=>?_) hp;obtain⟨h1,h2,_⟩:=ht s hs;obtain⟨g1,g2,_⟩:=ht t ht'
  rcases h with h | ⟨h,h'⟩
  ·exact .inl (MF hr h (by omega))
  ·refine .inr ⟨?_,MF hr h' g2⟩
   show xs.getD s.i ""=xs.getD t.i "";rw [h]
theorem Xi{ss:List Slot}{n:Nat}{Pd:D->Nat->Prop}(h:WS ss n Pd):Ko { nx:=λn _=>Kd.sh=.sh/\Pd .non n,rt:=Pd } n (ss++bj 6 .no):=by
 obtain⟨most,ties,rfl,hm1,hm2,hn,p⟩:=h;unfold Ko;refine⟨_,rfl,by omega,by omega,by omega,λr h0 h1=>?_⟩;refine⟨(1+r).toNat,by rw [show (((1+r).toNat:Nat):Int)=1+r by omega],by omega,by omega,by omega,λxs n1 hl hx hr hn1=>?_⟩;refine⟨3,rfl,by decide,by decide,by omega,λfew f0 f1=>⟨4,rfl,by decide,by decide,by omega,λscale s0 s1=>⟨(by decide:0<=sizeLine),?_⟩⟩⟩;have hxl:(xs.map D.str).length=xs.length:=No ..;refine⟨_,_,rfl,rfl,_,rfl,⟨by omega,by omega⟩,?_⟩
 refine Bj (all:=Cv 0 (((xs.map D.str).length:Int)).toNat) (λpre m ρ=>n1 - 1 - 1 - 52*pre.length<=m/\∃(ts:List Ix) (s7 s8:Slot),(∀t∈ts,t.i<t.j/\t.j<xs.length/\1<=t.len/\t.len<=1000000)/\ts.Pairwise YA/\ts.length<=ties/\(∀t∈ts,t.i<pre.length)/\ts.length<=26*pre.length /\
  ρ=[.fd,.sh (.int most),.sh (.int ties),.sh (.lst (xs.map .str)),.sh (.int (1+few)),.sh (.int scale),.ow (.lst ((ts.map (Ix.tie xs)).map Aj)),s7,s8]) ?_ ?_ _ [] _ _ rfl ⟨by simp,[],_,_,(λ_ h=>by cases h),iL,bn _,(λ_ h=>by cases h),bn _,rfl⟩
 ·rintro m ρ ⟨hm,ts,s7,s8,h1,h2,h3,h4,h5,rfl⟩
  have el:(Cv 0 (((xs.map D.str).length:Int)).toNat).length=xs.length:=by rw [CK]; omega
  rw [el] at hm;refine⟨(by decide:2<=sizeLine),p ⟨xs,ts.map (Ix.tie xs)⟩ m (X2 hx hr h1 h2) (by show 1<=xs.length; omega) (by show xs.length<=most; omega) (by show (ts.map (Ix.tie xs)).length<=ties; rw [No]; exact h3) (by omega)⟩
 ·rintro pre d post m ρ nx hall ⟨hm,ts,s7,s8,h1,h2,h3,h4,h5,rfl⟩ hnx
  obtain⟨rfl,hk⟩:=Ir hall;have epre:(pre++[D.int (0+(pre.length:Int))]).length=pre.length+1:=by rw [bi,cA]
  rw [epre] at hnx;generalize pre.length=one at hk hnx hm h4 h5 ⊢;rw [hxl] at hk;refine⟨_,_,rfl,rfl,_,_,rfl,⟨by omega,by omega,by omega,by omega⟩,?_⟩
  refine Bj (all:=Cv (0+(one:Int)+1) ((((xs.map D.str).length:Int)) - (0+(one:Int)+1)).toNat) (λpre m ρ=>n1 - 1 - 1 - 52*one - 2*pre.length<=m/\∃(ts:List Ix) (s8:Slot),(∀t∈ts,t.i<t.j/\t.j<xs.length/\1<=t.len/\t.len<=1000000)/\ts.Pairwise YA/\ts.length<=ties/\(∀t∈ts,t.i<one\/(t.i=one/\t.j<one+1+pre.length))/\ts.length<=26*one+pre.length /\
   ρ=[.fd,.sh (.int most),.sh (.int ties),.sh (.lst (xs.map .str)),.sh (.int (1+few)),.sh (.int scale),.ow (.lst ((ts.map (Ix.tie xs)).map Aj)),.sh (.int (0+(one:Int))),s8]) ?_ ?_ _ [] _ _ rfl ⟨by simpa using hm,ts,_,h1,h2,h3,λt ht=>.inl (h4 t ht),by simpa using h5,rfl⟩
  ·rintro m ρ ⟨hm,ts,s8,h1,h2,h3,h4,h5,rfl⟩
   rw [CK] at hm h5;refine hnx _ _ ⟨by omega,ts,_,_,h1,h2,h3,λt ht=>?_,by omega,rfl⟩
   rcases h4 t ht with h | h <;> omega
  ·rintro pre2 d2 post2 m ρ nx2 hall2 ⟨hm,ts,s8,h1,h2,h3,h4,h5,rfl⟩ hnx2
   obtain⟨rfl,hk2⟩:=Ir hall2;rw [bi,cA] at hnx2;generalize pre2.length=q at hk2 hnx2 hm h4 h5 ⊢;have hq:one+1+q<xs.length:=by omega
   have skip:nx2 (m - 1) [.fd,.sh (.int most),.sh (.int ties),.sh (.lst (xs.map .str)),.sh (.int (1+few)),.sh (.int scale),.ow (.lst ((ts.map (Ix.tie xs)).map Aj)),.sh (.int (0+(one:Int))),.sh (.int (0+(one:Int)+1+(q:Int)))]:=by
    refine hnx2 _ _ ⟨by omega,ts,_,h1,h2,h3,λt ht=>?_,by omega,rfl⟩
    rcases h4 t ht with h | h
    ·exact .inl h
    ·exact .inr (by omega)
   refine⟨4,rfl,by decide,by decide,by omega,λdr d0 d1=>?_⟩;refine CD (λc1=>⟨_,_,rfl,rfl,CD (λc2=>?_) λc2=>skip⟩) λc1=>CD (λc2=>absurd c2 (by decide)) λ_=>skip
   have hlt:ts.length<ties:=by
    have:(((ts.map (Ix.tie xs)).map Aj).length:Int)<(ties:Int):=of_decide_eq_true c2
    rw [No,No] at this;omega
   refine⟨_,rfl,rfl,D.str (xs.getD one ""),?_,D.str (xs.getD (one+1+q) ""),?_,scale,rfl,by omega,λlen l1 l2=>⟨(by decide:3<=sizeLine),_,_,rfl,rfl,?_,?_⟩⟩
   ·rw [show (0+(one:Int))=((one:Nat):Int) by omega]
    exact AQ (by rw [bv,getD_at hk]; rfl)
   ·rw [show (0+(one:Int)+1+(q:Int))=((one+1+q:Nat):Int) by omega]
    exact AQ (by rw [bv,getD_at hq]; rfl)
   ·rw [No,No,PySem.sizeLine_eq]; omega
   ·refine hnx2 _ _ ⟨by omega,ts++[⟨one,one+1+q,len⟩],.sh (.int (0+(one:Int)+1+(q:Int))),λt ht=>?_,?_,by rw [bi,cA]; omega,λt ht=>?_,by rw [bi,cA]; omega,?_⟩
    ·rcases b_.mp ht with ht | ht
     ·exact h1 t ht
     ·rw [Re.mp ht]
      exact⟨by show one<one+1+q; omega,hq,l1,l2⟩
    ·rw [List.pairwise_append]
     refine⟨h2,gG _ _,λs hs t ht=>?_⟩;rw [Re.mp ht]
     rcases h4 s hs with h | h
     ·exact .inl h
     ·exact .inr h
    ·rcases b_.mp ht with ht | ht
     ·rcases h4 t ht with h | h
      ·exact .inl h
      ·exact .inr (by omega)
     ·rw [Re.mp ht]
      exact .inr ⟨rfl,by show one+1+q<one+1+(q+1); omega⟩
    ·rw [cN,cN]
     rfl
abbrev EE(Pd:D->Nat->Prop):E2:={ nx:=λn _=>Kd.sh=.sh/\Pd .non n,rt:=Pd }
theorem Bv{b:BW}{te:DW}{P:List D->Nat->Prop}(g:D->D)(I:List Slot->Prop):∀(ds acc:List D) (n:Nat) (ρ:List Slot),
  (∀d∈ds,∀(ρ:List Slot) (n:Nat) (nx:D->Nat->List Slot->Prop),I ρ->(∀ρ',I ρ'->nx (g d) n ρ')->b d ρ λρ1=>te n ρ1 λy n2=>nx y n2 ρ1)->I ρ->P (acc++ds.map g) n->B9 b CI te P ds acc n ρ
 | [],acc,n,ρ,_,_,h=>by rw [fJ,cH] at h; exact h
 | d::ds,acc,n,ρ,ht,hρ,h=>ht d On ρ n (λy n2 ρ1=>B9 b CI te P ds (acc++[y]) n2 ρ1) hρ λρ' hρ' =>
  Bv g I ds (acc++[g d]) n ρ' (λd hd=>ht d (TM _ hd)) hρ' (by rw [cb]; exact h)
theorem UT{α:Type}{l:List α}{p:α->Bool}{P:D->Prop}(h:P (.bl (l.all p))):SF [.lst (l.map λa=>.bl (p a))] P :=
 ⟨_,_,rfl,HC p l,by rw [gj]; exact h⟩
theorem Ur{b1 b2:Bool}{P:D->Nat->Prop}{n:Nat}{k:(D->Nat->Prop)->Prop}(hk:b1=true->P (.bl b2) n->k P)(h:P (.bl (b1&&b2)) n):(match (.bl b1:D) with | .bl true=>k P | .bl false=>P (.bl false) n | _=>False):=Uo hk h
abbrev Wb(g:D->Bool):W2:=Wx 1 λds=>.bl (g (ds.getD 0 .non))
theorem Wb.out{g:D->Bool}{ss:List Slot}{n:Nat}{P:D->Nat->Prop}(h:Wb g ss n P):∃d,ss=[.sh d]/\P (.bl (g d)) n:=by
 obtain⟨ds,hl,rfl,h⟩:=h
 match ds,hl with
 | [d],_=>exact⟨d,rfl,h⟩
def Sj:D->Bool
 | .int _=>true
 | _=>false
def tupleOfB(k:Int):D->Bool
 | .tup xs=>((xs.length:Int)==k)
 | _=>false
def Tz(d e:D):Option Bool:=match d,e with
 | .int i,.int j=>some (decide (i<j))
 | .str i,.str j=>some (decide (cs i<cs j))
 | .tup xs,.tup ys=>match Gy xs,Gy ys with
  | some ks,some ls=>if CB ks ls then some (E6 ks ls) else none
  | _,_=>none
 | _,_=>none
theorem Vv{d e:D}{b:Bool}{P:D->Prop}(h:Tz d e=some b)(p:P (.bl b)):GO d e P:=by
 unfold Tz at h
 split at h
 ·cases h; exact p
 ·cases h; exact p
 ·rename_i xs ys
  split at h
  ·rename_i ks ls h1 h2
   split at h
   ·rename_i hs
    cases h;exact⟨ks,ls,h1,h2,hs,p⟩
   ·cases h
  ·cases h
 ·cases h
def WP:List D->Bool
 | x::y::r=>(Tz x y==some true)&&WP (y::r)
 | _=>true
abbrev NG:W2:=Wb Sj
abbrev FK:W2:=λss n P=>∃k d,ss=[.sh (.int k),.sh d]/\P (.bl (tupleOfB k d)) n
abbrev JH:W2:=λss n P=>∃d xs,ss=[.sh d]/\Em d=some xs/\xs.length<=1000/\(∀x∈xs,∀y∈xs,∃b,Tz x y=some b)/\P (.bl (WP xs)) n
def Ps:Af:=(Av (RA (Kw "int" (AB 0)) (Yx (Kw "bool" (AB 0)))))
def LF:Af:=(Av (RA (Kw "tuple" (AB 1)) (AT (Ig false) (DR KQ (AF (AB 1) Ab)) (AB 0))))
def Oo:Af:=(Av (DR SF (AF (Bl [none,none] (Q9 (AF (AB 0) (AF (NQ Eh (AB 0) (B8 (wC (D.int 1))) Br) Ab))) (DU 2 (An (Aa 0) (An (Aa 1) B0))) CI (AT GO (AB 0) (AB 1))) Ab)))
section
variable {ss:List Slot}{n:Nat}{Pd:D->Nat->Prop}
theorem Nm(h:NG ss n Pd):Ps (EE Pd) n (ss++bj 0 .no):=by
 obtain⟨d,rfl,q⟩:=h.out;cases d <;> exact q
theorem Jo(h:FK ss n Pd):LF (EE Pd) n (ss++bj 0 .no):=by
 obtain⟨k,d,rfl,h⟩:=h;cases d with
 | tup xs=>exact⟨_,_,rfl,rfl,h⟩
 | _=>exact h
theorem Uk{α:Type}(xs:List α):Dp.cutD xs (some 1) none=xs.drop 1:=by
 unfold Dp.cutD;rw [HT.sIx_none,show (1:Int)=((1:Nat):Int) from rfl,HT.sIx_nat]
 by_cases h:1<=xs.length
 ·rw [iq h]
  exact gL (by rw [de]; exact Rs _)
 ·have:xs=[]:=eQ.mp (by omega)
  subst this;rfl
theorem Qw:∀xs:List D,((DA xs (xs.drop 1)).all λd=>match d with | .tup [a,b]=>Tz a b==some true | _=>false)=WP xs
 | []=>rfl
 | [x]=>rfl
 | x::y::r=>by
  have ih:=Qw (y::r);show ((DA (x::y::r) (y::r)).all _)=_;unfold DA WP;rw [List.zipWith_cons_cons,gP]
  congr 1
theorem VB{xs ys:List D}{d:D}(h:d∈DA xs ys):∃a∈xs,∃b∈ys,d=.tup [a,b]:=by
 unfold DA at h;obtain⟨i,hi⟩:=List.getElem?_of_mem h;rw [gY] at hi;cases q1:xs[i]? with
 | none=>rw [q1] at hi; simp at hi
 | some a =>
  cases q2:ys[i]? with
  | none=>rw [q1,q2] at hi; simp at hi
  | some b =>
   rw [q1,q2] at hi;exact⟨a,dJ q1,b,dJ q2,(bg hi).symm⟩
theorem MK(h:JH ss n Pd):Oo (EE Pd) n (ss++bj 0 .no):=by
 obtain⟨d,xs,rfl,hd,hl,hlt,h⟩:=h
 have go:(DA xs (xs.drop 1)).length<=10000000/\B9 (DU 2 (An (Aa 0) (An (Aa 1) B0))) CI (AT GO (AB 0) (AB 1)) (λacc n2=>SF [.lst acc] λz=>Pd z n2) (DA xs (xs.drop 1)) [] n [.no,.no]:=by
  refine⟨by unfold DA; rw [fN]; omega,?_⟩;refine Bv (λd=>.bl (match d with | .tup [a,b]=>Tz a b==some true | _=>false)) (λρ=>∃s t,ρ=[s,t]) _ _ _ _ ?_ ⟨_,_,rfl⟩ ?_
  ·rintro z hz ρ m nx ⟨s,t,rfl⟩ hnx
   obtain⟨a,ha,b,hb,rfl⟩:=VB hz;obtain⟨r,hr⟩:=hlt a ha b (fF hb);refine⟨rfl,rfl,?_⟩;show GO a b λy=>nx y m [.sh a,.sh b];refine Vv hr ?_;have this:nx (.bl (Tz a b==some true)) m [.sh a,.sh b]:=hnx [.sh a,.sh b] ⟨_,_,rfl⟩;rw [hr] at this;cases r <;> exact this
  ·rw [cK]
   refine UT (p:=fun(d:D)=>match d with | .tup [a,b]=>Tz a b==some true | _=>false) ?_;rw [Qw];exact h
 cases d with
 | lst ys =>
  cases hd;exact⟨_,_,xs,xs.drop 1,rfl,rfl,by rw [Uk]; rfl,go⟩
 | tup ys =>
  cases hd;exact⟨_,_,xs,xs.drop 1,rfl,rfl,by rw [Uk]; rfl,go⟩
 | _=>cases hd
end
def strsOf(xs:List D):List Str:=(Cs xs).getD []
theorem Ut{α:Type}(p:α->Bool)(l:List α):(l.map p).all id=l.all p:=by rw [gj]; rfl
theorem Nc{x:Str}(h:∀c∈cs x,c<1114112):PyData.strOk x=true:=by
 unfold PyData.strOk;rw [← Array.all_toList,eW];intro c hc;exact decide_eq_true (h c hc)
theorem OJ{x:Str}(h:U7 x):E9 (.str x):=⟨rfl,Nc λc hc=>by have:=h.2.2 c hc; omega,bn _⟩
theorem OK{ps:List Str}(h:∀p∈ps,U7 p):Bo (ps.map .str)=true/\dq (BA (ps.map .str))=true/\dD (BA (ps.map .str))=0:=by
 induction ps with
 | nil=>exact⟨rfl,rfl,rfl⟩
 | cons p r ih =>
  obtain⟨h1,h2,h3⟩:=ih λq hq=>h q (TM _ hq);have hp:=OJ (h p On);refine⟨by rw [bm,Bo,h1]; rfl,?_,?_⟩
  ·rw [bm,BA,dq,h2,iD]
   exact hp.2.1
  ·rw [bm,BA,dD,h3]
   rfl
theorem Hr{ps:List Str}(h:∀p∈ps,U7 p):E9 (.tup (ps.map .str)):=by
 obtain⟨h1,h2,h3⟩:=OK h;refine⟨h1,h2,?_⟩;show dD (BA (ps.map .str))+1<=100;rw [h3]; decide
theorem F7(ps:List Str):strsOf (ps.map .str)=ps:=by unfold strsOf; rw [HB]; rfl
section
variable {ss:List Slot}{n:Nat}{Pd:D->Nat->Prop}
theorem aP{d:D}(h:tupleOfB 2 d=true):∃a b,d=.tup [a,b]:=by
 cases d with
 | tup xs =>
  have:(xs.length:Int)=2:=eq_of_beq h
  match xs,this with
  | [a,b],_=>exact⟨a,b,rfl⟩
  | [],h=>cases h
  | [_],h=>cases h
  | _::_::_::r,h=>simp only [ZB] at h; omega
 | _=>cases h
end
mutual
def EO(B:Nat):D->Prop
 | .int i=>i.natAbs<=B
 | .str x=>∀c∈cs x,c<1114112
 | .tup ds=>Fo B ds
 | .lst ds=>Fo B ds
 | .dic _ _=>False
 | .fdi _ _=>False
 | .dit _ _=>False
 | _=>True
def Fo(B:Nat):List D->Prop
 | []=>True
 | d::ds=>EO B d/\Fo B ds
end
mutual
def Ip:D->Nat
 | .int _=>200
 | .str x=>x.length
 | .tup ds=>JV ds
 | .lst ds=>JV ds
 | _=>0
def JV:List D->Nat
 | []=>0
 | d::ds=>Ip d+1+JV ds
end
mutual
def Iz:D->Nat
 | .tup ds=>FV ds+1
 | .lst ds=>FV ds+1
 | _=>0
def FV:List D->Nat
 | []=>0
 | d::ds=>max (Iz d) (FV ds)
end
theorem fines_iff{B:Nat}:∀{ds:List D},Fo B ds↔∀d∈ds,EO B d
 | []=>⟨(λ_ d h=>by cases h),λ_=>trivial⟩
 | d::ds=>by
  have ih:=@fines_iff B ds;constructor
  ·rintro ⟨h1,h2⟩ e he
   rcases TW.mp he with rfl | he
   ·exact h1
   ·exact ih.mp h2 e he
  ·exact λh=>⟨h d On,ih.mpr λe he=>h e (TM _ he)⟩
theorem dps_le{k:Nat}:∀{ds:List D},FV ds<=k↔∀d∈ds,Iz d<=k
 | []=>⟨(λ_ d h=>by cases h),λ_=>bn _⟩
 | d::ds=>by
  have ih:=@dps_le k ds;show max (Iz d) (FV ds)<=k↔_;rw [Nat.max_le,ih];constructor
  ·rintro ⟨h1,h2⟩ e he
   rcases TW.mp he with rfl | he
   ·exact h1
   ·exact h2 e he
  ·exact λh=>⟨h d On,λe he=>h e (TM _ he)⟩
theorem L7:∀(xs:List D),xs.length<=JV xs
 | []=>bn _
 | d::xs=>by
  have:=L7 xs
  show xs.length+1<=Ip d+1+JV xs;omega
theorem SE{B C:Nat}(h:B<=C):∀(n:Nat),(∀d:D,sizeOf d<=n->EO B d->EO C d)/\∀ds:List D,sizeOf ds<=n->Fo B ds->Fo C ds:=by
 intro n
 induction n with
 | zero =>
  refine⟨λd hd _=>?_,λds hd _=>?_⟩
  ·cases d <;> simp at hd
  ·cases ds <;> simp at hd
 | succ n ih =>
  refine⟨λd hd hf=>?_,λds hd hf=>?_⟩
  ·cases d with
   | int i=>exact cG (show i.natAbs<=B from hf) h
   | str x=>exact hf
   | tup ds=>exact ih.2 ds (by simp at hd; omega) hf
   | lst ds=>exact ih.2 ds (by simp at hd; omega) hf
   | dic ks ds=>exact(show False from hf).elim
   | fdi ks ds=>exact(show False from hf).elim
   | dit ks ds=>exact(show False from hf).elim
   | non=>trivial
   | bl b=>trivial
  ·cases ds with
   | nil=>trivial
   | cons d ds=>exact⟨ih.1 d (by simp at hd; omega) hf.1,ih.2 ds (by simp at hd; omega) hf.2⟩
mutual
theorem Mm{B:Nat}(hB:B<10 ^ 45):∀{d:D},EO B d->EW d=true/\(toPy d).showable=true/\(toPy d).canLay0=true/\(toPy d).depth=Iz d/\(toPy d).leavesShort 60=true/\(toPy d).weight<=Ip d
 | .non,_=>⟨rfl,rfl,rfl,rfl,rfl,Rs _⟩
 | .bl b,_=>⟨rfl,rfl,rfl,rfl,rfl,Rs _⟩
 | .int i,h=>by
  have h':i.natAbs<=B:=h;have hlt:i.natAbs<10 ^ 45:=fS h' hB;have h2:i.natAbs<2 ^ 150:=Nat.lt_trans hlt (by decide)
  have hl:i.natAbs.log2<150:=by
   by_cases h0:i.natAbs=0
   ·rw [h0]; decide
   ·exact(Nat.log2_lt h0).mpr h2
  refine⟨rfl,?_,rfl,rfl,?_,?_⟩
  ·show decide (i.natAbs.log2<1920)=true
   exact decide_eq_true (by omega)
  ·show decide ((PyData.shown (.int i)).length<=60)=true
   refine decide_eq_true ?_
   have:=int_text_length_le10 (a:=i) (k:=45) (by decide) hlt
   show (cZ (toString i)).length<=60;rw [PySem.ofString_length];omega
  ·show (if i==0 then 0 else i.natAbs.log2+1)<=200
   split <;> omega
 | .str x,h=>by
  have h':∀c∈cs x,c<1114112:=h;refine⟨rfl,rfl,Nc h',rfl,?_,Rs _⟩;show (x.cps.toList.all λc=>decide (c<16 ^ 8))=true;rw [eW];intro c hc;exact decide_eq_true (Nat.lt_trans (h' c hc) (by decide))
 | .tup ds,h=>by
  obtain⟨h1,h2,h3,h4,h5,h6⟩:=KL hB (ds:=ds) h;refine⟨h1,h2,h3,?_,h5,h6⟩;show dD (BA ds)+1=FV ds+1;rw [h4]
 | .lst ds,h=>by
  obtain⟨h1,h2,h3,h4,h5,h6⟩:=KL hB (ds:=ds) h;refine⟨h1,h2,h3,?_,h5,h6⟩;show dD (BA ds)+1=FV ds+1;rw [h4]
 | .dic ks ds,h=>(show False from h).elim
 | .fdi ks ds,h=>(show False from h).elim
 | .dit ks ds,h=>(show False from h).elim
theorem KL{B:Nat}(hB:B<10 ^ 45):∀{ds:List D},Fo B ds->Bo ds=true/\PyData.showableAll (BA ds)=true/\dq (BA ds)=true/\dD (BA ds)=FV ds/\i_ 60 (BA ds)=true/\PyData.weightAll (BA ds)<=JV ds
 | [],_=>⟨rfl,rfl,rfl,rfl,rfl,Rs _⟩
 | d::ds,h=>by
  obtain⟨h1,h2,h3,h4,h5,h6⟩:=Mm hB (d:=d) h.1;obtain⟨g1,g2,g3,g4,g5,g6⟩:=KL hB (ds:=ds) h.2;refine⟨?_,?_,?_,?_,?_,?_⟩
  ·show (EW d&&Bo ds)=true
   rw [h1,g1]; rfl
  ·show ((toPy d).showable&&PyData.showableAll (BA ds))=true
   rw [h2,g2]; rfl
  ·show ((toPy d).canLay0&&dq (BA ds))=true
   rw [h3,g3]; rfl
  ·show max (toPy d).depth (dD (BA ds))=max (Iz d) (FV ds)
   rw [h4,g4]
  ·show ((toPy d).leavesShort 60&&i_ 60 (BA ds))=true
   rw [h5,g5]; rfl
  ·show (toPy d).weight+1+PyData.weightAll (BA ds)<=Ip d+1+JV ds
   omega
end
theorem QA{B:Nat}{d:D}(hB:B<10 ^ 45)(h:EO B d)(hd:Iz d<=100)(hs:Ip d<=200000):Nf d:=by
 obtain⟨h1,h2,h3,h4,h5,h6⟩:=Mm hB h;refine⟨h1,h2,by rw [h4]; exact hd,?_⟩
 have:=PyData.shown_le 60 (by decide) (toPy d) h5
 rw [PySem.sizeLine_eq]
 have:62*(toPy d).weight<=62*200000:=gv _ (by omega)
 omega
theorem E8{B:Nat}{d:D}(hB:B<10 ^ 45)(h:EO B d)(hd:Iz d<=100):E9 d:=by
 obtain⟨h1,h2,h3,h4,h5,h6⟩:=Mm hB h;exact⟨h1,h3,by rw [h4]; exact hd⟩
section
variable {ss:List Slot}{n:Nat}{Pd:D->Nat->Prop}
end
section
variable {ss:List Slot}{n:Nat}{Pd:D->Nat->Prop}
end
theorem Rz{α:Type}(p:α->Bool)(l:List α):Bo (l.map λa=>D.bl (p a))=true/\dq (BA (l.map λa=>D.bl (p a)))=true/\dD (BA (l.map λa=>D.bl (p a)))=0:=by
 induction l with
 | nil=>exact⟨rfl,rfl,rfl⟩
 | cons a r ih =>
  obtain⟨h1,h2,h3⟩:=ih;refine⟨by rw [bm,Bo,h1]; rfl,by rw [bm,BA,dq,h2,iD]; rfl,?_⟩;rw [bm,BA,dD,h3];rfl
theorem YL(b:Bool):GQ (.bl b) (.bl false)=!b:=by cases b <;> rfl
theorem YZ{α:Type}(p:α->Bool)(l:List α):((l.map λa=>D.bl (p a)).any λy=>GQ y (.bl false))=!(l.all p):=by
 induction l with
 | nil=>rfl
 | cons a r ih=>rw [bm,fR,gP,ih,YL,Bool.not_and]
theorem OR{α:Type}{p:α->Bool}{l:List α}{neg:Bool}{P:D->Prop}(h:P (.bl (if neg then l.all p else !(l.all p)))):GP neg (.bl false) (.lst (l.map λa=>.bl (p a))) P:=by
 obtain⟨h1,h2,h3⟩:=Rz p l;refine⟨⟨rfl,rfl,bn _⟩,⟨h1,h2,?_⟩,_,rfl,?_⟩
 ·show dD (BA (l.map λa=>D.bl (p a)))+1<=100
  rw [h3]; decide
 ·rw [YZ,Bool.not_not]
  exact h
section
variable {ss:List Slot}{n:Nat}{Pd:D->Nat->Prop}
end
def item(d:D):Prop:=EO 1000001 d/\Ip d<=450/\Iz d<=1
theorem JU{k:Nat}:∀{ds:List D},(∀d∈ds,Ip d+1<=k)->JV ds<=k*ds.length
 | [],_=>bn _
 | d::ds,h=>by
  have h1:=h d On;have h2:=JU (ds:=ds) λe he=>h e (TM _ he);show Ip d+1+JV ds<=k*(ds.length+1);rw [Nat.mul_succ]; omega
theorem Gz{B:Nat}{xs:List D}(h:∀d∈xs,EO B d):EO B (.tup xs):=fines_iff.mpr h
theorem item_str{x:Str}(h1:x.length<=8)(h2:∀c∈cs x,c<1114112):item (.str x):=⟨h2,by show x.length<=450; omega,bn _⟩
theorem D6{x:Str}(h:U7 x):item (.str x):=item_str h.2.1 λc hc=>by have:=h.2.2 c hc; omega
theorem UE{a b:Str}{l:Int}(ha:item (.str a))(hb:item (.str b))(la:a.length<=8)(lb:b.length<=8)(hl:l.natAbs<=1000001):item (.tup [.str a,.str b,.int l]):=by
 refine⟨Gz λd hd=>?_,?_,?_⟩
 ·simp only [TW,bu,or_false] at hd
  rcases hd with rfl | rfl | rfl
  ·exact ha.1
  ·exact hb.1
  ·exact hl
 ·show a.length+1+(b.length+1+(200+1+0))<=450
  omega
 ·show max 0 (max 0 (max 0 0))+1<=1
  decide
theorem KC{N:Net}(ok:N.Ok):∀d∈N.ts.map Aj,item d:=λd hd=>by
 obtain⟨t,ht,rfl⟩:=Tk.mp hd;obtain⟨h1,h2,_,h3,h4⟩:=ok.tin t ht;have n1:=ok.names _ h1;have n2:=ok.names _ h2;exact UE (D6 n1) (D6 n2) n1.2.1 n2.2.1 (by omega)
theorem Vr{N:Net}(ok:N.Ok):∀d∈N.ps.map D.str,item d:=λd hd=>by
 obtain⟨x,hx,rfl⟩:=Tk.mp hd;exact D6 (ok.names x hx)
theorem XU{xs ys:List D}(hx:∀d∈xs,item d)(hy:∀d∈ys,item d)(lx:xs.length<=26)(ly:ys.length<=80):EO 1000001 (.tup [.tup xs,.tup ys])/\Ip (.tup [.tup xs,.tup ys])<=48000/\Iz (.tup [.tup xs,.tup ys])<=3:=by
 have s1:=JU (k:=451) λd hd=>iY (hx d hd).2.1;have s2:=JU (k:=451) λd hd=>iY (hy d hd).2.1;have d1:FV xs<=1:=dps_le.mpr λd hd=>(hx d hd).2.2;have d2:FV ys<=1:=dps_le.mpr λd hd=>(hy d hd).2.2;refine⟨Gz λd hd=>?_,?_,?_⟩
 ·simp only [TW,bu,or_false] at hd
  rcases hd with rfl | rfl
  ·exact Gz λd hd=>(hx d hd).1
  ·exact Gz λd hd=>(hy d hd).1
 ·show JV xs+1+(JV ys+1+0)<=48000
  omega
 ·show max (FV xs+1) (max (FV ys+1) 0)+1<=3
  omega
theorem Cf(x:Str):¬cs x<cs x:=ce _
theorem z1:1<=sizeLine:=by decide
theorem z2:2<=sizeLine:=by decide
theorem z3:3<=sizeLine:=by decide
theorem z0:0<=sizeLine:=bn _
section
variable {ss:List Slot}{n:Nat}{Pd:D->Nat->Prop}
end
end Nt
namespace L2
open PySem PySem.Spec PyProof.Rows
section
variable {X:Cx}{tg elt iter:Expr}{ifs:List Expr}{sc:Scope}{pos spos pos':Pos}{N':List Str}{js:List (Option Nat)}{wi:TI}{i:Nat}{x:Str}
theorem VS(hc:X.calm=true)(N':List Str)(js:List (Option Nat))(hi:PI X tg iter wi)
  (hB:Kc sc X.env.scope X.N N' js=true) (hN:X.N.Nodup) (hix:X.N[i]?=some x) (hx:Loc X.env.scope x)
  (hsw:swapsWith (.ListComp elt [⟨tg,iter,ifs,0⟩] sc pos) (some (.Name x pos')) spos.line X.env=pure true)
  (hs:∀x,foldedSetIterable iter X.env x=pure x:=by intro _; rfl)
  (hf:X.fn x=true\/X.env.scope.names.lookup x=some .local:=by first | exact .inl rfl | exact .inr rfl | assumption) :
  PS X (.Assign [.Name x pos'] (.ListComp elt [⟨tg,iter,ifs,0⟩] sc pos) spos) (Na (S1 X sc N' js tg elt ifs wi) (IH i)):=by
 intro pins s σ H D I h;have O:CompOk X sc N' js:=CompOk.of hB;obtain⟨cl,hclos,hcl,hcl2⟩:=Kf (scope:=sc) (env:=X.env) λx hx=>I.ok.has x (O.free x hx);rw [exec_Assign_Name_used _ _ _ _ hsw];refine Ch (wpAny_standAt (Ch ?_));show wpAny _ _ (do let _ ← comprehension (.ListComp elt [⟨tg,iter,ifs,0⟩] sc pos) sc X.env _ (newList []) false (eval iter X.env) (some (assign (.Name x pos') X.env))) _ _ s
 refine Ch (c7 (wpAny_comprehension_free (Q:=λ_ s'=>SP X pins D .next s') (use:=some (assign (.Name x pos') X.env)) rfl hs hclos O.kind O.names (thn (hi pins s σ H _ I h) λv s1 h1=>thn h1 λitv s2 h2=>?_))
  (λ_ s' hq=>Sc (Sc hq)) λ_ _ e=>e)
 obtain⟨it,fp,tn,J,H2,e,I2,T,st2,f2,hq⟩:=h2;subst e
 have kfree:X.K.lookup s2.heap.objs.size=none:=by
  cases q:X.K.lookup s2.heap.objs.size with
  | none=>rfl
  | some o=>exact absurd (XV (I2.kIn _ _ q)) (cy _)
 obtain⟨g,tt,te,W,hg,ht,he,⟨m0,w0⟩,hW⟩:=hq s2.heap.objs.size (I2.hok.fresh (Rs _)) kfree cl (s2.heap.objs.size+1) s2 H2 fp;refine cW (wpAny_newFunctionEnv O.cell (by intro y hy; simp at hy) (λh₁ hns₁ hsb₁=>?_) O.kind)
 dsimp only at hns₁ hsb₁ ⊢
 generalize hH2:s2.heap.push { cls:=.type "list",dict:=none,data:=.seq ([]:List Ev).toArray }=Hh at hns₁ hsb₁ ⊢;have hCe:Hh.objs.size=s2.heap.objs.size+1:=by rw [← hH2,dH]
 have hlt:∀b∈fp,b<s2.heap.objs.size:=λb hb=>by
  obtain⟨o,e,_⟩:=T.obj _ _ st2 b hb;exact XV e
 have old:∀b o,s2.heap.get? b=some o->h₁.get? b=some o:=λb o e=>hsb₁.extBut b o (by rw [hCe]; exact b8 (dn (XV e))) (FM _ (hH2▸FM _ e));have hD:∃n,h₁.get? s2.heap.objs.size=some { cls:=.type "list",data:=.seq #[] n }:=⟨_,hsb₁.extBut _ _ (by rw [hCe]; exact b8 (fj _)) (FM _ (hH2▸Uf _ rfl))⟩
 have I3:∀tk,Inv (BE X sc N' cl (s2.heap.objs.size+1) s2 H2 fp) [] (CU js σ) (BC H2 s2.heap.objs.size (.lst [])) { s2 with heap:=h₁,toks:=tk }:=λtk =>
  OQ I2 hc O hcl hcl2 f2 (λb hb=>let ⟨o,e,_⟩:=T.obj _ _ st2 b hb; ⟨o,e⟩) (by rw [← hCe]; exact hns₁) old hD
 have st3:tn 0 h₁:=T.keep _ _ _ st2 λb hb o e=>old b o e
 have fr3:∀b∈fp,BC H2 s2.heap.objs.size (.lst []) b=none:=λb hb=>by
  rw [AU (b8 (hlt b hb))];exact(f2 b hb).1
 have loop:∀tk,codeAny (model X.prog X.w) X.A (.compLoop (.ListComp elt [⟨tg,iter,ifs,0⟩] sc pos) 0 (.ref it) (.ref s2.heap.objs.size) (compEnvC sc cl (s2.heap.objs.size+1) X.env))
   (compPost (model X.prog X.w) X.A X.xe (some (assign (.Name x pos') X.env)) (λ_ s'=>SP X pins D .next s') (.ref s2.heap.objs.size) (s2.heap.objs.size+1)) { s2 with heap:=h₁,toks:=tk }:=λtk=>by
  refine Lh (W:=W) (m0:=m0) (Q:=λv H1=>IH i v σ H1 λσ2 H2=>D.nx σ2 H2) I2 f2 hlt (dQ _) T hg ht he hW (λσ' H' s' J' q'=>?_) (I3 tk) st3 fr3 w0;obtain⟨m,hn,_⟩:=J'.loc;have hCn:H' (s2.heap.objs.size+1)=none:=J'.free;have I4:Inv X pins σ H' s':=KH (h':=s'.heap) I2 f2 (dQ _) J' λb _=>rfl;obtain⟨g1,g2,g3,g4,g5,g6⟩:=I2.fpOk (b:=s2.heap.objs.size+1) (dQ _) hCn;show wpAny (model X.prog X.w) X.A (assign (.Name x pos') X.env (.ref s2.heap.objs.size)) (λ_ s''=>∃m,s''.heap.Ns (s2.heap.objs.size+1) m/\∀h',fe (s2.heap.objs.size+1) s''.heap h'->SP X pins D .next { s'' with heap:=h' }) X.xe s';refine wpAny_assign_Name (LP (v:=.ref s2.heap.objs.size) I4 hN hix hx rfl (λs5 I5 ⟨a,hsame,ha⟩=>?_) hf)
  have na:s2.heap.objs.size+1≠a:=by
   rcases ha with rfl | ha
   ·exact g2
   ·exact λz=>g5 _ _ ha z.symm
  refine⟨m,hn.sameBut hsame na,λh' hs'=>?_⟩;exact⟨_,H',I5.turned (t':=s5.toks) (it:=s2.heap.objs.size+1) (λb o hb e=>hs'.extBut b o hb e) hCn g2 g4 g5 g6,q'⟩
 rw [show (newEnv sc Hh.objs.size X.env.globals cl X.env.qual none .none (some X.env) builtinsNs).locals=s2.heap.objs.size+1 from hCe];show codeAny (model X.prog X.w) X.A (.compStart (.ListComp elt [⟨tg,iter,ifs,0⟩] sc pos) 0 (.ref it) (.ref s2.heap.objs.size) (compEnvC sc cl (s2.heap.objs.size+1) X.env)) _ _;exact codeAny_compStart_list (loop _) (T.self _ 0 _ _ _ st3 (loop _))
end
end L2
namespace Dp
open PySem PySem.Spec PyProof.Rows L2
section
variable {X:Cx}{κe:Kd}{tg elt iter:Expr}{ifs:List Expr}{sc:Scope}{pos:Pos}{src:Ee}{b:BW}{tt:Ij}{te:DW}
theorem Um(hc:X.calm=true)(N':List Str)(js:List (Option Nat))(hi:Yv X tg iter src)(hg:∀cl C s H fp,DG (BE X sc N' cl C s H fp) tg b)(ht:∀cl C s H fp,Z4 (BE X sc N' cl C s H fp) ifs tt)(he:∀cl C s H fp,DE (BE X sc N' cl C s H fp) elt κe te)
  (hB:Kc sc X.env.scope X.N N' js=true) (hk:κe≠.tp:=by intro z; cases z)
  (hs:∀x,foldedSetIterable iter X.env x=pure x:=by intro _; rfl):∃wi,PI X tg iter wi/\∀(C:Fm) (M:Db->Prop) (H:Hp) (n:Nat) (ρ:List Slot) (σ:L2.St) (P:D->Nat->Prop) (Q:VK),Rel X.K C M H n ρ σ->Bl js src b tt te n ρ P ->
   (∀v H' d n',Ext C.U H H'->FeedC X.K C.F M H' n'->VR X.K C.V M H H' .fr v d->P d n'->Q v H')->S1 X sc N' js tg elt ifs wi σ H Q:=by
 obtain⟨wi,a1,a2⟩:=hi;refine⟨wi,a1,λC M H n ρ σ P Q R w q=>?_⟩;refine a2 C M H n ρ σ _ _ R w λJ H1 ds n1 e1 f1 y w1=>?_;obtain⟨hlen,w1⟩:=w1;have R1:=R.step e1 f1;intro l hl hkl cl Ca s0 H0 fp;obtain⟨g,g1,g2⟩:=hg cl Ca s0 H0 fp;obtain⟨tc,c1,c2⟩:=ht cl Ca s0 H0 fp;obtain⟨tx,x1,x2⟩:=he cl Ca s0 H0 fp
 have noU:¬C.U l:=λz=>by
  obtain⟨o,z⟩:=R1.udom l z;rw [hl] at z; cases z
 generalize hM':(λb=>M b\/b=l)=M';have M'l:M' l:=by rw [← hM']; exact .inr rfl
 have M'of:∀b,M b->M' b:=λb z=>by rw [← hM']; exact .inl z
 have ofM':∀b,M' b->M b\/b=l:=λb z=>by rw [← hM'] at z; exact z
 have inV:∀b,C.V b\/b=l->M' b:=λb z=>z.elim (λz=>M'of b (R1.vM b z)) λz=>by rw [z]; exact M'l
 have lenj:js.length=N'.length:=FD (CompOk.of hB).cap
 refine⟨g,tc,tx,λi m σ' H'=>m=ds.length - i/\i<=ds.length/\∃n' ρ' acc vs,Rel X.K ⟨M',C.F,C.U,λb=>C.V b\/b=l,H1,[],[]⟩ M' H' n' ρ' σ'/\H' l=some (.lst vs)/\Ats X.K M' H' acc vs/\acc.length<=i/\Pres M H1 M' H' /\
   B9 b tt te (λacc n2=>P (.lst acc) n2) (ds.drop i) acc n' ρ',g1,c1,x1,⟨ds.length,by simp,bn _,n1,Gu js ρ,[],[],?_⟩,?_⟩
 ·have gr:Grow H1 (BC H1 l (.lst [])):=Ay hl
  have pr:Pres M H1 M' (BC H1 l (.lst [])):=⟨λb o e _=>gr.all b o e,λb z=>(ofM' b z).elim .inl λz=>.inr (by rw [z]; exact hl),λb vs e=>gr.all b _ e⟩;refine⟨⟨?_,λa z=>z,λa z=>?_,gr.ext,R1.fU,λa z=>.inl (R1.uV a z),inV,f1.pres pr λf o _ e=>gr.all f.1 o e,?_,λp hp=>absurd hp (by simp),λi d a q z=>QV R1.sl q z,λi s a q o _=>absurd o (by rw [EM q]; decide),λi j s t a q o _ _ _ _=>absurd o (by rw [EM q]; decide),λp hp=>absurd hp (by simp)⟩,Ai,rfl,bn _,pr,w1⟩
  ·unfold Gu CU
   rw [No,No]
  ·rcases ofM' a z with z | z
   ·obtain⟨o,z⟩:=R1.dom a z
    exact⟨o,gr.all a o z⟩
   ·subst z
    exact⟨_,Ai⟩
  ·refine OF R1.sl pr λd v h=>h.same pr (λa o _ e=>gr.all a o e) λa e n1 z=>z.elim n1 λz=>?_
   subst e;obtain⟨o,w⟩:=h.lies;rw [z,hl] at w;cases w
 ·rintro i m σ' H' ⟨rfl,hi,n',ρ',acc,vs,R',hlv,hac,hal,pr,w'⟩
  by_cases hlt:i<ds.length
  ·have ed:ds.drop i=ds[i]::ds.drop (i+1):=c9 hlt
   rw [ed] at w';obtain⟨go,yl⟩:=(y i M' H' pr R'.ext R'.dom).1 ds[i] (Go hlt);refine .inr ⟨go,λx H2 hy=>?_⟩;obtain⟨gr,hx⟩:=yl x H2 hy;have R2':=R'.step gr.ext (R'.feed.grow gr);refine g2 _ M' H2 n' ρ' σ' ds[i] x _ _ R2' hx w' λρ3 σ3 R3 w3=>?_;refine c2 _ M' H2 n' ρ3 σ3 _ _ R3 w3 λc H4 n4 e4 f4 w4=>?_;have R4:=R3.step e4 f4;have p4:Pres M' H' M' H4:=gr.pres.trans (R3.pres e4);have l4:H4 l=some (.lst vs):=e4.keep (gr.all _ _ hlv) noU;cases c with
   | false=>exact⟨ds.length - (i+1),by omega,rfl,hlt,n4,ρ3,acc,vs,R4,l4,hac.pres p4,by omega,pr.trans p4,w4⟩
   | true =>
    refine x2 _ M' H4 n4 ρ3 σ3 _ _ R4 w4 λyv H5 d5 n5 e5 f5 r5 w5=>?_;have R5:=R4.step e5 f5;have p5:Pres M' H4 M' H5:=R4.pres e5;have l5:H5 l=some (.lst vs):=e5.keep l4 noU;have hy5:=r5.shOf R4.dom hk;have a5:=(hac.pres p4).pres p5;have pu:Pres M' H5 M' (BC H5 l (.lst (vs++[yv]))):=EK M'l l5;have hvl:vs.length=acc.length:=hac.length;refine⟨vs,l5,by rw [cX]; omega,ds.length - (i+1),by omega,rfl,hlt,n5,ρ3,acc++[d5],vs++[yv],?_,Ai,(a5.append (Ats.one hy5)).pres pu,by rw [bi,cA]; omega,(pr.trans p4).trans (p5.trans pu),w5⟩;refine⟨R5.len,R5.sub,λa z=>?_,λb o e=>?_,R5.fU,R5.uV,R5.vM,?_,λj s hs=>?_,λp hp=>absurd hp (by simp),R5.br0,R5.new,R5.two,λp hp=>absurd hp (by simp)⟩
    ·by_cases ha:a=l
     ·subst ha; exact⟨_,Ai⟩
     ·rw [AU ha]; exact R5.dom a z
    ·obtain⟨o',q1,q2⟩:=R5.ext b o e
     by_cases hb:b=l
     ·subst hb
      have e':H1 b=some o:=e;rw [hl] at e'; cases e'
     ·exact⟨o',by rw [AU hb]; exact q1,q2⟩
    ·refine f5.pres pu λf o hf e=>?_
     rw [AU (λz=>noU (by rw [← z]; exact R1.fU f hf))];exact e
    ·have hs5:=R5.sl j s hs
     cases s with
     | no=>trivial
     | sh d=>obtain⟨v,e1,h2⟩:=hs5; exact⟨v,e1,h2.pres pu⟩
     | br d =>
      obtain⟨v,e1,h2⟩:=hs5;refine⟨v,e1,h2.same pu (λa o z e=>?_) λ_ _ z=>z⟩;subst z;obtain⟨o3,w⟩:=R5.br0 j d a hs e1
      have hal:a≠l:=λz=>by
       have w':H1 a=some o3:=w;rw [z,hl] at w'; cases w'
      rw [AU hal]; exact e
     | ow d =>
      obtain⟨a,e1,h2,_⟩:=hs5;exact absurd h2 (R5.new j _ a hs rfl e1).1
     | lt a d =>
      obtain⟨e1,h2,_⟩:=hs5;exact absurd h2 (R5.new j _ a hs rfl e1).1
     | fd=>exact hs5
  ·have e:i=ds.length:=by omega
   subst e;rw [fK] at w';refine .inl ⟨(y _ M' H' pr R'.ext R'.dom).2 (Rs _),?_⟩;have eb:Ext C.U H1 H':=R'.ext;have less:Pres M' H' M H':=Pres.less M'of;refine q _ H' (.lst acc) n' (e1.trans eb) (R'.feed.pres less λ_ _ _ z=>z) (VR.back e1 ?_) w';exact⟨l,rfl,hl,vs,hlv,by rw [hM']; exact hac⟩
theorem Iy{κ:Kd}{i:Nat}{x:Str}{pos' spos:Pos}(hN:X.N.Nodup)(hix:X.N[i]?=some x)(hx:Loc X.env.scope x)(hc:X.calm=true)(N':List Str)(js:List (Option Nat))(hi:Yv X tg iter src)(hg:∀cl C s H fp,DG (BE X sc N' cl C s H fp) tg b)(ht:∀cl C s H fp,Z4 (BE X sc N' cl C s H fp) ifs tt)(he:∀cl C s H fp,DE (BE X sc N' cl C s H fp) elt κe te)
  (hB:Kc sc X.env.scope X.N N' js=true) (hsw:swapsWith (.ListComp elt [⟨tg,iter,ifs,0⟩] sc pos) (some (.Name x pos')) spos.line X.env=pure true:=by rfl) (hk:κe≠.tp:=by intro z; cases z)
  (hs:∀x,foldedSetIterable iter X.env x=pure x:=by intro _; rfl)
  (hf:X.fn x=true\/X.env.scope.names.lookup x=some .local:=by first | exact .inl rfl | exact .inr rfl | assumption):DS X κ (.Assign [.Name x pos'] (.ListComp elt [⟨tg,iter,ifs,0⟩] sc pos) spos) (Ax i (Bl js src b tt te)):=by
 obtain⟨wi,a1,a2⟩:=Um hc N' js hi hg ht he hB hk hs;refine⟨_,VS hc N' js a1 hB hN hix hx hsw hs hf,λC M H n ρ σ D2 E R L w=>?_⟩;refine a2 C M H n ρ σ _ _ R w λv H' d n' e1 f1 r1 p=>?_;exact L.nx M H' n' _ _ ((R.step e1 f1).set (r1.shOf R.dom (by intro z; cases z))) p
end
end Dp
namespace L2
open PySem PySem.Spec PyProof.Rows
def Xm:R2:=λy x H Q=>∃a o,x=.ref a/\DGet H a y o/\Q (.bl o.isSome) H
def Ws:R2:=λy x H Q=>∃a o,x=.ref a/\DGet H a y o/\Q (.bl (!o.isSome)) H
def QC:R2:=λx y H Q=>∃a v,x=.ref a/\DGet H a y (some v)/\Q v H
theorem Tr{X:Cx}{k:Nat}(hr:Room k X.A):OpR X (compareOp .In) Xm:=by
 intro pins s σ H y x iv u Q I ry rx ⟨a,ov,ex,g,q⟩;subst ex;obtain rfl:u=cV a:=rx;exact aw (IG hr) I g ry λs3 I3=>⟨.bl ov.isSome,H,I3,rfl,q⟩
theorem D4{X:Cx}{k:Nat}(hr:Room k X.A):OpR X (compareOp .NotIn) Ws:=by
 intro pins s σ H y x iv u Q I ry rx ⟨a,ov,ex,g,q⟩;subst ex;obtain rfl:u=cV a:=rx;exact WL (IG hr) I g ry λs3 I3=>⟨.bl (!ov.isSome),H,I3,rfl,q⟩
end L2
namespace Dp
open PySem PySem.Spec PyProof.Rows L2
def BM:List Key->List D->Key->Option D
 | k0::ks,d::ds,k=>if k0=k then some d else BM ks ds k
 | _,_,_=>none
section
variable {K:Frag}{X:Cx}
theorem Ga{M:Db->Prop}{H:Hp}{k:Key}:∀{ks:List Key} {ds:List D} {vs:List V},Ats K M H ds vs ->
  match BM ks ds k with
  | some z=>∃v,Bs (ks.zip vs) k=some v/\At K M H z v
  | none=>Bs (ks.zip vs) k=none
 | [],ds,vs,h=>by unfold BM; exact rfl
 | k0::ks,[],vs,h=>by cases h; exact rfl
 | k0::ks,d::ds,vs,h=>by
  obtain⟨v,r,rfl,h1,h2⟩:=h;have ih:=Ga (k:=k) (ks:=ks) h2;unfold BM
  by_cases e:k0=k
  ·rw [if_pos e]
   refine⟨v,?_,h1⟩;show Bs ((k0,v)::ks.zip r) k=some v;rw [Dz e]
  ·rw [if_neg e]
   have:Bs ((k0,v)::ks.zip r) k=Bs (ks.zip r) k:=D1 e
   rw [show (k0::ks).zip (v::r)=(k0,v)::ks.zip r from rfl,this];exact ih
def keyOf:D->Option Key
 | .int i=>some (.inl i)
 | .str x=>some (.inr x)
 | _=>none
theorem D5{U M:Db->Prop}{H:Hp}{d:D}{v:V}{k:Key}(e:keyOf d=some k)(h:AtT K U M H d v):v=kV k:=by
 cases d with
 | int i=>cases e; exact h
 | str x=>cases e; exact h.str.1
 | _=>cases e
def Le:D->Option (List Key×List D)
 | .dic ks ds=>some (ks,ds)
 | .fdi ks ds=>some (ks,ds)
 | _=>none
theorem KY{U M:Db->Prop}{H:Hp}{d:D}{x:V}{ks:List Key}{ds:List D}(e:Le d=some (ks,ds))(h:AtT K U M H d x):∃a vs,x=.ref a/\Rd H a (.dK (ks.zip vs))/\Ats K M H ds vs:=by
 cases d with
 | dic k2 d2=>cases e; obtain⟨a,vs,rfl,_,ha,_,hs⟩:=h; exact⟨a,vs,rfl,.inl ha,hs⟩
 | fdi k2 d2=>cases e; obtain⟨a,vs,rfl,⟨o,_,ha⟩,_,hs⟩:=h; exact⟨a,vs,rfl,.inr ⟨o,ha⟩,hs⟩
 | _=>cases e
theorem I_{H:Hp}{a:Db}{kvs:List (Key×V)}{k:Key}(e:Rd H a (.dK kvs)):DGet H a (kV k) (Bs kvs k):=.inl ⟨kvs,k,e,rfl,rfl⟩
def Ih(neg:Bool)(e d:D)(P:D->Prop):Prop:=∃ks ds k,Le d=some (ks,ds)/\keyOf e=some k/\P (.bl (if neg then !(BM ks ds k).isSome else (BM ks ds k).isSome))
def Bm(d e:D)(P:D->Prop):Prop:=∃ks ds k z,Le d=some (ks,ds)/\keyOf e=some k/\BM ks ds k=some z/\P z
theorem Zu:Fa K .sh Xm (Ih false):=λU M H e d y x P Q dom vM hy hx w q=>by
 obtain⟨ks,ds,k,hd,he,w⟩:=w;obtain⟨a,vs,rfl,ha,hs⟩:=KY hd hx;refine⟨a,Bs (ks.zip vs) k,rfl,by rw [D5 he hy]; exact I_ ha,q _ H (.bl _) .refl rfl ?_⟩;have h:=Ga (k:=k) (ks:=ks) hs;cases c:BM ks ds k with
 | none=>rw [c] at h w; rw [show Bs (ks.zip vs) k=none from h]; exact w
 | some z=>rw [c] at h w; obtain⟨v,h1,_⟩:=h; rw [h1]; exact w
theorem FH:Fa K .sh Ws (Ih true):=λU M H e d y x P Q dom vM hy hx w q=>by
 obtain⟨ks,ds,k,hd,he,w⟩:=w;obtain⟨a,vs,rfl,ha,hs⟩:=KY hd hx;refine⟨a,Bs (ks.zip vs) k,rfl,by rw [D5 he hy]; exact I_ ha,q _ H (.bl _) .refl rfl ?_⟩;have h:=Ga (k:=k) (ks:=ks) hs;cases c:BM ks ds k with
 | none=>rw [c] at h w; rw [show Bs (ks.zip vs) k=none from h]; exact w
 | some z=>rw [c] at h w; obtain⟨v,h1,_⟩:=h; rw [h1]; exact w
theorem Yg:Fa K .sh QC Bm:=λU M H d e x y P Q dom vM hx hy w q=>by
 obtain⟨ks,ds,k,z,hd,he,hz,w⟩:=w;obtain⟨a,vs,rfl,ha,hs⟩:=KY hd hx;have h:=Ga (k:=k) (ks:=ks) hs;rw [hz] at h;obtain⟨v,h1,h2⟩:=h;exact⟨a,v,rfl,by rw [D5 he hy,← h1]; exact I_ ha,q v H z .refl h2 w⟩
variable {a b:Expr}{κa κb:Kd}{wa wb:DW}{pos:Pos}
theorem Bx{k:Nat}(hr:Room k X.A)(ha:DE X a κa wa)(hb:DE X b κb wb)(hs:WU b:=by intro _ _; rfl):DE X (.Subscript a b pos) .sh (AT Bm wa wb):=by
 obtain⟨ta,ha1,ha2⟩:=ha;obtain⟨tb,hb1,hb2⟩:=hb;exact⟨Dh QC ta tb,Iv (IG hr) ha1 hb1 hs,λC M H n ρ σ P Q R w q=>ER Yg ha2 hb2 C M H n ρ σ P Q R w q⟩
end
def Ss(i:Nat)(w:DW):Af:=λD2 n ρ=>∃a:Int,ρ[i]?=some (.sh (.int a))/\w n ρ λd n1=>∃b:Int,d=.int b/\D2.nx n1 (ρ.set i (.sh (.int (a+b))))
theorem WB{X:Cx}{κ κe:Kd}{e:cC}{wa:DW}{pos:Pos}{i:Nat}{x:Str}{pos':Pos}(hN:X.N.Nodup)(hi:X.N[i]?=some x)(hx:Loc X.env.scope x)(he:DE X e κe wa)
  (hf:X.fn x=true\/X.env.scope.names.lookup x=some .local:=by first | exact .inl rfl | exact .inr rfl | assumption):DS X κ (.AugAssign (.Name x pos') .Add e pos) (Ss i wa):=by
 obtain⟨t,a1,a2⟩:=he;refine⟨_,Xq hN hi hx a1 YE hf,λC M H n ρ σ D2 E R L w=>?_⟩;obtain⟨a,ha,w⟩:=w;obtain⟨v,e1,h1⟩:=R.sl i _ ha;cases (show v=.int a from h1);refine⟨_,getD_some e1,a2 C M H n ρ σ _ _ R w λv H' d n' e1 f1 r1 p=>?_⟩;obtain⟨b,rfl,p⟩:=p;exact⟨a,b,rfl,Mh r1,L.nx M H' n' _ _ ((R.step e1 f1).set (d:=.int (a+b)) rfl) p⟩
end Dp
namespace So
open PySem PySem.W PyProof.Rows
section
variable {O:KeyOrd}{key:Nat->O.α}{N:Nat}{cmp:Nat->Nat->(Bool->Shared->Prop)->Shared->Prop}{s:Shared}{p p0:Array Nat}
def KN(O:KeyOrd)(key:Nat->O.α)(p:Array Nat)(i:Nat):O.α:=key (p.getD i 0)
def Srt(O:KeyOrd)(key:Nat->O.α)(p:Array Nat)(k:Nat):Prop:=∀i j,i<=j->j<k->O.kle (KN O key p i) (KN O key p j)
def Z0(O:KeyOrd)(key:Nat->O.α)(p:Array Nat)(k:Nat):Prop:=∀i j,i<=j->j<k->O.kle (KN O key p j) (KN O key p i)
def XM(O:KeyOrd)(key:Nat->O.α)(N:Nat)(cmp:Nat->Nat->(Bool->Op->Prop)->Op->Prop)(s:Op):Prop:=∀(i j:Nat) (C:Bool->Op->Prop),i<N->j<N->C (O.blt (key i) (key j)) s->cmp i j C s
def Bd(N:Nat)(p:Array Nat):Prop:=0<N/\∀x∈p,x<N
theorem Mj(p:Array Nat)(i:Nat):p.getD i 0=(p[i]?).getD 0:=by
 simp
theorem Bd.get(h:Bd N p)(i:Nat):p.getD i 0<N:=by
 rw [Mj];cases e:p[i]? with
 | none=>exact h.1
 | some x=>exact h.2 x (Array.mem_of_getElem? e)
theorem Bd.perm{p':Array Nat}(h:Bd N p)(hp:p'.Perm p):Bd N p':=⟨h.1,λx hx=>h.2 x (hp.mem_iff.mp hx)⟩
theorem FO{p q:Array Nat}{i j:Nat}(h:p[i]?=q[j]?):KN O key p i=KN O key q j:=by
 unfold KN;rw [Mj,Mj,h]
theorem L0{src d:Nat}(hs:src<p.size)(hd:d<=src)(k:Nat) :
  KN O key (bubble p src d) k=if k=src - d then KN O key p src else if src - d<k/\k<=src then KN O key p (k - 1) else KN O key p k:=by
 have e:=getElem?_bubble hs d hd k
 by_cases h1:k=src - d
 ·rw [if_pos h1] at e ⊢; exact FO e
 ·rw [if_neg h1] at e ⊢
  by_cases h2:src - d<k/\k<=src
  ·rw [if_pos h2] at e ⊢; exact FO e
  ·rw [if_neg h2] at e ⊢; exact FO e
theorem IA{i j:Nat}(hj:j<=p.size)(k:Nat):KN O key (kas_rev p i j) k=if i<=k/\k<j then KN O key p (i+j - 1 - k) else KN O key p k:=by
 have e:=getElem?_mirror_all (i:=i) hj k;unfold kas_rev
 by_cases h1:i<=k/\k<j
 ·rw [if_pos h1] at e ⊢; exact FO e
 ·rw [if_neg h1] at e ⊢; exact FO e
theorem Bi{i j:Nat}(hj:j<=p.size)(heq:∀k,i<=k->k<j->KN O key p k=KN O key p (j - 1))(k:Nat):KN O key (kas_rev p i j) k=KN O key p k:=by
 rw [IA hj]
 split
 ·rw [heq _ (by omega) (by omega),heq k (by omega) (by omega)]
 ·rfl
theorem CL(p:Array Nat)(i j:Nat):(kas_rev p i j).Perm p:=mirror_perm _ _ _ _
theorem yes{α:Type}{T₁ T₂:KasT α}{Q:α->Op->Prop}(h:T₁.kasWp cmp Q s):(if true=true then T₁ else T₂).kasWp cmp Q s:=by rw [if_pos rfl]; exact h
theorem no{α:Type}{T₁ T₂:KasT α}{Q:α->Op->Prop}(h:T₂.kasWp cmp Q s):(if false=true then T₁ else T₂).kasWp cmp Q s:=by rw [if_neg (by simp)]; exact h
theorem Pu(hC:XM O key N cmp s)(hb:Bd N p){nrem:Nat}{G:Nat->Op->Prop}:∀(f n:Nat),1<=n->n+f=nrem->Srt O key p n ->
  (∀m,n<=m->m<=nrem->Srt O key p m->(m=nrem\/O.klt (KN O key p m) (KN O key p (m - 1)))->G m s)->(kas_asc p f n).kasWp cmp G s
 | 0,n,_,e,hs,h=>h n (Rs _) (by omega) hs (.inl (by omega))
 | f+1,n,h1,e,hs,h=>by
  show cmp (p.getD n 0) (p.getD (n - 1) 0) (λc s'=>(if c=true then KasT.ret n else kas_asc p f (n+1)).kasWp cmp G s') s;refine hC _ _ _ (hb.get n) (hb.get _) ?_;cases hless:O.blt (key (p.getD n 0)) (key (p.getD (n - 1) 0)) with
  | true=>exact yes (h n (Rs _) (by omega) hs (.inr hless))
  | false =>
   refine no (Pu hC hb f (n+1) (by omega) (by omega) (λi j hij hj=>?_) λm m1 m2 m3 m4=>h m (by omega) m2 m3 m4)
   by_cases hjx:j<n
   ·exact hs i j hij hjx
   ·have hj':j=n:=by omega
    subst hj'
    by_cases hi':i=j
    ·subst hi'; exact dY _
    ·exact gU (hs i (j - 1) (by omega) (by omega)) hless
theorem JA(hC:XM O key N cmp s){nrem:Nat}{G:Array Nat×Nat×Nat->Op->Prop}:∀(f:Nat) (p:Array Nat) (n q:Nat),p.Perm p0->Bd N p->nrem<=p.size->1<=n->n+f=nrem->Z0 O key p n->q+1<=n ->
  (∀i,n - (q+1)<=i->i<n->KN O key p i=KN O key p (n - 1)) ->
  (∀p' m q',p'.Perm p0->Bd N p'->p'.size=p.size->n<=m->m<=nrem->Z0 O key p' m->q'+1<=m->(∀i,m - (q'+1)<=i->i<m->KN O key p' i=KN O key p' (m - 1))->G (p',m,q') s)->(kas_desc f p n q).kasWp cmp G s
 | 0,p,n,q,hp,hb,hz,h1,e,hs,hq,he,h=>h p n q hp hb rfl (Rs _) (by omega) hs hq he
 | f+1,p,n,q,hp,hb,hz,h1,e,hs,hq,he,h=>by
  show cmp (p.getD n 0) (p.getD (n - 1) 0) (λc s'=>(if c=true then (if q > 0 then kas_desc f (kas_rev p (n - (q+1)) n) (n+1) 0 else kas_desc f p (n+1) 0)
   else .ask (p.getD (n - 1) 0) (p.getD n 0) λd=>if d=true then .ret (p,n,q) else kas_desc f p (n+1) (q+1)).kasWp cmp G s') s
  refine hC _ _ _ (hb.get n) (hb.get _) ?_;cases hless:O.blt (key (p.getD n 0)) (key (p.getD (n - 1) 0)) with
  | true =>
   have hl:O.klt (KN O key p n) (KN O key p (n - 1)):=hless
   have step1:∀xs:Array Nat,(∀k,KN O key xs k=KN O key p k)->Z0 O key xs (n+1):=by
    intro xs hk i j hij hj;rw [hk,hk]
    by_cases hjx:j<n
    ·exact hs i j hij hjx
    ·have hj':j=n:=by omega
     subst hj'
     by_cases hi':i=j
     ·subst hi'; exact dY _
     ·exact gU (gJ hl) (hs i (j - 1) (by omega) (by omega))
   refine yes ?_;have hsz:n<=p.size:=by omega
   by_cases hq0:q > 0
   ·rw [if_pos hq0]
    refine JA hC f _ (n+1) 0 ((CL _ _ _).trans hp) (hb.perm (CL _ _ _)) (by rw [kas_rev_size]; exact hz) (by omega) (by omega) (step1 _ (Bi hsz he)) (by omega) (λi a b=>by congr 1; omega) λp' m q' a1 a2 a3 a4 a5 a6 a7 a8=>h p' m q' a1 a2 (a3.trans (kas_rev_size _ _)) (by omega) a5 a6 a7 a8
   ·rw [if_neg hq0]
    exact JA hC f _ (n+1) 0 hp hb hz (by omega) (by omega) (step1 _ λ_=>rfl) (by omega) (λi a b=>by congr 1; omega) λp' m q' a1 a2 a3 a4 a5 a6 a7 a8=>h p' m q' a1 a2 a3 (by omega) a5 a6 a7 a8
  | false =>
   refine no ?_;show cmp (p.getD (n - 1) 0) (p.getD n 0) (λd s'=>(if d=true then KasT.ret (p,n,q) else kas_desc f p (n+1) (q+1)).kasWp cmp G s') s;refine hC _ _ _ (hb.get _) (hb.get n) ?_;cases hlarger:O.blt (key (p.getD (n - 1) 0)) (key (p.getD n 0)) with
   | true=>exact yes (h p n q hp hb rfl (Rs _) (by omega) hs hq he)
   | false =>
    have heqx:KN O key p n=KN O key p (n - 1):=jK (O:=O) hlarger hless;refine no (JA hC f p (n+1) (q+1) hp hb hz (by omega) (by omega) (λi j hij hj=>?_) (by omega) (λi a b=>?_) λp' m q' a1 a2 a3 a4 a5 a6 a7 a8=>h p' m q' a1 a2 a3 (by omega) a5 a6 a7 a8)
    ·by_cases hjx:j<n
     ·exact hs i j hij hjx
     ·have hj':j=n:=by omega
      subst hj'
      by_cases hi':i=j
      ·subst hi'; exact dY _
      ·rw [heqx]; exact hs i (j - 1) (by omega) (by omega)
    ·rw [show n+1 - 1=n by omega]
     by_cases hix:i=n
     ·subst hix; rfl
     ·rw [heqx]; exact he i (by omega) (by omega)
theorem NZ(hC:XM O key N cmp s){n nrem:Nat}{G:Nat×Array Nat->Op->Prop}(hp:p.Perm p0)(hb:Bd N p)(hz:nrem<=p.size)(h1:1<=n)(hn:n<=nrem)(hs:Z0 O key p n)
  (h:∀m p',p'.Perm p0->Bd N p'->p'.size=p.size->1<=m->m<=nrem->Srt O key p' m->G (m,p') s):(kas_tail3 n nrem p).kasWp cmp G s:=by
 unfold kas_tail3;rw [KasT.kasWp_bind];have hsz:n<=p.size:=by omega
 refine Pu hC (hb.perm (CL _ _ _)) (nrem - n) n h1 (by omega) (λi j hij hj=>?_) λm m1 m2 m3 _=>h m _ ((CL _ _ _).trans hp) (hb.perm (CL _ _ _)) (kas_rev_size _ _) (by omega) m2 m3;rw [IA hsz,IA hsz,if_pos (by omega),if_pos (by omega)];exact hs _ _ (by omega) (by omega)
theorem IJ(hC:XM O key N cmp s){n nrem:Nat}{G:Nat×Array Nat->Op->Prop}(hp:p.Perm p0)(hb:Bd N p)(hz:nrem<=p.size)(hn:n+1<=nrem)(hs:Z0 O key p (n+1))
  (h:∀m p',p'.Perm p0->Bd N p'->p'.size=p.size->1<=m->m<=nrem->Srt O key p' m->G (m,p') s):(kas_descPart n nrem p).kasWp cmp G s:=by
 unfold kas_descPart;rw [KasT.kasWp_bind];refine JA (p0:=p0) hC (nrem - (n+1)) p (n+1) 0 hp hb hz (by omega) (by omega) hs (by omega) (λi a b=>by congr 1; omega) λp' m q' a1 a2 a3 a4 a5 a6 a7 a8=>?_;have hsz:m<=p'.size:=by omega
 show (if q' > 0 then kas_tail3 m nrem (kas_rev p' (m - (q'+1)) m) else kas_tail3 m nrem p').kasWp cmp G s
 by_cases hq0:q' > 0
 ·rw [if_pos hq0]
  refine NZ hC ((CL _ _ _).trans a1) (a2.perm (CL _ _ _)) (by rw [kas_rev_size]; omega) (by omega) a5 (λi j hij hj=>?_) λm' p'' b1 b2 b3 b4 b5 b6=>h m' p'' b1 b2 (b3.trans ((kas_rev_size _ _).trans a3)) b4 b5 b6;rw [Bi hsz a8,Bi hsz a8];exact a6 i j hij hj
 ·rw [if_neg hq0]
  exact NZ hC a1 a2 (by omega) (by omega) a5 a6 λm' p'' b1 b2 b3 b4 b5 b6=>h m' p'' b1 b2 (b3.trans a3) b4 b5 b6
theorem Ul(hC:XM O key N cmp s){nrem:Nat}{G:Nat×Array Nat->Op->Prop}(hp:p.Perm p0)(hb:Bd N p)(hz:nrem<=p.size)(h1:1<=nrem)
  (h:∀m p',p'.Perm p0->Bd N p'->p'.size=p.size->1<=m->m<=nrem->Srt O key p' m->G (m,p') s):(kas_count nrem p).kasWp cmp G s:=by
 unfold kas_count;rw [KasT.kasWp_bind];refine Pu (nrem:=nrem) hC hb (nrem - 1) 1 (Rs _) (by omega) (λi j hij hj=>by have:i=j:=(by omega); subst this; exact dY _) λn hn1 hn2 hsn hor=>?_
 by_cases hnn:n=nrem
 ·rw [if_pos (by simpa using hnn)]
  exact h n p hp hb rfl hn1 hn2 hsn
 ·rw [if_neg (by simpa using hnn)]
  have hlt:O.klt (KN O key p n) (KN O key p (n - 1)):=hor.resolve_left hnn
  by_cases hgt:n > 1
  ·rw [if_pos hgt]
   show cmp (p.getD 0 0) (p.getD (n - 1) 0) (λc s'=>(if c=true then KasT.ret (n,p) else kas_descPart n nrem (kas_rev p 0 n)).kasWp cmp G s') s;refine hC _ _ _ (hb.get _) (hb.get _) ?_;cases hrose:O.blt (key (p.getD 0 0)) (key (p.getD (n - 1) 0)) with
   | true=>exact yes (h n p hp hb rfl hn1 hn2 hsn)
   | false =>
    have hrose':O.kle (KN O key p (n - 1)) (KN O key p 0):=hrose;have hsz:n<=p.size:=by omega
    have hall:∀k,0<=k->k<n->KN O key p k=KN O key p (n - 1):=by
     intro k _ hk;have a1:=hsn 0 k (by omega) hk;have a2:=hsn k (n - 1) (by omega) (by omega);exact jK a2 (gU hrose' a1)
    refine no (IJ hC ((CL _ _ _).trans hp) (hb.perm (CL _ _ _)) (by rw [kas_rev_size]; exact hz) (by omega) (λi j hij hj=>?_) λm' p'' b1 b2 b3 b4 b5 b6=>h m' p'' b1 b2 (b3.trans (kas_rev_size _ _)) b4 b5 b6);rw [Bi hsz hall,Bi hsz hall]
    by_cases hjn:j<n
    ·rw [hall i (by omega) (by omega),hall j (by omega) hjn]; exact dY _
    ·have hj':j=n:=by omega
     subst hj'
     by_cases hi':i=j
     ·subst hi'; exact dY _
     ·rw [hall i (by omega) (by omega)]; exact gJ hlt
  ·rw [if_neg hgt]
   have hn1':n=1:=by omega
   subst hn1';refine IJ hC hp hb hz (by omega) (λi j hij hj=>?_) h
   by_cases hi':i=j
   ·subst hi'; exact dY _
   ·have hi0:i=0:=by omega
    have hj1:j=1:=by omega
    subst hi0; subst hj1
    exact gJ hlt
theorem Jr(hC:XM O key N cmp s)(hb:Bd N p){k:Nat}(hs:Srt O key p k){G:Nat->Op->Prop}
  (h:∀l,l<=k->(∀i,i<l->O.kle (KN O key p i) (KN O key p k))->(∀i,l<=i->i<k->O.klt (KN O key p k) (KN O key p i))->G l s):∀(f l r:Nat),l<=r->r<=k->r - l<=f ->
  (∀i,i<l->O.kle (KN O key p i) (KN O key p k))->(∀i,r<=i->i<k->O.klt (KN O key p k) (KN O key p i))->(kas_place p k f l r).kasWp cmp G s
 | 0,l,r,hlr,hrk,hm,hlo,hhi=>by
  have:l=r:=by omega
  subst this;exact h l hrk hlo hhi
 | f+1,l,r,hlr,hrk,hm,hlo,hhi=>by
  unfold kas_place
  by_cases hge:l≥r
  ·rw [if_pos hge]
   have:l=r:=by omega
   subst this;exact h l hrk hlo hhi
  ·rw [if_neg hge]
   show cmp (p.getD k 0) (p.getD ((l+r) / 2) 0) (λc s'=>(if c=true then kas_place p k f l ((l+r) / 2) else kas_place p k f ((l+r) / 2+1) r).kasWp cmp G s') s;refine hC _ _ _ (hb.get _) (hb.get _) ?_;cases hless:O.blt (key (p.getD k 0)) (key (p.getD ((l+r) / 2) 0)) with
   | true =>
    have hl:O.klt (KN O key p k) (KN O key p ((l+r) / 2)):=hless;exact yes (Jr hC hb hs h f l ((l+r) / 2) (by omega) (by omega) (by omega) hlo λi h1 h2=>KeyOrd.klt_of_klt_of_kle hl (hs _ _ h1 h2))
   | false =>
    have hl:O.kle (KN O key p ((l+r) / 2)) (KN O key p k):=hless;exact no (Jr hC hb hs h f ((l+r) / 2+1) r (by omega) (by omega) (by omega) (λi h1=>gU (hs i ((l+r) / 2) (by omega) (by omega)) hl) hhi)
theorem ER(hC:XM O key N cmp s){n:Nat}{G:Array Nat->Op->Prop}(h:∀p',p'.Perm p0->Srt O key p' n->G p' s):∀(f:Nat) (p:Array Nat) (k:Nat),p.Perm p0->Bd N p->n<=p.size->k+f=n->Srt O key p k->(kas_bin f p k).kasWp cmp G s
 | 0,p,k,hp,hb,hz,e,hs=>h p hp (by rw [← e]; exact hs)
 | f+1,p,k,hp,hb,hz,e,hs=>by
  rw [show kas_bin (f+1) p k=(kas_place p k k 0 k).bind λl=>kas_bin f (bubble p k (k - l)) (k+1) from rfl,KasT.kasWp_bind];refine Jr hC hb hs (λl hlk hlo hhi=>?_) k 0 k (bn _) (Rs _) (by omega) (λi hi=>by omega) λi a b=>by omega
  have hks:k<p.size:=by omega
  refine ER hC h f _ (k+1) ((bubble_perm _ _ _).trans hp) (hb.perm (bubble_perm _ _ _)) (by rw [bubble_size]; exact hz) (by omega) λi j hij hj=>?_;rw [L0 hks (by omega),L0 hks (by omega),show k - (k - l)=l by omega]
  by_cases hi1:i=l
  ·rw [if_pos hi1]
   by_cases hj1:j=l
   ·rw [if_pos hj1]; exact dY _
   ·rw [if_neg hj1,if_pos (by omega)]
    exact gJ (hhi (j - 1) (by omega) (by omega))
  ·rw [if_neg hi1]
   by_cases hi2:l<i/\i<=k
   ·rw [if_pos hi2,if_neg (by omega),if_pos (by omega)]
    exact hs (i - 1) (j - 1) (by omega) (by omega)
   ·rw [if_neg hi2]
    by_cases hj1:j=l
    ·rw [if_pos hj1]; exact hlo i (by omega)
    ·rw [if_neg hj1]
     by_cases hj2:l<j/\j<=k
     ·rw [if_pos hj2]
      exact hs i (j - 1) (by omega) (by omega)
     ·rw [if_neg hj2]
      exact hs i j hij (by omega)
theorem sort_ok{n:Nat}(h1:1<=n)(hC:XM O key n cmp s){G:Array Nat->Op->Prop}(h:∀p,p.Perm (cE (cF n))->Srt O key p n->G p s):(kas_sort n).kasWp cmp G s:=by
 unfold kas_sort;rw [KasT.kasWp_bind];have hb:Bd n (cE (cF n)):=⟨h1,λx hx=>by simpa using hx⟩;have hsz:(cE (cF n)).size=n:=by simp
 refine Ul hC (ir _) hb (by omega) h1 λm p' a1 a2 a3 a4 a5 a6=>?_;show (if m<n then kas_bin (n - max m 1) p' (max m 1) else KasT.ret p').kasWp cmp G s
 by_cases hlt:m<n
 ·rw [if_pos hlt,show max m 1=m by omega]
  exact ER (p0:=cE (cF n)) hC h (n - m) p' m a1 a2 (by omega) (by omega) a6
 ·rw [if_neg hlt]
  exact h p' a1 (by rw [show n=m by omega]; exact a6)
end
end So
namespace L2
open PySem PySem.Spec PyProof.Rows PySem.W
def X3:Key->Key->Bool
 | .inl i,.inl j=>decide (i<j)
 | .inr x,.inr y=>decide (x.cps.toList<y.cps.toList)
 | .inl _,.inr _=>true
 | .inr _,.inl _=>false
def Bb:List Key->List Key->Bool
 | [],[]=>false
 | [],_::_=>true
 | _::_,[]=>false
 | x::xs,y::ys=>if x=y then Bb xs ys else X3 x y
theorem Pf:∀x:Key,X3 x x=false
 | .inl i=>decide_eq_false (Int.lt_irrefl i)
 | .inr x=>decide_eq_false (ce _)
theorem Rq:∀x y z:Key,X3 x y=true->X3 y z=true->X3 x z=true
 | .inl i,.inl j,.inl k,h1,h2=>decide_eq_true (Int.lt_trans (of_decide_eq_true h1) (of_decide_eq_true h2))
 | .inr i,.inr j,.inr k,h1,h2=>decide_eq_true (ft (of_decide_eq_true h1) (of_decide_eq_true h2))
 | .inl i,.inl j,.inr k,_,_=>rfl
 | .inl i,.inr j,.inr k,_,_=>rfl
 | .inl i,.inr j,.inl k,_,h=>by cases h
 | .inr i,.inl j,_,h,_=>by cases h
 | .inr i,.inr j,.inl k,_,h=>by cases h
theorem Rt:∀x y:Key,X3 x y=false->X3 y x=false->x=y
 | .inl i,.inl j,h1,h2=>congrArg fQ (by have a:=of_decide_eq_false h1; have b:=of_decide_eq_false h2; omega)
 | .inr x,.inr y,h1,h2=>by
  have a:=of_decide_eq_false h1;have b:=of_decide_eq_false h2;have e:x.cps.toList=y.cps.toList:=List.le_antisymm (as:=x.cps.toList) (bs:=y.cps.toList) b a;obtain⟨u⟩:=x;obtain⟨v⟩:=y;exact congrArg dZ (congrArg Str.mk (Array.ext' e))
 | .inl i,.inr j,h,_=>by cases h
 | .inr i,.inl j,_,h=>by cases h
theorem Co:∀x:List Key,Bb x x=false
 | []=>rfl
 | x::xs=>by unfold Bb; rw [if_pos rfl]; exact Co xs
theorem CV:∀x y z:List Key,Bb x y=true->Bb y z=true->Bb x z=true
 | [],[],_,h,_=>by cases h
 | [],_::_,[],_,h=>by cases h
 | [],_::_,_::_,_,_=>rfl
 | _::_,[],_,h,_=>by cases h
 | _::_,_::_,[],_,h=>by cases h
 | x::xs,y::ys,z::zs,h1,h2=>by
  unfold Bb at h1 h2 ⊢
  by_cases e1:x=y
  ·subst e1
   rw [if_pos rfl] at h1
   by_cases e2:x=z
   ·subst e2
    rw [if_pos rfl] at h2 ⊢;exact CV xs ys zs h1 h2
   ·rw [if_neg e2] at h2 ⊢
    exact h2
  ·rw [if_neg e1] at h1
   by_cases e2:y=z
   ·subst e2
    rw [if_neg e1];exact h1
   ·rw [if_neg e2] at h2
    have h3:=Rq x y z h1 h2
    by_cases e3:x=z
    ·subst e3
     rw [Pf] at h3;cases h3
    ·rw [if_neg e3]
     exact h3
theorem DH:∀x y:List Key,Bb x y=false->Bb y x=false->x=y
 | [],[],_,_=>rfl
 | [],_::_,h,_=>by cases h
 | _::_,[],_,h=>by cases h
 | x::xs,y::ys,h1,h2=>by
  unfold Bb at h1 h2
  by_cases e:x=y
  ·subst e
   rw [if_pos rfl] at h1 h2;rw [DH xs ys h1 h2]
  ·rw [if_neg e] at h1
   rw [if_neg (λz=>e z.symm)] at h2;exact absurd (Rt x y h1 h2) e
def RW:KeyOrd:=⟨List Key,Bb,Co,CV,λa b c h=>by
 cases h1:Bb a b with
 | true=>exact .inl rfl
 | false =>
  cases h2:Bb b a with
  | true=>exact .inr (CV b a c h2 h)
  | false=>rw [← DH a b h1 h2]; exact .inr h,DH⟩
theorem Iw:∀x y:List Key,CB x y=true->E6 x y=Bb x y
 | [],[],_=>rfl
 | [],_::_,_=>rfl
 | _::_,[],_=>rfl
 | x::xs,y::ys,h=>by
  have h':(LS x y&&CB xs ys)=true:=h;rw [bz] at h';unfold E6 Bb
  by_cases e:x=y
  ·rw [if_pos e,if_pos e]; exact Iw xs ys h'.2
  ·rw [if_neg e,if_neg e]
   cases x with
   | inl i=>cases y with
    | inl j=>rfl
    | inr z=>cases h'.1
   | inr i=>cases y with
    | inl j=>cases h'.1
    | inr z=>rfl
section
variable {prog:Program}{w:World}{A:Around}{E:Value->Shared->Prop}{s:Shared}
theorem T8{b:Bool}{Q:Bool->Op->Prop}{nx ny:Nat}:∀(ns ms:List Key) (us ws:List Ev) (i:Nat),Vals (ns.map kOf) us->Vals (ms.map kOf) ws->CB ns ms=true->ns.length+ny=ms.length+nx->Q (E6 ns ms) s ->
  KatLex prog w A b (decide (nx<ny)) Q (us.zip ws) i s
 | [],[],us,ws,i,h1,h2,_,hl,q=>by
  cases h1;cases h2;refine kat_nil ?_;rw [show decide (nx<ny)=false from decide_eq_false (by simp only [dR] at hl; omega)];exact q
 | [],m::ms,us,ws,i,h1,h2,_,hl,q=>by
  cases h1;rw [List.zip_nil_left];refine kat_nil ?_;rw [show decide (nx<ny)=true from decide_eq_true (by simp only [dR,ZB] at hl; omega)];exact q
 | n::ns,[],us,ws,i,h1,h2,_,hl,q=>by
  cases h2;rw [List.zip_nil_right];refine kat_nil ?_;rw [show decide (nx<ny)=false from decide_eq_false (by simp only [dR,ZB] at hl; omega)];exact q
 | n::ns,m::ms,us,ws,i,h1,h2,hs,hl,q=>by
  have hs':(LS n m&&CB ns ms)=true:=hs;rw [bz] at hs';have q':Q (if n=m then E6 ns ms else aD n m) s:=q;cases h1 with
  | @cons _ u _ ur r1 t1 =>
   cases h2 with
   | @cons _ v _ vr r2 t2 =>
    rw [hV];have ih:n=m->KatLex prog w A b (decide (nx<ny)) Q (ur.zip vr) (i+1) s:=λe=>T8 ns ms ur vr (i+1) t1 t2 hs'.2 (by simp only [ZB] at hl; omega) (by rw [if_pos e] at q'; exact q');cases n with
    | inl x =>
     cases m with
     | inr y=>cases hs'.1
     | inl y =>
      obtain⟨tu,rfl⟩:=r1;obtain⟨tv,rfl⟩:=r2;refine kat_cons (wpAny_eqBool_int ?_)
      by_cases e:x=y
      ·rw [show (x==y)=true by simpa using e]
       exact kat_yes (ih (by rw [e]))
      ·rw [show (x==y)=false by simpa using e]
       refine kat_no ?_;rw [if_neg (λz=>e (jT z))] at q';cases hf:(b&&i==0) with
       | true=>exact oneLt_int q'
       | false=>exact kat_one _ _ (iy (show PySem.W.BoolBack Q (.bool (decide (x<y))) s from q'))
    | inr x =>
     cases m with
     | inl y=>cases hs'.1
     | inr y =>
      obtain⟨tu,rfl⟩:=r1;obtain⟨tv,rfl⟩:=r2;refine kat_cons (wpAny_eqBool_str ?_)
      by_cases e:x=y
      ·rw [show decide (x=y)=true by simpa using e]
       exact kat_yes (ih (by rw [e]))
      ·rw [show decide (x=y)=false by simpa using e]
       refine kat_no ?_;rw [if_neg (λz=>e (dU z))] at q';cases hf:(b&&i==0) with
       | true=>exact oneLt_str q'
       | false=>exact kat_one _ _ (PySem.P.lt_str (show PySem.W.BoolBack Q (.bool (decide (x.cps.toList<y.cps.toList))) s from q'))
structure Q4 (h:b9) (ks:List Ev) (keys:List (List Key)):Prop where
 at_:∀(i:Nat) (ns:List Key),keys[i]?=some ns->∃a o its n,ks[i]?=some (.ref a)/\h.get? a=some o/\o.cls=.type "tuple"/\o.data=.seq its n/\Vals (ns.map kOf) its.toList
 len:ks.length=keys.length
 same:∀x∈keys,∀y∈keys,CB x y=true
 ne:∀x∈keys,x≠[]
def Z7:Key->String
 | .inl _ => "int"
 | .inr _ => "str"
theorem firsts{h:b9}:∀(ks:List Ev) (keys:List (List Key)) (T:String),ks.length=keys.length->(∀(i:Nat) (ns:List Key),keys[i]?=some ns->∃a o its n,ks[i]?=some (.ref a)/\h.get? a=some o/\o.cls=.type "tuple"/\o.data=.seq its n/\Vals (ns.map kOf) its.toList) ->
  (∀x∈keys,∃k r,x=k::r/\Z7 k=T)->∃fs:List Ev,KatTups h ks fs/\fs.length=keys.length/\∀v∈fs,typeOf v=pure (.type T)
 | [],[],T,_,_,_=>⟨[],trivial,rfl,λv hv=>by cases hv⟩
 | [],_::_,T,hl,_,_=>by cases hl
 | _::_,[],T,hl,_,_=>by cases hl
 | k::ks,x::keys,T,hl,h1,h2=>by
  obtain⟨fs,g1,g2,g3⟩:=firsts ks keys T (by simpa using hl) (λi ns e=>by
   obtain⟨a,o,its,n,e1,r⟩:=h1 (i+1) ns (by simpa using e);exact⟨a,o,its,n,by simpa using e1,r⟩) λy hy=>h2 y (TM _ hy)
  obtain⟨a,o,its,n,e1,e2,e3,e4,e5⟩:=h1 0 x rfl;have e1:k=.ref a:=by simpa using e1
  subst e1;obtain⟨k,r,rfl,hk⟩:=h2 x On;rw [bm] at e5;cases hits:its.toList with
  | nil=>rw [hits] at e5; cases e5
  | cons f tl =>
   rw [hits] at e5;cases e5 with
   | cons r1 r2 =>
    refine⟨f::fs,KatTups.cons e2 e3 e4 (by rw [← Array.getElem?_toList,hits]; rfl) g1,by rw [ZB,ZB,g2],λv hv=>?_⟩
    rcases TW.mp hv with rfl | hv
    ·cases k with
     | inl i=>obtain⟨t,rfl⟩:=r1; subst hk; rfl
     | inr i=>obtain⟨t,rfl⟩:=r1; subst hk; rfl
    ·exact g3 v hv
theorem LM{ks:List Ev}{keys:List (List Key)}(K:Q4 s.heap ks keys)(h2:2<=ks.length){G:Array Nat->Op->Prop}(h:∀p,p.Perm (cE (cF ks.length))->So.Srt RW (λi=>keys.getD i []) p ks.length->G p s) :
  wpAny (model prog w) A (keyKind' ks.toArray) (λκ s'=>(kas_sort ks.length).kasWp (kas_ask prog w A κ ks) G s') (λ_ _=>False) s:=by
 obtain⟨x0,xr,hx⟩:∃x0 xr,keys=x0::xr:=by
  cases e:keys with
  | nil=>have:=K.len; rw [e] at this; simp only [dR] at this; omega
  | cons x r=>exact⟨x,r,rfl⟩
 have m0:x0∈keys:=by rw [hx]; exact On
 obtain⟨k0,r0,e0⟩:∃k r,x0=k::r:=by
  cases e:x0 with
  | nil=>exact absurd e (K.ne x0 m0)
  | cons k r=>exact⟨k,r,rfl⟩
 have hty:∀x∈keys,∃k r,x=k::r/\Z7 k=Z7 k0:=λx hm=>by
  cases e:x with
  | nil=>exact absurd e (K.ne x hm)
  | cons k r =>
   refine⟨k,r,rfl,?_⟩;have hsm:=K.same x hm x0 m0;rw [e,e0] at hsm;have hsm:(LS k k0&&CB r r0)=true:=hsm;rw [bz] at hsm;cases k with
   | inl i=>cases k0 with
    | inl j=>rfl
    | inr j=>cases hsm.1
   | inr i=>cases k0 with
    | inl j=>cases hsm.1
    | inr j=>rfl
 obtain⟨fs,g1,g2,g3⟩:=firsts ks keys (Z7 k0) K.len K.at_ hty;refine kat_kind g1 (by rw [g2,← K.len]; omega) (λv hv=>by rw [g3 v hv]; exact Looks.now) (by simp) ?_;refine So.sort_ok (O:=RW) (key:=λi=>keys.getD i []) (by omega) (λi j C hi hj hC=>?_) h;have hi':i<keys.length:=by rw [← K.len]; exact hi
 have hj':j<keys.length:=by rw [← K.len]; exact hj
 obtain⟨a,o,its,n,e1,e2,e3,e4,e5⟩:=K.at_ i keys[i] (Go hi');obtain⟨a',o',its',n',e1',e2',e3',e4',e5'⟩:=K.at_ j keys[j] (Go hj');unfold kas_ask;rw [show ks.getD i cR=.ref a by rw [bp,e1]; rfl,show ks.getD j cR=.ref a' by rw [bp,e1']; rfl];have hsm:=K.same _ (dO hi') _ (dO hj');refine kat_lt e2 e4 e2' e4' (T8 keys[i] keys[j] _ _ 0 e5 e5' hsm ?_ ?_)
 ·have l1:=e5.length
  have l2:=e5'.length;have l3:(keys[i].map kOf).length=keys[i].length:=No ..;have l4:(keys[j].map kOf).length=keys[j].length:=No ..;have l5:its.toList.length=its.size:=cn;have l6:its'.toList.length=its'.size:=cn;omega
 ·rw [Iw _ _ hsm]
  have g1:keys.getD i []=keys[i]:=by rw [bp,Go hi']; rfl
  have g2:keys.getD j []=keys[j]:=by rw [bp,Go hj']; rfl
  have hC':C (Bb (keys.getD i []) (keys.getD j [])) s:=hC;rw [g1,g2] at hC';exact hC'
theorem Gc{v:Ev}{kw:List (Str×Ev)}{Q:Ev->Op->Prop}(ha1:argsOk "sorted" ⟨[v],kw⟩)(ha2:∀x,argsOk "list.sort" ⟨[.ref x],kw⟩)
  (hc:wpAny (model prog w) A.in1 (collect v) (λvs s1=>vs.length<=sizeLine/\wpAny (model prog w) A.in1.in1 (dh.«list.sort» ⟨[.ref s1.heap.objs.size],kw⟩) (λfin s'=>fin=.done (.ret .none)/\Q (.ref s1.heap.objs.size) s') E { s1 with heap:=s1.heap.push (seqObj "list" vs.toArray 0) }) E s) :
  wpAny (model prog w) A (call (.builtin "sorted") [v] kw) Q E s:=by
 refine call_function_entry_kw kind_sorted plain_sorted entry_sorted ha1 ?_;unfold dh.«sorted»;refine Ch (m:=checkCount "sorted" 1 1 _) (Sc ?_);refine Ch (c7 hc (λvs s1 h=>?_) λ_ _ x=>x);refine Ch (iE ?_ h.1);have hoL:(s1.heap.push (seqObj "list" vs.toArray 0)).get? s1.heap.objs.size=some (seqObj "list" vs.toArray 0):=Uf _ rfl;refine Ch (cu (wpAny_call_entry_kw PyProof.Rows.slot_list_sort ⟨_,hoL,rfl⟩ PyProof.Rows.entry_list_sort (c7 h.2 (λfin s' hf=>?_) λ_ _ x=>x) (ha2 _)));exact⟨_,hf.1,Sc ⟨_,rfl,hf.2⟩⟩
def DZ(h:b9)(D:Db)(vs:List Ev):b9:=((h.update D (cj λ_=>(#[]:Array Ev))).push (seqObj "tuple" vs.toArray 0)).push (seqObj "list" #[] 0)
theorem HX{h:b9}{D:Db}{vs:List Ev}{b:Db}{o:Obj}(hb:b≠D)(e:h.get? b=some o):(DZ h D vs).get? b=some o :=
 FM _ (FM _ ((cB _ _ (ci hb)).trans e))
theorem Ja{h:b9}{D:Db}{vs:List Ev}{n:Nat}(ho:h.get? D=some (seqObj "list" vs.toArray n)):∃e1,(DZ h D vs).get? D=some (seqObj "list" #[] e1)/\(h.update D (cj λ_=>(#[]:Array Ev))).get? D=some (seqObj "list" #[] e1):=by
 obtain⟨e1,ho1⟩:∃e1,(h.update D (cj λ_=>(#[]:Array Ev))).get? D=some (seqObj "list" #[] e1):=⟨_,fX ho λ_=>#[]⟩;exact⟨e1,FM _ (FM _ ho1),ho1⟩
theorem OC{D:Db}{vs:List Ev}{n:Nat}{P:PySem.Fin->Op->Prop}{G:Array Nat->Prop}(ho:s.heap.get? D=some (seqObj "list" vs.toArray n))(h64:vs.length<64)
  (hk:2<=vs.length->wpAny (model prog w) A (keyKind' vs.toArray) (λκ s'=>(kas_sort vs.length).kasWp (kas_ask prog w A κ vs) (λp s''=>s''={ s with heap:=DZ s.heap D vs }/\G p) s') (λ_ _=>False) { s with heap:=DZ s.heap D vs })
  (h1:vs.length<2->G (cE (cF vs.length))) (hfin:∀(p:Array Nat) (h':b9) (c:Nat),p.size=vs.length->G p->(∀b o,b≠D->s.heap.get? b=some o->h'.get? b=some o)->h'.get? D=some (seqObj "list" (cE (p.toList.map λi=>vs.getD i cR)) c)->P (.done (.ret .none)) { s with heap:=h' }) :
  wpAny (model prog w) A (dh.«list.sort» ⟨[.ref D],[]⟩) P E s:=by
 obtain⟨e1,ho6,ho1⟩:=Ja ho
 have fin:∀(p:Array Nat),p.size=vs.length->G p->P (.done (.ret .none)) { s with heap:=(DZ s.heap D vs).update D (cj λ_=>cE (p.toList.map λi=>vs.getD i cR)) }:=λp hp hg=>by
  obtain⟨c2,hc2⟩:∃c2,((DZ s.heap D vs).update D (cj λ_=>cE (p.toList.map λi=>vs.getD i cR))).get? D=some (seqObj "list" (cE (p.toList.map λi=>vs.getD i cR)) c2):=⟨_,fX ho6 λ_=>cE (p.toList.map λi=>vs.getD i cR)⟩;exact hfin p _ c2 hp hg (λb o hb e=>(cB _ _ (ci hb)).trans (HX hb e)) hc2
 rw [list_sort_plain];refine Ch (gn ho rfl ?_);refine Ch (e9 ho rfl ?_ (by rw [UF,cX]; omega) (bn _));refine Ch (g8 ho1 rfl ?_);refine Ch (g7 ?_ (by show vs.length<=_; rw [cX]; omega));refine Ch (iE ?_ (bn _));refine cu ?_;show wpAny (model prog w) A _ P E { s with heap:=DZ s.heap D vs }
 dsimp only
 by_cases h2:vs.length<2
 ·have h2':vs.toArray.size<2:=by rw [UF]; exact h2
  rw [if_pos h2',if_pos h2'];refine Ch (Sc ?_);rw [StateT.run_pure];refine Ch (Sc ?_)
  dsimp only
  refine Ch (g8 ho6 rfl ?_);have hsz:(cE (cF vs.length)).size=vs.length:=by simp
  have hout:(arrOf (SortSt.mk' general' (vs.toArray.zip vs.toArray) #[] 7 none)).map (·.2)=cE ((cE (cF vs.length)).toList.map λi=>vs.getD i cR):=by
   refine kat_snds rfl ?_;have e:=kas_range (vs.toArray.zip vs.toArray);rw [show (vs.toArray.zip vs.toArray).size=vs.length by simp] at e;exact e.symm
  rw [hout];refine Ch (e9 ho6 rfl ?_ (bn _) (by rw [UF,No,cn,hsz,cX]; omega));simp only [bne_self_eq_false,c_,if_false];exact Sc (fin _ hsz (h1 h2))
 ·have h2':¬vs.toArray.size<2:=by rw [UF]; exact h2
  rw [if_neg h2',if_neg h2'];refine Ch (c7 (hk (by omega)) (λκ s0 hk=>?_) λ_ _ x=>x.elim)
  refine Ch (c7 (kat_run (Q:=λst' s'=>∃p:Array Nat,p.size=vs.length/\arrOf st'=p.map (kas_item (vs.toArray.zip vs.toArray))/\failedOf st'=none/\s'={ s with heap:=DZ s.heap D vs }/\G p)
   rfl (by omega) h64 (λp' st' s' a1 a2 a3 a4=>⟨p',a1,a2,a3,a4⟩) hk) ?_ λ_ _ e=>e)
  rintro ⟨⟨⟩,st'⟩ s' ⟨p,hp,har,hf,rfl,hg⟩
  dsimp only
  have hout:=kat_snds rfl har;have hsz:(cE (p.toList.map λi=>vs.getD i cR)).size=vs.length:=by rw [UF,No,cn,hp]
  rw [hout];refine Ch (g8 ho6 rfl ?_);refine Ch (e9 ho6 rfl ?_ (bn _) (cG (iZ hsz) (by rw [cX]; omega)));rw [hf];simp only [bne_self_eq_false,c_,if_false];exact Sc (fin p hp hg)
theorem Ru{D:Db}{f:Ev}{vs:List Ev}{n:Nat}{P:PySem.Fin->Op->Prop}(ho:s.heap.get? D=some (seqObj "list" vs.toArray n))(h64:vs.length<64)(J:List Ev->Op->Prop)(kS:Db)(hkS:kS=s.heap.objs.size+1)
  (h0:∀e1,(DZ s.heap D vs).get? D=some (seqObj "list" #[] e1)->J [] { s with heap:=DZ s.heap D vs })
  (hstep:∀(ks:List Ev) (s':Op) (e:Nat) (v:Ev),J ks s'->s'.heap.get? kS=some (seqObj "list" ks.toArray e)->vs[ks.length]?=some v->wpAny (model prog w) A (call f [v]) (λk s''=>s''.heap.get? kS=some (seqObj "list" ks.toArray e)/\J (ks++[k]) { s'' with heap:=s''.heap.update kS (cj (·.push k)) }) (λ_ _=>False) s')
  (hend:∀(e1:Nat),(DZ s.heap D vs).get? D=some (seqObj "list" #[] e1)->∀(ks:List Ev) (s':Op),J ks s'->ks.length=vs.length->s'.heap.get? D=some (seqObj "list" #[] e1)/\∃G:Array Nat->Prop,
   (2<=vs.length->wpAny (model prog w) A (keyKind' ks.toArray) (λκ s2=>(kas_sort vs.length).kasWp (kas_ask prog w A κ ks) (λp s''=>s''=s'/\G p) s2) (λ_ _=>False) s')/\(vs.length<2->G (cE (cF vs.length))) /\
   ∀(p:Array Nat) (h':b9) (c:Nat),p.size=vs.length->G p->(∀b o,b≠D->b≠kS->s'.heap.get? b=some o->h'.get? b=some o)->h'.get? D=some (seqObj "list" (cE (p.toList.map λi=>vs.getD i cR)) c)->(∃o,h'.get? kS=some o)->P (.done (.ret .none)) { s' with heap:=h' }) :
  wpAny (model prog w) A (ksk_tree D f false) P E s:=by
 obtain⟨e1,ho6,ho1⟩:=Ja ho;have hsz1:((s.heap.update D (cj λ_=>(#[]:Array Ev))).push (seqObj "tuple" vs.toArray 0)).objs.size=kS:=by rw [size_push',Heap.size_update,hkS]
 have hD:D<s.heap.objs.size:=XV ho;have hDk:D≠kS:=by rw [hkS]; exact b8 (dn hD)
 have hk0:(DZ s.heap D vs).get? kS=some (seqObj "list" #[] 0):=by rw [← hsz1]; exact Uf _ rfl
 unfold ksk_tree;refine Ch (gn ho rfl ?_);refine Ch (e9 ho rfl ?_ (by rw [UF,cX]; omega) (bn _));refine Ch (g8 ho1 rfl ?_);refine Ch (g7 ?_ (by show vs.length<=_; rw [cX]; omega));refine Ch (iE ?_ (bn _));refine cu ?_;show wpAny (model prog w) A (ksk_rest D f false vs.toArray e1 (.ref ((s.heap.update D (cj λ_=>(#[]:Array Ev))).push (seqObj "tuple" vs.toArray 0)).objs.size)) P E { s with heap:=DZ s.heap D vs };rw [hsz1];unfold ksk_rest;refine Ch (fk ?_)
 first
  | rw [hZ]
  | (rw [← Array.forIn_toList]; simp only [gw])
  | rw [← Array.forIn_toList]
 refine Ch (ksk_fold (I:=λi s'=>∃ks e,fG ks=i/\J ks s'/\s'.heap.get? kS=some (seqObj "list" ks.toArray e)) vs 0 _ ⟨[],0,rfl,h0 e1 ho6,hk0⟩ (λj x s' hx hI=>?_) λs' hI=>?_)
 ·obtain⟨ks,e,hl,hJ,hk⟩:=hI
  have hj:j<vs.length:=(bh.mp hx).1;have hl:ks.length=j:=by omega
  refine Ch (gQ (c7 (hstep ks s' e x hJ hk (by rw [hl]; exact hx)) (λk s'' hk2=>?_) λ_ _ hF=>hF.elim));have ea:(cE ks).push k=cE (ks++[k]):=by simp
  obtain⟨c2,hc2⟩:∃c2,(s''.heap.update kS (cj (·.push k))).get? kS=some (seqObj "list" (cE (ks++[k])) c2):=⟨_,by rw [← ea]; exact fX hk2.1 (·.push k)⟩
  try dsimp only
  refine Ch (e9 hk2.1 rfl ?_ (by rw [UF,cX]; omega) (cG (iZ (Array.size_push ..)) (by rw [UF,cX]; omega)));exact Sc ⟨rfl,ks++[k],c2,by rw [bi,cA]; omega,hk2.2,hc2⟩
 ·obtain⟨ks,e,hl,hJ,hk⟩:=hI
  have hl:ks.length=vs.length:=by omega
  obtain⟨hD',G,g2,g1,g3⟩:=hend e1 ho6 ks s' hJ hl
  try dsimp only
  refine Ch (gn hk rfl ?_)
  have tail:∀(st:SortSt) (p:Array Nat),p.size=vs.length->G p->(arrOf st).map (·.2)=cE (p.toList.map λi=>vs.getD i cR)->failedOf st=none->wpAny (model prog w) A (ksk_tail D false e1 (.ref kS) st) P E s':=λst p hp hg hout hf=>by
   have hsz:(cE (p.toList.map λi=>vs.getD i cR)).size=vs.length:=by rw [UF,No,cn,hp]
   obtain⟨ck,hck⟩:∃ck,(s'.heap.update kS (cj λ_=>(#[]:Array Ev))).get? kS=some (seqObj "list" #[] ck):=⟨_,fX hk λ_=>#[]⟩;have hD2:(s'.heap.update kS (cj λ_=>(#[]:Array Ev))).get? D=some (seqObj "list" #[] e1):=(cB _ _ (ci hDk)).trans hD';obtain⟨c2,hc2⟩:∃c2,((s'.heap.update kS (cj λ_=>(#[]:Array Ev))).update D (cj λ_=>cE (p.toList.map λi=>vs.getD i cR))).get? D=some (seqObj "list" (cE (p.toList.map λi=>vs.getD i cR)) c2):=⟨_,fX hD2 λ_=>cE (p.toList.map λi=>vs.getD i cR)⟩;unfold ksk_tail
   try dsimp only
   rw [hout];refine Ch (e9 hk rfl ?_ (by rw [UF,cX]; omega) (bn _));refine Ch (fY ?_);refine Ch (g8 hD2 rfl ?_);refine Ch (e9 hD2 rfl ?_ (bn _) (cG (iZ hsz) (by rw [cX]; omega)));rw [hf];simp only [bne_self_eq_false,c_,if_false];refine Sc (g3 p _ c2 hp hg (λb o hb1 hb2 e=>(cB _ _ (ci hb1)).trans ((cB _ _ (ci hb2)).trans e)) hc2 ⟨_,(cB _ _ hDk).trans hck⟩)
  unfold ksk_end
  try dsimp only
  simp only [c_,if_false]
  by_cases h2:vs.length<2
  ·have h2':vs.toArray.size<2:=by rw [UF]; exact h2
   rw [if_pos h2',if_pos h2'];refine Ch (Sc ?_);rw [StateT.run_pure];refine Ch (Sc ?_)
   try dsimp only
   refine tail _ (cE (cF vs.length)) (by simp) (g1 h2) (kat_snds hl ?_) rfl;have er:=kas_range (ks.toArray.zip vs.toArray);rw [show (ks.toArray.zip vs.toArray).size=vs.length by simp [hl]] at er;exact er.symm
  ·have h2':¬vs.toArray.size<2:=by rw [UF]; exact h2
   rw [if_neg h2',if_neg h2'];refine Ch (c7 (g2 (by omega)) (λκ s0 hk=>?_) λ_ _ x=>x.elim)
   refine Ch (c7 (kat_run (Q:=λst' s2=>∃p:Array Nat,p.size=vs.length/\arrOf st'=p.map (kas_item (ks.toArray.zip vs.toArray))/\failedOf st'=none/\s2=s'/\G p)
    hl (by omega) h64 (λp' st' s2 a1 a2 a3 a4=>⟨p',a1,a2,a3,a4⟩) hk) ?_ λ_ _ e=>e)
   rintro ⟨⟨⟩,st'⟩ s2 ⟨p,hp,har,hf,rfl,hg⟩
   try dsimp only
   exact tail st' p hp hg (kat_snds hl har) hf
end
section
variable {X:Cx}{pins:List (Addr×Obj)}{σ:L2.St}{H:Hp}{s:Shared}{h':Heap}
structure Sa (X:Cx) (pins:List (Db×Obj)) (D:Db):Prop where
 new:X.s₀.heap.objs.size<=D
 loc:D≠X.env.locals
 cell:∀x c,X.env.cells.lookup x=some c->c≠D
 pin:∀p∈X.pn++pins,p.1≠D
 fs:D∉X.fs
theorem Inv.mine(I:Inv X pins σ H s){D:Db}(h:s.heap.objs.size<=D):Sa X pins D:=by
 refine⟨cG I.sz h,λz=>?_,λx c e z=>?_,λp hp z=>?_,I.nofs h⟩
 ·have:=I.lt
  rw [← z] at this;exact absurd this (gC.mpr h)
 ·obtain⟨v,o,ho,_⟩:=I.cell x c e
  have:=XV ho
  rw [z] at this;exact absurd this (gC.mpr h)
 ·obtain⟨e,_⟩:=I.pin p hp
  have:=XV e
  rw [z] at this;exact absurd this (gC.mpr h)
structure KeysAt (K:Frag) (H:Hp) (vs:List V) (keys:List (List Key)):Prop where
 len:vs.length=keys.length
 at_:∀(i:Nat) (ns:List Key),keys[i]?=some ns->∃a,vs[i]?=some (.ref a)/\SqT K H a (ns.map kOf)
 same:∀x∈keys,∀y∈keys,CB x y=true
 ne:∀x∈keys,x≠[]
def Lz(keys:List (List Key))(ix:List Nat):Prop:=ix.Perm (cF keys.length)/\∀i j,i<=j->j<keys.length->Bb (keys.getD (ix.getD j 0) []) (keys.getD (ix.getD i 0) [])=false
theorem KeysAt.tups{vs:List V}{us:List Ev}{keys:List (List Key)}(I:Inv X pins σ H s)(r:Vals vs us)(k:KeysAt X.K H vs keys){h':b9}(hk:∀b o,s.heap.get? b=some o->h'.get? b=some o):Q4 h' us keys:=by
 refine⟨λi ns e=>?_,r.length.symm.trans k.len,k.same,k.ne⟩;obtain⟨a,e1,h1⟩:=k.at_ i ns e;obtain⟨u,e2,r2⟩:=r.get e1;cases r2;obtain⟨its,r3,⟨o,ho,hc,n,hd⟩,_⟩:=I.tuple h1;exact⟨a,o,its.toArray,n,e2,hk a o ho,hc,hd,by rw [gw]; exact r3⟩
theorem HU:∀{vs:List V} {us:List Ev},Vals vs us->∀i:Nat,RelV (vs.getD i .non) (us.getD i cR)
 | _,_,.nil,i=>by simp [RelV]
 | _,_,.cons r t,0=>by simpa using r
 | _,_,.cons r t,i+1=>by simpa using HU t i
theorem JN{f:Nat->V}{g:Nat->Ev}(h:∀i,RelV (f i) (g i)):∀ix:List Nat,Vals (ix.map f) (ix.map g)
 | []=>.nil
 | i::ix=>.cons (h i) (JN h ix)
theorem getD_list(p:Array Nat)(i:Nat):p.getD i 0=p.toList.getD i 0:=by simp
theorem Tl{keys:List (List Key)}{n:Nat}{p:Array Nat}(hn:keys.length=n)(h1:p.Perm (cE (cF n)))(h2:So.Srt RW (λi=>keys.getD i []) p n):Lz keys p.toList:=by
 subst hn;refine⟨Array.perm_iff_toList_perm.mp h1,λi j hij hj=>?_⟩;have h:=h2 i j hij hj;unfold So.KN at h;rw [getD_list,getD_list] at h;exact h
theorem RH{A':cw}{E':Ev->Op->Prop}{vs:List V}{us:List Ev}{keys:List (List Key)}{Q:VK}(I:Inv X pins σ H s)(r:Vals vs us)(h64:vs.length<64)(k:KeysAt X.K H vs keys)
  (q:∀(ix:List Nat) (l:Db),Lz keys ix->H l=none->Q (.ref l) (BC H l (.lst (ix.map λi=>vs.getD i .non)))) :
  wpAny (model X.prog X.w) A' (dh.«list.sort» ⟨[.ref s.heap.objs.size],[]⟩) (λfin s'=>fin=.done (.ret .none)/\EP X pins σ Q (.ref s.heap.objs.size) s') E' { s with heap:=s.heap.push (seqObj "list" us.toArray 0) }:=by
 have hl:=r.length;have hkl:keys.length=us.length:=k.len.symm.trans hl;refine OC (G:=λp=>p.Perm (cE (cF us.length))/\So.Srt RW (λi=>keys.getD i []) p us.length) (n:=0) (Uf _ rfl) (by omega) (λh2=>?_) (λh1=>⟨ir _,λi j hij hj=>?_⟩) (λp h' c hp hg hold hD=>⟨rfl,?_⟩)
 ·refine LM (keys:=keys) (k.tups I r λb o e=>?_) h2 (λp a b=>⟨rfl,a,b⟩)
  exact HX (b8 (XV e)) (FM _ e)
 ·have:i=j:=by omega
  subst this;exact dY _
 ·have hf:H s.heap.objs.size=none:=I.fresh
  have hix:(p.toList.map λi=>vs.getD i .non).length=us.length:=by rw [No,cn,hp]
  refine⟨.ref s.heap.objs.size,BC H s.heap.objs.size (.lst (p.toList.map λi=>vs.getD i .non)),I.laid (t':=s.toks) (λb o e=>hold b o (b8 (XV e)) (FM _ e)) (Rs _) ⟨by rw [hix,← hl,cX]; omega,_,c,JN (HU r) p.toList,hD⟩,rfl,q _ _ (Tl hkl hg.1 hg.2) hf⟩
theorem Oc{prog:cL}{w:cQ}{A:cw}{E:Ev->Op->Prop}{s:Op}{l:Db}{vs:List Ev}{Q:List Ev->Op->Prop}(hl:IsTup s.heap l vs.toArray)
  (h:Q vs { s with heap:=(s.heap.push (seqObj "list" #[] 0)).update s.heap.objs.size (cj (·++vs.toArray)) }) (hsz:vs.length<=sizeLine) :
  wpAny (model prog w) A (collect (.ref l)) Q E s:=by
 obtain⟨o,ho,hc,n,hd⟩:=id hl;unfold collect;refine Ch (wpAny_runValue (dE entry_proto_collect' ?_));show wpAny _ _ (do again (.builtin "list.__iadd__" ⟨[← newList [],.ref l],[]⟩)) _ _ s;refine Ch (iE (Sc ⟨Code.quiet_builtin _ (by decide +kernel),dE entry_list_iadd' ?_⟩));show wpAny _ _ (en (.ref s.heap.objs.size) (.ref l) (.ref s.heap.objs.size)) _ _ { s with heap:=s.heap.push (seqObj "list" #[] 0) };unfold en;have ho':(s.heap.push (seqObj "list" #[] 0)).get? l=some o:=FM _ ho;refine Ch (eh (T := "tuple") ⟨o,ho',hc⟩ ?_);have ht:(f_ "tuple"==f_ "tuple")=true:=by rfl
 rw [if_pos (by rw [ht]; simp)];refine Ch (gn ho' hd ?_);refine Ch (gn (xs:=#[]) (n:=0) (Uf _ rfl) rfl ?_);rw [if_neg (by simp)];refine Ch (e9 (xs:=#[]) (n:=0) (Uf _ rfl) rfl ?_ (bn _) (by show (#[]++vs.toArray).size<=sizeLine+1; simp only [Array.size_append,UF,dR]; omega));refine Sc ?_
 show wpAny (model prog w) A (do
   let o ← load s.heap.objs.size
   match o.data with
   | .seq xs _=>pure xs.toList
   | _=>unsupported "internal:collect") Q E { s with heap:=(s.heap.push (seqObj "list" #[] 0)).update s.heap.objs.size (cj (·++vs.toArray)) }
 refine Ch (wpAny_load (fX (Uf _ rfl) _) ?_);show wpAny _ _ (pure ((#[]:Array Ev)++vs.toArray).toList) Q E _;rw [show ((#[]:Array Ev)++vs.toArray).toList=vs by simp];exact Sc h
theorem Of{h:b9}{g:Array Ev->Array Ev}{b:Db}{o:Obj}(e:h.get? b=some o):((h.push (seqObj "list" #[] 0)).update h.objs.size (cj g)).get? b=some o :=
 (cB _ _ (ci (b8 (XV e)))).trans (FM _ e)
theorem Oe{κ:Bool}{A':cw}{E':Ev->Op->Prop}{p:Db}{vs:List V}{Q:List Ev->Op->Prop}(I:Inv X pins σ H s)(h:SqK κ X.K H p vs)(q:∀us s1,Vals vs us->vs.length<=sizeLine->Inv X pins σ H s1->Q us s1) :
  wpAny (model X.prog X.w) A' (collect (.ref p)) Q E' s:=by
 cases κ with
 | true =>
  obtain⟨its,r,pl,hz⟩:=I.list h;exact collect_list pl.isList (q its _ r hz (I.kept (t':=s.toks) λb o e=>Of e)) (by rw [← r.length]; exact hz)
 | false =>
  obtain⟨its,r,pl,hz⟩:=I.tuple h;exact Oc pl (q its _ r hz (I.kept (t':=s.toks) λb o e=>Of e)) (by rw [← r.length]; exact hz)
def TF(K:Frag):List V->Hp->VK->Prop:=λxs H Q=>∃(κ:Bool) (p:Db) (vs:List V) (keys:List (List Key)),xs=[.ref p]/\SqK κ K H p vs/\vs.length<64/\KeysAt K H vs keys /\
 ∀(ix:List Nat) (l:Db),Lz keys ix->H l=none->Q (.ref l) (BC H l (.lst (ix.map λi=>vs.getD i .non)))
theorem Ki:C7 X (.builtin "sorted") (TF X.K):=by
 intro pins s σ H xs us Q I r h;obtain⟨κ,p,vs,keys,rfl,hq,h64,hk,q⟩:=h;obtain⟨u,rfl,rx⟩:=vals1 r;cases rx;refine Gc (kw:=[]) (args_sorted1 _) (λx=>args_list_sort _) (Oe I hq λus s1 r1 hz I1=>⟨by rw [← r1.length]; exact hz,?_⟩);exact RH I1 r1 h64 hk q
end
end L2
namespace L2
open PySem PySem.Spec PyProof.Rows
def Fh(H:Hp)(L:List Db)(f:Db->Obj):Hp:=λb=>if b∈L then (H b).map (HO.frz (f b)) else H b
theorem DJ{H:Hp}{L:List Db}{f:Db->Obj}{b:Db}(h:b∉L):Fh H L f b=H b:=by unfold Fh; rw [if_neg h]
theorem Ml{H:Hp}{L:List Db}{f:Db->Obj}{b:Db}{o:HO}(h:b∈L)(e:H b=some o):Fh H L f b=some (.frz (f b) o):=by unfold Fh; rw [if_pos h,e]; rfl
section
variable {X:Cx}{pins:List (Addr×Obj)}{σ:L2.St}{H:Hp}{s:Shared}
theorem Inv.frz{L:List Db}(I:Inv X pins σ H s)(hL:∀b∈L,∃kvs,H b=some (.dK kvs)):∃f,Inv X pins σ (Fh H L f) s:=by
 have keep:∀(f:Db->Obj) b o,H b=some o->(∀kvs,o≠.dK kvs)->Fh H L f b=some o:=λf b o e n=>by
  rw [DJ (λhm=>by obtain⟨kvs,e2⟩:=hL b hm; rw [e] at e2; cases e2; exact n _ rfl)];exact e
 refine⟨λb=>(s.heap.get? b).getD { cls:=.none,data:=.fields #[] },?_⟩;refine I.step (g':=s.gens) (d':=s.drawn) (t':=s.toks) (h':=s.heap) (ch:=[]) (λ_ z=>nomatch z) (λ_ _ _ _ _ e _=>e) (λb o _ _ _ e _=>⟨o.slots,e⟩) (λb o _ e n=>?_) (λb o _ e=>⟨o,e⟩) (λb xs e=>keep _ b _ e λ_ z=>by cases z) (λb o u e=>keep _ b _ e λ_ z=>by cases z) (λb ps e=>⟨#[],by rw [keep _ b _ e λ_ z=>by cases z]; simp⟩) (λ_ h=>h) (λb u e=>?_) I.bare
 ·unfold Fh
  split
  ·rw [n]; rfl
  ·exact n
 ·by_cases hb:b∈L
  ·obtain⟨kvs,e2⟩:=hL b hb
   rw [Ml hb e2] at e;cases e;obtain⟨z,y,vs,r,ob,es,ep,e3,c⟩:=(show ObjOk X.prog X.w H s.heap b (.dK kvs) from I.hok b _ e2);exact⟨by rw [e3]; rfl,z,y,vs,r,ob,es,ep,e3,c⟩
  ·rw [DJ hb] at e
   exact(I.hok b u e).stay (λ_ _ _ q=>q) (λc q=>keep _ c _ q λ_ z=>by cases z) λc xs q=>keep _ c _ q λ_ z=>by cases z
def aV(t:TE):TE:=λσ H Q=>t σ H λv H1=>∃L:List Db,(∀b∈L,∃kvs,H1 b=some (.dK kvs))/\∀f:Db->Obj,Q v (Fh H1 L f)
theorem Te{e:cC}{t:TE}(h:PE X e t):PE X e (aV t):=by
 intro pins s σ H Q I hq;refine thn (h pins s σ H _ I hq) λu s1 ⟨v,H1,I1,r,L,hL,q⟩=>?_;obtain⟨f,I2⟩:=I1.frz hL;exact⟨v,_,I2,r,q f⟩
end
end L2
namespace Nt
open PySem PySem.Spec PyProof.Rows L2 Dp
def DF(ts:List Ao)(p:Str):List (Str×Int):=ts.flatMap λt=>(if t.a=p then [(t.b,t.len)] else [])++(if t.b=p then [(t.a,t.len)] else [])
def Rj(ts:List Ao)(p:Str):D:=.fdi ((DF ts p).map λx=>.inr x.1) ((DF ts p).map λx=>.int x.2)
def ED(N:Net):D:=.dic (N.ps.map .inr) (N.ps.map (Rj N.ts))
def Kt:W2:=λss n P=>∃N:Net,ss=[.sh (enc N)]/\N.Ok/\N.ps.length<=1000/\N.ts.length<=1000/\P (ED N) n
def kv(x:Str×Int):Key×V:=(.inr x.1,.int x.2)
structure Stp (H:Hp) (d:Db) (as:List (Str×Db)) (tb:Str->List (Key×V)) (H':Hp):Prop where
 old:∀b o,H b=some o->H' b=some o
 new:H d=none
 top:H' d=some (.dK (as.map λx=>(.inr x.1,.ref x.2)))
 inn:∀x∈as,H x.2=none/\x.2≠d/\H' x.2=some (.dK (tb x.1))
 ads:(as.map (·.2)).Nodup
 nms:(as.map (·.1)).Nodup
theorem Ik{as:List (Str×Db)}(hn:(as.map (·.1)).Nodup){p:Str}{a:Db}(h:(p,a)∈as):Bs (as.map λx=>((.inr x.1:Key),V.ref x.2)) (.inr p)=some (.ref a):=by
 induction as with
 | nil=>cases h
 | cons x r ih =>
  rw [bm,cD] at hn
  rcases TW.mp h with e | h
  ·rw [← e]
   exact Dz rfl
  ·have hne:(dZ x.1:Key)≠.inr p:=λe=>hn.1 (by rw [dU e]; exact Tk.mpr ⟨_,h,rfl⟩)
   rw [bm];exact(D1 hne).trans (ih hn.2 h)
theorem PJ{as:List (Str×Db)}{p:Str}{v:V}(h:p∉as.map (·.1)):putK (as.map λx=>((.inr x.1:Key),V.ref x.2)) (.inr p) v=(as.map λx=>((.inr x.1:Key),V.ref x.2))++[(.inr p,v)]:=by
 unfold putK;rw [if_neg];rw [eB];rintro ⟨y,hy,e⟩;obtain⟨x,hx,rfl⟩:=Tk.mp hy;exact h (Tk.mpr ⟨x,hx,dU (of_decide_eq_true e)⟩)
theorem QG{xs:List (Str×Int)}{p:Str}{l:Int}(h:p∉xs.map (·.1)):putK (xs.map kv) (.inr p) (.int l)=(xs++[(p,l)]).map kv:=by
 unfold putK;rw [if_neg,cN]
 ·rfl
 ·rw [eB]
  rintro ⟨y,hy,e⟩;obtain⟨x,hx,rfl⟩:=Tk.mp hy;exact h (Tk.mpr ⟨x,hx,dU (of_decide_eq_true e)⟩)
theorem Stp.more{H H':Hp}{d q:Db}{as:List (Str×Db)}{tb:Str->List (Key×V)}{p:Str}(s:Stp H d as tb H')(hq:H' q=none)(hp:p∉as.map (·.1))(ht:tb p=[]) :
  Stp H d (as++[(p,q)]) tb (BC (BC H' q (.dK [])) d (.dK (putK (as.map λx=>((.inr x.1:Key),V.ref x.2)) (.inr p) (.ref q)))):=by
 have nq:q≠d:=λe=>by rw [e,s.top] at hq; cases hq
 have hHq:H q=none:=by
  cases c:H q with
  | none=>rfl
  | some o=>rw [s.old q o c] at hq; cases hq
 refine⟨λb o e=>?_,s.new,?_,λx hx=>?_,?_,?_⟩
 ·have n1:b≠d:=λz=>by rw [z,s.new] at e; cases e
  have n2:b≠q:=λz=>by rw [z,hHq] at e; cases e
  rw [AU n1,AU n2];exact s.old b o e
 ·rw [Ai,PJ hp,cN]; rfl
 ·rcases b_.mp hx with hx | hx
  ·obtain⟨h1,h2,h3⟩:=s.inn x hx
   have n2:x.2≠q:=λz=>by rw [z,hq] at h3; cases h3
   exact⟨h1,h2,by rw [AU h2,AU n2]; exact h3⟩
  ·rw [Re.mp hx]
   exact⟨hHq,nq,by rw [AU nq,Ai,ht]⟩
 ·rw [cN,dX]
  refine⟨s.ads,cD.mpr ⟨(λh=>by cases h),cr⟩,λa ha b hb e=>?_⟩;obtain⟨x,hx,rfl⟩:=Tk.mp ha;have hb:b=q:=Re.mp hb;obtain⟨h1,h2,h3⟩:=s.inn x hx;rw [e,hb,hq] at h3;cases h3
 ·rw [cN,dX]
  refine⟨s.nms,cD.mpr ⟨(λh=>by cases h),cr⟩,λa ha b hb e=>?_⟩;have hb:b=p:=Re.mp hb;exact hp (by rw [← hb,← e]; exact ha)
theorem Rh{as:List (Str×Db)}(hn:(as.map (·.1)).Nodup){p:Str}{a b:Db}(h1:(p,a)∈as)(h2:(p,b)∈as):a=b:=by
 have:=(Ik hn h1).symm.trans (Ik hn h2)
 exact V.ref.inj (bg this)
theorem Rg{as:List (Str×Db)}(hn:(as.map (·.2)).Nodup){p q:Str}{a:Db}(h1:(p,a)∈as)(h2:(q,a)∈as):p=q:=by
 induction as with
 | nil=>cases h1
 | cons x r ih =>
  rw [bm,cD] at hn
  rcases TW.mp h1 with e1 | g1
  ·rcases TW.mp h2 with e2 | g2
   ·rw [← e1] at e2; exact(Prod.mk.inj e2).1.symm
   ·exact absurd (Tk.mpr ⟨_,g2,by rw [← e1]⟩) hn.1
  ·rcases TW.mp h2 with e2 | g2
   ·exact absurd (Tk.mpr ⟨_,g1,by rw [← e2]⟩) hn.1
   ·exact ih hn.2 g1 g2
theorem Stp.put{H H':Hp}{d a:Db}{as:List (Str×Db)}{tb tb2:Str->List (Key×V)}{p:Str}{kvs:List (Key×V)}(s:Stp H d as tb H')(ha:(p,a)∈as)(h1:tb2 p=kvs)(h2:∀q,q≠p->tb2 q=tb q) :
  Stp H d as tb2 (BC H' a (.dK kvs)):=by
 obtain⟨i1,i2,i3⟩:=s.inn _ ha;refine⟨λb o e=>?_,s.new,?_,λx hx=>?_,s.ads,s.nms⟩
 ·have n1:b≠a:=λz=>by rw [z] at e; rw [show H a=none from i1] at e; cases e
  rw [AU n1];exact s.old b o e
 ·rw [AU (ci i2)]
  exact s.top
 ·obtain⟨g1,g2,g3⟩:=s.inn x hx
  refine⟨g1,g2,?_⟩
  by_cases e:x.2=a
  ·have:x.1=p:=Rg s.ads (show (x.1,a)∈as by rw [← e]; exact hx) ha
   rw [e,Ai,this,h1]
  ·have:x.1≠p:=λz=>e (Rh s.nms (show (p,x.2)∈as by rw [← z]; exact hx) ha)
   rw [AU e,h2 _ this];exact g3
theorem N8(ts:List Ao)(t:Ao)(p:Str):DF (ts++[t]) p=DF ts p++((if t.a=p then [(t.b,t.len)] else [])++(if t.b=p then [(t.a,t.len)] else [])):=by
 unfold DF;rw [List.flatMap_append,fB,List.flatMap_nil,cH]
theorem Mc{ts:List Ao}{p q:Str}(h:q∈(DF ts p).map (·.1)):∃t∈ts,(t.a=p/\t.b=q)\/(t.b=p/\t.a=q):=by
 obtain⟨x,hx,rfl⟩:=Tk.mp h;obtain⟨t,ht,hx⟩:=eA.mp hx;refine⟨t,ht,?_⟩
 rcases b_.mp hx with hx | hx
 ·split at hx
  ·rename_i e; rw [Re.mp hx]; exact .inl ⟨e,rfl⟩
  ·cases hx
 ·split at hx
  ·rename_i e; rw [Re.mp hx]; exact .inr ⟨e,rfl⟩
  ·cases hx
theorem QR(ts:List Ao)(p:Str):(DF ts p).length<=2*ts.length:=by
 induction ts with
 | nil=>exact bn _
 | cons t r ih =>
  unfold DF at ih ⊢;rw [fB,bi,bi,ZB];have h1:(if t.a=p then [(t.b,t.len)] else []).length<=1:=by split; exact Rs 1; exact bn _
  have h2:(if t.b=p then [(t.a,t.len)] else []).length<=1:=by split; exact Rs 1; exact bn _
  omega
theorem UW{ts:List Ao}{t:Ao}(hp:(ts++[t]).Pairwise Bk)(hlt:∀s∈ts++[t],cs s.a<cs s.b):t.b∉(DF ts t.a).map (·.1)/\t.a∉(DF ts t.b).map (·.1):=by
 rw [List.pairwise_append] at hp
 have key:∀s∈ts,¬((s.a=t.a/\s.b=t.b)\/(s.b=t.a/\s.a=t.b)):=λs hs e=>by
  have h1:=hp.2.2 s hs t (Re.mpr rfl);have h2:=hlt s (c0 _ hs);have h3:=hlt t (bq _ (Re.mpr rfl))
  rcases e with ⟨e1,e2⟩ | ⟨e1,e2⟩
  ·unfold Bk at h1
   rw [e1,e2] at h1
   rcases h1 with h | ⟨_,h⟩
   ·exact ce _ h
   ·exact ce _ h
  ·rw [e1,e2] at h2
   exact ce _ (ft h2 h3)
 refine⟨λh=>?_,λh=>?_⟩
 ·obtain⟨s,hs,e⟩:=Mc h
  exact key s hs e
 ·obtain⟨s,hs,e⟩:=Mc h
  exact key s hs (e.elim (λz=>.inr ⟨z.2,z.1⟩) λz=>.inl ⟨z.2,z.1⟩)
theorem ME{xs:List Str}(h:rising xs):xs.Nodup:=h.imp λ{a b} hlt e=>by rw [e] at hlt; exact ce _ hlt
theorem PY{xs:List Str}(h:xs.Nodup){i:Nat}(hi:i<xs.length):xs[i]∉xs.take i:=by
 have e:xs=xs.take i++xs[i]::xs.drop (i+1):=by
  rw [← c9 hi,jA]
 intro hm;rw [e,dX] at h;exact h.2.2 _ hm _ On rfl
theorem Stp.at_{K:Frag}{M:Db->Prop}{H H':Hp}{d:Db}{as:List (Str×Db)}{N:Net}(dom:∀a,M a->∃o,H a=some o)(s:Stp H d as (λp=>(DF N.ts p).map kv) H')(hp:as.map (·.1)=N.ps)(f:Db->Obj):At K M (Fh H' (as.map (·.2)) f) (ED N) (.ref d):=by
 have nd:∀b,H b=none->¬M b:=λb e m=>by obtain⟨o,h⟩:=dom b m; rw [h] at e; cases e
 have zip1:∀as:List (Str×Db),(as.map λx=>((.inr x.1:Key),V.ref x.2))=((as.map (·.1)).map (.inr:Str->Key)).zip (as.map λx=>V.ref x.2):=λas=>by
  induction as with
  | nil=>rfl
  | cons x r ih=>rw [bm,ih]; rfl
 refine⟨d,as.map λx=>.ref x.2,rfl,⟨nd d s.new,by rw [DJ (λhm=>by obtain⟨x,hx,e⟩:=Tk.mp hm; exact(s.inn x hx).2.1 e),s.top,zip1,hp]⟩,by rw [No,No],?_⟩;rw [← hp]
 have go:∀bs:List (Str×Db),(∀x∈bs,x∈as)->Ats K M (Fh H' (as.map (·.2)) f) ((bs.map (·.1)).map (Rj N.ts)) (bs.map λx=>V.ref x.2):=λbs=>by
  induction bs with
  | nil=>intro _; rfl
  | cons x r ih =>
   intro hx;refine⟨.ref x.2,r.map λx=>V.ref x.2,rfl,?_,ih λy hy=>hx y (TM _ hy)⟩;obtain⟨g1,g2,g3⟩:=s.inn x (hx x On)
   have zip2:∀xs:List (Str×Int),xs.map kv=(xs.map λx=>(.inr x.1:Key)).zip (xs.map λx=>V.int x.2):=λxs=>by
    induction xs with
    | nil=>rfl
    | cons x r ih=>rw [bm,ih]; rfl
   refine⟨x.2,(DF N.ts x.1).map λx=>V.int x.2,rfl,⟨f x.2,nd _ g1,by rw [Ml (Tk.mpr ⟨x,hx x On,rfl⟩) g3,zip2]⟩,by rw [No,No],?_⟩;generalize DF N.ts x.1=xs
   induction xs with
   | nil=>rfl
   | cons x r ih=>exact⟨.int x.2,_,rfl,rfl,ih⟩
 exact go as λ_ h=>h
end Nt
namespace L2
open PySem PySem.Spec PyProof.Rows PySem.W
section
variable {X:Cx}{pins:List (Addr×Obj)}{σ:L2.St}{H:Hp}{s:Shared}{h':Heap}
theorem Inv.adopt2{D e:Db}{o:HO}(I:Inv X pins σ H s)(m:Sa X pins D)(hn:H D=none)(m2:Sa X pins e)(hn2:H e=none)(hne:D≠e)(k:∀b u,b≠D->b≠e->s.heap.get? b=some u->h'.get? b=some u)(new:ObjOk X.prog X.w (BC H D o) h' D o):Inv X pins σ (BC H D o) { s with heap:=h' }:=by
 have nin:∀b,b∉[D,e]->b≠D/\b≠e:=λb hc=>⟨λz=>hc (by rw [z]; exact On),λz=>hc (by rw [z]; exact TM _ (Re.mpr rfl))⟩
 refine I.step (g':=s.gens) (d':=s.drawn) (t':=s.toks) (ch:=[D,e]) (λb hb=>?_) (λb u _ _ hc q _=>k b u (nin b hc).1 (nin b hc).2 q) (λb u _ _ hc q _=>⟨u.slots,k b u (nin b hc).1 (nin b hc).2 q⟩) (λb u hc q n=>?_)
  (λb u hc q=>⟨u,k b u (nin b hc).1 (nin b hc).2 q⟩) (λb xs q=>?_) (λb u v q=>?_) (λb ps q=>⟨#[],?_⟩) (λmm hm=>?_) (λb u q=>?_) I.bare
 ·rcases TW.mp hb with rfl | hb
  ·exact⟨.inr m.new,m.loc,m.cell,m.pin⟩
  ·rw [Re.mp hb]
   exact⟨.inr m2.new,m2.loc,m2.cell,m2.pin⟩
 ·rw [AU (nin b hc).1]; exact n
 ·rw [AU (Al q hn)]; exact q
 ·rw [AU (Al q hn)]; exact q
 ·rw [AU (Al q hn),q]; simp
 ·obtain⟨u,es,ep,ho,r⟩:=hm
  exact⟨u,es,ep,k _ u (ci m.loc) (ci m2.loc) ho,r⟩
 ·by_cases hb:b=D
  ·subst hb; rw [Ai] at q; cases q; exact new
  ·rw [AU hb] at q
   refine(I.hok b u q).stay (λc v hc q2=>k c v ?_ ?_ q2) (λc q2=>by rw [AU (Al q2 hn)]; exact q2) λc xs q2=>by rw [AU (Al q2 hn)]; exact q2
   ·rcases hc with z | z
    ·rw [z]; exact hb
    ·exact Al z hn
   ·rcases hc with z | z
    ·rw [z]; exact Al q hn2
    ·exact Al z hn2
def Xa(K:Frag)(sp:Sp)(te:TE):TE:=λσ H Q=>te σ H λx H1=>∃(κ:Bool) (l:Db) (vs:List V) (keys:List (List Key)) (J:List V->Hp->Prop),x=.ref l/\SqK κ K H1 l vs/\vs.length<64/\J [] H1 /\
 (∀ks H2 v,J ks H2->vs[ks.length]?=some v->sp [v] H2 (λk H3=>J (ks++[k]) H3) E0) /\
 ∀ks H2,J ks H2->ks.length=vs.length->KeysAt K H2 ks keys/\∀(ix:List Nat) (l:Db),Lz keys ix->H2 l=none->Q (.ref l) (BC H2 l (.lst (ix.map λi=>vs.getD i .non)))
theorem Td{k:Nat}{f:Db}{fd:bo}{pn fn:Str}{sp:Sp}{te:TE}{e:cC}{p fp kp pos:Pos}(F:BG X.prog X.w X.K X.mg X.base CP k f fd [pn] sp)(hr:Room (k+2) X.A)(hg:Gl X "sorted")(hm:X.mg "sorted"=none)
  (hgf:Gl X fn) (hmf:X.mg fn=some (.ref f)) (hb:Binds X.K fd [pn] []) (he:PE X e te) (hs:starEach [e] X.env=[(false,eval e X.env)]:=by rfl) (hdf:(fn==("__debug__":Str))=false:=by decide) :
  PE X (.Call (.Name "sorted" p) [e] [⟨some "key",.Name fn fp,kp⟩] pos) (Xa X.K sp te):=by
 intro pins s σ H Q I h;refine da (Cw I hg hm g9 ?_)
 refine callWith_kw (thn (Bt he DD hs pos pins s σ H (λvs H1=>∃x,vs=[x]/\∃(κ:Bool) (l:Db) (vs:List V) (keys:List (List Key)) (J:List V->Hp->Prop),x=.ref l/\SqK κ X.K H1 l vs/\vs.length<64/\J [] H1 /\
   (∀ks H2 v,J ks H2->vs[ks.length]?=some v->sp [v] H2 (λk H3=>J (ks++[k]) H3) E0) /\
   ∀ks H2,J ks H2->ks.length=vs.length->KeysAt X.K H2 ks keys/\∀(ix:List Nat) (l:Db),Lz keys ix->H2 l=none->Q (.ref l) (BC H2 l (.lst (ix.map λi=>vs.getD i .non)))) I ?first) λus s1 ⟨xs,H1,I1,r1,q1⟩=>kws_cons (QX I1 hgf hmf (kws_nil ?_) hdf)) (by rw [hs]; rfl) (by rw [hs]; rfl)
 case first =>
  show te σ H _;refine cast (congrArg (te σ H) ?_) h
  funext x H1
  refine propext ⟨λz=>⟨x,rfl,z⟩,fun⟨y,e,z⟩=>?_⟩;cases e;exact z
 obtain⟨x,rfl,κ,l,vs,keys,J,rfl,hq,h64,j0,jstep,jend⟩:=q1;obtain⟨u,rfl,ru⟩:=vals1 r1;cases ru;show wpAny (model X.prog X.w) X.A (call (.builtin "sorted") [.ref l] [(cZ "key",.ref f)]) _ _ s1;refine Gc (ksk_s1 _ _) (λx=>ksk_l1 _ _) (Oe I1 hq λus s2 r2 hz I2=>⟨by rw [← r2.length]; exact hz,?_⟩);rw [ksk_t1];have hl:=r2.length;generalize hD:s2.heap.objs.size=D;have hsz3:(s2.heap.push (seqObj "list" us.toArray 0)).objs.size=D+1:=by rw [size_push',hD]
 have hoD:(s2.heap.push (seqObj "list" us.toArray 0)).get? D=some (seqObj "list" us.toArray 0):=by rw [← hD]; exact Uf _ rfl
 have mD:Sa X pins D:=I2.mine (by rw [hD]; exact Rs _);have mK:Sa X pins (D+2):=I2.mine (by rw [hD]; exact ii _ _);have nD:H1 D=none:=I2.hok.fresh (by rw [hD]; exact Rs _);have nK:H1 (D+2)=none:=I2.hok.fresh (by rw [hD]; exact ii _ _);have hne:D≠D+2:=b8 (dn (fj D));have nstk:∀b,Sa X pins b->b∉Sd X.stack:=λb m z=>(TW.mp (I2.stkSub b z)).elim m.loc m.fs
 refine Ru (s:={ s2 with heap:=s2.heap.push (seqObj "list" us.toArray 0) }) (n:=0) hoD (by rw [← hl]; exact h64)
  (λks s'=>∃kV H',Vals kV ks/\J kV H'/\Inv X pins σ H' s'/\H' D=none/\H' (D+2)=none/\s'.heap.get? D=(DZ (s2.heap.push (seqObj "list" us.toArray 0)) D us).get? D) (D+2) (by show D+2=(s2.heap.push _).objs.size+1; rw [hsz3]) (λe1 he1=>?_) (λks s' e v hJ hk hv=>?_) λe1 he1 ks s' hJ hkl=>?_
 ·refine⟨[],H1,.nil,j0,?_,nD,nK,rfl⟩
  exact I2.kept (t':=s2.toks) λb o q=>HX (by rw [← hD]; exact b8 (XV q)) (FM _ q)
 ·obtain⟨kV,H',rk,hJ,I',n1,n2,hD'⟩:=hJ
  have hi:ks.length<us.length:=(bh.mp hv).1;have hvi:vs[kV.length]?=some (vs[kV.length]'(by rw [rk.length]; omega)):=Go _;obtain⟨u',e2,ru⟩:=r2.get hvi;rw [rk.length,hv] at e2;cases e2;have hsp:=jstep kV H' _ hJ hvi;have E1:Env0 X.prog X.w X.K X.mg X.base X.A.in1.in1 X.stack s' H':=I'.env0.in1.in1;refine wpAny_call (iW (F.run X.A.in1.in1 X.stack s' H' ⟨[v],[]⟩ [v] _ _ E0 (hr.in1).in1 E1 (by simpa using hb s' [v] I'.kIn rfl) (.cons ru .nil) hsp) λr s'' hq'=>?_);cases r with
  | error e=>exact dg hq'
  | ok fl =>
   cases fl with
   | next=>exact dg hq'
   | brk=>exact dg hq'
   | cont=>exact dg hq'
   | ret u =>
    obtain⟨w',H3,os,bare,un,hok,rw',q3⟩:=id hq'
    obtain⟨oD,eD⟩:∃o,s'.heap.get? D=some o:=by
     obtain⟨c,hc,_⟩:=Ja hoD;exact⟨_,hD'.trans hc⟩
    have kD:s''.heap.get? D=some oD:=un.keep D oD eD n1 (nstk D mD) (by simp);have kK:s''.heap.get? (D+2)=some (seqObj "list" ks.toArray e):=un.keep _ _ hk n2 (nstk _ mK) (by simp);have f1:H3 D=none:=un.free D oD eD n1 (by simp);have f2:H3 (D+2)=none:=un.free _ _ hk n2 (by simp);have I3:Inv X pins σ H3 s'':=I'.call' os un hok bare (λb z=>absurd z (by simp));refine⟨kK,kV++[w'],H3,rk.append (.cons rw' .nil),q3,?_,f1,f2,?_⟩
    ·exact I3.turned (t':=s''.toks) (λb o hb q=>(cB _ _ (ci hb)).trans q) f2 mK.loc (.inr mK.new) mK.cell mK.pin
    ·show (s''.heap.update (D+2) _).get? D=_
     rw [cB _ _ (ci hne),kD,← eD,hD']
 ·obtain⟨kV,H',rk,hJ,I',n1,n2,hD'⟩:=hJ
  obtain⟨hka,q⟩:=jend kV H' hJ (by rw [rk.length,hkl,hl]);have hkk:keys.length=us.length:=by rw [← hka.len,rk.length,hkl]
  refine⟨hD'.trans he1,λp=>p.Perm (cE (cF us.length))/\So.Srt RW (λi=>keys.getD i []) p us.length,λh2=>?_,λh1=>⟨ir _,λi j hij hj=>?_⟩,λp h' c hp hg hold hDn _=>⟨rfl,?_⟩⟩
  ·have ts:=LM (prog:=X.prog) (w:=X.w) (A:=X.A.in1.in1) (keys:=keys) (hka.tups I' rk λb o e=>e) (by omega) (G:=λp s''=>s''=s'/\p.Perm (cE (cF us.length))/\So.Srt RW (λi=>keys.getD i []) p us.length) (λp a b=>⟨rfl,by rw [← hkl]; exact a,by rw [← hkl]; exact b⟩)
   rw [hkl] at ts;exact ts
  ·have:i=j:=by omega
   subst this;exact dY _
  ·have hix:(p.toList.map λi=>vs.getD i .non).length=us.length:=by rw [No,cn,hp]
   refine⟨.ref D,BC H' D (.lst (p.toList.map λi=>vs.getD i .non)),I'.adopt2 mD n1 mK n2 hne hold ⟨by rw [hix,← hl,cX]; omega,_,c,JN (HU r2) p.toList,hDn⟩,rfl,q _ _ (Tl hkk hg.1 hg.2) n1⟩
theorem Jt{α β:Type}{F:α->β->Prop}:∀{l₁:List α} {l₂:List β} {j:Nat} {a:α} {b:β},Paired F l₁ l₂->l₁[j]?=some a->l₂[j]?=some b->F a b
 | _,_,_,_,_,.nil,h,_=>by simp at h
 | _,_,0,_,_,.cons r t,h1,h2=>by
  have h1:=bg (by simpa using h1);have h2:=bg (by simpa using h2);subst h1 h2;exact r
 | _,_,j+1,_,_,.cons r t,h1,h2=>Jt (j:=j) t (by simpa using h1) (by simpa using h2)
end
end L2
namespace Dp
open PySem PySem.Spec PyProof.Rows L2
section
variable {X:Cx}{K:Frag}
def KP(ds:List D)(P:D->Prop):Prop:=match ds with
 | [.int i,.int j]=>P (.int (if j<i then j else i))
 | _=>False
theorem Ux:EB K .sh (λxs H Q=>∃i j,xs=[.int i,.int j]/\Q (.int (if j<i then j else i)) H) KP:=by
 intro U M H ds vs P Q dom vM hp w q;unfold KP at w
 split at w
 ·rename_i i j
  cases hp with
  | cons r1 r2=>cases r2 with
   | cons r3 r4 =>
    cases r4;cases r1.int;cases r3.int;exact⟨i,j,rfl,q _ H (.int _) .refl rfl w⟩
 ·exact w.elim
end
def CW:D->Option (List Key)
 | .tup xs=>Gy xs
 | _=>none
def HM(kf:D->Option (List Key))(xs:List D):Prop:=xs.Pairwise λa b=>∀ka kb,kf a=some ka->kf b=some kb->Bb kb ka=false
def Keyed(kf:D->Option (List Key))(xs:List D):Prop:=(∀x∈xs,∃k,kf x=some k/\k≠[])/\∀x∈xs,∀y∈xs,∀ka kb,kf x=some ka->kf y=some kb->CB ka kb=true
theorem range_getD(xs:List D):(cF xs.length).map (λi=>xs.getD i .non)=xs:=by
 apply List.ext_getElem
 ·simp
 ·intro i h1 h2
  simp [h2]
theorem QN{kf:D->Option (List Key)}{xs:List D}{keys:List (List Key)}{ix:List Nat}(hl:keys.length=xs.length)(hk:∀(i:Nat) (x:D),xs[i]?=some x->∃k,keys[i]?=some k/\kf x=some k)(h:Lz keys ix) :
  (ix.map λi=>xs.getD i .non).Perm xs/\HM kf (ix.map λi=>xs.getD i .non):=by
 obtain⟨hp,hs⟩:=h;constructor
 ·have:=hp.map λi=>xs.getD i D.non
  rw [hl,range_getD] at this;exact this
 ·unfold HM
  rw [iS];intro i j hi hj hij ka kb ea eb;rw [List.getElem_map] at ea eb;rw [No] at hi hj;have il:ix.length=keys.length:=by rw [hp.length_eq,d6]
  have g:∀i (h:i<ix.length) k,kf (xs.getD ix[i] .non)=some k->keys.getD (ix.getD i 0) []=k:=λi h k e=>by
   have hm:ix[i]<keys.length:=cq.mp (hp.mem_iff.mp (dO h));have hx:ix[i]<xs.length:=by rw [← hl]; exact hm
   obtain⟨k',e1,e2⟩:=hk ix[i] xs[ix[i]] (Go hx);have e3:xs.getD ix[i] .non=xs[ix[i]]:=by rw [bp,Go hx]; rfl
   rw [e3,e2] at e;have e4:ix.getD i 0=ix[i]:=by rw [bp,Go h]; rfl
   rw [e4,bp,e1];exact bg e
  have:=hs i j (gf hij) (by rw [← il]; exact hj)
  rw [g i hi ka ea,g j hj kb eb] at this;exact this
theorem FS{kf:D->Option (List Key)}:∀{xs:List D},(∀x∈xs,∃k,kf x=some k/\k≠[])->∃keys:List (List Key),keys.length=xs.length/\(∀(i:Nat) (x:D),xs[i]?=some x->∃k,keys[i]?=some k/\kf x=some k/\k≠[])
 | [],_=>⟨[],rfl,λi x e=>by simp at e⟩
 | x::xs,h=>by
  obtain⟨k,e1,e2⟩:=h x On;obtain⟨keys,l,g⟩:=FS (xs:=xs) λy hy=>h y (TM _ hy);refine⟨k::keys,by rw [ZB,ZB,l],λi y e=>?_⟩;cases i with
  | zero =>
   have e:x=y:=by simpa using e
   subst e;exact⟨k,rfl,e1,e2⟩
  | succ i =>
   obtain⟨k',a,b⟩:=g i y (by simpa using e);exact⟨k',by simpa using a,b⟩
section
variable {K:Frag}{M:Addr->Prop}{H:Hp}
theorem Ats.getD:∀{ds:List D} {vs:List V},Ats K M H ds vs->∀i:Nat,At K M H (ds.getD i .non) (vs.getD i .non)
 | [],vs,h,i=>by cases (show vs=[] from h); simp [At]
 | d::ds,vs,h,0=>by
  obtain⟨v,r,e,h1,h2⟩:=h;subst e
  simpa using h1
 | d::ds,vs,h,i+1=>by
  obtain⟨v,r,e,h1,h2⟩:=h;subst e
  simpa using Ats.getD h2 i
theorem Ats.pick{ds:List D}{vs:List V}(h:Ats K M H ds vs):∀ix:List Nat,Ats K M H (ix.map λi=>ds.getD i .non) (ix.map λi=>vs.getD i .non)
 | []=>rfl
 | i::ix=>⟨_,_,rfl,h.getD i,Ats.pick h ix⟩
theorem Hs{kf:D->Option (List Key)}{ds:List D}{vs:List V}{keys:List (List Key)}(hkf:∀d k v,d∈ds->kf d=some k->At K M H d v->∃a,v=.ref a/\SqT K H a (k.map kOf))(hs:Ats K M H ds vs)(hK:Keyed kf ds)(hl:keys.length=ds.length)(hk:∀(i:Nat) (x:D),ds[i]?=some x->∃k,keys[i]?=some k/\kf x=some k/\k≠[]):KeysAt K H vs keys:=by
 have from_:∀(i:Nat) (ns:List Key),keys[i]?=some ns->∃x,ds[i]?=some x/\kf x=some ns/\ns≠[]:=λi ns e=>by
  have hi:i<ds.length:=by rw [← hl]; exact(bh.mp e).1
  obtain⟨k,e1,e2,e3⟩:=hk i ds[i] (Go hi);rw [e] at e1;cases e1;exact⟨ds[i],Go hi,e2,e3⟩
 refine⟨hs.length.trans hl.symm,λi ns e=>?_,λx hx y hy=>?_,λx hx=>?_⟩
 ·obtain⟨d,e1,e2,_⟩:=from_ i ns e
  obtain⟨v,e3,h3⟩:=hs.get e1;obtain⟨a,rfl,h4⟩:=hkf d ns v (dJ e1) e2 h3;exact⟨a,e3,h4⟩
 ·obtain⟨i,hi⟩:=eF.mp hx
  obtain⟨j,hj⟩:=eF.mp hy;obtain⟨d,e1,e2,_⟩:=from_ i x hi;obtain⟨d',e1',e2',_⟩:=from_ j y hj;exact hK.2 d (dJ e1) d' (dJ e1') x y e2 e2'
 ·obtain⟨i,hi⟩:=eF.mp hx
  obtain⟨d,e1,e2,e3⟩:=from_ i x hi;exact e3
theorem Hu{d:D}{k:List Key}{v:V}(e:CW d=some k)(h:At K M H d v):∃a,v=.ref a/\SqT K H a (k.map kOf):=by
 cases d with
 | tup xs =>
  obtain⟨a,vs,e1,hn,hs⟩:=h
  have:=Gx (show Gy xs=some k from e) hs
  subst this;exact⟨a,e1,hn.sq⟩
 | _=>cases e
def Mn(ds:List D)(P:D->Prop):Prop:=∃d xs,ds=[d]/\Em d=some xs/\xs.length<64/\Keyed CW xs/\∀xs':List D,xs'.Perm xs->HM CW xs'->P (.lst xs')
theorem Qx:EB K .fr (TF K) Mn:=by
 intro U M H ds vs P Q dom vM hp w q;obtain⟨d,xs,rfl,e,h64,hK,w⟩:=w;obtain⟨v,rfl,hx⟩:=Gm hp;obtain⟨κ,a,us,rfl,hs,sq⟩:=HZ (U:=U) hx e (λ_ z=>z) vM;obtain⟨keys,hl,hk⟩:=FS hK.1;refine⟨κ,a,us,keys,rfl,sq M H (Pres.refl _ _) (Ext.refl _ _),by rw [hs.length]; exact h64,Hs (λd k v _=>Hu) hs hK hl hk,λix l ho hn=>?_⟩;obtain⟨o1,o2⟩:=QN (kf:=CW) hl (λi x e=>by obtain⟨k,a,b,_⟩:=hk i x e; exact⟨k,a,b⟩) ho;exact q _ _ (.lst (ix.map λi=>xs.getD i .non)) (Ay hn) (D7 hn (hs.pick ix)) (w _ o1 o2)
end
section
variable {X:Cx}{a e:Expr}{κa:Kd}{wa:DW}{pos p fp kp apos cpos:Pos}
def Sl(W:W2)(wa:DW):DW:=λn ρ P=>wa n ρ λd n1=>∃(xs:List D) (rk:D->D),Em d=some xs/\xs.length<64/\(∀x∈xs,∀Pd:D->Nat->Prop,Pd (rk x) n1->W [.sh x] n1 Pd)/\Keyed (λx=>CW (rk x)) xs /\
 ∀xs':List D,xs'.Perm xs->HM (λx=>CW (rk x)) xs'->P (.lst xs') n1
theorem Ue{k:Nat}{fn pn:Str}{W:W2}(G:Got X.prog X.w X.K X.mg X.base fn k [pn] .sh W)(hr:Room (k+2) X.A)(hg:Gl X "sorted")(hm:X.mg "sorted"=none)(hgf:Gl X fn)(he:DE X e κa wa)
  (hs:starEach [e] X.env=[(false,eval e X.env)]:=by rfl) (hdf:(fn==("__debug__":Str))=false:=by decide):DE X (.Call (.Name "sorted" p) [e] [⟨some "key",.Name fn fp,kp⟩] pos) .fr (Sl W wa):=by
 obtain⟨f,fd,F,hmf,hkf,hb,hW⟩:=G;obtain⟨t,h1,h2⟩:=he;refine⟨_,Td F hr hg hm hgf hmf hb h1 hs hdf,λC M H n ρ σ P Q R w q=>?_⟩;refine h2 C M H n ρ σ _ _ R w λv H1 d n1 e1 f1 r1 p=>?_;obtain⟨xs,rk,hd,h64,hw,hK,w⟩:=p;have R1:=R.step e1 f1;obtain⟨κ,l,us,rfl,hs,sq⟩:=HZ (U:=C.U) (r1.tpOf R.dom R.vM) hd R.uV R1.vM;obtain⟨keys,hl,hk⟩:=FS hK.1;have hlen:=hs.length;refine⟨κ,l,us,keys,λks H2=>Ext C.U H1 H2/\FeedC X.K C.F M H2 n1/\ks.length<=xs.length/\∀(i:Nat) (k:V),ks[i]?=some k->∃x,xs[i]?=some x/\At X.K M H2 (rk x) k,rfl,sq M H1 (Pres.refl _ _) (Ext.refl _ _),by rw [hlen]; exact h64,⟨Ext.refl _ _,f1,bn _,λi k z=>absurd (show (none:Option V)=some k from z) (λh=>nomatch h)⟩,λks H2 v hJ hv=>?_,λks H2 hJ hkl=>?_⟩
 ·obtain⟨ex,fd2,hle,hat⟩:=hJ
  have R2':=R1.step ex fd2;have hi:ks.length<xs.length:=by rw [← hlen]; exact(bh.mp hv).1
  have hxi:xs[ks.length]?=some xs[ks.length]:=Go hi;obtain⟨v',e2,hA⟩:=(hs.pres (R1.pres ex)).get hxi;rw [hv] at e2;cases e2;refine⟨rfl,C.F,C.U,C.V,M,n1,[.sh xs[ks.length]],λd n=>d=rk xs[ks.length]/\n=n1,⟨R2'.dom,R2'.fU,R2'.uV,R2'.vM,fd2,.cons ⟨⟨v,rfl,hA⟩,rfl⟩ .nil⟩,hw _ (dO hi) _ ⟨rfl,rfl⟩,λr H3 d n' ex3 f3 vr hd=>?_⟩;obtain⟨rfl,rfl⟩:=hd;refine⟨ex.trans ex3,f3,by rw [bi,cA]; omega,λi k hik=>?_⟩
  by_cases hlt:i<ks.length
  ·rw [fC hlt] at hik
   obtain⟨x,h3,h4⟩:=hat i k hik;exact⟨x,h3,h4.pres (R2'.pres ex3)⟩
  ·rw [cf (by omega)] at hik
   have hi0:i=ks.length:=by
    have:=(bh.mp hik).1
    rw [cA] at this;omega
   subst hi0;rw [f7] at hik;cases (show some r=some k from hik);exact⟨_,hxi,vr⟩
 ·obtain⟨ex,fd2,hle,hat⟩:=hJ
  have R2':=R1.step ex fd2;have hkx:ks.length=xs.length:=by rw [hkl,hlen]
  have hs2:Ats X.K M H2 (xs.map rk) ks:=by
   have go:∀(xs:List D) (ks:List V),ks.length=xs.length->(∀(i:Nat) (k:V),ks[i]?=some k->∃x,xs[i]?=some x/\At X.K M H2 (rk x) k)->Ats X.K M H2 (xs.map rk) ks:=by
    intro xs
    induction xs with
    | nil=>intro ks h _; exact eQ.mp h
    | cons x xs ih =>
     intro ks h hh;cases ks with
     | nil=>cases h
     | cons k ks =>
      obtain⟨x',e3,h3⟩:=hh 0 k rfl;cases (show some x=some x' from e3)
      exact⟨k,ks,rfl,h3,ih ks (by simpa using h) λi k' e4=>by
       obtain⟨y,e5,h5⟩:=hh (i+1) k' (by simpa using e4);exact⟨y,by simpa using e5,h5⟩⟩
   exact go xs ks hkx hat
  have hK2:Keyed CW (xs.map rk):=by
   refine⟨λy hy=>?_,λy hy z hz ka kb ea eb=>?_⟩
   ·obtain⟨x,hx,rfl⟩:=Tk.mp hy
    exact hK.1 x hx
   ·obtain⟨x,hx,rfl⟩:=Tk.mp hy
    obtain⟨x',hx',rfl⟩:=Tk.mp hz;exact hK.2 x hx x' hx' ka kb ea eb
  refine⟨Hs (λd k v _=>Hu) hs2 hK2 (by rw [hl,No]) λi x e=>?_,λix l ho hn=>?_⟩
  ·rw [bv] at e
   obtain⟨x',hx',rfl⟩:=cU.mp e;exact hk i x' hx'
  ·obtain⟨o1,o2⟩:=QN (kf:=λx=>CW (rk x)) hl (λi x e=>by obtain⟨k,a,b,_⟩:=hk i x e; exact⟨k,a,b⟩) ho
   have g:Grow H2 (BC H2 l (.lst (ix.map λi=>us.getD i .non))):=Ay hn;refine q _ _ (.lst (ix.map λi=>xs.getD i .non)) n1 ((e1.trans ex).trans g.ext) (fd2.grow g) (VR.back (e1.trans ex) ?_) (w _ o1 o2);exact D7 hn ((hs.pres (R1.pres ex)).pick ix)
def U9:Key->D
 | .inl i=>.int i
 | .inr x=>.str x
def Mg:Key->Prop
 | .inl _=>True
 | .inr x=>x.length<=sizeLine
theorem Uj{K:Frag}{M:Db->Prop}{H:Hp}{k:Key}(h:Mg k):At K M H (U9 k) (kOf k):=by
 cases k with
 | inl i=>exact rfl
 | inr x=>exact⟨rfl,h⟩
end
end Dp
namespace L2
open PySem PySem.Spec PyProof.Rows
section
open PySem.MeetsSeq
open PySem.AutoSeq1 (wpAny_loadPart')
theorem TB(l:Db)(items:Array Ev)(n:Nat)(x:Ev)(e:Ev->Bool)(j:Nat)(hj:j<items.size)(hit:e items[j]=true)(hs1:items.size<=sizeLine)(prog:cL)(w:cQ)(A:cw)(R:Result->Op->Prop)(hp:b9)(g:Array GenState)(d:Drawn)(tk:Nat)(os:_)
  (hl:hp.get? l=some { cls:=.type "list",dict:=none,data:=.seq items n,slots:=#[] }) (he:∀y,y∈items->PySem.SeqAt.EqAt A.in1 ⟨hp,g,d,tk,os⟩ y x (e y)) (h:R (.ok (.ret .none)) ⟨hp.update l (cj λxs=>xs.eraseIdxIfInBounds j),g,d,tk,os⟩) :
  ∀k i:Nat,j - i=k->i<=j->(∀m (hm:m<items.size),i<=m->m<j->e items[m]=false) ->
   wpAny (model prog w) A.in1 (dh.«list.remove.loop» ⟨[.ref l,x,rawInt i],[]⟩) (λfin s'=>match fin with | .done f=>R (.ok f) s' | .again c'=>c'.quiet=true/\codeAny (model prog w) A c' R s') (λe s'=>R (.error e) s') ⟨hp,g,d,tk,os⟩:=by
 intro k
 induction k with
 | zero =>
  intro i hk hij hno;have hij':i=j:=by omega
  subst hij'
  wp_walk using dM hl
  have hi:items[((i:Nat):Int).toNat]?=some items[i]:=by simp [hj]
  rw [hi];refine Ch (he _ (Array.getElem_mem hj) prog w _ _ ?_);rw [hit];have hz':(items.eraseIdxIfInBounds i).size<=sizeLine+1:=cG (size_erased items _) (Nat.le_succ_of_le hs1)
  wp_walk using (gp hl rfl (hz:=hs1) (_hz':=hz')),dM hl
  simpa using h
 | succ k ih =>
  intro i hk hij hno;have hlt:i<items.size:=by omega
  wp_walk using dM hl
  have hi:items[((i:Nat):Int).toNat]?=some items[i]:=by simp [hlt]
  have hc:((i:Int)+1)=((i+1:Nat):Int):=by push_cast; rfl
  rw [hi];refine Ch (he _ (Array.getElem_mem hlt) prog w _ _ ?_);rw [hno i hlt (Rs _) (by omega)]
  wp_walk
  rw [hc]
  exact⟨dS plain_remove_loop _,dE entry_remove_loop (by
   rw [cv plain_remove_loop _];exact ih (i+1) (by omega) (by omega) (λm hm h1 h2=>hno m hm (by omega) h2))⟩
theorem TC{prog:cL}{w:cQ}{A:cw}{E:Ev->Op->Prop}{s:Op}{Q:Ev->Op->Prop}(l:Db)(items:Array Ev)(n:Nat)(x:Ev)(e:Ev->Bool)(j:Nat)(hj:j<items.size)(hit:e items[j]=true)(hno:∀m (hm:m<items.size),m<j->e items[m]=false)
  (hs1:items.size<=sizeLine) (hl:s.heap.get? l=some { cls:=.type "list",dict:=none,data:=.seq items n,slots:=#[] }) (he:∀y,y∈items->PySem.SeqAt.EqAt A.in1 s y x (e y))
  (h:Q .none { s with heap:=s.heap.update l (cj λxs=>xs.eraseIdxIfInBounds j) }):wpAny (model prog w) A (call (.builtin "list.remove") [.ref l,x]) Q E s:=by
 have key:wpAny (model prog w) A.in1 (dh.«list.remove» ⟨[.ref l,x],[]⟩) (λfin s'=>match fin with | .done f=>wants Q E (.ok f) s' | .again c'=>c'.quiet=true/\codeAny (model prog w) A c' (wants Q E) s') (λe s'=>wants Q E (.error e) s') s:=by
  obtain⟨hp,g,d,tk,os⟩:=s
  wp_walk using dM hl
  exact⟨dS plain_remove_loop _,dE entry_remove_loop (by
   rw [cv plain_remove_loop _];exact TB l items n x e j hj hit hs1 prog w A (wants Q E) hp g d tk os hl he h _ 0 rfl (bn _) (λm hm _ h2=>hno m hm h2))⟩
 exact wpAny_call (codeAny_call_builtin PySem.F.slot_list_remove.plain PySem.F.entry_list_remove (PySem.F.slot_list_remove.check _ _ _ _ _ _ _ _ ⟨_,hl,rfl⟩ (PySem.F.args_list_remove_2 _ _) key))
end
section
variable {X:Cx}
def QB:V->List V->Hp->VK->Prop:=λx vs H Q=>∃(l:Db) (xs:List V) (y:V) (ds:List fw) (d:fw) (j:Nat),x=.ref l/\vs=[y]/\H l=some (.lst xs)/\RVs H ds xs/\RV H d y/\dq ds=true/\d.canLay0=true/\d.depth<=100 /\
 (∃dj,ds[j]?=some dj/\dL dj d=true)/\(∀m dm,m<j->ds[m]?=some dm->dL dm d=false)/\Q .non (BC H l (.lst (xs.eraseIdx j)))
theorem Rl{k:Nat}(hr:Room k X.A):Z2 X "list.remove" QB:=by
 intro pins s σ H x vs v us Q I rx rv h;obtain⟨l,xs,y,ds,d,j,rfl,rfl,hH,hds,hd,c1,c2,dd,⟨dj,hj,hit⟩,hno,q⟩:=h;cases rx;obtain⟨u,rfl,ru⟩:=rv.one;obtain⟨z,its,n,r,hl,e⟩:=I.lstM hH;obtain⟨as,ra⟩:=RVs.reads I hds r;obtain⟨bs,rb⟩:=RV.reads I hd ru;have hm:=PySem.SeqAt.readsAll_map ds its as c1 ra;have hlen:ds.length=its.length:=by rw [← hm,No]
 have hu:=hr.un;have hmin:min (dD ds) d.depth<=d.depth:=gS _ _
 have at_:∀m dm,ds[m]?=some dm->∀(h:m<its.toArray.size),PySem.SeqAt.readOf s.heap its.toArray[m]=dm:=λm dm e h=>by
  rw [← hm,bv] at e;have h':m<its.length:=by simpa using h
  rw [Go h'] at e;have e:=bg e
  simpa using e
 have hjl:j<its.length:=by rw [← hlen]; exact(bh.mp hj).1
 refine TC l its.toArray n u (λy=>dL (PySem.SeqAt.readOf s.heap y) d) j (by rw [UF]; exact hjl) (by rw [at_ j dj hj]; exact hit) (λm hm' hlt=>?_) (by rw [UF]; omega) e (PySem.SeqAt.items_eqAt (vs:=its.toArray) (by rw [gw]; exact ra) rb c1 c2 (by omega)) ?_
 ·have hml:m<ds.length:=by rw [hlen]; simpa using hm'
  rw [at_ m ds[m] (Go hml) hm'];exact hno m ds[m] hlt (Go hml)
 ·refine⟨.non,_,I.lset (t':=s.toks) (its':=its.eraseIdx j) hH e ?_ (r.eraseIdx j) ?_,rfl,q⟩
  ·show its.toArray.eraseIdxIfInBounds j=(its.eraseIdx j).toArray
   rw [List.eraseIdxIfInBounds_toArray]
  ·have:=LZ xs j
   omega
end
end L2
namespace Dp
open PySem PySem.Spec PyProof.Rows L2
def Zj(d:D)(ds:List D)(P:D->D->Prop):Prop:=∃(xs:List D) (y:D) (j:Nat),d=.lst xs/\ds=[y]/\E9 (.lst xs)/\E9 y/\(∃x,xs[j]?=some x/\GQ x y=true)/\(∀m x,m<j->xs[m]?=some x->GQ x y=false)/\P (.lst (xs.eraseIdx j)) .non
theorem Zs{K:Frag}:WV K QB Zj:=by
 intro M H a d ds vs P Q m t hv w q;obtain⟨xs,y,j,rfl,rfl,⟨n1,l1,_⟩,⟨n2,l2,d2⟩,⟨x,hx,hit⟩,hno,w⟩:=w;obtain⟨us,h1,h2⟩:=t;obtain⟨u,r,rfl,hu,hr⟩:=hv;cases (show r=[] from hr)
 have get:∀(m:Nat) (p:fw),(BA xs)[m]?=some p->∃x,xs[m]?=some x/\p=toPy x:=λm p e=>by
  rw [FQ,bv] at e;obtain⟨x,e1,rfl⟩:=cU.mp e;exact⟨x,e1,rfl⟩
 refine⟨a,us,u,BA xs,toPy y,j,rfl,rfl,h1,h2.rv n1,hu.rv n2,l1,l2,d2,⟨toPy x,by rw [FQ,bv,hx]; rfl,hit⟩,λm p hm e=>?_,q _ (.lst (xs.eraseIdx j)) .non _ ⟨us.eraseIdx j,Ai,?_⟩ rfl w⟩
 ·obtain⟨x',e1,rfl⟩:=get m p e
  exact hno m x' hm e1
 ·exact(h2.eraseIdx j).pres (EK m h1)
def JM(c:Ij)(wb:Af):Af:=λD2 n ρ=>∃W:Nat->Nat->List Slot->Prop,(∃m,W m n ρ)/\∀m n ρ,W m n ρ ->
 c n ρ λb n1=>if b=true then ∃N:Nat->List Slot->Prop,(∀n' ρ',N n' ρ'->∃m',m'<m/\W m' n' ρ')/\wb { D2 with nx:=N,ct:=N,bk:=D2.nx } n1 ρ else D2.nx n1 ρ
section
variable {X:Cx}{κ:Kd}{c:Expr}{body:List Stmt}{wc:Ij}{wb:Af}{pos:Pos}
theorem KU(hp:g_ (model X.prog X.w) X.A X.env X.xe)(hc:DT X c wc)(hb:Q6 X κ body wb):DS X κ (.While c body [] pos) (JM wc wb):=by
 obtain⟨tc,c1,c2⟩:=hc;obtain⟨tb,b1,b2⟩:=hb;refine⟨_,TU hp c1 b1,λC M H n ρ σ D2 E R L w=>?_⟩;obtain⟨W,⟨m0,w0⟩,turn⟩:=w;refine⟨λm σ' H'=>∃M' n' ρ',Rel X.K C M' H' n' ρ' σ'/\W m n' ρ',⟨m0,M,n,ρ,R,w0⟩,?_⟩;rintro m σ' H' ⟨M',n',ρ',R',w'⟩;refine c2 C M' H' n' ρ' σ' _ _ R' (turn m n' ρ' w') λb H2 n2 e f p=>?_;have R2:=R'.step e f;cases b with
 | true =>
  rw [if_pos rfl] at p ⊢;obtain⟨N,hN,p⟩:=p;refine⟨λσ3 H3=>∃M3 n3 ρ3,Rel X.K C M3 H3 n3 ρ3 σ3/\N n3 ρ3,λσ3 H3 ⟨M3,n3,ρ3,R3,w3⟩=>?_,?_⟩
  ·obtain⟨m',hm,w4⟩:=hN n3 ρ3 w3
   exact⟨m',hm,M3,n3,ρ3,R3,w4⟩
  ·exact b2 C M' H2 n2 ρ' σ' { D2 with nx:=N,ct:=N,bk:=D2.nx } _ R2 ⟨λM4 H4 n4 ρ4 σ4 R4 w4=>⟨M4,n4,ρ4,R4,w4⟩,L.rt,λM4 H4 n4 ρ4 σ4 R4 w4=>L.nx M4 H4 n4 ρ4 σ4 R4 w4,λM4 H4 n4 ρ4 σ4 R4 w4=>⟨M4,n4,ρ4,R4,w4⟩⟩ p
 | false =>
  rw [if_neg (by decide)] at p ⊢;exact L.nx M' H2 n2 ρ' σ' R2 p
theorem HS{D2:E2}{n:Nat}{ρ:List Slot}(I:Nat->Nat->List Slot->Prop)(m0:Nat)(h0:I m0 n ρ)
  (hs:∀m n ρ (N:Nat->List Slot->Prop),I m n ρ->(∀m' n' ρ',m'<m->I m' n' ρ'->N n' ρ')->wc n ρ λb n1=>if b=true then wb { D2 with nx:=N,ct:=N,bk:=D2.nx } n1 ρ else D2.nx n1 ρ)
  (mono:∀n ρ (P Q:Bool->Nat->Prop),(∀b n1,P b n1->Q b n1)->wc n ρ P->wc n ρ Q):JM wc wb D2 n ρ:=by
 refine⟨I,⟨m0,h0⟩,λm n ρ h=>?_⟩;refine mono n ρ _ _ (λb n1 p=>?_) (hs m n ρ (λn' ρ'=>∃m',m'<m/\I m' n' ρ') h λm' n' ρ' hm hi=>⟨m',hm,hi⟩);cases b with
 | true=>rw [if_pos rfl] at p ⊢; exact⟨_,λ_ _ z=>z,p⟩
 | false=>exact p
end
def Wa(i:Nat)(b:BW)(body:Af):Af:=λD2 n ρ=>∃ds,ρ[i]?=some (.ow (.lst ds))/\∀a,BR b body { D2 with nx:=λn ρ=>ρ[i]?=some (.lt a (.lst ds))/\D2.nx n (ρ.set i (.ow (.lst ds))) } ds n (ρ.set i (.lt a (.lst ds)))
section
variable {X:Cx}{κ:Kd}{tg:Expr}{body:List Stmt}{b:BW}{wb:Af}{pos p:Pos}{x:Str}{i:Nat}
theorem V_(hp:g_ (model X.prog X.w) X.A X.env X.xe)(hc:X.calm=true)(h:PE X (.Name x p) (B3 i))(hg:DG X tg b)(hb:Q6 X κ body wb)
  (hs:∀y,foldedSetIterable (.Name x p) X.env y=pure y:=by intro _; rfl):DS X κ (.For tg (.Name x p) body [] pos) (Wa i b wb):=by
 obtain⟨g,g1,g2⟩:=hg;obtain⟨tb,b1,b2⟩:=hb;refine⟨_,Jq hp hc (MN h) g1 b1 hs,λC M H n ρ σ D2 E R L w=>?_⟩;obtain⟨ds,hi,w⟩:=w;obtain⟨a,e1,hm,nv,vs,hH,hat⟩:=R.sl i _ hi;have hk:∀q∈C.kp,q.1≠a:=λq hq z=>(R.kept q hq).2.2.2 i _ hi (by rw [e1,z]);have R1:=(R.lend hi e1 hH).pinned;refine⟨.ref a,getD_some e1,.inl ⟨a,rfl,⟨vs,.inl (.inl hH)⟩,?_⟩⟩;have w1:=w a;generalize hD3:({ D2 with nx:=λn ρ=>ρ[i]?=some (.lt a (.lst ds))/\D2.nx n (ρ.set i (.ow (.lst ds))) }:E2)=D3 at w1
 have L3:∀M H n ρ σ,Rel X.K { C with kp:=(a,.lst vs)::C.kp } M H n ρ σ->D3.nx n ρ->E.nx σ H:=λM H n ρ σ R w=>by
  rw [← hD3] at w;exact L.nx M H n _ σ (R.unlend w.1 hk) w.2
 have Lrt:D3.rt=D2.rt:=by rw [← hD3]
 refine⟨λk m σ' H'=>m=ds.length - k/\k<=ds.length/\∃M' n' ρ',Rel X.K { C with kp:=(a,.lst vs)::C.kp,pins:=(M,H)::C.pins } M' H' n' ρ' σ'/\BR b wb D3 (ds.drop k) n' ρ',⟨ds.length,by simp,bn _,M,n,_,R1,w1⟩,?_⟩;rintro k m σ' H' ⟨rfl,hkl,M',n',ρ',R',w'⟩;have pr:Pres M H M' H':=R'.pin (M,H) On;have ha':H' a=some (.lst vs):=(R'.kept (a,.lst vs) On).1;have hq:SqL X.K H' a vs:=.inl (.inl ha')
 by_cases hlt:k<ds.length
 ·have ed:ds.drop k=ds[k]::ds.drop (k+1):=c9 hlt
  rw [ed] at w';obtain⟨v,ev,hv⟩:=(hat.pres pr).get (Go hlt);refine .inr ⟨⟨vs,v,hq,ev⟩,λσ2 H2=>∃M2 n2 ρ2,Rel X.K { C with kp:=(a,.lst vs)::C.kp,pins:=(M,H)::C.pins } M2 H2 n2 ρ2 σ2/\BR b wb D3 (ds.drop (k+1)) n2 ρ2,λσ2 H2 ⟨M2,n2,ρ2,R2',w2⟩=>⟨ds.length - (k+1),by omega,rfl,hlt,M2,n2,ρ2,R2',w2⟩,λy H2 hy=>?_⟩;obtain⟨e2,hy⟩:=hy;subst e2
  have:some v=some y:=ev.symm.trans (hy vs hq)
  cases this;refine g2 _ M' H2 n' ρ' σ' ds[k] v _ _ R' hv w' λρ3 σ3 R3 w3=>?_;refine b2 _ M' H2 n' ρ3 σ3 { D3 with nx:=BR b wb D3 (ds.drop (k+1)),ct:=BR b wb D3 (ds.drop (k+1)),bk:=D3.nx } _ R3 ⟨λM4 H4 n4 ρ4 σ4 R4 w4=>⟨M4,n4,ρ4,R4,w4⟩,λv H d n e f r p=>L.rt v H d n e f r (by rw [← Lrt]; exact p),λM4 H4 n4 ρ4 σ4 R4 w4=>L3 M4 H4 n4 ρ4 σ4 R4.unpin w4,λM4 H4 n4 ρ4 σ4 R4 w4=>⟨M4,n4,ρ4,R4,w4⟩⟩ w3
 ·have e:k=ds.length:=by omega
  subst e;rw [fK] at w';exact .inl ⟨⟨vs,hq,by rw [hat.length]; exact Rs _⟩,L3 M' H' n' ρ' σ' R'.unpin w'⟩
end
end Dp
namespace Nt
open PySem PySem.Spec PyProof.Rows L2 Dp
def Y4(s t:Ao):Decidable (s=t) :=
 if h:s.a=t.a/\s.b=t.b/\s.len=t.len then .isTrue (by obtain⟨a,b,l⟩:=s; obtain⟨a',b',l'⟩:=t; obtain⟨h1,h2,h3⟩:=h; simp only at h1 h2 h3; subst h1 h2 h3; rfl) else .isFalse λe=>h (by rw [e]; exact⟨rfl,rfl,rfl⟩)
instance:DecidableEq Ao:=Y4
abbrev EF(Pd:D->Nat->Prop):E2:={ nx:=λn _=>Kd.fr=.sh/\Pd .non n,rt:=Pd }
def Ji(t:Ao):List Key:=[.inl t.len,.inr t.a,.inr t.b]
def Cg(ts:List Ao):Prop:=ts.Pairwise λs t=>Bb (Ji t) (Ji s)=false
def Nn:D->D
 | .tup [x,y,z]=>.tup [z,x,y]
 | d=>d
def aE(x:Str×Int):D:=.tup [.str x.1,.int x.2]
abbrev Q1:W2:=λss n P=>∃x y z:D,ss=[.sh (.tup [x,y,z])]/\P (.tup [z,x,y]) n
def ET:W2:=λss n P=>∃(d:D) (ts:List Ao),ss=[.sh d]/\Em d=some (ts.map Aj)/\ts.length<64/\∀ts':List Ao,ts'.Perm ts->Cg ts'->P (.lst (ts'.map Aj)) n
def Lo:Af:=(Av (B7 (AF (AT Aw (AB 0) (wC (D.int 2))) (AF (AT Aw (AB 0) (wC (D.int 0))) (AF (AT Aw (AB 0) (wC (D.int 1))) Ab)))))
def Kl:Af:=(Av (Sl Q1 (AB 0)))
theorem S9{s t:Ao}(h:Ji s=Ji t):s=t:=by
 obtain⟨a,b,l⟩:=s;obtain⟨a',b',l'⟩:=t;unfold Ji at h;simp only [iu,jG,jH,and_true] at h;obtain⟨rfl,rfl,rfl⟩:=h;rfl
theorem MO{α:Type}{R:α->α->Prop}(anti:∀a b,R a b->R b a->a=b):∀{l1 l2:List α},l1.Perm l2->l1.Pairwise R->l2.Pairwise R->l1=l2
 | [],l2,p,_,_=>(List.nil_perm.mp p).symm
 | a::l1,[],p,_,_=>absurd (List.perm_nil.mp p) (eX _ _)
 | a::l1,b::l2,p,h1,h2=>by
  have e:a=b:=by
   rcases TW.mp (p.mem_iff.mp On) with e | h
   ·exact e
   ·rcases TW.mp (p.mem_iff.mpr (On (a:=b) (l:=l2))) with e | h'
    ·exact e.symm
    ·exact anti a b ((dA.mp h1).1 b h') ((dA.mp h2).1 a h)
  subst e;rw [MO anti ((List.perm_cons a).mp p) (dA.mp h1).2 (dA.mp h2).2]
theorem Dd{l1 l2:List Ao}(p:l1.Perm l2)(h1:Cg l1)(h2:Cg l2):l1=l2:=MO (λa b x y=>S9 (DH _ _ y x)) p h1 h2
theorem Sv{α:Type}{f:α->D}{g:D->α}(hg:∀x,g (f x)=x){xs:List D}{ts:List α}(h:xs.Perm (ts.map f)):∃ts':List α,ts'.Perm ts/\xs=ts'.map f:=by
 refine⟨xs.map g,?_,?_⟩
 ·have:=h.map g
  rw [dN,show g∘f=id from funext hg,List.map_id] at this;exact this
 ·rw [dN]
  have:∀x∈xs,(f∘g) x=x:=λx hx=>by
   obtain⟨t,_,rfl⟩:=Tk.mp (h.mem_iff.mp hx);show f (g (f t))=f t;rw [hg]
  rw [gu this,List.map_id']
def Zo:D->Ao
 | .tup [.str a,.str b,.int l]=>⟨a,b,l⟩
 | _=>⟨"","",0⟩
section
variable {ss:List Slot}{n:Nat}{Pd:D->Nat->Prop}
theorem PB(h:Q1 ss n Pd):Lo (EE Pd) n (ss++bj 0 .no):=by
 obtain⟨x,y,z,rfl,p⟩:=h;unfold Lo;exact⟨_,AQ (j:=2) rfl,_,AQ (j:=0) rfl,_,AQ (j:=1) rfl,z3,p⟩
theorem Tj{ts:List Ao}(h:HM (λx=>CW (Nn x)) (ts.map Aj)):Cg ts:=by
 unfold HM at h;rw [fc] at h;exact h.imp λ{s t} z=>z _ _ rfl rfl
theorem Nk(h:ET ss n Pd):Kl (EF Pd) n (ss++bj 0 .no):=by
 obtain⟨d,ts,rfl,hd,h64,p⟩:=h;unfold Kl;refine⟨ts.map Aj,Nn,hd,by rw [No]; exact h64,λx hx Q hq=>?_,⟨λx hx=>?_,λx hx y hy ka kb ea eb=>?_⟩,λxs' hp ho=>?_⟩
 ·obtain⟨t,_,rfl⟩:=Tk.mp hx
  exact⟨_,_,_,rfl,hq⟩
 ·obtain⟨t,_,rfl⟩:=Tk.mp hx
  exact⟨Ji t,rfl,eX _ _⟩
 ·obtain⟨t,_,rfl⟩:=Tk.mp hx
  obtain⟨u,_,rfl⟩:=Tk.mp hy;cases (show some (Ji t)=some ka from ea);cases (show some (Ji u)=some kb from eb);rfl
 ·obtain⟨ts',h1,rfl⟩:=Sv (g:=Zo) (λ_=>rfl) hp
  exact p ts' h1 (Tj ho)
theorem Md{N:Net}(ok:N.Ok){x:Str}{p:Str×Int}(h:p∈DF N.ts x):p.1∈N.ps/\1<=p.2/\p.2<=1000000/\∃t∈N.ts,t.len=p.2/\((t.a=x/\t.b=p.1)\/(t.b=x/\t.a=p.1)):=by
 unfold DF at h;obtain⟨t,ht,h⟩:=eA.mp h;obtain⟨m1,m2,m3,m4,m5⟩:=ok.tin t ht
 rcases b_.mp h with h | h
 ·split at h
  ·rename_i e
   rw [Re.mp h];exact⟨m2,m4,m5,t,ht,rfl,.inl ⟨e,rfl⟩⟩
  ·cases h
 ·split at h
  ·rename_i e
   rw [Re.mp h];exact⟨m1,m4,m5,t,ht,rfl,.inr ⟨e,rfl⟩⟩
  ·cases h
theorem Qi(s t:Ao):GQ (Aj s) (Aj t)=true↔s=t:=by
 obtain⟨a,b,l⟩:=s;obtain⟨a',b',l'⟩:=t;show (a==a'&&(b==b'&&(l==l'&&true)))=true↔_;rw [iD,bz,bz,beq_iff_eq,beq_iff_eq,beq_iff_eq];constructor
 ·rintro ⟨rfl,rfl,rfl⟩; rfl
 ·rintro h; cases h; exact⟨rfl,rfl,rfl⟩
theorem La{xs:List D}(h:∀d∈xs,item d):E9 (.lst xs):=by
 have d1:FV xs<=1:=dps_le.mpr λd hd=>(h d hd).2.2;exact E8 (B:=1000001) (by decide) (fines_iff.mpr λd hd=>(h d hd).1) (by show FV xs+1<=100; omega)
theorem Ld{α β:Type}(f:α->β):∀(l:List α) (i:Nat),(l.map f).eraseIdx i=(l.eraseIdx i).map f
 | [],i=>rfl
 | x::l,0=>rfl
 | x::l,i+1=>by
  show f x::(l.map f).eraseIdx i=f x::(l.eraseIdx i).map f;rw [Ld f l i]
theorem V2{N:Net}(ok:N.Ok){x o:Str}{s t:Ao}(hs:s∈N.ts)(ht:t∈N.ts)(e:Bk s t)(h1:(s.a=x/\s.b=o)\/(s.b=x/\s.a=o))(h2:(t.a=x/\t.b=o)\/(t.b=x/\t.a=o)):False:=by
 have ls:=(ok.tin s hs).2.2.1;have lt:=(ok.tin t ht).2.2.1;have irr:∀a:Str,¬cs a<cs a:=λa=>ce _
 rcases h1 with ⟨a1,b1⟩ | ⟨a1,b1⟩ <;> rcases h2 with ⟨a2,b2⟩ | ⟨a2,b2⟩ <;> rw [a1,b1] at ls <;> rw [a2,b2] at lt
 ·rcases e with e | ⟨_,e⟩
  ·rw [a1,a2] at e; exact irr _ e
  ·rw [b1,b2] at e; exact irr _ e
 ·exact irr _ (ft ls lt)
 ·exact irr _ (ft ls lt)
 ·rcases e with e | ⟨_,e⟩
  ·rw [b1,b2] at e; exact irr _ e
  ·rw [a1,a2] at e; exact irr _ e
theorem Ri{N:Net}(ok:N.Ok)(x:Str):((DF N.ts x).map (·.1)).Nodup:=by
 have go:∀ts:List Ao,(∀t∈ts,t∈N.ts)->ts.Pairwise Bk->((DF ts x).map (·.1)).Nodup:=by
  intro ts
  induction ts with
  | nil=>intro _ _; exact cr
  | cons t ts ih =>
   intro hin hp;have i1:=ih (λs hs=>hin s (TM _ hs)) (dA.mp hp).2;have lt:=(ok.tin t (hin t On)).2.2.1
   have new:∀y,((t.a=x/\t.b=y)\/(t.b=x/\t.a=y))->y∉(DF ts x).map (·.1):=λy hy hm=>by
    obtain⟨s,hs,h⟩:=Mc hm;exact V2 ok (hin t On) (hin s (TM _ hs)) ((dA.mp hp).1 s hs) hy h
   have e:DF (t::ts) x=((if t.a=x then [(t.b,t.len)] else [])++(if t.b=x then [(t.a,t.len)] else []))++DF ts x:=by
    unfold DF;rw [fB]
   rw [e]
   by_cases h1:t.a=x
   ·have h2:¬t.b=x:=λz=>by rw [h1,z] at lt; exact ce _ lt
    rw [if_pos h1,if_neg h2,cH,gZ,bm,cD];exact⟨new _ (.inl ⟨h1,rfl⟩),i1⟩
   ·rw [if_neg h1,cK]
    by_cases h2:t.b=x
    ·rw [if_pos h2,gZ,bm,cD]
     exact⟨new _ (.inr ⟨h2,rfl⟩),i1⟩
    ·rw [if_neg h2,cK]
     exact i1
 exact go N.ts (λ_ h=>h) ok.trise
end
def Eg(t:Ao):List Key:=[.inr t.a,.inr t.b,.inl t.len]
def Lj(ts:List Ao):Prop:=ts.Pairwise λs t=>Bb (Eg t) (Eg s)=false
def Px(N:Net)(d:D):Prop:=∃ts:List Ao,d=.tup [.tup (N.ps.map .str),.tup (ts.map Aj)]/\(∀t∈ts,t∈N.ts)/\ts.Pairwise Bk
noncomputable def thinB(N:Net)(d:D):Bool:=@decide (Px N d) (dk _)
theorem thinB_iff{N:Net}{d:D}:thinB N d=true↔Px N d:=by
 unfold thinB;exact @decide_eq_true_iff _ (dk _)
theorem UU{N:Net}{d:D}{b:Bool}(h:b=true↔Px N d):b=thinB N d:=by
 rw [d7,thinB_iff];exact h
def Y2(N:Net)(d:D):Prop:=∃s∈N.ts,d=Aj s
noncomputable def JQ(N:Net)(d:D):Bool:=@decide (Y2 N d) (dk _)
theorem tofB_iff{N:Net}{d:D}:JQ N d=true↔Y2 N d:=by
 unfold JQ;exact @decide_eq_true_iff _ (dk _)
theorem W8{a:Str}{x:D}(h:GQ (.str a) x=true):x=.str a:=by
 cases x with
 | str b =>
  have h:(a==b)=true:=h;rw [eq_of_beq h]
 | _=>cases h
theorem Zm{a:Str}{x:D}(h:GQ x (.str a)=true):x=.str a:=by
 cases x with
 | str b =>
  have h:(b==a)=true:=h;rw [eq_of_beq h]
 | _=>cases h
theorem II:∀{xs:List D} {ps:List Str},iF (BA xs) (BA (ps.map .str))=true->xs=ps.map .str
 | [],[],_=>rfl
 | [],_::_,h=>by cases h
 | _::_,[],h=>by cases h
 | x::xs,p::ps,h=>by
  have h:(dL (toPy x) (toPy (.str p))&&iF (BA xs) (BA (ps.map .str)))=true:=h;rw [bz] at h;rw [Zm (a:=p) (x:=x) h.1,II h.2];rfl
theorem eqvAll_refl:∀ps:List Str,iF (BA (ps.map .str)) (BA (ps.map .str))=true
 | []=>rfl
 | p::ps=>by
  show ((p==p)&&iF (BA (ps.map .str)) (BA (ps.map .str)))=true;rw [beq_self_eq_true,eqvAll_refl ps];rfl
theorem eqD_strs{p:D}{ps:List Str}:GQ p (.tup (ps.map .str))=true↔p=.tup (ps.map .str):=by
 constructor
 ·intro h
  cases p with
  | tup xs=>rw [II (xs:=xs) (ps:=ps) h]
  | _=>cases h
 ·rintro rfl
  exact eqvAll_refl ps
theorem SG{s:Ao}{d:D}(h:GQ (Aj s) d=true):∃z,d=.tup [.str s.a,.str s.b,z]/\∀i,z=.int i->i=s.len:=by
 cases d with
 | tup xs =>
  match xs,h with
  | [x,y,z],h =>
   have h:(dL (toPy (.str s.a)) (toPy x)&&(dL (toPy (.str s.b)) (toPy y)&&(dL (.int s.len) (toPy z)&&true)))=true:=h;rw [iD,bz,bz] at h;refine⟨z,by rw [W8 (a:=s.a) (x:=x) h.1,W8 (a:=s.b) (x:=y) h.2.1],λi e=>?_⟩;subst e;have h3:(s.len==i)=true:=h.2.2;exact(eq_of_beq h3).symm
  | [],h=>cases h
  | [x],h=>exact absurd h (by show ¬((dL (toPy (.str s.a)) (toPy x)&&false)=true); simp)
  | [x,y],h=>exact absurd h (by show ¬((dL (toPy (.str s.a)) (toPy x)&&(dL (toPy (.str s.b)) (toPy y)&&false))=true); simp)
  | x::y::z::u::r,h=>exact absurd h (by show ¬((dL (toPy (.str s.a)) (toPy x)&&(dL (toPy (.str s.b)) (toPy y)&&(dL (.int s.len) (toPy z)&&false)))=true); simp)
 | _=>cases h
theorem NC{f:Ao->D}{k:Ao->List Key}(hk:∀s t,Tz (f s) (f t)=some (Bb (k s) (k t))):∀{ts:List Ao},WP (ts.map f)=true↔ts.Pairwise λs t=>Bb (k s) (k t)=true
 | []=>⟨λ_=>.nil,λ_=>rfl⟩
 | [t]=>⟨λ_=>gG _ _,λ_=>rfl⟩
 | s::t::r=>by
  have ih:=NC hk (ts:=t::r);show ((Tz (f s) (f t)==some true)&&WP ((t::r).map f))=true↔_;rw [bz,ih,hk,dA (a:=s) (l:=t::r)];constructor
  ·rintro ⟨h1,h2⟩
   have h1:Bb (k s) (k t)=true:=bg (eq_of_beq h1);refine⟨λu hu=>?_,h2⟩
   rcases TW.mp hu with rfl | hu
   ·exact h1
   ·exact CV _ _ _ h1 ((dA.mp h2).1 u hu)
  ·rintro ⟨h1,h2⟩
   exact⟨by rw [h1 t On]; rfl,h2⟩
theorem Pe(s t:Ao):Tz (Aj s) (Aj t)=some (Bb (Eg s) (Eg t)):=by
 show (if (true&&(true&&(true&&true)))=true then some (E6 (Eg s) (Eg t)) else none)=_;rw [if_pos (show (true&&(true&&(true&&true)))=true from rfl),Iw _ _ rfl]
theorem LB(s:Ao):¬Bk s s:=by
 rintro (h | ⟨_,h⟩) <;> exact Cf _ h
theorem P6{s t:Ao}(h:Bk s t):Bb (Eg s) (Eg t)=true:=by
 show (if (dZ s.a:Key)=.inr t.a then (if (dZ s.b:Key)=.inr t.b then (if (fQ s.len:Key)=.inl t.len then false else decide (s.len<t.len)) else decide (cs s.b<cs t.b)) else decide (cs s.a<cs t.a))=true
 rcases h with h | ⟨h,h'⟩
 ·rw [if_neg (λe=>Cf s.a (by rw [dU e] at h ⊢; exact h)),decide_eq_true h]
 ·rw [if_pos (by rw [h]),if_neg (λe=>Cf s.b (by rw [dU e] at h' ⊢; exact h')),decide_eq_true h']
theorem LR:∀{ts:List Ao},ts.Pairwise Bk->∀s∈ts,∀t∈ts,s.a=t.a->s.b=t.b->s=t
 | [],_,s,hs,_,_,_,_=>by cases hs
 | x::ts,h,s,hs,t,ht,e1,e2=>by
  have h:=dA.mp h
  rcases TW.mp hs with es | hs
  ·rcases TW.mp ht with et | ht
   ·rw [es,et]
   ·rcases h.1 t ht with h | ⟨_,h⟩
    ·rw [← es,e1] at h; exact absurd h (Cf _)
    ·rw [← es,e2] at h; exact absurd h (Cf _)
  ·rcases TW.mp ht with et | ht
   ·rcases h.1 s hs with h | ⟨_,h⟩
    ·rw [← et,e1] at h; exact absurd h (Cf _)
    ·rw [← et,e2] at h; exact absurd h (Cf _)
   ·exact LR h.2 s hs t ht e1 e2
theorem V1{N:Net}(ok:N.Ok){s t:Ao}(hs:s∈N.ts)(ht:t∈N.ts)(h:Bb (Eg s) (Eg t)=true):Bk s t:=by
 have h:(if (dZ s.a:Key)=.inr t.a then (if (dZ s.b:Key)=.inr t.b then (if (fQ s.len:Key)=.inl t.len then false else decide (s.len<t.len)) else decide (cs s.b<cs t.b)) else decide (cs s.a<cs t.a))=true:=h
 by_cases h1:s.a=t.a
 ·rw [if_pos (by rw [h1])] at h
  by_cases h2:s.b=t.b
  ·rw [if_pos (by rw [h2]),if_pos (by rw [LR ok.trise s hs t ht h1 h2])] at h
   cases h
  ·rw [if_neg (λe=>h2 (dU e)),decide_eq_true_eq] at h
   exact .inr ⟨h1,h⟩
 ·rw [if_neg (λe=>h1 (dU e)),decide_eq_true_eq] at h
  exact .inl h
theorem CZ{ts:List Ao}(h:ts.Pairwise Bk):ts.Nodup:=h.imp λ{s t} h e=>by rw [e] at h; exact LB _ h
theorem sub_len{l m:List Ao}(hl:l.Nodup)(hm:m.Nodup)(h:∀t∈l,t∈m):l.length<=m.length:=by
 have:l.Perm (m.filter λt=>decide (t∈l)):=(iG hl (hm.filter _)).mpr λt=>by
  rw [dC,decide_eq_true_eq];exact⟨λz=>⟨h t z,z⟩,λz=>z.2⟩
 rw [this.length_eq];exact dP _ _
theorem S5{N:Net}(ok:N.Ok){ts:List Ao}(h:∀t∈ts,t∈N.ts)(hp:ts.Pairwise Bk):Net.Ok ⟨N.ps,ts⟩:=⟨ok.names,ok.rise,λt ht=>ok.tin t (h t ht),hp⟩
theorem LN{P:Ao->Prop}:∀{xs:List D},(∀d∈xs,∃s,P s/\d=Aj s)->∃ts:List Ao,xs=ts.map Aj/\∀t∈ts,P t
 | [],_=>⟨[],rfl,λt h=>by cases h⟩
 | d::xs,h=>by
  obtain⟨s,hs,rfl⟩:=h d On;obtain⟨ts,rfl,ht⟩:=LN λe he=>h e (TM _ he);refine⟨s::ts,rfl,λt z=>?_⟩
  rcases TW.mp z with rfl | z
  ·exact hs
  ·exact ht t z
theorem NY{N:Net}{xs:List D}(h:xs.all (JQ N)=true):∃ts:List Ao,xs=ts.map Aj/\∀t∈ts,t∈N.ts :=
 LN λd hd=>by
  obtain⟨s,hs,e⟩:=tofB_iff.mp (eW.mp h d hd);exact⟨s,hs,e⟩
theorem RF{N:Net}(ok:N.Ok)(p:D)(xs:List D):(GQ p (.tup (N.ps.map .str))&&(xs.all (JQ N)&&WP xs))=thinB N (.tup [p,.tup xs]):=by
 refine UU ⟨λh=>?_,λh=>?_⟩
 ·rw [bz,bz] at h
  obtain⟨ts,rfl,hts⟩:=NY h.2.1;refine⟨ts,by rw [eqD_strs.mp h.1],hts,?_⟩
  have:=(NC Pe).mp h.2.2
  exact this.imp_of_mem λ{s t} hs ht z=>V1 ok (hts s hs) (hts t ht) z
 ·obtain⟨ts,e,hts,hp⟩:=h
  cases e;rw [bz,bz];refine⟨eqD_strs.mpr rfl,eW.mpr λd hd=>?_,(NC Pe).mpr (hp.imp λ{s t} z=>P6 z)⟩;obtain⟨t,ht,rfl⟩:=Tk.mp hd;exact tofB_iff.mpr ⟨t,hts t ht,rfl⟩
theorem NX{N:Net}{d:D}(h:∀p xs,d≠.tup [p,.tup xs]):thinB N d=false:=by
 rw [eO];intro z;obtain⟨ts,e,_⟩:=thinB_iff.mp z;exact h _ _ e
end Nt
namespace L2
open PySem PySem.Spec PyProof.Rows PySem.W
section
variable {X:Cx}
end
end L2
namespace Dp
open PySem PySem.Spec PyProof.Rows L2
section
variable {X:Cx}{K:Frag}
end
end Dp
namespace Nt
open PySem PySem.Spec PyProof.Rows L2 Dp
def look(ts:List Ao)(x y:Str):Option Int:=((DF ts x).find? λz=>decide (z.1=y)).map (·.2)
def Fg(ts:List Ao):Str->List Str->Int->Option Int
 | _,[],s=>some s
 | x,y::r,s=>match look ts x y with
  | some l=>Fg ts y r (s+l)
  | none=>none
def RJ:Option Int->D
 | some i=>.int i
 | none=>.non
def CY:D->Bool
 | .str _=>true
 | _=>false
def Vo(N:Net):List Str->D
 | x::r=>if x∈N.ps then RJ (Fg N.ts x r 0) else .non
 | []=>.non
def X5(N:Net):D->D
 | .tup xs=>if xs.all CY then Vo N (strsOf xs) else .non
 | _=>.non
def YI(d:D):Prop:=EO (10 ^ 30) d/\Ip d<=60000/\Iz d<=50
abbrev NK:W2:=λss n P=>∃(N:Net) (d:D),ss=[.sh (enc N),.sh d]/\N.Ok/\N.ps.length<=26/\N.ts.length<=60/\YI d/\P (X5 N d) n
def Om:Af:=(AZ (BP (Ef (DX (AY (Kw "tuple" (AB 1)))) (AY (AT (Ig false) (DR KQ (AF (AB 1) Ab)) (wC (D.int 0))))) (Av (wC D.non)) A9)
 (AZ (BP (DX (AY (DR SF (AF (Bl [none] (BO (AB 1)) (Aa 0) CI (Kw "str" (AB 0))) Ab)))) (Av (wC D.non)) A9)
 (AZ (Ax 2 (AV Kt (AC (AG (AB 0)) AW)))
 (AZ (BP (AY (AT (Ih true) (AT Aw (AB 1) (wC (D.int 0))) (AB 2))) (Av (wC D.non)) A9)
 (AZ (Ax 3 (wC (D.int 0)))
 (AZ (Dy (Q9 (AF (AB 1) (AF (NQ Eh (AB 1) (B8 (wC (D.int 1))) Br) Ab))) (DU 2 (An (Aa 4) (An (Aa 5) B0))) (AZ (BP (AY (AT (Ih true) (AB 5) (AT Bm (AB 2) (AB 4)))) (Av (wC D.non)) A9)
 (Ss 3 (AT Bm (AT Bm (AB 2) (AB 4)) (AB 5)))))
 (Av (AB 3))))))))
def Pt:Af:=(AZ (BP (Ef (DX (AY (Kw "tuple" (AB 1)))) (Ef (AY (AT (Ig false) (DR KQ (AF (AB 1) Ab)) (wC (D.int 0)))) (AY (AT (GP false) (wC (D.bl false)) (Bl [none] (BO (AB 1)) (Aa 0) CI (Kw "str" (AB 0))))))) (Av (wC D.non)) A9)
 (AZ (BP (AY (AT (GP false) (wC (D.bl false)) (Bl [some 0,none] (BO (AB 1)) (Aa 1) CI (AT (GP false) (AB 1) (AT Aw (AB 0) (wC (D.int 0))))))) (Av (wC D.non)) A9)
 (AZ (Ax 2 (wC (D.int 0)))
 (AZ (Dy (Sm (AF (wC (D.int 1)) (AF (DR KQ (AF (AB 1) Ab)) Ab))) (Aa 3) (AZ (Yz (NQ Eh (AB 1) (B8 (AT Qf (AB 3) (wC (D.int 1)))) (B8 (AT Az (AB 3) (wC (D.int 1))))) (DU 2 (An (Aa 4) (An (Aa 5) B0))))
 (AZ (Ax 6 (Bl [some 4,some 5,none] (BO (AT Aw (AB 0) (wC (D.int 1)))) (Aa 2) (IB (AY (AT (Ig true) (AB 0) (AB 1))) (IB (AY (AT (GP false) (AB 0) (NQ Eh (AB 2) Br (B8 (wC (D.int 2)))))) (AY (AT (GP false) (AB 1) (NQ Eh (AB 2) Br (B8 (wC (D.int 2)))))))) (AT Aw (AB 2) (wC (D.int 2)))))
 (AZ (BP (AY (AT YJ (AB 6) (Ek Ab))) (Av (wC D.non)) A9)
 (Ax 2 (AT Az (AB 2) (AT Aw (AB 6) (wC (D.int 0)))))))))
 (Av (AB 2))))))
theorem JX:∀{xs:List D},xs.all CY=true->∃ys:List Str,xs=ys.map .str
 | [],_=>⟨[],rfl⟩
 | d::r,h=>by
  rw [gP,bz] at h;obtain⟨ys,e⟩:=JX h.2;cases d with
  | str x=>exact⟨x::ys,by rw [bm,e]⟩
  | _=>cases h.1
theorem all_strs(ys:List Str):(ys.map D.str).all CY=true:=by rw [gj]; exact eW.mpr λ_ _=>rfl
theorem L6{g:Str->D}{x:Str}:∀{ps:List Str},BM (ps.map .inr) (ps.map g) (.inr x)=if x∈ps then some (g x) else none
 | []=>rfl
 | p::ps=>by
  show (if (dZ p:Key)=.inr x then some (g p) else BM (ps.map .inr) (ps.map g) (.inr x))=_;rw [L6 (ps:=ps)]
  by_cases e:p=x
  ·subst e; rw [if_pos rfl,if_pos On]
  ·rw [if_neg (λz=>e (dU z))]
   by_cases h:x∈ps
   ·rw [if_pos h,if_pos (TM _ h)]
   ·rw [if_neg h,if_neg (λz=>(TW.mp z).elim (λz=>e z.symm) h)]
theorem Il{y:Str}:∀{xs:List (Str×Int)},BM (xs.map λx=>.inr x.1) (xs.map λx=>.int x.2) (.inr y)=((xs.find? λz=>decide (z.1=y)).map (·.2)).map .int
 | []=>rfl
 | p::ps=>by
  show (if (dZ p.1:Key)=.inr y then some (D.int p.2) else BM (ps.map λx=>.inr x.1) (ps.map λx=>.int x.2) (.inr y))=_;rw [Il (xs:=ps)]
  by_cases e:p.1=y
  ·rw [if_pos (by rw [e]),gM (by exact decide_eq_true e)]; rfl
  ·rw [if_neg (λz=>e (dU z)),gN (by rw [decide_eq_true_eq]; exact e)]
theorem OE{N:Net}(ok:N.Ok){x y:Str}{l:Int}(h:look N.ts x y=some l):y∈N.ps/\1<=l/\l<=1000000:=by
 unfold look at h;cases c:(DF N.ts x).find? λz=>decide (z.1=y) with
 | none=>rw [c] at h; cases h
 | some z =>
  rw [c] at h;cases h;have h1:=List.find?_some c;have h2:=iT c;obtain⟨t,ht,hz⟩:=eA.mp h2;obtain⟨m1,m2,_,m3,m4⟩:=ok.tin t ht;have ey:z.1=y:=of_decide_eq_true h1
  rcases b_.mp hz with hz | hz
  ·split at hz
   ·cases Re.mp hz
    exact⟨by rw [← ey]; exact m2,m3,m4⟩
   ·cases hz
  ·split at hz
   ·cases Re.mp hz
    exact⟨by rw [← ey]; exact m1,m3,m4⟩
   ·cases hz
section
variable {ss:List Slot}{n:Nat}{Pd:D->Nat->Prop}
theorem OD{N:Net}(ok:N.Ok){D2:E2}{b0 b1:Slot}:∀(r:List Str) (x:Str) (s:Int) (s4 s5:Slot),x∈N.ps->(match Fg N.ts x r s with | some l=>∀s4 s5,D2.nx n [b0,b1,.sh (ED N),.sh (.int l),s4,s5] | none=>D2.rt .non n) ->
  BR (DU 2 (An (Aa 4) (An (Aa 5) B0))) (AZ (BP (AY (AT (Ih true) (AB 5) (AT Bm (AB 2) (AB 4)))) (Av (wC D.non)) A9) (Ss 3 (AT Bm (AT Bm (AB 2) (AB 4)) (AB 5)))) D2 (DA ((x::r).map .str) (r.map .str)) n [b0,b1,.sh (ED N),.sh (.int s),s4,s5]
 | [],x,s,s4,s5,hx,h=>h s4 s5
 | y::r,x,s,s4,s5,hx,h=>by
  have v1:BM (N.ps.map .inr) (N.ps.map (Rj N.ts)) (.inr x)=some (Rj N.ts x):=by rw [L6,if_pos hx]
  refine⟨rfl,rfl,?_⟩;refine⟨_,_,.inr x,_,rfl,rfl,v1,_,_,.inr y,rfl,rfl,?_⟩;show if (!(BM ((DF N.ts x).map λz=>.inr z.1) ((DF N.ts x).map λz=>.int z.2) (.inr y)).isSome)=true then _ else _
  rw [Il];unfold Fg at h;have hl:((DF N.ts x).find? λz=>decide (z.1=y)).map (·.2)=look N.ts x y:=rfl;rw [hl];cases c:look N.ts x y with
  | none=>rw [c] at h; exact Dt h
  | some l =>
   rw [c] at h;have v2:BM ((DF N.ts x).map λz=>.inr z.1) ((DF N.ts x).map λz=>.int z.2) (.inr y)=some (.int l):=by rw [Il,hl,c]; rfl
   refine Cp ⟨s,rfl,_,_,.inr x,_,rfl,rfl,v1,_,_,.inr y,_,rfl,rfl,v2,l,rfl,?_⟩;exact OD ok r y (s+l) _ _ (OE ok c).1 h
theorem MH(h0:NK ss n Pd):Om (EE Pd) n (ss++bj 4 .no):=by
 obtain⟨N,d,rfl,ok,lp,lt,fd,p⟩:=h0;cases d with
 | tup xs =>
  have hl:=L7 xs;have hz:JV xs<=60000:=fd.2.1;have p':Pd (if xs.all CY then Vo N (strsOf xs) else .non) n:=p;refine⟨_,_,rfl,rfl,?_⟩;show if ((xs.length:Int)==0)=true then _ else _
  cases xs with
  | nil=>exact Dt p'
  | cons x0 r0 =>
   rw [show (((x0::r0).length:Int)==0)=false from beq_eq_false_iff_ne.mpr (by rw [ZB]; omega)];refine Cp ⟨by omega,?_⟩;refine Bv (λd=>.bl (CY d)) (λρ=>∃s,ρ=[s]) _ _ _ _ ?_ ⟨_,rfl⟩ ?_
   ·rintro d hd ρ m nx ⟨s,rfl⟩ hnx
    have:=hnx [.sh d] ⟨_,rfl⟩
    cases d <;> exact this
   rw [cK];refine⟨_,_,rfl,HC CY (x0::r0),?_⟩;rw [Ut];show if (!(x0::r0).all CY)=true then _ else _
   cases ha:(x0::r0).all CY with
   | false=>rw [ha] at p'; exact Dt p'
   | true =>
    rw [ha] at p';obtain⟨ys,e⟩:=JX ha;rw [e,F7] at p';cases ys with
    | nil=>cases e
    | cons y r =>
     rw [bm] at e;cases e;refine Cp ⟨N,rfl,ok,by omega,by omega,?_⟩;refine⟨.str y,AQ (j:=0) rfl,_,_,.inr y,rfl,rfl,?_⟩;show if (!(BM (N.ps.map .inr) (N.ps.map (Rj N.ts)) (.inr y)).isSome)=true then _ else _
     rw [L6];have p2:Pd (if y∈N.ps then RJ (Fg N.ts y r 0) else .non) n:=p'
     by_cases hy:y∈N.ps
     ·rw [if_pos hy] at p2 ⊢
      refine Cp ⟨_,_,(y::r).map .str,r.map .str,rfl,rfl,by show some (Dp.cutD (D.str y::r.map .str) (some 1) none)=_; rw [Uk]; rfl,?_⟩;refine OD ok r y 0 _ _ hy ?_;cases c:Fg N.ts y r 0 with
      | none=>rw [c] at p2; exact p2
      | some l=>rw [c] at p2; exact λ_ _=>p2
     ·rw [if_neg hy] at p2 ⊢
      exact Dt p2
 | _=>exact p
theorem E5{b:BW}{tt:Ij}{te:DW}{P:List D->Nat->Prop}(c:D->Bool)(g:D->D)(I:List Slot->Prop):∀(ds acc:List D) (n:Nat) (ρ:List Slot),
  (∀d∈ds,∀(ρ:List Slot) (n:Nat) (nx:D->Nat->List Slot->Prop) (sk:Nat->List Slot->Prop),I ρ->(∀ρ',I ρ'->c d=true->nx (g d) n ρ')->(∀ρ',I ρ'->c d=false->sk n ρ')->b d ρ λρ1=>tt n ρ1 λc n1=>if c=true then te n1 ρ1 λy n2=>nx y n2 ρ1 else sk n1 ρ1)->I ρ->P (acc++(ds.filter c).map g) n->B9 b tt te P ds acc n ρ
 | [],acc,n,ρ,_,_,h=>by rw [List.filter_nil,fJ,cH] at h; exact h
 | d::ds,acc,n,ρ,ht,hρ,h=>ht d On ρ n (λy n2 ρ1=>B9 b tt te P ds (acc++[y]) n2 ρ1) (λn2 ρ1=>B9 b tt te P ds acc n2 ρ1) hρ
  (λρ' hρ' hc=>E5 c g I ds (acc++[g d]) n ρ' (λd hd=>ht d (TM _ hd)) hρ' (by rw [gH hc] at h; rw [cb]; exact h))
  (λρ' hρ' hc=>E5 c g I ds acc n ρ' (λd hd=>ht d (TM _ hd)) hρ' (by rw [fP (by rw [hc]; decide)] at h; exact h))
def EY(x y:Str):D->Bool
 | .tup [.str a,.str b,_]=>!(x==y)&&((a==x||b==x)&&(a==y||b==y))
 | _=>false
def T9:D->D
 | .tup [_,_,l]=>l
 | d=>d
theorem KA{x y:Str}:∀{ts:List Ao},(∀t∈ts,t.a≠t.b)->(((ts.map Aj).filter (EY x y)).map T9).head?=(look ts x y).map .int
 | [],_=>rfl
 | t::ts,h=>by
  have ih:=KA (x:=x) (y:=y) (ts:=ts) λs hs=>h s (TM _ hs);have hab:=h t On;have ej:EY x y (Aj t)=(!(x==y)&&((t.a==x||t.b==x)&&(t.a==y||t.b==y))):=rfl;have el:look (t::ts) x y=((((if t.a=x then [(t.b,t.len)] else [])++(if t.b=x then [(t.a,t.len)] else []))++DF ts x).find? λz=>decide (z.1=y)).map (·.2):=rfl;rw [bm,el]
  by_cases ax:t.a=x
  ·have bx:t.b≠x:=λe=>hab (ax.trans e.symm)
   rw [if_pos ax,if_neg bx,cH]
   by_cases e:t.b=y
   ·have xy:x≠y:=λz=>bx (e.trans z.symm)
    have:EY x y (Aj t)=true:=by rw [ej,beq_eq_false_iff_ne.mpr xy,beq_iff_eq.mpr ax,beq_iff_eq.mpr e]; simp
    rw [gH this,gW,gM (by exact decide_eq_true e)];rfl
   ·have:EY x y (Aj t)=false:=by
     rw [ej]
     by_cases xy:x=y
     ·rw [beq_iff_eq.mpr xy]; rfl
     ·rw [beq_eq_false_iff_ne.mpr e,beq_eq_false_iff_ne.mpr (show t.a≠y from λz=>xy (ax.symm.trans z))]; simp
    rw [fP (by rw [this]; decide),gW,gN (by rw [decide_eq_true_eq]; exact e)];exact ih
  ·rw [if_neg ax,cK]
   by_cases bx:t.b=x
   ·rw [if_pos bx]
    by_cases e:t.a=y
    ·have xy:x≠y:=λz=>ax (e.trans z.symm)
     have:EY x y (Aj t)=true:=by rw [ej,beq_eq_false_iff_ne.mpr xy,beq_iff_eq.mpr bx,beq_iff_eq.mpr e]; simp
     rw [gH this,gW,gM (by exact decide_eq_true e)];rfl
    ·have:EY x y (Aj t)=false:=by
      rw [ej]
      by_cases xy:x=y
      ·rw [beq_iff_eq.mpr xy]; rfl
      ·rw [beq_eq_false_iff_ne.mpr e,beq_eq_false_iff_ne.mpr (show t.b≠y from λz=>xy (bx.symm.trans z))]; simp
     rw [fP (by rw [this]; decide),gW,gN (by rw [decide_eq_true_eq]; exact e)];exact ih
   ·have:EY x y (Aj t)=false:=by rw [ej,beq_eq_false_iff_ne.mpr ax,beq_eq_false_iff_ne.mpr bx]; simp
    rw [if_neg bx,cK,fP (by rw [this]; decide)];exact ih
theorem OH{N:Net}(ok:N.Ok):∀{r:List Str} {x:Str} {s:Int},(∃y∈r,y∉N.ps)->Fg N.ts x r s=none
 | [],x,s,h=>by obtain⟨y,hy,_⟩:=h; cases hy
 | z::r,x,s,h=>by
  unfold Fg;cases c:look N.ts x z with
  | none=>rfl
  | some l =>
   have hz:=(OE ok c).1;obtain⟨y,hy,hn⟩:=h
   rcases TW.mp hy with rfl | hy
   ·exact absurd hz hn
   ·exact OH ok ⟨y,hy,hn⟩
theorem WM{ys:List Str}{k:Nat}{x y:Str}{r:List Str}(h:ys.drop k=x::y::r):Dp.cutD (ys.map D.str) (some (1+(k:Int) - 1)) (some (1+(k:Int)+1))=[.str x,.str y]:=by
 have hl:=congrArg fG h;rw [de,ZB,ZB] at hl;unfold Dp.cutD;rw [show (1+(k:Int) - 1)=((k:Nat):Int) by omega,show (1+(k:Int)+1)=((k+2:Nat):Int) by omega,HT.sIx_nat,HT.sIx_nat,No,iq (by omega),iq (by omega),← List.map_drop,h,show k+2 - k=2 by omega];rfl
theorem PF(h0:NK ss n Pd):Pt (EE Pd) n (ss++bj 5 .no):=by
 obtain⟨N,d,rfl,ok,lp,lt,fd,p⟩:=h0;cases d with
 | tup xs =>
  have hl:=L7 xs;have hz:JV xs<=60000:=fd.2.1;have p':Pd (if xs.all CY then Vo N (strsOf xs) else .non) n:=p;refine⟨_,_,rfl,rfl,?_⟩;show if ((xs.length:Int)==0)=true then _ else _
  cases xs with
  | nil=>exact Dt p'
  | cons x0 r0 =>
   rw [show (((x0::r0).length:Int)==0)=false from beq_eq_false_iff_ne.mpr (by rw [ZB]; omega)];refine Cp ⟨by omega,?_⟩;refine Bv (λd=>.bl (CY d)) (λρ=>∃s,ρ=[s]) _ _ _ _ ?_ ⟨_,rfl⟩ ?_
   ·rintro d hd ρ m nx ⟨s,rfl⟩ hnx
    have:=hnx [.sh d] ⟨_,rfl⟩
    cases d <;> exact this
   rw [cK];refine OR ?_;show if (!(x0::r0).all CY)=true then _ else _
   cases ha:(x0::r0).all CY with
   | false=>rw [ha] at p'; exact Dt p'
   | true =>
    rw [ha] at p';obtain⟨ys,e⟩:=JX ha;rw [e,F7] at p';cases ys with
    | nil=>cases e
    | cons y r =>
     rw [bm] at e;cases e;have p2:Pd (if y∈N.ps then RJ (Fg N.ts y r 0) else .non) n:=p'
     have hlay:∀z∈y::r,E9 (.str z):=λz hz=>by
      refine E8 (B:=10 ^ 30) (by decide) ?_ (bn _);exact fines_iff.mp fd.1 _ (Tk.mpr ⟨z,hz,rfl⟩:D.str z∈(y::r).map D.str)
     refine Cp ⟨by omega,?_⟩;refine Bv (λd=>.bl (match d with | .str z=>N.ps.any (·==z) | _=>false)) (λρ=>∃s,ρ=[.sh (enc N),s]) _ _ _ _ ?_ ⟨_,rfl⟩ ?_
     ·rintro d hd ρ m nx ⟨s,rfl⟩ hnx
      obtain⟨z,hz,rfl⟩:=Tk.mp (show d∈(y::r).map D.str from hd);refine⟨_,AQ (j:=0) rfl,hlay z hz,Hr ok.names,_,rfl,?_⟩
      have:=hnx [.sh (enc N),.sh (.str z)] ⟨_,rfl⟩
      have e1:((N.ps.map D.str).any λu=>GQ u (.str z))=N.ps.any (·==z):=by rw [List.any_map]; rfl
      have this:nx (.bl (N.ps.any (·==z))) m [.sh (enc N),.sh (.str z)]:=this;rw [← e1] at this;exact this
     rw [cK];refine OR (l:=(y::r).map D.str) (p:=fun(d:D)=>match d with | .str z=>N.ps.any (·==z) | _=>false) ?_;show if (!((y::r).map D.str).all _)=true then _ else _
     rw [gj]
     have eall:((y::r).all ((fun(d:D)=>match d with | .str z=>N.ps.any (·==z) | _=>false)∘D.str))=true↔∀z∈y::r,z∈N.ps:=by
      rw [eW];refine forall_congr' λz=>forall_congr' λhz=>?_;show (N.ps.any (·==z))=true↔_;rw [eB];exact⟨fun⟨u,hu,e⟩=>by rw [← eq_of_beq e]; exact hu,λh=>⟨z,h,beq_self_eq_true _⟩⟩
     by_cases hin:∀z∈y::r,z∈N.ps
     ·rw [eall.mpr hin]
      rw [if_pos (hin y On)] at p2;refine Cp ⟨_,_,rfl,rfl,_,_,rfl,⟨by decide,by decide,by omega,by omega⟩,?_⟩;have hne:∀t∈N.ts,t.a≠t.b:=λt ht e=>by have:=(ok.tin t ht).2.2.1; rw [e] at this; exact ce _ this
      have elen:(((y::r).map D.str).length:Int) - 1=(r.length:Int):=by rw [No,ZB]; omega
      refine Bj (all:=Cv 1 ((((y::r).map D.str).length:Int) - 1).toNat) (λpre m ρ=>∃(x:Str) (rest:List Str) (s:Int) (s3 s4 s5 s6:Slot),(y::r).drop pre.length=x::rest/\m=n/\Pd (RJ (Fg N.ts x rest s)) n/\ρ=[.sh (enc N),.sh (.tup ((y::r).map .str)),.sh (.int s),s3,s4,s5,s6]) ?_ ?_ _ [] _ _ rfl ⟨y,r,0,_,_,_,_,rfl,rfl,p2,rfl⟩
      ·rintro m ρ ⟨x,rest,s,s3,s4,s5,s6,hd,rfl,hp,rfl⟩
       rw [CK,elen] at hd
       have:=congrArg fG hd
       rw [de,ZB,ZB] at this;have hr:rest=[]:=eQ.mp (by omega);rw [hr] at hp;exact hp
      ·rintro pre d post m ρ nx hall ⟨x,rest,s,s3,s4,s5,s6,hd,rfl,hp,rfl⟩ hnx
       obtain⟨rfl,hk⟩:=Ir hall;rw [elen] at hk;have hlen:=congrArg fG hd;rw [de,ZB,ZB] at hlen;cases rest with
       | nil=>rw [dR] at hlen; omega
       | cons z rest =>
        rw [bi,cA] at hnx;have hd2:(y::r).drop (pre.length+1)=z::rest:=by rw [← List.drop_drop,hd]; rfl
        have hx:x∈y::r:=fF (i:=pre.length) (by rw [hd]; exact On);have hz:z∈y::r:=fF (i:=pre.length) (by rw [hd]; exact TM _ On);have ec:=WM hd;show DU 2 (An (Aa 4) (An (Aa 5) B0)) (D.tup (Dp.cutD ((y::r).map D.str) (some (1+(pre.length:Int) - 1)) (some (1+(pre.length:Int)+1)))) _ _;rw [ec];refine⟨rfl,rfl,?_⟩;refine⟨.tup (N.ts.map Aj),AQ (j:=1) rfl,by rw [No]; omega,?_⟩;refine E5 (EY x z) T9 (λρ=>∃s,ρ=[.sh (.str x),.sh (.str z),s]) _ _ _ _ ?_ ⟨_,rfl⟩ ?_
        ·rintro d hd ρ m nx sk ⟨s,rfl⟩ h1 h2
         obtain⟨t,ht,rfl⟩:=Tk.mp hd;obtain⟨m1,m2,_⟩:=ok.tin t ht
         have l2:E9 (.tup [.str t.a,.str t.b]):=Hr (ps:=[t.a,t.b]) λp hp=>by
          simp only [TW,bu,or_false] at hp
          rcases hp with rfl | rfl
          ·exact ok.names _ m1
          ·exact ok.names _ m2
         have k1:=h1 [.sh (.str x),.sh (.str z),.sh (Aj t)] ⟨_,rfl⟩;have k2:=h2 [.sh (.str x),.sh (.str z),.sh (Aj t)] ⟨_,rfl⟩;have ej:EY x z (Aj t)=(!(x==z)&&((t.a==x||t.b==x)&&(t.a==z||t.b==z))):=rfl;have a1:∀x:Str,([D.str t.a,D.str t.b].any λu=>GQ u (.str x))=(t.a==x||t.b==x):=λx=>by show (t.a==x||(t.b==x||false))=_; rw [jF]
         rw [ej] at k1 k2;show if (!(x==z))=true then _ else _
         cases e1:(x==z) with
         | true=>rw [e1] at k2; exact Cp (Cp (k2 rfl))
         | false =>
          refine Dt ⟨hlay x hx,l2,_,rfl,?_⟩;show if ([D.str t.a,D.str t.b].any λu=>GQ u (.str x))=true then _ else _
          rw [a1];cases e2:(t.a==x||t.b==x) with
          | false=>rw [e1,e2] at k2; exact Cp (Cp (k2 rfl))
          | true =>
           refine Dt ⟨hlay z hz,l2,_,rfl,?_⟩;show if ([D.str t.a,D.str t.b].any λu=>GQ u (.str z))=true then _ else _
           rw [a1];cases e3:(t.a==z||t.b==z) with
           | false=>rw [e1,e2,e3] at k2; exact Cp (k2 rfl)
           | true=>rw [e1,e2,e3] at k1; exact Dt ⟨_,AQ (j:=2) rfl,k1 rfl⟩
        ·rw [cK]
         have hj:=KA (x:=x) (y:=z) hne
         have hfine:∀d∈((N.ts.map Aj).filter (EY x z)).map T9,EO 1000000 d:=λd hd=>by
          obtain⟨e,he,rfl⟩:=Tk.mp hd;obtain⟨t,ht,rfl⟩:=Tk.mp (dC.mp he).1;obtain⟨_,_,_,m3,m4⟩:=ok.tin t ht;show t.len.natAbs<=1000000;omega
         have hdp:∀d∈((N.ts.map Aj).filter (EY x z)).map T9,Iz d<=0:=λd hd=>by
          obtain⟨e,he,rfl⟩:=Tk.mp hd;obtain⟨t,ht,rfl⟩:=Tk.mp (dC.mp he).1;exact Rs _
         generalize ((N.ts.map Aj).filter (EY x z)).map T9=L at hj hfine hdp;have hd0:FV L<=0:=dps_le.mpr hdp;refine⟨z0,E8 (B:=1000000) (by decide) (fines_iff.mpr hfine) (by show FV L+1<=100; omega),⟨rfl,rfl,by decide⟩,?_⟩;unfold Fg at hp;cases L with
         | nil =>
          have hc:look N.ts x z=none:=by
           cases c:look N.ts x z with
           | none=>rfl
           | some l=>rw [c] at hj; cases hj
          rw [hc] at hp;exact Dt hp
         | cons a L =>
          cases c:look N.ts x z with
          | none=>rw [c] at hj; cases hj
          | some l =>
           rw [c] at hj hp;cases hj;exact Cp ⟨_,AQ (j:=0) rfl,hnx _ _ ⟨z,rest,s+l,_,_,_,_,hd2,rfl,hp,rfl⟩⟩
     ·rw [eO.mpr (λh=>hin (eall.mp h))]
      have:(if y∈N.ps then RJ (Fg N.ts y r 0) else .non)=D.non:=by
       by_cases hy:y∈N.ps
       ·rw [if_pos hy,OH ok]
        ·rfl
        ·refine eI λhc=>hin λz hz=>?_
         rcases TW.mp hz with rfl | hz
         ·exact hy
         ·exact eI λhn=>hc ⟨z,hz,hn⟩
       ·rw [if_neg hy]
      rw [this] at p2;exact Dt p2
 | _=>exact p
end
def WR:W2:=λss n P=>∃(N:Net) (d:D),ss=[.sh (enc N),.sh d]/\N.Ok/\E9 d/\P (.bl (JQ N d)) n
def Q0:W2:=λss n P=>∃(N:Net) (d:D),ss=[.sh (enc N),.sh d]/\N.Ok/\N.ps.length<=24/\N.ts.length<=60/\EO (10 ^ 41) d/\Ip d<=200000/\Iz d<=90/\P (.bl (thinB N d)) n
def IX:W2:=λss n P=>∃(N:Net) (ts:List Ao),ss=[.sh (enc N),.sh (enc ⟨N.ps,ts⟩)]/\N.Ok/\N.ts.length<64/\(∀t∈ts,t∈N.ts)/\∀ts':List Ao,ts'.Perm (N.ts.filter λt=>decide (t∉ts))->Cg ts'->P (.lst (ts'.map Aj)) n
def IN:Af:=(Av (RA (AT (GP false) (AB 1) (AT Aw (AB 0) (wC (D.int 1)))) (AV NG (AC (AG (AT Aw (AB 1) (wC (D.int 2)))) AW))))
def Lr:Af:=(AZ (BP (Ef (DX (AY (AV FK (AC (AG (wC (D.int 2))) (AC (AG (AB 1)) AW))))) (DX (AY (Kw "tuple" (AT Aw (AB 1) (wC (D.int 1))))))) (Av (wC (D.bl false))) A9)
 (Av (RA (AT YJ (AT Aw (AB 1) (wC (D.int 0))) (AT Aw (AB 0) (wC (D.int 0)))) (RA (DR SF (AF (Bl [some 0,none] (BO (AT Aw (AB 1) (wC (D.int 1)))) (Aa 1) CI (AV WR (AC (AG (AB 0)) (AC (AG (AB 1)) AW)))) Ab)) (AV JH (AC (AG (AT Aw (AB 1) (wC (D.int 1)))) AW))))))
def Km:Af:=(Av (AV ET (AC (AG (Bl [some 1,none] (BO (AT Aw (AB 0) (wC (D.int 1)))) (Aa 1) (AY (AT (GP true) (AB 1) (AT Aw (AB 0) (wC (D.int 1))))) (AB 1))) AW)))
def Eb:Af:=(Av (Bl [none,none,none] (BO (DR Mn (AF (Bl [none] (BO (AB 0)) (Aa 0) CI (B7 (AF (AT Aw (AB 0) (wC (D.int 2))) (AF (AT Aw (AB 0) (wC (D.int 0))) (AF (AT Aw (AB 0) (wC (D.int 1))) Ab))))) Ab))) (DU 3 (An (Aa 0) (An (Aa 1) (An (Aa 2) B0)))) CI (B7 (AF (AB 1) (AF (AB 2) (AF (AB 0) Ab))))))
theorem Ve{ts:List Ao}(h:HM CW (ts.map Aj)):Lj ts:=by
 unfold HM at h;rw [fc] at h;exact h.imp λ{s t} z=>z _ _ rfl rfl
theorem Gw{N:Net}(ok:N.Ok){ts:List Ao}(h:∀t∈ts,t∈N.ts):E9 (.tup (ts.map Aj))/\E9 (.lst (ts.map Aj)):=by
 have it:∀d∈ts.map Aj,item d:=λd hd=>by
  obtain⟨t,ht,rfl⟩:=Tk.mp hd;exact KC ok _ (Tk.mpr ⟨t,h t ht,rfl⟩)
 have d1:FV (ts.map Aj)<=1:=dps_le.mpr λd hd=>(it d hd).2.2;exact⟨E8 (B:=1000001) (by decide) (fines_iff.mpr λd hd=>(it d hd).1) (by show FV (ts.map Aj)+1<=100; omega),La it⟩
theorem Me{N:Net}(ok:N.Ok){t:Ao}(h:t∈N.ts):E9 (Aj t):=by
 have it:=KC ok _ (Tk.mpr ⟨t,h,rfl⟩);exact E8 (B:=1000001) (by decide) it.1 (by have:=it.2.2; omega)
theorem JD{ts:List Ao}{t:Ao}:((ts.map Aj).any λy=>GQ y (Aj t))=decide (t∈ts):=by
 rw [d7,eB,decide_eq_true_eq];constructor
 ·rintro ⟨d,hd,e⟩
  obtain⟨s,hs,rfl⟩:=Tk.mp hd;rw [← (Qi s t).mp e];exact hs
 ·intro h
  exact⟨Aj t,Tk.mpr ⟨t,h,rfl⟩,(Qi t t).mpr rfl⟩
theorem QW:∀xs:List D,xs.length<=JV xs
 | []=>bn _
 | x::xs=>by
  have:=QW xs
  show xs.length+1<=Ip x+1+JV xs;omega
theorem OG:∀ts:List Ao,200*ts.length<=JV (ts.map Aj)
 | []=>bn _
 | t::ts=>by
  have:=OG ts
  show 200*(ts.length+1)<=t.a.length+1+(t.b.length+1+(200+1+0))+1+JV (ts.map Aj);omega
section
variable {ss:List Slot}{n:Nat}{Pd:D->Nat->Prop}
theorem MJ(h:WR ss n Pd):IN (EE Pd) n (ss++bj 0 .no):=by
 obtain⟨N,d,rfl,ok,hl,p⟩:=h;unfold IN;refine⟨_,AQ (j:=1) rfl,hl,(Gw ok λ_ h=>h).1,_,rfl,?_⟩;cases c:(N.ts.map Aj).any λy=>GQ y d with
 | false =>
  have:JQ N d=false:=by
   rw [eO];intro z;obtain⟨s,hs,rfl⟩:=tofB_iff.mp z;rw [JD,decide_eq_true hs] at c;cases c
  rw [this] at p;exact p
 | true =>
  obtain⟨e,he,q⟩:=eB.mp c;obtain⟨s,hs,rfl⟩:=Tk.mp he;obtain⟨z,rfl,hz⟩:=SG q;refine⟨_,AQ (j:=2) rfl,[z],rfl,rfl,?_⟩
  have:JQ N (.tup [.str s.a,.str s.b,z])=Sj z:=by
   rw [d7,tofB_iff];constructor
   ·rintro ⟨t,_,e⟩
    have e:z=.int t.len:=by injection e with e; injection e with _ e; injection e with _ e; injection e
    rw [e];rfl
   ·intro hw
    cases z with
    | int i=>exact⟨s,hs,by rw [hz i rfl]; rfl⟩
    | _=>cases hw
  rw [this] at p;exact p
theorem PH(h:Q0 ss n Pd):Lr (EE Pd) n (ss++bj 0 .no):=by
 obtain⟨N,d,rfl,ok,l1,l2,hf,hs,hd,p⟩:=h;unfold Lr;refine⟨2,d,rfl,?_⟩;cases h2:tupleOfB 2 d with
 | false =>
  rw [NX (λp xs e=>by rw [e] at h2; cases h2)] at p;exact Dt p
 | true =>
  obtain⟨x,y,rfl⟩:=aP h2;refine Cp ⟨_,AQ (j:=1) rfl,?_⟩;cases y with
  | tup xs =>
   rw [← RF ok] at p;have f1:EO (10 ^ 41) x:=hf.1;have f2:Fo (10 ^ 41) xs:=hf.2.1;have hd':max (Iz x) (max (FV xs+1) 0)+1<=90:=hd;have hs':Ip x+1+(JV xs+1+0)<=200000:=hs;refine Cp ⟨_,AQ (j:=0) rfl,_,AQ (j:=0) rfl,E8 (B:=10 ^ 41) (by decide) f1 (by omega),Hr ok.names,?_⟩;refine Ur (b1:=GQ x (.tup (N.ps.map .str))) (b2:=xs.all (JQ N)&&WP xs) (P:=Pd) (n:=n) (k:=λP=>_) (λ_ hp=>?_) p;refine⟨_,AQ (j:=1) rfl,by show xs.length<=10000000; have:=QW xs; omega,?_⟩;refine Bv (λd=>.bl (JQ N d)) (λρ=>∃s,ρ=[.sh (enc N),s]) _ _ _ _ ?_ ⟨_,rfl⟩ ?_
   ·rintro e he ρ m nx ⟨s,rfl⟩ hnx
    have dx:FV xs<=88:=by omega
    exact⟨N,e,rfl,ok,E8 (B:=10 ^ 41) (by decide) (fines_iff.mp f2 e he) (by have:=dps_le.mp dx e he; omega),hnx _ ⟨_,rfl⟩⟩
   rw [cK];refine⟨_,_,rfl,HC (JQ N) xs,?_⟩;rw [Ut];refine Ur (b1:=xs.all (JQ N)) (b2:=WP xs) (P:=Pd) (n:=n) (k:=λP=>_) (λha hp=>?_) hp;obtain⟨ts,rfl,hts⟩:=NY ha
   have:=OG ts
   refine⟨_,AQ (j:=1) rfl,_,_,rfl,rfl,by rw [No]; omega,λa ha b hb=>?_,hp⟩;obtain⟨s,_,rfl⟩:=Tk.mp ha;obtain⟨t,_,rfl⟩:=Tk.mp hb;exact⟨_,Pe s t⟩
  | _ =>
   rw [NX (λp xs e=>by cases e)] at p;exact Dt p
theorem Nl(h:IX ss n Pd):Km (EF Pd) n (ss++bj 0 .no):=by
 obtain⟨N,ts,rfl,ok,h64,hts,p⟩:=h;unfold Km;refine⟨_,AQ (j:=1) rfl,by show (N.ts.map Aj).length<=10000000; rw [No]; omega,?_⟩;refine E5 (λd=>!((ts.map Aj).any λy=>GQ y d)) id (λρ=>∃s,ρ=[.sh (enc ⟨N.ps,ts⟩),s]) _ _ _ _ ?_ ⟨_,rfl⟩ ?_
 ·rintro d hd ρ m nx sk ⟨s,rfl⟩ h1 h2
  obtain⟨t,ht,rfl⟩:=Tk.mp hd;refine⟨_,AQ (j:=1) rfl,Me ok ht,(Gw ok hts).1,_,rfl,?_⟩;exact CD (λc=>h1 _ ⟨_,rfl⟩ c) λc=>h2 _ ⟨_,rfl⟩ (eO.mpr c)
 ·rw [cK,List.map_id]
  have e:(N.ts.map Aj).filter (λd=>!((ts.map Aj).any λy=>GQ y d))=(N.ts.filter λt=>decide (t∉ts)).map Aj:=by
   rw [List.filter_map]
   congr 1
   refine List.filter_congr λt _=>?_;show (!((ts.map Aj).any λy=>GQ y (Aj t)))=decide (t∉ts);rw [JD,decide_not]
  rw [e];exact⟨_,_,rfl,rfl,fS (dP _ _) h64,p⟩
theorem Ib(h:ET ss n Pd):Eb (EF Pd) n (ss++bj 0 .no):=by
 obtain⟨d,ts,rfl,hd,h64,p⟩:=h;have szl:=PySem.sizeLine_eq;unfold Eb
 have go:(ts.map Aj).length<=10000000/\B9 (Aa 0) CI (B7 (AF (AT Aw (AB 0) (wC (D.int 2))) (AF (AT Aw (AB 0) (wC (D.int 0))) (AF (AT Aw (AB 0) (wC (D.int 1))) Ab)))) (λacc n2=>Mn [.lst acc] λz=>BO (wC z) n2 [] λds n1=>ds.length<=10000000/\B9 (DU 3 (An (Aa 0) (An (Aa 1) (An (Aa 2) B0)))) CI (B7 (AF (AB 1) (AF (AB 2) (AF (AB 0) Ab)))) (λacc n2=>Pd (.lst acc) n2) ds [] n1 [.no,.no,.no]) (ts.map Aj) [] n [.no]:=by
  refine⟨by rw [No]; omega,?_⟩;refine Bv Nn (λρ=>∃s,ρ=[s]) _ _ _ _ ?_ ⟨_,rfl⟩ ?_
  ·rintro d hd ρ m nx ⟨s,rfl⟩ hnx
   obtain⟨t,ht,rfl⟩:=Tk.mp hd;exact⟨_,AQ (j:=2) rfl,_,AQ (j:=0) rfl,_,AQ (j:=1) rfl,z3,hnx _ ⟨_,rfl⟩⟩
  rw [cK,dN];refine⟨_,_,rfl,rfl,by rw [No]; exact h64,⟨λx hx=>?_,λx hx y hy ka kb ea eb=>?_⟩,λxs' hp ho=>?_⟩
  ·obtain⟨t,_,rfl⟩:=Tk.mp hx
   exact⟨Ji t,rfl,eX _ _⟩
  ·obtain⟨t,_,rfl⟩:=Tk.mp hx
   obtain⟨u,_,rfl⟩:=Tk.mp hy;cases (show some (Ji t)=some ka from ea);cases (show some (Ji u)=some kb from eb);rfl
  ·obtain⟨ts',h1,rfl⟩:=Sv (f:=Nn∘Aj) (g:=λd=>match d with | .tup [.int l,.str a,.str b]=>⟨a,b,l⟩ | _=>⟨"","",0⟩) (λ_=>rfl) hp
   have ho:Cg ts':=by
    unfold HM at ho;rw [fc] at ho;exact ho.imp λ{s t} z=>z _ _ rfl rfl
   refine⟨by show (ts'.map (Nn∘Aj)).length<=10000000; rw [No,h1.length_eq]; omega,?_⟩;refine Bv (λd=>match d with | .tup [l,a,b]=>.tup [a,b,l] | d=>d) (λρ=>∃a b c,ρ=[a,b,c]) _ _ _ _ ?_ ⟨_,_,_,rfl⟩ ?_
   ·rintro d hd ρ m nx ⟨a,b,c,rfl⟩ hnx
    obtain⟨t,ht,rfl⟩:=Tk.mp hd;exact⟨rfl,rfl,z3,hnx _ ⟨_,_,_,rfl⟩⟩
   ·rw [cK,dN]
    exact p ts' h1 ho
 cases d with
 | lst ys=>cases hd; exact go
 | tup ys=>cases hd; exact go
 | _=>cases hd
end
section
variable {ss:List Slot}{n:Nat}{Pd:D->Nat->Prop}
end
theorem Sz{s t:Ao}(h:Eg s=Eg t):s=t:=by
 obtain⟨a,b,l⟩:=s;obtain⟨a',b',l'⟩:=t;unfold Eg at h;simp only [iu,jG,jH,and_true] at h;obtain⟨rfl,rfl,rfl⟩:=h;rfl
theorem O2{l1 l2:List Ao}(p:l1.Perm l2)(h1:Lj l1)(h2:Lj l2):l1=l2:=MO (λa b x y=>Sz (DH _ _ y x)) p h1 h2
theorem Pp{ts:List Ao}(h:ts.Pairwise Bk):Lj ts:=h.imp λ{s t} z=>by
 cases e:Bb (Eg t) (Eg s) with
 | false=>rfl
 | true =>
  have:=CV _ _ _ (P6 z) e
  rw [Co] at this;cases this
def HI:W2:=λss n P=>∃l t b x:Int,ss=[.sh (.int l),.sh (.tup [.int t,.int b]),.sh (.int x)]/\1<=b/\b<=1000000/\1<=t/\t<=1000000/\P (.bl (decide (l*b<=x*t))) n
def IM:Af:=(Av (AT Vw (AT By (AB 0) (AT Aw (AB 1) (wC (D.int 1)))) (AT By (AB 2) (AT Aw (AB 1) (wC (D.int 0))))))
section
variable {ss:List Slot}{n:Nat}{Pd:D->Nat->Prop}
theorem Ys{i j:Int}(h0:0<=j)(h1:j<=1000000):CMul i j:=.inr ⟨by omega,by omega⟩
theorem MI(h:HI ss n Pd):IM (EE Pd) n (ss++bj 0 .no):=by
 obtain⟨l,t,b,x,rfl,b0,b1,t0,t1,p⟩:=h;unfold IM;exact⟨_,AQ (j:=1) rfl,Ys (by omega) b1,_,AQ (j:=0) rfl,Ys (by omega) t1,p⟩
end
end Nt
namespace L2
open PySem PySem.Spec PyProof.Rows PySem.W
section
variable {prog:Program}{w:World}{A:Around}{E:Value->Shared->Prop}{R:Result->Shared->Prop}{I:Addr}{fp wr:List Addr}{n:Nat}{P:Nat->Value->Prop}{St:Nat->Heap->Prop}
def XJ(prog:cL)(w:cQ)(A:cw)(op:CmpOp)(P:Nat->Ev->Prop)(Cm:b9->Prop)(bt:Nat->Nat->Bool):Prop :=
 ∀i j vi vj (s:Op) (Q:Ev->Op->Prop) (E:Ev->Op->Prop),Cm s.heap->P i vi->P j vj->Q (.bool (bt i j)) s->wpAny (model prog w) A (richCompare op vi vj) Q E s
theorem Ro(W:Walks prog w A.in1 I fp wr n P St)(bt:Nat->Nat->Bool)(Cm:b9->Prop)(hcmp:XJ prog w A.in1 .Lt P Cm bt)(S:Db)(hSf:S∉fp)(hmono:∀h h':b9,Cm h->(∀b o,b∉wr->b≠S->h.get? b=some o->h'.get? b=some o)->Cm h') :
  ∀(k j:Nat) (s:Op) (vb:Ev) (c:Nat),n - (j+1)=k->j+1<=n->St (j+1) s.heap->Cm s.heap->P (argBest bt j) vb ->
  s.heap.get? S=some { cls:=.type "list",dict:=none,data:=.seq #[vb,vb] c,slots:=#[] } ->
  (∀v h' tk,P (argBest bt (n - 1)) v->(∀b o,b∉wr->b≠S->s.heap.get? b=some o->h'.get? b=some o)->R (.ok (.ret v)) { s with heap:=h',toks:=tk }) ->
  codeAny (model prog w) A (.builtin "min.loop" ⟨[.ref I,.none,.ref S],[]⟩) R s:=by
 have hSw:S∉wr:=λh=>hSf (W.sub _ h);have hname:(toString "min"++toString ".loop" : String) = "min.loop":=by decide
 intro k
 induction k with
 | zero =>
  intro j s vb c hk hj hst hcm hPb hS hR;have hin:j+1=n:=by omega
  refine dE PySem.F.entry_min_loop ?_;rw [cv PySem.F.plain_min_loop _];show wpAny _ A.in1 (seqItems? (.ref S) >>= _) _ _ s;refine Ch (dB hS rfl ?_);show wpAny _ A.in1 (tryCatch (pyNext (.ref I)) _ >>= _) _ _ s;refine Ch (gD (W.done s _ _ (hin▸hst) λh' tk hk'=>?_));have hS':=hk' S _ hSw hS;show wpAny _ A.in1 (updateSeq S (λ_=>#[]) >>= _) _ _ _;refine Ch ?_;refine gp hS' rfl (Ch (fY (Sc ?_)));refine hR vb _ tk (by rw [← hin]; exact hPb) λb o hbw hbS e=>(cB _ _ (ci hbS)).trans (hk' b o hbw e)
 | succ k ih =>
  intro j s vb c hk hj hst hcm hPb hS hR;have hlt:j+1<n:=by omega
  refine dE PySem.F.entry_min_loop ?_;rw [cv PySem.F.plain_min_loop _];show wpAny _ A.in1 (seqItems? (.ref S) >>= _) _ _ s;refine Ch (dB hS rfl ?_);show wpAny _ A.in1 (tryCatch (pyNext (.ref I)) _ >>= _) _ _ s;refine Ch (gD (W.item (j+1) s _ _ hlt hst λv h' tk hP hst' hk'=>?_));have hS':=hk' S _ hSw hS;have hcm':Cm h':=hmono _ _ hcm λb o h1 _ e=>hk' b o h1 e;show wpAny _ A.in1 (tryCatch (holding [v,v] (richCompare .Lt v vb >>= _)) _ >>= _) _ _ _;refine Ch (gD (cu (Ch (hcmp (j+1) (argBest bt j) v vb _ _ _ hcm' hP hPb ?_))));refine Ch (cu (eN ?_));refine Ch (fY (Sc ?_));cases hb:bt (j+1) (argBest bt j) with
  | true =>
   simp only [if_true];refine Ch ?_;refine gp hS' rfl (Ch (fY ?_));rw [hname]
   refine Sc ⟨dS PySem.F.plain_min_loop _,ih (j+1) _ v _ (by omega) hlt (W.frame _ _ _ hst' λb hbf o e=>?_) (hmono _ _ hcm' λb o _ h2 e=>(cB _ _ (ci h2)).trans e) (by simp only [argBest,hb,if_true]; exact hP) (fg _ hS' rfl)
    λv' h'' tk'' hP' hk''=>?_⟩
   ·exact(cB _ _ (λh:S=b=>hSf (by rw [h]; exact hbf))).trans e
   ·exact hR v' h'' tk'' hP' λb o hbw hbS e=>hk'' b o hbw hbS ((cB _ _ (ci hbS)).trans (hk' b o hbw e))
  | false =>
   simp only [c_,if_false];refine Ch (fY ?_);rw [hname];refine Sc ⟨dS PySem.F.plain_min_loop _,ih (j+1) _ vb c (by omega) hlt hst' hcm' (by simp only [argBest,hb,c_,if_false]; exact hPb) hS' λv' h'' tk'' hP' hk''=>?_⟩;exact hR v' h'' tk'' hP' λb o hbw hbS e=>hk'' b o hbw hbS (hk' b o hbw e)
theorem Pb(W:Walks prog w A.in1 I fp wr n P St)(bt:Nat->Nat->Bool)(Cm:b9->Prop)(hcmp:XJ prog w A.in1 .Lt P Cm bt)(S:Db)(hSf:S∉fp)(hmono:∀h h':b9,Cm h->(∀b o,b∉wr->b≠S->h.get? b=some o->h'.get? b=some o)->Cm h')(hn:0<n){s:Op}{c:Nat}(hst:St 0 s.heap)(hcm:Cm s.heap)
  (hS:s.heap.get? S=some { cls:=.type "list",dict:=none,data:=.seq #[] c,slots:=#[] })
  (hR:∀v h' tk,P (argBest bt (n - 1)) v->(∀b o,b∉wr->b≠S->s.heap.get? b=some o->h'.get? b=some o)->R (.ok (.ret v)) { s with heap:=h',toks:=tk }) :
  codeAny (model prog w) A (.builtin "min.loop" ⟨[.ref I,.none,.ref S],[]⟩) R s:=by
 have hSw:S∉wr:=λh=>hSf (W.sub _ h);have hname:(toString "min"++toString ".loop" : String) = "min.loop":=by decide
 refine dE PySem.F.entry_min_loop ?_;rw [cv PySem.F.plain_min_loop _];show wpAny _ A.in1 (seqItems? (.ref S) >>= _) _ _ s;refine Ch (dB hS rfl ?_);show wpAny _ A.in1 (tryCatch (pyNext (.ref I)) _ >>= _) _ _ s;refine Ch (gD (W.item 0 s _ _ hn hst λv h' tk hP hst' hk'=>?_));have hS':=hk' S _ hSw hS;have hcm':Cm h':=hmono _ _ hcm λb o h1 _ e=>hk' b o h1 e;show wpAny _ A.in1 (updateSeq S (λ_=>#[v,v]) >>= _) _ _ _;refine Ch ?_;refine gp hS' rfl ?_;rw [hname];refine Sc ⟨dS PySem.F.plain_min_loop _,Ro W bt Cm hcmp S hSf hmono _ 0 _ v _ rfl hn (W.frame _ _ _ hst' λb hbf o e=>?_) (hmono _ _ hcm' λb o _ h2 e=>(cB _ _ (ci h2)).trans e) hP (fg _ hS' rfl) λv' h'' tk'' hP' hk''=>?_⟩
 ·exact(cB _ _ (λh:S=b=>hSf (by rw [h]; exact hbf))).trans e
 ·exact hR v' h'' tk'' hP' λb o hbw hbS e=>hk'' b o hbw hbS ((cB _ _ (ci hbS)).trans (hk' b o hbw e))
theorem min_list{s:Op}{l:Db}{items:Array Ev}{Q:Ev->Op->Prop}(bt:Nat->Nat->Bool)(hh:A.handled=none)(hl:s.heap.IsList l items)(hn:0<items.size)
  (hcmp:∀i j vi vj (s':Op) (Q:Ev->Op->Prop) (E:Ev->Op->Prop),(∀b o,s.heap.get? b=some o->s'.heap.get? b=some o)->items[i]?=some vi->items[j]?=some vj->Q (.bool (bt i j)) s'->wpAny (model prog w) A.in1 (richCompare .Lt vi vj) Q E s')
  (h:∀v h' tk,items[argBest bt (items.size - 1)]?=some v->(∀b o,s.heap.get? b=some o->h'.get? b=some o)->Q v { s with heap:=h',toks:=tk }):wpAny (model prog w) A (call (.builtin "min") [.ref l]) Q E s:=by
 have hname:(toString "min"++toString ".loop" : String) = "min.loop":=by decide
 have hlt:l<s.heap.objs.size:=by obtain⟨_,e,_⟩:=hl; exact XV e
 refine call_function_tree PySem.F.kind_min PySem.F.plain_min PySem.F.entry_min (PySem.F.args_min1 _) ?_;show wpAny _ A.in1 (h_ "min" ["key","default"] 0 ⟨[],[]⟩ >>= _) _ _ s;refine Ch (i4 (show h_ "min" ["key","default"] 0 ⟨[],[]⟩=pure [none,none] from rfl) ?_);refine Ch (Sc ?_);refine Ch (dW hl ?_);refine Ch (cW ?_);rw [hname];have W:=Walks.list (prog:=prog) (w:=w) (A:=A.in1) hh s.heap.objs.size l (b8 hlt) items;have hs1:(s.heap.push { cls:=.type "list_iterator",data:=.fields #[.ref l,.int 0 0] }).objs.size=s.heap.objs.size+1:=dH _ _;refine Sc ⟨dS PySem.F.plain_min_loop _,Pb W bt (λh'=>∀b o,s.heap.get? b=some o->h'.get? b=some o) (λi j vi vj s' Q E hc h1 h2 q=>hcmp i j vi vj s' Q E hc h1 h2 q) (s.heap.push { cls:=.type "list_iterator",data:=.fields #[.ref l,.int 0 0] }).objs.size (λhm=>?_) (λh1 h2 hc hk b o e=>hk b o (λhm=>?_) ?_ (hc b o e)) hn ⟨⟨_,FM _ (Uf _ rfl),rfl,rfl⟩,(hl.push _).push _⟩ (λb o e=>FM _ (FM _ e)) (Uf _ rfl) λv h' tk hP hk=>?_⟩
 ·rw [hs1] at hm
  rcases TW.mp hm with e | hm
  ·exact absurd e (Nat.succ_ne_self _)
  ·rw [← Re.mp hm] at hlt
   exact absurd hlt (gC.mpr (dQ _))
 ·rw [Re.mp hm] at e
  exact absurd (XV e) (cy _)
 ·rw [hs1]
  exact b8 (dn (XV e))
 ·refine h v h' tk hP λb o e=>hk b o (λhm=>?_) ?_ (FM _ (FM _ e))
  ·rw [Re.mp hm] at e
   exact absurd (XV e) (cy _)
  ·rw [hs1]
   exact b8 (dn (XV e))
end
theorem Kp(keys:List (List Key)):∀m:Nat,argBest (λi j=>Bb (keys.getD i []) (keys.getD j [])) m<=m/\∀i,i<=m->Bb (keys.getD i []) (keys.getD (argBest (λi j=>Bb (keys.getD i []) (keys.getD j [])) m) [])=false
 | 0=>⟨Rs _,λi hi=>by
  have:i=0:=by omega
  subst this;exact Co _⟩
 | m+1=>by
  obtain⟨h1,h2⟩:=Kp keys m;unfold argBest
  by_cases c:Bb (keys.getD (m+1) []) (keys.getD (argBest (λi j=>Bb (keys.getD i []) (keys.getD j [])) m) [])=true
  ·rw [if_pos c]
   refine⟨Rs _,λi hi=>?_⟩
   by_cases e:i=m+1
   ·subst e; exact Co _
   ·cases z:Bb (keys.getD i []) (keys.getD (m+1) []) with
    | false=>rfl
    | true =>
     have:=CV _ _ _ z c
     rw [h2 i (by omega)] at this;cases this
  ·rw [if_neg c]
   refine⟨by omega,λi hi=>?_⟩
   by_cases e:i=m+1
   ·subst e
    cases z:Bb (keys.getD (m+1) []) (keys.getD (argBest (λi j=>Bb (keys.getD i []) (keys.getD j [])) m) []) with
    | false=>rfl
    | true=>exact absurd z c
   ·exact h2 i (by omega)
section
variable {X:Cx}
def Wo(K:Frag):List V->Hp->VK->Prop:=λxs H Q=>∃(p:Db) (vs:List V) (keys:List (List Key)),xs=[.ref p]/\SqL K H p vs/\0<vs.length/\KeysAt K H vs keys /\
 ∀j v,vs[j]?=some v->(∀i,i<vs.length->Bb (keys.getD i []) (keys.getD j [])=false)->Q v H
theorem SS{k:Nat}(hr:Room k X.A):C7 X (.builtin "min") (Wo X.K):=by
 intro pins s σ H xs us Q I r h;obtain⟨p,vs,keys,rfl,hq,hn,hk,q⟩:=h;obtain⟨u,rfl,rx⟩:=vals1 r;cases rx;obtain⟨its,r',pl,hz⟩:=I.list hq;have hl:=r'.length;have tk:=hk.tups I r' λb o e=>e;have hu:=hr.un;refine min_list (λi j=>Bb (keys.getD i []) (keys.getD j [])) hr.hd pl.isList (by rw [UF]; omega) (λi j vi vj s' Q' E' hold h1 h2 q'=>?_) λv h' tk' hv hold=>?_
 ·have hi:i<keys.length:=by rw [← hk.len,hl]; have:=(iH.mp h1).1; simpa using this
  have hj:j<keys.length:=by rw [← hk.len,hl]; have:=(iH.mp h2).1; simpa using this
  obtain⟨a,⟨cls,dd,data,sl⟩,xs,n,e1,e2,e3,e4,e5⟩:=tk.at_ i keys[i] (Go hi);obtain⟨a',⟨cls',dd',data',sl'⟩,xs',n',e1',e2',e3',e4',e5'⟩:=tk.at_ j keys[j] (Go hj);simp only at e3 e4 e3' e4';subst e3 e4 e3' e4';have e1:its.toArray[i]?=some (.ref a):=by rw [← e1]; simp
  have e1':its.toArray[j]?=some (.ref a'):=by rw [← e1']; simp
  rw [e1] at h1;rw [e1'] at h2;cases h1;cases h2;have hsm:=hk.same _ (dO hi) _ (dO hj);have g1:keys.getD i []=keys[i]:=by rw [bp,Go hi]; rfl
  have g2:keys.getD j []=keys[j]:=by rw [bp,Go hj]; rfl
  simp only [g1,g2] at q';rw [← Iw _ _ hsm] at q'
  exact richCompare_meets_room (op:=.Lt) ⟨_,hold _ _ e2,rfl⟩ ⟨_,hold _ _ e2',rfl⟩ PySem.F.slot_tuple_lt PySem.F.entry_tuple_lt (PySem.F.args_tuple_lt_2 _ _) (Fi a a' xs xs' n n' dd dd' sl sl' keys[i] keys[j] e5 e5' hsm)
   ⟨hold _ _ e2,hold _ _ e2',show eY (E6 keys[i] keys[j])≠jE/\Q' (.bool (E6 keys[i] keys[j])) s' from⟨(λx=>nomatch x),q'⟩⟩ (by show X.A.units+1<cLine; omega)
 ·obtain⟨b1,b2⟩:=Kp keys (its.toArray.size - 1)
  rw [UF] at hv b1 b2;have hj:argBest (λi j=>Bb (keys.getD i []) (keys.getD j [])) (its.length - 1)<vs.length:=by omega
  obtain⟨u,e1,ru⟩:=r'.get (Go hj);have e2:its.toArray[argBest (λi j=>Bb (keys.getD i []) (keys.getD j [])) (its.length - 1)]?=some u:=by rw [← e1]; simp
  rw [e2] at hv;cases hv;exact⟨_,H,I.kept (t':=tk') hold,ru,q _ _ (Go hj) λi hi=>b2 i (by omega)⟩
end
end L2
namespace Dp
open PySem PySem.Spec PyProof.Rows L2
def W5(ds:List D)(P:D->Prop):Prop:=∃xs,ds=[.lst xs]/\0<xs.length/\Keyed CW xs/\∀x∈xs,(∀y∈xs,∀kx ky,CW x=some kx->CW y=some ky->Bb ky kx=false)->P x
theorem Yc{K:Frag}:EB K .sh (Wo K) W5:=by
 intro U M H ds vs P Q dom vM hp w q;obtain⟨xs,rfl,hn,hK,w⟩:=w;obtain⟨v,rfl,hx⟩:=Gm hp;obtain⟨a,us,rfl,_,hq,hs⟩:=hx;obtain⟨keys,hl,hk⟩:=FS hK.1;have hlen:=hs.length;refine⟨a,us,keys,rfl,.inl hq,by omega,Hs (λd k v _=>Hu) hs hK hl hk,λj v hv hle=>?_⟩;have hj:j<xs.length:=by rw [← hlen]; exact(bh.mp hv).1
 obtain⟨v',e1,h1⟩:=hs.get (Go hj);rw [hv] at e1;cases e1;refine q v H xs[j] .refl h1 (w _ (dO hj) λy hy kx ky ex ey=>?_);obtain⟨i,hi⟩:=eF.mp hy;have hil:i<xs.length:=(bh.mp hi).1;obtain⟨k1,a1,b1,_⟩:=hk i y hi;obtain⟨k2,a2,b2,_⟩:=hk j xs[j] (Go hj)
 have:=hle i (by omega)
 rw [bp,bp,a1,a2] at this;rw [ey] at b1;rw [ex] at b2;cases b1;cases b2;exact this
end Dp
namespace L2
open PySem PySem.Spec PyProof.Rows
def bE(d:Db)(o:Obj)(kvs:List (Key×V)):It :=
 ⟨λi H=>H d=some (.frz o (.dK kvs))/\i<kvs.length,λi H x H'=>∃T p,x=.ref T/\H T=none/\kvs[i]?=some p/\H'=BC H T (.tup [kV p.1,p.2]),λi H=>H d=some (.frz o (.dK kvs))/\kvs.length<=i⟩
theorem UC{P:cL}{w:cQ}{k:Key}{u:Ev}(h:(Aq P w).is k u=true):RelV (kV k) u:=by
 rcases BJ h with ⟨i,t,rfl,rfl⟩ | ⟨x,t,rfl,rfl⟩
 ·exact⟨t,rfl⟩
 ·exact⟨t,rfl⟩
theorem FW{X:Cx}{pins:List (Db×Obj)}{σ:L2.St}{H:Hp}{s:Op}{d:Db}{o:Obj}{kvs:List (Key×V)}{es:Array DictEntry}{ep:Nat}(I:Inv X pins σ H s)(h:H d=some (.frz o (.dK kvs)))(hd:o.data=.dict es ep) :
  ∃ws,KV kvs ws/\s.heap.DictAt (Aq X.prog X.w) d ws ep:=by
 obtain⟨e0,_,_,ws,kv,o',es',ep',e1,e2,e3,e4⟩:=(show ObjOk X.prog X.w H s.heap d (.frz o (.dK kvs)) from I.hok d _ h);rw [e0] at e1;cases e1;rw [hd] at e3;cases e3;exact⟨ws,kv,o,es,e0,e2,hd,e4⟩
theorem O1{P:cL}{w:cQ}{K:Frag}{els:List cC}{j:Nat}{pos:Pos}(d it:Db)(o:Obj)(kvs:List (Key×V))(es:Array DictEntry)(ep:Nat)(hdat:o.data=.dict es ep) :
  Turn P w K (.Tuple els j pos) (bE d o kvs) [it] it (λi h=>∃ok ov,IsItemIter h it d i kvs.length ep ok ov) where
 mem:=by simp
 obj:=λi h ⟨ok,ov,st⟩ c hc=>by
  rw [Re.mp hc];exact⟨_,st,λv q=>by cases q⟩
 keep:=λi h h' ⟨ok,ov,st⟩ k=>⟨ok,ov,k it (by simp) _ st⟩
 item:=by
  intro X hP hw hK hc i pins s σ H E I hf st hg;subst hP hw hK;obtain⟨hH,hi⟩:=hg;obtain⟨ok,ov,st⟩:=st;obtain⟨ws,kv,D⟩:=FW I hH hdat
  have hl:=kv.length;have hiw:i<ws.length:=by omega
  rw [hl] at st;obtain⟨k,v,hkv⟩:∃k v,ws[i]=(k,v):=⟨_,_,rfl⟩;have hx:ws[i]?=some (k,v):=by rw [Go hiw,hkv]
  have hp:kvs[i]?=some kvs[i]:=Go hi;obtain⟨ek,rv⟩:=Jt kv hp hx;have ek:kvs[i].1=k:=ek;refine wpAny_pyNext_items_item st D hx λkey h' hkey hout htup hsz hold=>⟨_,rfl,?_⟩;refine wpAny_letOwnedTupleGo_items hout λh2 hit2 hsame=>?_;have hT:H s.heap.objs.size=none:=I.hok.fresh (Rs _);have nit:s.heap.objs.size≠it:=fI (XV st)
  have kk:∀c o,c∉[it]->s.heap.get? c=some o->h2.get? c=some o:=λc o hc e=>by
   have hc:c≠it:=λz=>hc (by rw [z]; exact Re.mpr rfl);exact(hsame.2 c hc).trans (hold c o hc e)
  have I2:Inv X pins σ (BC H s.heap.objs.size (.tup [kV kvs[i].1,kvs[i].2])) { s with heap:=h2 }:=by
   refine I.turnLaid (t':=s.toks) (ch:=[it]) (λc hc=>hf c hc) kk (Rs _) ?_;exact⟨by show 2<=sizeLine; decide,[key,v],.cons (UC (by rw [ek]; exact hkey)) (.cons rv .nil),⟨_,(hsame.2 _ nit).trans htup,rfl,_,rfl,rfl,rfl⟩⟩
  refine⟨.ref s.heap.objs.size,_,I2,rfl,⟨_,_,rfl,hT,hp,rfl⟩,⟨key,v,by rw [hl]; exact hit2⟩,λc hc=>?_⟩;rw [Re.mp hc,AU (ci nit)];exact(hf it (by simp)).1
 done:=by
  intro X hP hw hK hc i pins s σ H E I hf st hg;subst hP hw hK;obtain⟨hH,hi⟩:=hg;obtain⟨ok,ov,st⟩:=st;obtain⟨ws,kv,D⟩:=FW I hH hdat
  have hl:=kv.length;rw [hl] at st;refine wpAny_pyNext_items_end (I.ok.hd hc) st D (gc (by omega)) λh' ext=>⟨rfl,?_⟩;exact I.turnedL (t':=s.toks) (ch:=[it]) (λc hc=>hf c hc) λc o hc e=>ext c o (λz=>hc (by rw [z]; exact Re.mpr rfl)) e
 self:=λA i s Q E ⟨ok,ov,st⟩ h=>PySem.W.kcp_self st h
def YF(to:TE):TI:=λσ H R=>to σ H λx H1=>∃d o kvs,x=.ref d/\H1 d=some (.frz o (.dK kvs))/\∀r,H1 r=none->R (bE d o kvs) (BC H1 r (.ext λh=>h.IsItemsView r d))
theorem Tb{X:Cx}{e:cC}{els:List cC}{j:Nat}{tpos apos cpos:Pos}{to:TE}(ho:PE X e to)(hbase:attributeBase e "items" X.env (eval e X.env)=eval e X.env:=by rfl)(hline:(apos.endLine==cpos.line)=true:=by rfl) :
  PI X (.Tuple els j tpos) (.Call (.Attribute e "items" apos) [] [] cpos) (YF to):=by
 intro pins s σ H R I h;refine wpAny_Call_method0_late hbase hline (thn (ho pins s σ H _ I h) λv s1 ⟨x,H1,I1,r1,d,o,kvs,ex,hd,q⟩=>?_);subst ex;cases r1;obtain⟨h1,h2,lo⟩:=UL I1 (.inl ⟨kvs,.inr ⟨o,hd⟩⟩);obtain⟨_,_,ws,kv,D⟩:=G3 I1.hok (.inr ⟨o,hd⟩);refine⟨"dict","dict.items",PySem.F.plainAttrs_dict,PySem.F.slot_dict_items,PySem.F.type_dict_items,h1,h2,gK rfl (PySem.evalArgs_none ?_)⟩;refine call_meetsIn PySem.F.slot_dict_items D.typeIs PySem.F.entry_dict_items (PySem.F.args_dict_items_1 _) (meets_dict_items (Aq X.prog X.w) d lo) ⟨⟨ws,D⟩,?_⟩;have hf:H1 s1.heap.objs.size=none:=I1.fresh;have hv:(s1.heap.push { cls:=.type "dict_items",data:=.fields #[.ref d] }).IsItemsView s1.heap.objs.size d:=⟨_,Uf _ rfl,rfl,rfl⟩
 have I2:Inv X pins σ (BC H1 s1.heap.objs.size (.ext λh=>h.IsItemsView s1.heap.objs.size d)) { s1 with heap:=s1.heap.push { cls:=.type "dict_items",data:=.fields #[.ref d] } } :=
  I1.laid (t':=s1.toks) (λb o e=>FM _ e) (Rs _) ⟨hv,⟨_,Uf _ rfl⟩,λh1 h2 ⟨o,e,c⟩ k=>⟨o,k o e,c⟩⟩
 have hd2:(BC H1 s1.heap.objs.size (.ext λh=>h.IsItemsView s1.heap.objs.size d)) d=some (.frz o (.dK kvs)):=by rw [AU (Al hd hf)]; exact hd
 obtain⟨es,ep,hdat⟩:∃es ep,o.data=.dict es ep:=by
  obtain⟨e0,_,_,ws,kv,o',es',ep',e1,e2,e3,e4⟩:=(show ObjOk X.prog X.w H1 s1.heap d (.frz o (.dK kvs)) from I1.hok d _ hd);rw [e0] at e1;cases e1;exact⟨es',ep',e3⟩
 obtain⟨ws2,kv2,D2⟩:=FW I2 hd2 hdat
 have hl:=kv2.length;refine wpAny_pyIter_items (s:={ s1 with heap:=s1.heap.push { cls:=.type "dict_items",data:=.fields #[.ref d] } }) hv D2 ?_;refine⟨_,[(s1.heap.push { cls:=.type "dict_items",data:=.fields #[.ref d] }).objs.size],_,bE d o kvs,_,rfl,I2.kept (t':=s1.toks) (λb o e=>FM _ e),O1 d _ o kvs es ep hdat,⟨.none,.none,by rw [hl]; exact Uf _ rfl⟩,λc hc=>?_,q _ hf⟩;rw [Re.mp hc];exact I2.fpOk (Rs _) I2.fresh
end L2
namespace Dp
open PySem PySem.Spec PyProof.Rows L2
def wItems(wa:DW):Ee:=λn ρ P=>wa n ρ λd n1=>∃ks ds,d=.fdi ks ds/\(∀k∈ks,Mg k)/\P (DA (ks.map U9) ds) n1
theorem UD(k:Key):kV k=kOf k:=by cases k <;> rfl
section
variable {X:Cx}{a:Expr}{κa:Kd}{wa:DW}{els:List Expr}{j:Nat}{tpos apos cpos:Pos}
theorem Ud(ha:DE X a κa wa)(hbase:attributeBase a "items" X.env (eval a X.env)=eval a X.env:=by rfl)(hline:(apos.endLine==cpos.line)=true:=by rfl):DI X (.Tuple els j tpos) (.Call (.Attribute a "items" apos) [] [] cpos) (wItems wa):=by
 obtain⟨t,a1,a2⟩:=ha;refine⟨_,Tb a1 hbase hline,λC M H n ρ σ P Rr R w q=>?_⟩;refine a2 C M H n ρ σ _ _ R w λv H1 d n1 ee f1 r1 p=>?_;obtain⟨ks,ds,rfl,hfit,p⟩:=p;have R1:=R.step ee f1;obtain⟨ad,vs,rfl,⟨o,nM,hd⟩,hlen,hs⟩:∃a vs,v=.ref a/\NdF M H1 a ks vs/\ks.length=ds.length/\Ats X.K M H1 ds vs:=r1.tpOf R.dom R.vM;have hl:=hs.length;refine⟨ad,o,_,rfl,hd,λr hr=>?_⟩;have g:Grow H1 (BC H1 r (.ext λh=>h.IsItemsView r ad)):=Ay hr;refine q _ _ _ n1 (ee.trans g.ext) (f1.grow g) (λi M' H' pr dom=>?_) p;have pr2:Pres M H1 M' H':=g.pres.trans pr;have hd':H' ad=some (.frz o (.dK (ks.zip vs))):=(pr2.nd nM hd).2;have zl:(ks.zip vs).length=ks.length:=by rw [eM]; omega
 have zd:(DA (ks.map U9) ds).length=ks.length:=by unfold DA; rw [fN,No]; omega
 refine⟨λe he=>?_,λhle=>⟨hd',by omega⟩⟩;have hi:i<ks.length:=by rw [← zd]; exact(bh.mp he).1
 have hid:i<ds.length:=by omega
 refine⟨⟨hd',by omega⟩,λx H2 y=>?_⟩;obtain⟨T,pp,rfl,hT,hp,rfl⟩:=y;obtain⟨v',e1,h1⟩:=(hs.pres pr2).get (Go hid)
 have e2:(ks.zip vs)[i]?=some (ks[i],v'):=by
  rw [eJ];exact⟨Go hi,e1⟩
 rw [e2] at hp;cases hp
 have e3:e=.tup [U9 ks[i],ds[i]]:=by
  unfold DA at he;rw [gY,bv,Go hi,Go hid] at he;exact(bg he).symm
 subst e3;refine⟨Ay hT,Cq dom hT ⟨_,_,rfl,?_,_,_,rfl,h1,rfl⟩⟩;show At X.K M' H' (U9 ks[i]) (kV ks[i]);rw [UD];exact Uj (hfit _ (dO hi))
end
section
variable {K:Frag}{C:Fm}{M:Addr->Prop}{H H':Hp}{n n':Nat}{ρ:List Slot}{σ:L2.St}
theorem Rel.hold(R:Rel K C M H n ρ σ){p:Db}{o:HO}(hp:H p=none):Rel K C (λb=>M b\/b=p) (BC H p o) n ρ σ:=by
 have g:Grow H (BC H p o):=Ay hp;have pr:Pres M H (λb=>M b\/b=p) (BC H p o):=GN hp;refine⟨R.len,λa z=>.inl (R.sub a z),λa z=>?_,R.ext.trans g.ext,R.fU,R.uV,λa z=>.inl (R.vM a z),(R.feed.grow g).more p λf hf q=>?_,λi s q=>(R.sl i s q).pres pr (λ_ z=>.inl z) g.ext R.uV,λq hq=>(R.pin q hq).trans pr,R.br0,R.new,R.two,λq hq=>?_⟩
 ·rcases z with z | z
  ·obtain⟨u,h1⟩:=R.dom a z
   exact⟨u,g.all a u h1⟩
  ·rw [z]; exact⟨o,Ai⟩
 ·obtain⟨_,_,_,_,_,h3,_⟩:=R.feed f hf
  have:=h3.2
  rw [q,hp] at this; cases this
 ·obtain⟨h1,h2,h3,h4⟩:=R.kept q hq
  exact⟨g.all _ _ h1,.inl h2,h3,h4⟩
end
def KI(ks:List Key)(k:Key):Bool:=ks.any λk0=>decide (k0=k)
theorem hasK_iff{ks:List Key}{k:Key}:KI ks k=true↔k∈ks:=by
 unfold KI;rw [eB];exact⟨fun⟨x,hx,e⟩=>by rw [← of_decide_eq_true e]; exact hx,λh=>⟨k,h,decide_eq_true rfl⟩⟩
def C0(ks:List Key)(k:Key):List Key:=if KI ks k=true then ks else ks++[k]
def DC{α:Type}(ks:List Key)(ds:List α)(k:Key)(d:α):List α:=if KI ks k=true then f6 (λk0 d0=>if k0=k then d else d0) ks ds else ds++[d]
theorem WO{ks:List Key}{vs:List V}(hl:ks.length=vs.length)(k:Key):((ks.zip vs).any λkv=>decide (kv.1=k))=KI ks k:=by
 rw [d7,eB,hasK_iff];constructor
 ·rintro ⟨⟨a,b⟩,hm,e⟩
  have e:a=k:=of_decide_eq_true e;rw [← e];exact(gh hm).1
 ·intro h
  obtain⟨i,hi,e⟩:=List.mem_iff_getElem.mp h;refine⟨(ks[i],vs[i]'(by omega)),?_,by rw [e]; exact decide_eq_true rfl⟩;exact List.mem_iff_getElem.mpr ⟨i,by rw [eM]; omega,by rw [List.getElem_zip]⟩
theorem TQ{ks:List Key}{vs:List V}(hl:ks.length=vs.length)(k:Key)(v:V):putK (ks.zip vs) k v=(C0 ks k).zip (DC ks vs k v):=by
 unfold putK C0 DC;rw [WO hl]
 by_cases h:KI ks k=true
 ·rw [if_pos h,if_pos h,if_pos h]
  have go:∀(ks:List Key) (vs:List V),((ks.zip vs).map λkv=>if kv.1=k then (kv.1,v) else kv)=ks.zip (f6 (λk0 d0=>if k0=k then v else d0) ks vs):=by
   intro ks
   induction ks with
   | nil=>intro vs; rfl
   | cons a ks ih =>
    intro vs;cases vs with
    | nil=>rfl
    | cons b vs =>
     show (if a=k then (a,v) else (a,b))::_=(a,if a=k then v else b)::_;exact List.cons_eq_cons.mpr ⟨by split <;> rfl,ih vs⟩
  exact go ks vs
 ·rw [if_neg h,if_neg h,if_neg h,List.zip_append hl]
  rfl
theorem Ats.put{K:Frag}{M:Db->Prop}{H:Hp}{k:Key}{d:D}{v:V}(hd:At K M H d v):∀{ks:List Key} {ds:List D} {vs:List V},Ats K M H ds vs->Ats K M H (f6 (λk0 d0=>if k0=k then d else d0) ks ds) (f6 (λk0 d0=>if k0=k then v else d0) ks vs)
 | [],ds,vs,h=>rfl
 | a::ks,[],vs,h=>by cases (show vs=[] from h); rfl
 | a::ks,e::ds,vs,h=>by
  obtain⟨u,r,rfl,h1,h2⟩:=h;refine⟨_,_,rfl,?_,Ats.put hd h2⟩;show At K M H (if a=k then d else e) (if a=k then v else u)
  by_cases e1:a=k
  ·rw [if_pos e1,if_pos e1]; exact hd
  ·rw [if_neg e1,if_neg e1]; exact h1
theorem Ats.putX{K:Frag}{M:Db->Prop}{H:Hp}{k:Key}{d:D}{v:V}{ks:List Key}{ds:List D}{vs:List V}(hd:At K M H d v)(h:Ats K M H ds vs):Ats K M H (DC ks ds k d) (DC ks vs k v):=by
 unfold DC
 split
 ·exact Ats.put hd h
 ·exact h.append (Ats.one hd)
theorem QF{α:Type}{ks:List Key}{ds:List α}{k:Key}{d:α}(hl:ks.length=ds.length):(C0 ks k).length=(DC ks ds k d).length:=by
 unfold C0 DC
 split
 ·rw [fN]; omega
 ·rw [bi,bi]; show ks.length+1=ds.length+1; omega
theorem LL:∀{ks:List Key} {ds:List D} {k:Key},k∉ks->BM ks ds k=none
 | [],ds,k,_=>by unfold BM; rfl
 | a::ks,[],k,_=>rfl
 | a::ks,d::ds,k,h=>by
  unfold BM;rw [if_neg (λe=>h (by rw [e]; exact On))];exact LL λz=>h (TM _ z)
theorem LK:∀{ks:List Key} {ds:List D} {k:Key},ks.length=ds.length->k∈ks->∃z,BM ks ds k=some z
 | [],ds,k,_,h=>by cases h
 | a::ks,[],k,h,_=>by cases h
 | a::ks,d::ds,k,hl,h=>by
  unfold BM
  by_cases e:a=k
  ·exact⟨d,if_pos e⟩
  ·rw [if_neg e]
   exact LK (by simpa using hl) ((TW.mp h).resolve_left λz=>e z.symm)
theorem Su{ks:List Key}{ds:List D}{k:Key}{d:D}(hl:ks.length=ds.length)(j:Key):BM (C0 ks k) (DC ks ds k d) j=if j=k then some d else BM ks ds j:=by
 unfold C0 DC
 by_cases h':KI ks k=true
 ·have h:=hasK_iff.mp h'
  rw [if_pos h',if_pos h']
  have go:∀(ks:List Key) (ds:List D),ks.length=ds.length->(j=k->k∈ks)->BM ks (f6 (λk0 d0=>if k0=k then d else d0) ks ds) j=if j=k then some d else BM ks ds j:=by
   intro ks
   induction ks with
   | nil =>
    intro ds _ hm
    by_cases e:j=k
    ·exact absurd (hm e) bu
    ·rw [if_neg e]; cases ds <;> rfl
   | cons a ks ih =>
    intro ds hl hm;cases ds with
    | nil=>cases hl
    | cons e ds =>
     show (if a=j then some (if a=k then d else e) else BM ks _ j)=if j=k then some d else if a=j then some e else BM ks ds j
     by_cases e1:a=j
     ·rw [if_pos e1,if_pos e1]
      by_cases e2:j=k
      ·rw [if_pos e2,if_pos (e1.trans e2)]
      ·rw [if_neg e2,if_neg (λz=>e2 (e1.symm.trans z))]
     ·rw [if_neg e1,if_neg e1]
      refine ih ds (by simpa using hl) λz=>(TW.mp (hm z)).resolve_left λw=>e1 (w.symm.trans z.symm)
  exact go ks ds hl λ_=>h
 ·have h:k∉ks:=λz=>h' (hasK_iff.mpr z)
  rw [if_neg h',if_neg h']
  have go:∀(ks:List Key) (ds:List D),ks.length=ds.length->k∉ks->BM (ks++[k]) (ds++[d]) j=if j=k then some d else BM ks ds j:=by
   intro ks
   induction ks with
   | nil =>
    intro ds hl _;cases ds with
    | nil =>
     show (if k=j then some d else none)=if j=k then some d else none
     by_cases e:j=k
     ·rw [if_pos e,if_pos e.symm]
     ·rw [if_neg e,if_neg (λz=>e z.symm)]
    | cons e ds=>cases hl
   | cons a ks ih =>
    intro ds hl hm;cases ds with
    | nil=>cases hl
    | cons e ds =>
     show (if a=j then some e else BM (ks++[k]) (ds++[d]) j)=if j=k then some d else if a=j then some e else BM ks ds j
     rw [ih ds (by simpa using hl) λz=>hm (TM _ z)]
     by_cases e1:a=j
     ·rw [if_pos e1,if_pos e1,if_neg (λz=>hm (by rw [← z,← e1]; exact On))]
     ·rw [if_neg e1,if_neg e1]
  exact go ks ds hl h
section
variable {X:Cx}{a b e:Expr}{κ κa κb:Kd}{wa wb:DW}{pos pos':Pos}
def Oz(wk wv:DW):DW:=λn ρ P=>wk n ρ λk n1=>wv n1 ρ λd n2=>∃key,keyOf k=some key/\P (.dic [key] [d]) n2
theorem Ob(ha:DE X a κa wa)(hb:DE X b κb wb)(hk:κb≠.tp:=by intro z; cases z):DE X (.Dict [some a] [b] pos) .fr (Oz wa wb):=by
 obtain⟨t,h1,h2⟩:=ha;obtain⟨u,g1,g2⟩:=hb;refine⟨_,Va (TX h1 g1 VU) rfl rfl (eX _ _) (by show 1<=15; decide),λC M H n ρ σ P Q R w q=>λp hp=>?_⟩;have R1:=R.hold (o:=.dK []) hp
 have np:¬C.U p:=λz=>by
  obtain⟨o,w⟩:=R.dom p (R.vM p (R.uV p z));rw [hp] at w; cases w
 refine h2 C _ _ n ρ σ _ _ R1 w λx H2 k n1 e1 f1 r1 p1=>?_;have R2:=R1.step e1 f1;refine g2 C _ _ n1 ρ σ _ _ R2 p1 λy H3 d n2 e2 f2 r2 p2=>?_;obtain⟨key,hkey,p2⟩:=p2;have R3:=R2.step e2 f2;have hat:At X.K (λb=>M b\/b=p) H3 d y:=r2.shOf R2.dom hk;have hp3:H3 p=some (.dK []):=e2.keep (e1.keep Ai np) np;have hx:x=kV key:=D5 hkey (r1.tpOf R1.dom R1.vM);refine⟨hp3,[(key,y)],by rw [hx]; rfl,by show 1<=15; decide,?_⟩;show Q (.ref p) (BC H3 p (.dK [(key,y)]));refine q _ _ (.dic [key] [d]) n2 (λb o eb=>?_) ?_ ⟨p,rfl,hp,[y],Ai,rfl,?_⟩ p2
 ·have nb:b≠p:=Al eb hp
  obtain⟨o1,z1,k1,t1⟩:=e1 b o (by rw [AU nb]; exact eb);obtain⟨o2,z2,k2,t2⟩:=e2 b o1 z1;exact⟨o2,by rw [AU nb]; exact z2,λnu=>(k2 nu).trans (k1 nu),λvs z=>(t2 vs ((t1 vs z).trans z)).trans (t1 vs z)⟩
 ·refine f2.pres ⟨λb o eb nb=>by rw [AU (λz=>nb (.inr z))]; exact eb,λb z=>.inl (.inl z),λb vs eb=>by rw [AU (λz=>by rw [z,hp3] at eb; cases eb)]; exact eb⟩ λf o hf eb=>?_
  rw [AU (λz=>np (by rw [← z]; exact R.fU f hf))];exact eb
 ·exact⟨y,[],rfl,hat.pres (EK (.inr rfl) hp3),rfl⟩
def GY(i:Nat)(wk wv:DW):Af:=λD2 n ρ=>∃ks ds,ρ[i]?=some (.ow (.dic ks ds))/\wv n ρ λd n1=>wk n1 ρ λk n2=>∃key,keyOf k=some key/\ks.length<sizeLine/\D2.nx n2 (ρ.set i (.ow (.dic (C0 ks key) (DC ks ds key d))))
theorem Ms{i k:Nat}{x:cC}(hr:Room k X.A)(hx:PE X x (B3 i))(ha:DE X a κa wa)(hb:DE X b κb wb)(hk:κb≠.tp:=by intro z; cases z)
  (hs:swapsWith b (some (.Subscript x a pos')) pos.line X.env=pure false:=by rfl):DS X κ (.Assign [.Subscript x a pos'] b pos) (GY i wa wb):=by
 obtain⟨t,h1,h2⟩:=ha;obtain⟨u,g1,g2⟩:=hb;refine⟨_,Iu (IG hr) hx h1 g1 hs,λC M H n ρ σ D2 E R L w=>?_⟩;obtain⟨ks,ds,hd,w⟩:=w;refine g2 C M H n ρ σ _ _ R w λv H1 d n1 e1 f1 r1 p=>?_;have R1:=R.step e1 f1;obtain⟨ad,ea,m,nv,tt⟩:=R1.sl i _ hd;refine⟨.ref ad,getD_some ea,?_⟩;refine h2 C M H1 n1 ρ σ _ _ R1 p λy H2 kk n2 e2 f2 r2 p=>?_;obtain⟨key,hkey,hlt,p⟩:=p;have R2:=R1.step e2 f2;obtain⟨ad',ea',m',nv',tt'⟩:=R2.sl i _ hd;rw [ea] at ea';cases ea';obtain⟨vs,hH,hl,hs'⟩:=tt';have hat:At X.K M H2 d v:=(r1.shOf R.dom hk).pres (R1.pres e2);have hvl:ks.length=vs.length:=by rw [hl,hs'.length]
 refine⟨ad,_,rfl,by rw [D5 hkey (r2.tpOf R1.dom R1.vM)]; exact DPut.k hH (by rw [eM]; omega),L.nx M _ n2 _ σ (R2.mut (e:=.dic (C0 ks key) (DC ks ds key d)) hd ea ⟨DC ks vs key v,by rw [Ai,TQ hvl],QF hl,(hs'.putX hat).pres (EK m' hH)⟩) p⟩
def Y1:D->Option Bool
 | .lst xs=>some (!xs.isEmpty)
 | .tup xs=>some (!xs.isEmpty)
 | .bl b=>some b
 | .non=>some false
 | _=>none
def XQ(wa:DW):Ij:=λn ρ P=>wa n ρ λd n1=>∃c,Y1 d=some c/\P c n1
theorem Ls{K:Frag}{M:Db->Prop}{H:Hp}{ds:List D}{vs:List V}(h:Ats K M H ds vs):vs.isEmpty=ds.isEmpty:=by
 have:=h.length
 cases vs <;> cases ds <;> first | rfl | cases this
theorem XX{U M:Db->Prop}{H:Hp}{K:Frag}{d:D}{x:V}{c:Bool}(h:AtT K U M H d x)(e:Y1 d=some c):Yi K x H c:=by
 cases d with
 | lst ds=>cases e; obtain⟨a,vs,rfl,_,hq,hs⟩:=h; exact .inl ⟨vs,.inl hq,by rw [Ls hs]⟩
 | tup ds=>cases e; obtain⟨a,vs,rfl,hq,hs⟩:=h; exact .inr (.inl ⟨vs,.inl (.inl hq),by rw [Ls hs]⟩)
 | bl b=>cases e; rw [h.bl]; exact rfl
 | non=>cases e; rw [show x=.non from h]; exact rfl
 | _=>cases e
theorem YN(h:DE X e κ wa)(he:∀whole,isTrue e X.env whole=(do let v ← whole; standAt e.pos; holding [v] (truthy v)):=by intro _; rfl):DT X e (XQ wa):=by
 obtain⟨t,h1,h2⟩:=h;refine⟨_,TR h1 he,λC M H n ρ σ P Q R w q=>?_⟩;refine h2 C M H n ρ σ _ _ R w λv H' d n' e1 f1 r1 p=>?_;obtain⟨c,hc,p⟩:=p;exact⟨c,XX (r1.tpOf R.dom R.vM) hc,q c H' n' e1 f1 p⟩
def Ie(neg:Bool)(d e:D)(P:D->Prop):Prop:=e=.non/\P (.bl (if neg then !OP d else OP d))
theorem Ou{K:Frag}:Fa K .sh (λx y H Q=>y=.non/\Q (.bl (decide (x=.non))) H) (Ie false):=λU M H d e x y P Q dom vM hx hy w q=>by
 obtain⟨rfl,w⟩:=w;exact⟨hy,q _ H (.bl (OP d)) .refl (by rw [OO hx]; rfl) w⟩
theorem Uw{K:Frag}:Fa K .sh (λx y H Q=>y=.non/\Q (.bl (!decide (x=.non))) H) (Ie true):=λU M H d e x y P Q dom vM hx hy w q=>by
 obtain⟨rfl,w⟩:=w;exact⟨hy,q _ H (.bl (!OP d)) .refl (by rw [OO hx]; rfl) w⟩
variable {apos cpos:Pos}{f:Expr}{κf:Kd}{wf:DW}
def P2(wa wk wx:DW):DW:=λn ρ P=>wa n ρ λd n1=>∃ks ds,Le d=some (ks,ds)/\wk n1 ρ λk n2=>wx n2 ρ λz n3=>∃key,keyOf k=some key/\P ((BM ks ds key).getD z) n3
theorem XR{U M:Db->Prop}{H:Hp}{K:Frag}{d z:D}{x v:V}{ks:List Key}{ds:List D}{key:Key}(e:Le d=some (ks,ds))(h:AtT K U M H d x)(hz:At K M H z v):∃a o,x=.ref a/\DGet H a (kV key) o/\At K M H ((BM ks ds key).getD z) (o.getD v):=by
 obtain⟨a,vs,rfl,ha,hs⟩:=KY e h;refine⟨a,Bs (ks.zip vs) key,rfl,I_ ha,?_⟩;have h:=Ga (k:=key) (ks:=ks) hs;cases c:BM ks ds key with
 | none=>rw [c] at h; rw [show Bs (ks.zip vs) key=none from h]; exact hz
 | some y=>rw [c] at h; obtain⟨u,h1,h2⟩:=h; rw [h1]; exact h2
theorem YD{U M:Db->Prop}{H:Hp}{K:Frag}{d:D}{x:V}{ks:List Key}{ds:List D}(e:Le d=some (ks,ds))(h:AtT K U M H d x):∃a,x=.ref a/\bF H a:=by
 obtain⟨a,vs,rfl,ha,hs⟩:=KY e h;exact⟨a,rfl,.inl ⟨_,ha⟩⟩
theorem WJ{k:Nat}(hr:Room k X.A)(ha:DE X a κa wa)(hb:DE X b κb wb)(hf:DE X f κf wf)(hk:κf≠.tp:=by intro z; cases z)(m:M2 X a "get" apos b f cpos:=by exact⟨rfl,rfl,rfl,rfl⟩):DE X (.Call (.Attribute a "get" apos) [b,f] [] cpos) .sh (P2 wa wb wf):=by
 obtain⟨t,h1,h2⟩:=ha;obtain⟨u,g1,g2⟩:=hb;obtain⟨u2,k1,k2⟩:=hf;refine⟨_,Nw (IG hr) h1 g1 k1 m,λC M H n ρ σ P Q R w q=>?_⟩;refine h2 C M H n ρ σ _ _ R w λv H1 d n1 e1 f1 r1 p=>?_;obtain⟨ks,ds,hd,p⟩:=p;have R1:=R.step e1 f1;obtain⟨ad,rfl,hI⟩:=YD hd (r1.tpOf R.dom R.vM);refine⟨ad,rfl,hI,?_⟩;refine g2 C M H1 n1 ρ σ _ _ R1 p λy H2 kk n2 e2 f2 r2 p=>?_;have R2:=R1.step e2 f2;refine k2 C M H2 n2 ρ σ _ _ R2 p λz H3 dz n3 e3 f3 r3 p=>?_;obtain⟨key,hkey,p⟩:=p;have R3:=R2.step e3 f3;have hat:=((r1.tpOf R.dom R.vM).pres (R1.pres e2) e2 R.uV).pres (R2.pres e3) e3 R.uV;have hy:=(r2.tpOf R1.dom R1.vM).pres (R2.pres e3) e3 R.uV;obtain⟨ad',o,ex,g,hz⟩:=XR (key:=key) hd hat (r3.shOf R2.dom hk);cases ex;exact⟨o,by rw [D5 hkey hy]; exact g,q _ H3 _ n3 ((e1.trans e2).trans e3) f3 hz p⟩
end
end Dp
namespace L2
open PySem PySem.Spec PyProof.Rows
open AutoSeq1 (wpAny_loadPart')
theorem Rf:typeLookup (.type "list_reverseiterator") "__len__"=pure none:=by rw [gq,fi]; kernel_rfl
theorem UM:typeLookup (.type "list_reverseiterator") "__length_hint__"=pure (some (.builtin "list_reverseiterator.__length_hint__")):=by rw [gq,fi]; kernel_rfl
theorem boot_reversed:bootBuiltins "reversed"=some (.type "reversed"):=by decide +kernel
section
variable {prog:Program}{w:World}{A:Around}{E:Value->Shared->Prop}{s:Shared}{I:Addr}{fp wr:List Addr}{G:Array GenState->Array GenState->Prop}{n:Nat}{P:Nat->Value->Prop}{St:Nat->Shared->Prop}
theorem Od{Q:List Ev->Op->Prop}
  (W:WalksS prog w A.in1 I fp wr G n P St) (hT:∀i s,St i s->s.TypeIs (.ref I) "list_reverseiterator") (hst:St 0 s) (hfp:∀b∈fp,b<s.heap.objs.size) (hI:I∈fp)
  (hQ:∀s' acc,Moved wr G s s'->ItemsOf P acc n->Q acc.toList s') (hn:n<=sizeLine):wpAny (model prog w) A (collect (.ref I)) Q E s:=by
 have hSf:s.heap.objs.size∉fp:=λhm=>cy _ (hfp _ hm);have hSI:s.heap.objs.size≠I:=λe=>hSf (e▸hI);unfold collect;refine Ch (wpAny_runValue (dE F.entry_proto_collect ?_));rw [cv F.plain_proto_collect _];show wpAny _ A.in1 (newList [] >>= λl=>again (.builtin "list.__iadd__" ⟨[l,.ref I],[]⟩)) _ _ s;refine Ch (cW ?_);refine Sc ⟨dS F.plain_list_iadd _,dE F.entry_list_iadd ?_⟩;rw [cv F.plain_list_iadd _];have hst₁:=W.frame 0 s (s.heap.push { cls:=.type "list",data:=.seq ([]:List Ev).toArray }) s.toks hst (Rs _) λb _ o e=>FM _ e;have hS₁:(s.heap.push { cls:=.type "list",data:=.seq ([]:List Ev).toArray }).get? s.heap.objs.size=some { cls:=.type "list",data:=.seq ([]:List Ev).toArray }:=Uf _ rfl;have h1:ij (.ref s.heap.objs.size) (.ref I)=false:=by simp [ij,hSI]
 show wpAny _ A.in1 (en (.ref s.heap.objs.size) (.ref I) (.ref s.heap.objs.size)) _ _ _;unfold en;refine Ch (eh (hT 0 _ hst₁) ?_);rw [if_neg (by rw [h1]; decide)];refine Ch (W.self 0 _ _ _ hst₁ ?_);refine Ch (cu ?_);unfold Builtin.List.listLengthHint;refine Ch (ip (hT 0 _ hst₁) Rf ?_);show wpAny _ A.in1 (specialOf (cV I) (cZ "__length_hint__") >>= _) _ _ _;refine Ch (ip (hT 0 _ hst₁) UM ?_)
 (generalize hid:("list_reverseiterator.__length_hint__" : String)=id0; wp_delta; rw [show splitId id0=some ("list_reverseiterator","__length_hint__") from by subst hid; decide +kernel]; subst hid)
 refine Ch (ic (b:=true) (hT 0 _ hst₁) (by rw [isSubtype_type]; kernel_rfl) ?_);refine Sc ?_;rw [if_neg (by decide)];refine Sc ⟨dS F.plain_extend_loop _,codeAny_extend_loopS W hn _ hSf _ n 0 _ _ _ rfl (bn _) hst₁ hS₁ (ItemsOf.nil P) λs' acc' c' hm hS' hacc=>?_⟩;show wpAny _ A (load s.heap.objs.size >>= _) _ _ s';refine Ch (wpAny_load hS' ?_);exact Sc (hQ s' acc' (Moved.drop_new (o:={ cls:=.type "list",data:=.seq ([]:List Ev).toArray }) (tk:=s.toks) hm (Rs _)) hacc)
theorem Ke{Q₁:Ev->Op->Prop}(W:WalksS prog w A.in1.in1 I fp wr G n P St)(hT:∀i s,St i s->s.TypeIs (.ref I) "list_reverseiterator")(hst:St 0 s)(hfp:∀b∈fp,b<s.heap.objs.size)(hI:I∈fp)
  (h:∀s' acc,Moved wr G s s'->ItemsOf P acc n->Q₁ (.ref s'.heap.objs.size) { s' with heap:=s'.heap.push { cls:=.type "tuple",data:=.seq acc } }) (hsz:n<=sizeLine) :
  codeAny (model prog w) A (.call (.builtin "tuple.__new__") ⟨[.type "tuple",.ref I],[]⟩) (wants Q₁ E) s:=by
 refine codeAny_of_tree ?_;show wpAny _ A.in1 (do checkBuiltinCall "tuple.__new__" ⟨[.type "tuple",.ref I],[]⟩; again (.builtin "tuple.__new__" ⟨[.type "tuple",.ref I],[]⟩)) _ _ s;refine Ch (i4 (F.newCall_tuple_1 _) (Sc ⟨dS F.plain_tuple_new _,dE F.entry_tuple_new ?_⟩));rw [cv F.plain_tuple_new _];have hsub:=sub_tuple_self;have hinit:=init_tuple_lookup;have hmh:=madeHere_tuple;have hTI:=hT 0 s hst
 wp_walk using eh hTI,Od (hn:=hsz) W hT hst hfp hI
 intro s' acc hm hacc;show wpAny _ _ (ca acc.toList.toArray >>= λv=>ret v) _ _ _;unfold ca;refine Ch (cW ?_ (by show acc.toList.toArray.size<=sizeLine; simp only [Array.toArray_toList]; rw [hacc.1]; exact hsz));refine Sc ?_;have e:acc.toList.toArray=acc:=by simp
 rw [e];exact h s' acc hm hacc
theorem Kh{Q:Ev->Op->Prop}(W:WalksS prog w A.in1.in1.in1 I fp wr G n P St)(hT:∀i s,St i s->s.TypeIs (.ref I) "list_reverseiterator")(hst:St 0 s)(hfp:∀b∈fp,b<s.heap.objs.size)(hI:I∈fp)
  (hQ:∀s' acc,Moved wr G s s'->ItemsOf P acc n->Q (.ref s'.heap.objs.size) { s' with heap:=s'.heap.push { cls:=.type "tuple",data:=.seq acc } }) (hsz:n<=sizeLine) :
  wpAny (model prog w) A (call (.type "tuple") [.ref I]) Q E s:=by
 refine callType_codes (Q₁:=λobj s₁=>s₁.TypeIs obj "tuple"/\Q obj s₁) jB (F.typeCall_tuple_1 _) F.entry_object_init
  (Ke (hsz:=hsz) W hT hst hfp hI λs' acc hm hacc=>⟨⟨_,Uf _ rfl,rfl⟩,hQ s' acc hm hacc⟩) λobj s₁ h₁=>?_
 exact⟨h₁.1,F.args_object_init_2 obj _,object_init_meets jB.init.lookup jB.made (by decide) prog w A.in1 _ s₁ ⟨h₁.1,rfl,h₁.2⟩⟩
end
section
variable {X:Cx}{e:Expr}{te:TE}{p1 p2 q1 q2:Pos}
def VH(K:Frag)(te:TE):TE:=λσ H Q=>te σ H λx H1=>∃l xs,x=.ref l/\SqL K H1 l xs/\∀r,H1 r=none->Q (.ref r) (BC H1 r (.tup xs.reverse))
theorem RT(hc:X.calm=true)(he:PE X e te)(hg1:Gl X "tuple")(hm1:X.mg "tuple"=none)(hg2:Gl X "reversed")(hm2:X.mg "reversed"=none)(h1:starEach [f8 (.Name "reversed" p2) [e] [] q2] X.env=[(false,eval (f8 (.Name "reversed" p2) [e] [] q2) X.env)]:=by rfl)
  (h2:starEach [e] X.env=[(false,eval e X.env)]:=by rfl):PE X (.Call (.Name "tuple" p1) [.Call (.Name "reversed" p2) [e] [] q2] [] q1) (VH X.K te):=by
 intro pins s σ H Q I h;refine da (Cw I hg1 hm1 fm ?_);refine cY ?_ h1 rfl;rw [h1];refine eC ?_;refine da (Cw I hg2 hm2 boot_reversed ?_);refine cY ?_ h2 rfl;rw [h2];refine eC (thn (he pins s σ H _ I h) λu s1 ⟨x,H1,I1,r1,l,xs,ex,hq,q⟩=>e_ ?_);subst ex;cases r1;obtain⟨its,r',pl,hz⟩:=I1.list hq;have hlen:=r'.length;have hl:s1.heap.IsList l its.toArray:=pl.isList;have hlt:l<s1.heap.objs.size:=by obtain⟨_,e,_⟩:=id hl; exact XV e
 refine call_reversed_list hl (e_ ?_);have hn1:H1 s1.heap.objs.size=none:=I1.fresh;have I2:Inv X pins σ H1 { s1 with heap:=s1.heap.push (revObj l ((its.toArray.size:Int) - 1)) }:=I1.kept (t':=s1.toks) λb o e=>FM _ e;have fpk:HN X pins H1 s1.heap.objs.size:=I1.fpOk (Rs _) hn1;refine Kh (s:={ s1 with heap:=s1.heap.push (revObj l ((its.toArray.size:Int) - 1)) }) (Walks.listRev (A:=X.A.in1.in1.in1) (I1.ok.hd hc) s1.heap.objs.size l (b8 hlt) its.toArray).toS (λi s' hs=>hs.2.1.typeIs) ⟨bn _,⟨_,Uf _ rfl,rfl,by show Data.fields _=_; simp [revObj]⟩,hl.push _⟩ (λb hb=>?_) On (λs' acc hm hacc=>?_) (by rw [UF,← hlen]; exact hz)
 ·rcases TW.mp hb with rfl | hb
  ·exact XV (Uf _ rfl)
  ·obtain rfl:=Re.mp hb
   exact cJ hlt (by show s1.heap.objs.size<=(s1.heap.push _).objs.size; rw [size_push']; exact dQ _)
 ·obtain⟨h',g',d',tk',os'⟩:=s'
  have e1:g'=s1.gens:=hm.gens;have e2:d'=s1.drawn:=hm.drawn;have e3:os'=s1.os:=hm.os;subst e1 e2 e3;have I3':=I2.turnedL (h':=h') (t':=tk') (ch:=[s1.heap.objs.size]) (λc hc=>by rw [Re.mp hc]; exact fpk) λb o hb e=>hm.heap b o hb e;have I3:Inv X pins σ H1 { s1 with heap:=h',toks:=tk' }:=I3'
  have hv:acc.toList=its.reverse:=by
   refine List.ext_getElem? λi=>?_;obtain⟨a1,a2⟩:=hacc;have e0:acc.toList[i]?=acc[i]?:=by simp
   rw [e0]
   by_cases hi:i<its.length
   ·have hi2:i<acc.size:=by rw [a1,UF]; exact hi
    have a3:=a2 i acc[i] (iU hi2);rw [List.getElem?_reverse hi,iU hi2,← a3,UF];simp
   ·rw [gc (by rw [eU]; omega)]
    exact i6 (by rw [a1,UF]; omega)
  have hv2:acc=its.reverse.toArray:=by rw [← hv]
  have rr:Vals xs.reverse its.reverse:=r'.reverse;refine⟨.ref h'.objs.size,BC H1 h'.objs.size (.tup xs.reverse),I3.laid (t':=tk') (λb o e=>FM _ e) (Rs _) (show ObjOk X.prog X.w _ _ _ (.tup xs.reverse) from⟨by rw [eU]; exact hz,its.reverse,rr,by rw [hv2]; exact IsTupN.new _ _⟩),rfl,q _ (I3.hok.fresh (Rs _))⟩
end
end L2
namespace Dp
open PySem PySem.Spec PyProof.Rows L2
def P1(wa:DW):DW:=λn ρ P=>wa n ρ λd n1=>∃xs,d=.lst xs/\P (.tup xs.reverse) n1
section
variable {X:Cx}{a:Expr}{κa:Kd}{wa:DW}{p1 p2 q1 q2:Pos}
theorem SK(hc:X.calm=true)(ha:DE X a κa wa)(hg1:Gl X "tuple")(hm1:X.mg "tuple"=none)(hg2:Gl X "reversed")(hm2:X.mg "reversed"=none)(h1:starEach [f8 (.Name "reversed" p2) [a] [] q2] X.env=[(false,eval (f8 (.Name "reversed" p2) [a] [] q2) X.env)]:=by rfl)
  (h2:starEach [a] X.env=[(false,eval a X.env)]:=by rfl):DE X (.Call (.Name "tuple" p1) [.Call (.Name "reversed" p2) [a] [] q2] [] q1) .sh (P1 wa):=by
 obtain⟨t,a1,a2⟩:=ha;refine⟨_,RT hc a1 hg1 hm1 hg2 hm2 h1 h2,λC M H n ρ σ P Q R w q=>?_⟩;refine a2 C M H n ρ σ _ _ R w λv H1 d n1 e1 f1 r1 p=>?_;obtain⟨xs,rfl,p⟩:=p;have R1:=R.step e1 f1;obtain⟨ad,vs,rfl,nV,hq,hs⟩:=r1.tpOf R.dom R.vM;refine⟨ad,vs,rfl,.inl hq,λr hr=>?_⟩;have g:Grow H1 (BC H1 r (.tup vs.reverse)):=Ay hr;exact q _ _ (.tup xs.reverse) n1 (e1.trans g.ext) (f1.grow g) (Cq R1.dom hr (hs.reverse)) p
end
end Dp
namespace Nt
open PySem PySem.Spec PyProof.Rows L2 Dp
def Ed(N:Net)(x y:Str)(l:Int):Prop:=(y,l)∈DF N.ts x
inductive Wk (N:Net) (s:Str):Str->Int->Prop
 | nil:Wk N s s 0
 | snoc {x y:Str} {d l:Int}:Wk N s x d->Ed N x y l->Wk N s y (d+l)
def Least(N:Net)(s x:Str)(d:Int):Prop:=Wk N s x d/\∀d',Wk N s x d'->d<=d'
theorem Ed.pos{N:Net}(ok:N.Ok){x y:Str}{l:Int}(h:Ed N x y l):1<=l/\l<=1000000:=by
 obtain⟨_,h1,h2,_⟩:=Md ok h;exact⟨h1,h2⟩
theorem Ed.ins{N:Net}(ok:N.Ok){x y:Str}{l:Int}(h:Ed N x y l):y∈N.ps:=(Md ok h).1
theorem Wk.pos{N:Net}(ok:N.Ok){s x:Str}{d:Int}(h:Wk N s x d):0<=d:=by
 induction h with
 | nil=>exact fH _
 | snoc _ he ih=>have:=he.pos ok; omega
theorem Least.unique{N:Net}{s x:Str}{d d':Int}(h:Least N s x d)(h':Least N s x d'):d=d':=by
 have:=h.2 d' h'.1
 have:=h'.2 d h.1
 omega
theorem G5{N:Net}{s:Str}{F:Str->Option Int}(h0:∃d,F s=some d/\d<=0)(hw:∀x d,F x=some d->Wk N s x d)(hc:∀x d y l,F x=some d->Ed N x y l->∃d',F y=some d'/\d'<=d+l) :
  (∀x d,F x=some d->Least N s x d)/\∀x d,Wk N s x d->F x≠none:=by
 have main:∀x d,Wk N s x d->∃d',F x=some d'/\d'<=d:=by
  intro x d h
  induction h with
  | nil=>exact h0
  | snoc _ he ih =>
   obtain⟨d1,e1,h1⟩:=ih;obtain⟨d2,e2,h2⟩:=hc _ _ _ _ e1 he;exact⟨d2,e2,by omega⟩
 refine⟨λx d e=>⟨hw x d e,λd' h=>?_⟩,λx d h e=>?_⟩
 ·obtain⟨d1,e1,h1⟩:=main x d' h
  rw [e] at e1;cases e1;exact h1
 ·obtain⟨d1,e1,_⟩:=main x d h
  rw [e] at e1;cases e1
theorem G0{N:Net}{t:Ao}(ht:t∈N.ts):Ed N t.a t.b t.len/\Ed N t.b t.a t.len:=by
 constructor
 ·exact eA.mpr ⟨t,ht,c0 _ (by rw [if_pos rfl]; exact Re.mpr rfl)⟩
 ·exact eA.mpr ⟨t,ht,bq _ (by rw [if_pos rfl]; exact Re.mpr rfl)⟩
theorem Ed.tie{N:Net}(ok:N.Ok){x y:Str}{l:Int}(h:Ed N x y l):∃t∈N.ts,t.len=l/\((t.a=x/\t.b=y)\/(t.b=x/\t.a=y)):=by
 obtain⟨_,_,_,t,ht,e,h⟩:=Md ok h;exact⟨t,ht,e,h⟩
structure Dmap (ks:List Key) (ds:List D) (enc:α->D) (F:Str->Option α):Prop where
 len:ks.length=ds.length
 at_:∀x:Str,BM ks ds (.inr x)=(F x).map enc
 dom:∀k∈ks,∃x:Str,k=.inr x
 nd:ks.Nodup
theorem Dmap.mem{α:Type}{ks:List Key}{ds:List D}{enc:α->D}{F:Str->Option α}(h:Dmap ks ds enc F)(x:Str):(.inr x∈ks)↔F x≠none:=by
 constructor
 ·intro hm e
  obtain⟨z,hz⟩:=LK h.len hm;rw [h.at_,e] at hz;cases hz
 ·intro hn
  by_cases hm:(dZ x:Key)∈ks
  ·exact hm
  ·have:=LL (ds:=ds) hm
   rw [h.at_] at this;cases e:F x with
   | none=>exact absurd e hn
   | some a=>rw [e] at this; cases this
theorem Dmap.one{α:Type}{enc:α->D}{s:Str}{a:α}:Dmap [.inr s] [enc a] enc (λx=>if x=s then some a else none):=by
 refine⟨rfl,λx=>?_,λk hk=>⟨s,Re.mp hk⟩,cD.mpr ⟨bu,cr⟩⟩;show (if (dZ s:Key)=.inr x then some (enc a) else none)=(if x=s then some a else none).map enc
 by_cases e:x=s
 ·rw [if_pos e,if_pos (by rw [e])]; rfl
 ·rw [if_neg e,if_neg (λz=>e (dU z).symm)]; rfl
def HY{α:Type}(F:Str->Option α)(x:Str)(a:α):Str->Option α:=λy=>if y=x then some a else F y
theorem BZ{α:Type}{F:Str->Option α}{x:Str}{a:α}:HY F x a x=some a:=if_pos rfl
theorem BX{α:Type}{F:Str->Option α}{x y:Str}{a:α}(h:y≠x):HY F x a y=F y:=if_neg h
theorem Dmap.put{α:Type}{ks:List Key}{ds:List D}{enc:α->D}{F:Str->Option α}(h:Dmap ks ds enc F)(x:Str)(a:α):Dmap (C0 ks (.inr x)) (DC ks ds (.inr x) (enc a)) enc (HY F x a):=by
 refine⟨QF h.len,λy=>?_,λk hk=>?_,?_⟩
 ·rw [Su h.len]
  unfold HY
  by_cases e:y=x
  ·rw [if_pos e,if_pos (by rw [e])]; rfl
  ·rw [if_neg e,if_neg (λz=>e (dU z)),h.at_]
 ·unfold C0 at hk
  split at hk
  ·exact h.dom k hk
  ·rcases b_.mp hk with hk | hk
   ·exact h.dom k hk
   ·exact⟨x,Re.mp hk⟩
 ·unfold C0
  split
  ·exact h.nd
  ·rename_i hn
   rw [dX];refine⟨h.nd,cD.mpr ⟨bu,cr⟩,λa ha b hb e=>hn (hasK_iff.mpr ?_)⟩;rw [← Re.mp hb,← e];exact ha
theorem Dmap.le{α:Type}{ks:List Key}{ds:List D}{enc:α->D}{F:Str->Option α}(h:Dmap ks ds enc F){ps:List Str}(hp:∀x,F x≠none->x∈ps):ks.length<=ps.length:=by
 have:∀(ks:List Key) (ps:List Str),ks.Nodup->(∀k∈ks,∃x:Str,k=.inr x/\x∈ps)->ks.length<=ps.length:=by
  intro ks
  induction ks with
  | nil=>intro ps _ _; exact bn _
  | cons k ks ih =>
   intro ps hn hm;obtain⟨x,rfl,hx⟩:=hm k On;have hn:=cD.mp hn
   have h1:=ih (ps.erase x) hn.2 λj hj=>by
    obtain⟨y,rfl,hy⟩:=hm j (TM _ hj);refine⟨y,rfl,(List.mem_erase_of_ne λe=>?_).mpr hy⟩;rw [e] at hj;exact hn.1 hj
   rw [f9 hx] at h1
   have:=gO hx
   rw [ZB];omega
 refine this ks ps h.nd λk hk=>?_;obtain⟨x,rfl⟩:=h.dom k hk;exact⟨x,rfl,hp x ((h.mem x).mp hk)⟩
abbrev Ow:=Str->Option (Int×Option Str)
structure Dj (N:Net) (s:Str) (F:Ow) (Wt:List Str):Prop where
 start:F s=some (0,none)
 ins:∀x,F x≠none->x∈N.ps
 wk:∀x d p,F x=some (d,p)->Wk N s x d
 prev:∀x d p,F x=some (d,p)->(p=none/\x=s)\/∃y dy q l,p=some y/\F y=some (dy,q)/\y∉Wt/\Ed N y x l/\d=dy+l
 wfound:∀x∈Wt,F x≠none
 nd:Wt.Nodup
 done:∀x d p y l,F x=some (d,p)->x∉Wt->Ed N x y l->∃dy q,F y=some (dy,q)/\dy<=d+l
 near:∀x d p y dy q,F x=some (d,p)->x∉Wt->F y=some (dy,q)->y∈Wt->d<=dy
theorem Dj.init{N:Net}{s:Str}(hs:s∈N.ps):Dj N s (λx=>if x=s then some (0,none) else none) [s]:=by
 have iff:∀x d p,(if x=s then some ((0:Int),(none:Option Str)) else none)=some (d,p)->x=s/\d=0/\p=none:=λx d p e=>by
  by_cases h:x=s
  ·rw [if_pos h] at e; cases e; exact⟨h,rfl,rfl⟩
  ·rw [if_neg h] at e; cases e
 refine⟨if_pos rfl,λx e=>?_,λx d p e=>?_,λx d p e=>?_,λx hx=>?_,cD.mpr ⟨bu,cr⟩,λx d p y l e hx=>?_,λx d p y dy q e hx=>?_⟩
 ·by_cases h:x=s
  ·rw [h]; exact hs
  ·exact absurd (if_neg h) e
 ·obtain⟨rfl,rfl,rfl⟩:=iff x d p e
  exact .nil
 ·obtain⟨rfl,rfl,rfl⟩:=iff x d p e
  exact .inl ⟨rfl,rfl⟩
 ·rw [Re.mp hx,if_pos rfl]
  intro z; cases z
 ·exact absurd (Re.mpr (iff x d p e).1) hx
 ·exact absurd (Re.mpr (iff x d p e).1) hx
structure Dm (N:Net) (s:Str) (F:Ow) (Wt:List Str) (v:Str) (dv:Int) (seen:List (Str×Int)):Prop where
 start:F s=some (0,none)
 ins:∀x,F x≠none->x∈N.ps
 wk:∀x d p,F x=some (d,p)->Wk N s x d
 prev:∀x d p,F x=some (d,p)->(p=none/\x=s)\/∃y dy q l,p=some y/\F y=some (dy,q)/\y∉Wt/\Ed N y x l/\d=dy+l
 wfound:∀x∈Wt,F x≠none
 nd:Wt.Nodup
 done:∀x d p y l,F x=some (d,p)->x∉Wt->x≠v->Ed N x y l->∃dy q,F y=some (dy,q)/\dy<=d+l
 near:∀x d p y dy q,F x=some (d,p)->x∉Wt->F y=some (dy,q)->y∈Wt->d<=dy
 here:∃p,F v=some (dv,p)
 out:v∉Wt
 least:∀x d p,F x=some (d,p)->x∉Wt->d<=dv
 gone:∀y l,(y,l)∈seen->∃dy q,F y=some (dy,q)/\dy<=dv+l
theorem Dj.take{N:Net}{s:Str}{F:Ow}{Wt:List Str}(h:Dj N s F Wt){v:Str}{dv:Int}{p:Option Str}(hv:v∈Wt)(e:F v=some (dv,p))(hmin:∀y∈Wt,∀dy q,F y=some (dy,q)->dv<=dy):Dm N s F (Wt.erase v) v dv []:=by
 have sub:∀x,x∈Wt.erase v->x∈Wt:=λx hx=>List.mem_of_mem_erase hx;have out:v∉Wt.erase v:=λz=>(h.nd.mem_erase_iff.mp z).1 rfl
 have back:∀x,x∉Wt.erase v->x=v\/x∉Wt:=λx hx=>by
  by_cases e:x=v
  ·exact .inl e
  ·exact .inr λz=>hx (h.nd.mem_erase_iff.mpr ⟨e,z⟩)
 refine⟨h.start,h.ins,h.wk,λx d q ex=>?_,λx hx=>h.wfound x (sub x hx),h.nd.erase v,λx d q y l ex hx nx he=>?_,λx d q y dy q2 ex hx ey hy=>?_,⟨p,e⟩,out,λx d q ex hx=>?_,λy l hy=>by cases hy⟩
 ·rcases h.prev x d q ex with z | ⟨y,dy,q2,l,e1,e2,e3,e4,e5⟩
  ·exact .inl z
  ·exact .inr ⟨y,dy,q2,l,e1,e2,λz=>e3 (sub y z),e4,e5⟩
 ·rcases back x hx with z | z
  ·exact absurd z nx
  ·exact h.done x d q y l ex z he
 ·rcases back x hx with z | z
  ·subst z
   rw [e] at ex;cases ex;exact hmin y (sub y hy) dy q2 ey
  ·exact h.near x d q y dy q2 ex z ey (sub y hy)
 ·rcases back x hx with z | z
  ·subst z
   rw [e] at ex;cases ex;exact fH _
  ·exact h.near x d q v dv p ex z e hv
theorem Dm.finish{N:Net}{s:Str}{F:Ow}{Wt:List Str}{v:Str}{dv:Int}{seen:List (Str×Int)}(h:Dm N s F Wt v dv seen)(hs:∀y l,Ed N v y l->(y,l)∈seen):Dj N s F Wt:=by
 refine⟨h.start,h.ins,h.wk,h.prev,h.wfound,h.nd,λx d p y l e hx he=>?_,h.near⟩
 by_cases z:x=v
 ·subst z
  obtain⟨p',e'⟩:=h.here;rw [e'] at e;cases e;exact h.gone y l (hs y l he)
 ·exact h.done x d p y l e hx z he
theorem Dm.find{N:Net}(ok:N.Ok){s:Str}{F:Ow}{Wt:List Str}{v:Str}{dv:Int}{seen:List (Str×Int)}(h:Dm N s F Wt v dv seen){y:Str}{l:Int}(he:Ed N v y l)(hy:F y=none):Dm N s (HY F y (dv+l,some v)) (Wt++[y]) v dv (seen++[(y,l)]):=by
 have hpos:=(he.pos ok).1;obtain⟨pv,ev⟩:=h.here;have ne:∀x d p,F x=some (d,p)->x≠y:=λx d p e z=>by rw [z,hy] at e; cases e
 have keep:∀x d p,F x=some (d,p)->HY F y (dv+l,some v) x=some (d,p):=λx d p e=>by rw [BX (ne x d p e)]; exact e
 have yW:y∉Wt:=λz=>h.wfound y z hy
 have cases_:∀x d p,HY F y (dv+l,some v) x=some (d,p)->(x=y/\d=dv+l/\p=some v)\/(x≠y/\F x=some (d,p)):=λx d p e=>by
  by_cases z:x=y
  ·rw [z,BZ] at e; cases e; exact .inl ⟨z,rfl,rfl⟩
  ·rw [BX z] at e; exact .inr ⟨z,e⟩
 have inW:∀x,x∉Wt++[y]->x∉Wt/\x≠y:=λx hx=>⟨λz=>hx (c0 _ z),λz=>hx (bq _ (by rw [z]; exact Re.mpr rfl))⟩
 have vW:v∉Wt++[y]:=λz=>by
  rcases b_.mp z with z | z
  ·exact h.out z
  ·exact ne v dv pv ev (Re.mp z)
 refine⟨keep _ _ _ h.start,λx hx=>?_,λx d p e=>?_,λx d p e=>?_,λx hx=>?_,?_,λx d p z l2 e hx nx he2=>?_,λx d p z dz q e hx ez hz=>?_,⟨pv,keep _ _ _ ev⟩,vW,λx d p e hx=>?_,λz l2 hz=>?_⟩
 ·by_cases z:x=y
  ·rw [z]; exact he.ins ok
  ·rw [BX z] at hx; exact h.ins x hx
 ·rcases cases_ x d p e with ⟨rfl,rfl,_⟩ | ⟨_,e⟩
  ·exact .snoc (h.wk v dv pv ev) he
  ·exact h.wk x d p e
 ·rcases cases_ x d p e with ⟨rfl,rfl,rfl⟩ | ⟨_,e⟩
  ·exact .inr ⟨v,dv,pv,l,rfl,keep _ _ _ ev,vW,he,rfl⟩
  ·rcases h.prev x d p e with z | ⟨u,du,q,l2,e1,e2,e3,e4,e5⟩
   ·exact .inl z
   ·refine .inr ⟨u,du,q,l2,e1,keep _ _ _ e2,λz=>?_,e4,e5⟩
    rcases b_.mp z with z | z
    ·exact e3 z
    ·exact ne u du q e2 (Re.mp z)
 ·rcases b_.mp hx with hx | hx
  ·have:=h.wfound x hx
   cases e:F x with
   | none=>exact absurd e this
   | some a=>rw [keep x a.1 a.2 e]; intro z; cases z
  ·rw [Re.mp hx,BZ]; intro z; cases z
 ·rw [dX]
  exact⟨h.nd,cD.mpr ⟨bu,cr⟩,λa ha b hb e=>yW (by rw [← Re.mp hb,← e]; exact ha)⟩
 ·obtain⟨w1,w2⟩:=inW x hx
  rcases cases_ x d p e with ⟨z,_⟩ | ⟨_,e⟩
  ·exact absurd z w2
  ·obtain⟨d3,q3,e3,h3⟩:=h.done x d p z l2 e w1 nx he2
   exact⟨d3,q3,keep _ _ _ e3,h3⟩
 ·obtain⟨w1,w2⟩:=inW x hx
  rcases cases_ x d p e with ⟨z,_⟩ | ⟨_,ex⟩
  ·exact absurd z w2
  ·rcases cases_ z dz q ez with ⟨_,e2,_⟩ | ⟨nz,ez⟩
   ·have:=h.least x d p ex w1
    omega
   ·rcases b_.mp hz with hz | hz
    ·exact h.near x d p z dz q ex w1 ez hz
    ·exact absurd (Re.mp hz) nz
 ·obtain⟨w1,w2⟩:=inW x hx
  rcases cases_ x d p e with ⟨z,_⟩ | ⟨_,e⟩
  ·exact absurd z w2
  ·exact h.least x d p e w1
 ·rcases b_.mp hz with hz | hz
  ·obtain⟨d3,q3,e3,h3⟩:=h.gone z l2 hz
   exact⟨d3,q3,keep _ _ _ e3,h3⟩
  ·cases Re.mp hz
   exact⟨_,_,BZ,fH _⟩
theorem Dm.nearer{N:Net}(ok:N.Ok){s:Str}{F:Ow}{Wt:List Str}{v:Str}{dv:Int}{seen:List (Str×Int)}(h:Dm N s F Wt v dv seen){y:Str}{l dy:Int}{qy:Option Str}(he:Ed N v y l)(hy:F y=some (dy,qy))(hlt:dv+l<dy):Dm N s (HY F y (dv+l,some v)) Wt v dv (seen++[(y,l)]):=by
 have hpos:=(he.pos ok).1;obtain⟨pv,ev⟩:=h.here
 have yW:y∈Wt:=by
  by_cases z:y∈Wt
  ·exact z
  ·have:=h.least y dy qy hy z
   omega
 have vy:v≠y:=λz=>h.out (by rw [z]; exact yW);have keep:∀x,x∉Wt->HY F y (dv+l,some v) x=F x:=λx hx=>BX λz=>hx (by rw [z]; exact yW)
 have cases_:∀x d p,HY F y (dv+l,some v) x=some (d,p)->(x=y/\d=dv+l/\p=some v)\/(x≠y/\F x=some (d,p)):=λx d p e=>by
  by_cases z:x=y
  ·rw [z,BZ] at e; cases e; exact .inl ⟨z,rfl,rfl⟩
  ·rw [BX z] at e; exact .inr ⟨z,e⟩
 have less:∀x d p,F x=some (d,p)->∃d' q,HY F y (dv+l,some v) x=some (d',q)/\d'<=d:=λx d p e=>by
  by_cases z:x=y
  ·subst z
   rw [hy] at e;cases e;exact⟨_,_,BZ,by omega⟩
  ·exact⟨d,p,by rw [BX z]; exact e,fH _⟩
 have sy:s≠y:=λz=>by
  have:=h.start
  rw [z,hy] at this;cases this
  have:=(h.wk v dv pv ev).pos ok
  omega
 refine⟨by rw [BX sy]; exact h.start,λx hx=>?_,λx d p e=>?_,λx d p e=>?_,λx hx=>?_,h.nd,λx d p z l2 e hx nx he2=>?_,λx d p z dz q e hx ez hz=>?_,⟨pv,by rw [BX vy]; exact ev⟩,h.out,λx d p e hx=>?_,λz l2 hz=>?_⟩
 ·by_cases z:x=y
  ·rw [z]; exact he.ins ok
  ·rw [BX z] at hx; exact h.ins x hx
 ·rcases cases_ x d p e with ⟨rfl,rfl,_⟩ | ⟨_,e⟩
  ·exact .snoc (h.wk v dv pv ev) he
  ·exact h.wk x d p e
 ·rcases cases_ x d p e with ⟨rfl,rfl,rfl⟩ | ⟨_,e⟩
  ·exact .inr ⟨v,dv,pv,l,rfl,by rw [BX vy]; exact ev,h.out,he,rfl⟩
  ·rcases h.prev x d p e with z | ⟨u,du,q,l2,e1,e2,e3,e4,e5⟩
   ·exact .inl z
   ·exact .inr ⟨u,du,q,l2,e1,by rw [keep u e3]; exact e2,e3,e4,e5⟩
 ·by_cases z:x=y
  ·rw [z,BZ]; intro w; cases w
  ·rw [BX z]; exact h.wfound x hx
 ·rw [keep x hx] at e
  obtain⟨d3,q3,e3,h3⟩:=h.done x d p z l2 e hx nx he2;obtain⟨d4,q4,e4,h4⟩:=less z d3 q3 e3;exact⟨d4,q4,e4,by omega⟩
 ·rw [keep x hx] at e
  rcases cases_ z dz q ez with ⟨rfl,rfl,_⟩ | ⟨nz,ez⟩
  ·have:=h.least x d p e hx
   omega
  ·exact h.near x d p z dz q e hx ez hz
 ·rw [keep x hx] at e
  exact h.least x d p e hx
 ·rcases b_.mp hz with hz | hz
  ·obtain⟨d3,q3,e3,h3⟩:=h.gone z l2 hz
   obtain⟨d4,q4,e4,h4⟩:=less z d3 q3 e3;exact⟨d4,q4,e4,by omega⟩
  ·cases Re.mp hz
   exact⟨_,_,BZ,fH _⟩
theorem Dm.skip{N:Net}{s:Str}{F:Ow}{Wt:List Str}{v:Str}{dv:Int}{seen:List (Str×Int)}(h:Dm N s F Wt v dv seen){y:Str}{l dy:Int}{qy:Option Str}(hy:F y=some (dy,qy))(hle:dy<=dv+l):Dm N s F Wt v dv (seen++[(y,l)]):=by
 refine⟨h.start,h.ins,h.wk,h.prev,h.wfound,h.nd,h.done,h.near,h.here,h.out,h.least,λz l2 hz=>?_⟩
 rcases b_.mp hz with hz | hz
 ·exact h.gone z l2 hz
 ·cases Re.mp hz
  exact⟨_,_,hy,hle⟩
structure Told (N:Net) (s:Str) (F:Ow):Prop where
 start:F s=some (0,none)
 ins:∀x,F x≠none->x∈N.ps
 least:∀x d p,F x=some (d,p)->Least N s x d
 all:∀x d,Wk N s x d->F x≠none
 prev:∀x d p,F x=some (d,p)->(p=none/\x=s)\/∃y dy q l,p=some y/\F y=some (dy,q)/\Ed N y x l/\d=dy+l
theorem Dj.told{N:Net}{s:Str}{F:Ow}(h:Dj N s F []):Told N s F:=by
 have cl:=G5 (N:=N) (s:=s) (F:=λx=>(F x).map (·.1)) ⟨0,by rw [h.start]; rfl,fH _⟩ (λx d e=>by
  obtain⟨⟨d',p⟩,e1,e2⟩:=cU.mp e;cases e2;exact h.wk x _ p e1) (λx d y l e he=>by
  obtain⟨⟨d',p⟩,e1,e2⟩:=cU.mp e;cases e2;obtain⟨dy,q,e3,h3⟩:=h.done x _ p y l e1 bu he;exact⟨dy,by rw [e3]; rfl,h3⟩)
 refine⟨h.start,h.ins,λx d p e=>cl.1 x d (by rw [e]; rfl),λx d hw e=>cl.2 x d hw (by rw [e]; rfl),λx d p e=>?_⟩
 rcases h.prev x d p e with z | ⟨y,dy,q,l,e1,e2,_,e4,e5⟩
 ·exact .inl z
 ·exact .inr ⟨y,dy,q,l,e1,e2,e4,e5⟩
abbrev Kn:=Str->Option Int
structure Bf (N:Net) (s:Str) (c:Nat) (K:Kn):Prop where
 start:∃d,K s=some d/\d<=0
 ins:∀x,K x≠none->x∈N.ps
 wk:∀x d,K x=some d->Wk N s x d
 top:∀x d,K x=some d->d<=1000000*(c:Int)
def big:Nat:=27000001
def wt(K:Kn)(x:Str):Nat:=match K x with
 | some d=>d.toNat
 | none=>big
def Sb(ps:List Str)(K:Kn):Nat:=(ps.map (wt K)).sum
theorem S4{f g:Str->Nat}:∀{ps:List Str},(∀x∈ps,f x<=g x)->(ps.map f).sum<=(ps.map g).sum
 | [],_=>Rs _
 | x::ps,h=>by
  have h1:=h x On;have h2:=S4 λy hy=>h y (TM _ hy);rw [bm,bm,gR,gR];omega
theorem S3{f g:Str->Nat}:∀{ps:List Str},(∀x∈ps,f x<=g x)->(∃x∈ps,f x<g x)->(ps.map f).sum<(ps.map g).sum
 | [],_,⟨x,hx,_⟩=>by cases hx
 | x::ps,h,⟨y,hy,hl⟩=>by
  have h1:=h x On;rw [bm,bm,gR,gR]
  rcases TW.mp hy with rfl | hy
  ·have h2:=S4 λy hy=>h y (TM _ hy)
   omega
  ·have h2:=S3 (λy hy=>h y (TM _ hy)) ⟨y,hy,hl⟩
   omega
theorem Bf.put {N : Net} (ok : N.Ok) {s : Str} {c c' : Nat} {K : Kn} (h : Bf N s c K) (hc : c' ≤ 26) (hcc : c ≤ c') {x y : Str} {d l : Int} (hx : K x = some d) (he : Ed N x y l) (hn : K y = none → c' = c + 1) (hl : ∀ d', K y = some d' → d + l < d') : Bf N s c' (HY K y (d + l)) ∧ Sb N.ps (HY K y (d + l)) < Sb N.ps K := by
  have hp := he.pos ok;have hd := (h.wk x d hx).pos ok;have hw : Wk N s y (d + l) := .snoc (h.wk x d hx) he;have td := h.top x d hx
  have ht : d + l ≤ 1000000 * (c' : Int) := by
    cases e : K y with
    | none => rw [hn e]; have : ((c + 1 : Nat) : Int) = (c : Int) + 1 := by omega
              rw [this, Int.mul_add]; omega
    | some d' =>
      have h1 := hl d' e;have h2 := h.top y d' e;have : (1000000 : Int) * (c : Int) ≤ 1000000 * (c' : Int) := eP (by omega) (by omega);omega
  refine ⟨⟨?_, λz hz => ?_, λz dz e => ?_, λz dz e => ?_⟩, S3 (λz _ => ?_) ⟨y, he.ins ok, ?_⟩⟩
  · obtain ⟨d0, e0, h0⟩ := h.start
    by_cases z : s = y
    · have := hl d0 (by rw [← z]; exact e0)
      omega
    · exact ⟨d0, by rw [BX z]; exact e0, h0⟩
  · by_cases e : z = y
    · rw [e]; exact he.ins ok
    · rw [BX e] at hz; exact h.ins z hz
  · by_cases w : z = y
    · rw [w, BZ] at e; cases e; rw [w]; exact hw
    · rw [BX w] at e; exact h.wk z dz e
  · by_cases w : z = y
    · rw [w, BZ] at e; cases e; exact ht
    · rw [BX w] at e
      have h2 := h.top z dz e;have : (1000000 : Int) * (c : Int) ≤ 1000000 * (c' : Int) := eP (by omega) (by omega);omega
  · unfold wt
    by_cases w : z = y
    · rw [w, BZ]
      cases e : K y with
      | none => show (d + l).toNat ≤ big; unfold big; omega
      | some d' => show (d + l).toNat ≤ d'.toNat; have := hl d' e; omega
    · rw [BX w]
      exact Rs _
  · unfold wt
    rw [BZ];cases e : K y with
    | none => show (d + l).toNat < big; unfold big; omega
    | some d' => show (d + l).toNat < d'.toNat; have := hl d' e; omega
theorem Bf.init{N:Net}{s:Str}(hs:s∈N.ps):Bf N s 1 (λx=>if x=s then some 0 else none):=by
 have iff:∀x d,(if x=s then some (0:Int) else none)=some d->x=s/\d=0:=λx d e=>by
  by_cases h:x=s
  ·rw [if_pos h] at e; cases e; exact⟨h,rfl⟩
  ·rw [if_neg h] at e; cases e
 refine⟨⟨0,if_pos rfl,fH _⟩,λx e=>?_,λx d e=>?_,λx d e=>?_⟩
 ·by_cases h:x=s
  ·rw [h]; exact hs
  ·exact absurd (if_neg h) e
 ·obtain⟨rfl,rfl⟩:=iff x d e
  exact .nil
 ·obtain⟨rfl,rfl⟩:=iff x d e
  decide
def JR(K:Kn)(e:Str×Str×Int):Prop:=∀d,K e.1=some d->∃d',K e.2.1=some d'/\d'<=d+e.2.2
structure XI (N:Net) (s:Str) (K:Kn):Prop where
 ins:∀x,K x≠none->x∈N.ps
 least:∀x d,K x=some d->Least N s x d
 all:∀x d,Wk N s x d->K x≠none
 top:∀x d,K x=some d->d<=30000000
theorem Bf.told{N:Net}(ok:N.Ok){s:Str}{c:Nat}{K:Kn}(h:Bf N s c K)(hc:c<=26)(ht:∀t∈N.ts,JR K (t.a,t.b,t.len)/\JR K (t.b,t.a,t.len)):XI N s K:=by
 have cl:=G5 h.start h.wk (λx d y l e he=>by
  obtain⟨t,hm,e1,h2⟩:=he.tie ok;subst e1
  rcases h2 with ⟨rfl,rfl⟩ | ⟨rfl,rfl⟩
  ·exact(ht t hm).1 d e
  ·exact(ht t hm).2 d e)
 exact⟨h.ins,cl.1,cl.2,λx d e=>by have:=h.top x d e; omega⟩
def walk(N:Net):List Str->Int->Prop
 | [],_=>False
 | [_],d=>d=0
 | x::y::r,d=>∃l e,Ed N x y l/\walk N (y::r) e/\d=l+e
theorem Q8{N:Net}{x y:Str}{r:List Str}{d l:Int}(he:Ed N x y l)(h:walk N (y::r) d):walk N (x::y::r) (l+d):=⟨l,d,he,h,rfl⟩
def bZ(N:Net)(a b:Str):Option Int->Prop
 | some d=>Least N a b d
 | none=>∀d,¬Wk N a b d
theorem Told.far{N:Net}{s:Str}{F:Ow}(h:Told N s F)(x:Str):bZ N s x ((F x).map (·.1)):=by
 cases e:F x with
 | none=>exact λd hw=>h.all x d hw e
 | some a=>exact h.least x a.1 a.2 e
def Way(N:Net)(a b:Str)(o:Option (List Str)):Prop:=match o with
 | some w=>∃d r,w=a::r/\w.getLast?=some b/\walk N w d/\Least N a b d/\w.length<=30/\∀x∈w,x∈N.ps
 | none=>∀d,¬Wk N a b d
def ZW:Option Str->D
 | some y=>.str y
 | none=>.non
def GG:Option (List Str)->D
 | some w=>.tup (w.map .str)
 | none=>.non
def KR(p:Int×Option Str):D:=.tup [.int p.1,ZW p.2]
def okN(N:Net):Prop:=N.Ok/\N.ps.length<=25/\N.ts.length<=60
def Q2:W2:=λss n P=>∃(Wt:List Str) (ks:List Key) (ds:List D) (F:Ow),ss=[.br (.lst (Wt.map .str)),.br (.dic ks ds)]/\Dmap ks ds KR F/\(∀x∈Wt,F x≠none)/\Wt≠[]/\Wt.length<=100 /\
 ∀v∈Wt,(∀y∈Wt,∀dv pv dy py,F v=some (dv,pv)->F y=some (dy,py)->dv<=dy)->P (.str v) n
def NL:W2:=λss n P=>∃(N:Net) (s:Str),ss=[.sh (enc N),.sh (.str s)]/\okN N/\s∈N.ps/\∀(ks:List Key) (ds:List D) (F:Ow),Dmap ks ds KR F->Told N s F->P (.dic ks ds) n
def WQ:W2:=λss n P=>∃(N:Net) (a b:Str),ss=[.sh (enc N),.sh (.str a),.sh (.str b)]/\okN N/\a∈N.ps/\b∈N.ps/\∀o,Way N a b o->P (GG o) n
def G8:Af:=(Av (AT Aw (DR W5 (AF (Bl [some 1,none] (BO (BB 0)) (Aa 1) CI (B7 (AF (AT Aw (AT Bm (BB 0) (AB 1)) (wC (D.int 0))) (AF (AB 1) Ab)))) Ab)) (wC (D.int 1))))
def G_:Af:=(AZ (Ax 2 (AV Kt (AC (AG (AB 0)) AW)))
 (AZ (DV 3 (Oz (AB 1) (B7 (AF (wC (D.int 0)) (AF (wC D.non) Ab)))))
 (AZ (DV 4 (Ek (AF (AB 1) Ab)))
 (AZ (JM (XQ (BB 4)) (AZ (Ax 5 (AV Q2 (AC (EC (BB 4)) (AC (EC (BB 3)) AW))))
 (AZ (Oy 4 "list" Zj (AF (AB 5) Ab))
 (Dy (wItems (AT Bm (AB 2) (AB 5))) (DU 2 (An (Aa 6) (An (Aa 7) B0))) (AZ (Ax 8 (AT Az (AT Aw (AT Bm (BB 3) (AB 5)) (wC (D.int 0))) (AB 7)))
 (BP (AY (AT (Ih true) (AB 6) (BB 3))) (AZ (Oy 4 "list" Hv (AF (AB 6) Ab))
 (GY 3 (AB 6) (B7 (AF (AB 8) (AF (AB 5) Ab))))) (BP (AY (AT GO (AB 8) (AT Aw (AT Bm (BB 3) (AB 6)) (wC (D.int 0))))) (GY 3 (AB 6) (B7 (AF (AB 8) (AF (AB 5) Ab)))) A9)))))))
 (NR 3)))))
def Oj:Af:=(AZ (Ax 3 (AV NL (AC (AG (AB 0)) (AC (AG (AB 1)) AW))))
 (AZ (BP (AY (AT (Ih true) (AB 2) (AB 3))) (Av (wC D.non)) A9)
 (AZ (DV 4 (Ek Ab))
 (AZ (Ax 5 (AB 2))
 (AZ (JM (AY (AT (Ie true) (AB 5) (wC D.non))) (AZ (Oy 4 "list" Hv (AF (AB 5) Ab))
 (Ax 5 (AT Aw (AT Bm (AB 3) (AB 5)) (wC (D.int 1))))))
 (Av (P1 (BB 4))))))))
theorem ay{i j:Int}{x y:Str}(h:Bb [.inl j,.inr y] [.inl i,.inr x]=false):i<=j:=by
 have h:(if (fQ j:Key)=.inl i then (if (dZ y:Key)=.inr x then false else decide (y.cps.toList<x.cps.toList)) else decide (j<i))=false:=h
 by_cases e:j=i
 ·omega
 ·rw [if_neg (λz=>e (jT z)),decide_eq_false_iff_not] at h
  omega
section
variable {ss:List Slot}{n:Nat}{Pd:D->Nat->Prop}
theorem Kz(h:Q2 ss n Pd):G8 (EE Pd) n (ss++bj 0 .no):=by
 obtain⟨Wt,ks,ds,F,rfl,M,hF,hne,hl,p⟩:=h;unfold G8;refine⟨by show (Wt.map D.str).length<=10000000; rw [No]; omega,?_⟩
 have dist:∀x∈Wt,∃d q,F x=some (d,q):=λx hx=>by
  cases e:F x with
  | none=>exact absurd e (hF x hx)
  | some a=>exact⟨a.1,a.2,rfl⟩
 refine Bv (λd=>match d with | .str x=>.tup [.int ((F x).getD (0,none)).1,.str x] | d=>d) (λρ=>∃s,ρ=[.br (.dic ks ds),s]) _ _ _ _ ?_ ⟨_,rfl⟩ ?_
 ·rintro d hd ρ m nx ⟨s,rfl⟩ hnx
  obtain⟨x,hx,rfl⟩:=Tk.mp hd;obtain⟨dx,q,ex⟩:=dist x hx;refine⟨ks,ds,_,KR (dx,q),rfl,rfl,by rw [M.at_,ex]; rfl,_,AQ (j:=0) rfl,(by decide:2<=sizeLine),?_⟩;have this:nx (.tup [.int ((F x).getD (0,none)).1,.str x]) m [.br (.dic ks ds),.sh (.str x)]:=hnx [.br (.dic ks ds),.sh (.str x)] ⟨_,rfl⟩;rw [show ((F x).getD (0,none)).1=dx by rw [ex]; rfl] at this;exact this
 rw [cK,dN];refine⟨_,rfl,?_,⟨λx hx=>?_,λx hx y hy ka kb ea eb=>?_⟩,λx hx hmin=>?_⟩
 ·rw [No]
  cases Wt with
  | nil=>exact absurd rfl hne
  | cons a r=>exact Nat.succ_pos _
 ·obtain⟨z,_,rfl⟩:=Tk.mp hx
  exact⟨_,rfl,eX _ _⟩
 ·obtain⟨z,_,rfl⟩:=Tk.mp hx
  obtain⟨u,_,rfl⟩:=Tk.mp hy;cases (show some [fQ _,dZ _]=some ka from ea);cases (show some [fQ _,dZ _]=some kb from eb);rfl
 ·obtain⟨v,hv,rfl⟩:=Tk.mp hx
  refine⟨_,AQ (j:=1) rfl,p v hv λy hy dv pv dy py ev ey=>?_⟩
  have:=ay (hmin _ (Tk.mpr ⟨y,hy,rfl⟩) _ _ rfl rfl)
  rw [ev,ey] at this;exact this
theorem BD(x:Str):keyOf (.str x)=some (.inr x):=rfl
theorem Rk{N:Net}(ok:N.Ok){xs:List Str}(h:∀x∈xs,x∈N.ps):E9 (.lst (xs.map .str)):=by
 have it:∀d∈xs.map D.str,item d:=λd hd=>by
  obtain⟨x,hx,rfl⟩:=Tk.mp hd;exact D6 (ok.names x (h x hx))
 exact La it
theorem L4{N:Net}{Wt:List Str}(hn:Wt.Nodup)(h:∀x∈Wt,x∈N.ps):Wt.length<=N.ps.length:=by
 have:∀(xs ps:List Str),xs.Nodup->(∀x∈xs,x∈ps)->xs.length<=ps.length:=by
  intro xs
  induction xs with
  | nil=>intro ps _ _; exact bn _
  | cons x xs ih =>
   intro ps hn hm;have hx:=hm x On;have hn:=cD.mp hn;have h1:=ih (ps.erase x) hn.2 λj hj=>(List.mem_erase_of_ne λe=>hn.1 (by rw [← e]; exact hj)).mpr (hm j (TM _ hj));rw [f9 hx] at h1
   have:=gO hx
   rw [ZB];omega
 exact this Wt N.ps hn h
theorem Jp(ks:List Key)(k:Key):(C0 ks k).length=if KI ks k=true then ks.length else ks.length+1:=by
 unfold C0
 split
 ·rfl
 ·rw [bi]; rfl
theorem Dmap.has{α:Type}{ks:List Key}{ds:List D}{enc:α->D}{F:Str->Option α}(h:Dmap ks ds enc F){x:Str}:(F x=none->KI ks (.inr x)=false)/\(F x≠none->KI ks (.inr x)=true):=by
 constructor
 ·intro e
  cases c:KI ks (.inr x) with
  | false=>rfl
  | true=>exact absurd e ((h.mem x).mp (hasK_iff.mp c))
 ·intro e
  exact hasK_iff.mpr ((h.mem x).mpr e)
theorem LQ{N:Net}{x:Str}(hx:x∈N.ps):BM (N.ps.map .inr) (N.ps.map (Rj N.ts)) (.inr x)=some (Rj N.ts x):=by
 have go:∀ps:List Str,x∈ps->BM (ps.map .inr) (ps.map (Rj N.ts)) (.inr x)=some (Rj N.ts x):=by
  intro ps
  induction ps with
  | nil=>intro h; cases h
  | cons q ps ih =>
   intro h;show (if (dZ q:Key)=.inr x then some (Rj N.ts q) else BM (ps.map .inr) (ps.map (Rj N.ts)) (.inr x))=_
   by_cases e:q=x
   ·rw [if_pos (by rw [e]),e]
   ·rw [if_neg (λz=>e (dU z))]
    exact ih ((TW.mp h).resolve_left λz=>e z.symm)
 exact go N.ps hx
theorem VA(l:List (Str×Int)):DA ((l.map λx=>(.inr x.1:Key)).map U9) (l.map λx=>.int x.2)=l.map aE:=by
 induction l with
 | nil=>rfl
 | cons p l ih =>
  show D.tup [.str p.1,.int p.2]::DA _ _=aE p::l.map aE;rw [← ih];rfl
theorem K3(h:NL ss n Pd):G_ (EF Pd) n (ss++bj 7 .no):=by
 obtain⟨N,s,rfl,⟨ok,lp,lt⟩,hs,p⟩:=h;have szl:=PySem.sizeLine_eq;unfold G_;refine⟨N,rfl,ok,by omega,by omega,?_⟩;refine⟨(by decide:2<=sizeLine),_,BD s,(by decide:1<=sizeLine),?_⟩;refine HS (λm n' ρ=>n'=n/\∃(Wt:List Str) (ks:List Key) (ds:List D) (F:Ow) (s5 s6 s7 s8:Slot),ρ=[.sh (enc N),.sh (.str s),.sh (ED N),.ow (.dic ks ds),.ow (.lst (Wt.map .str)),s5,s6,s7,s8]/\Dmap ks ds KR F/\Dj N s F Wt/\m+ks.length=N.ps.length+Wt.length) (N.ps.length) ⟨rfl,[s],[.inr s],[KR (0,none)],_,_,_,_,_,rfl,Dmap.one,Dj.init hs,rfl⟩ ?_ ?_
 ·rintro m n' ρ N' ⟨rfl,Wt,ks,ds,F,s5,s6,s7,s8,rfl,M,J,hm⟩ hN
  cases Wt with
  | nil =>
   exact⟨false,rfl,_,rfl,p ks ds F M J.told⟩
  | cons w0 Wr =>
   refine⟨true,rfl,?_⟩;have insW:∀x∈w0::Wr,x∈N.ps:=λx hx=>J.ins x (J.wfound x hx);have wl:=L4 J.nd insW;refine⟨w0::Wr,ks,ds,F,rfl,M,J.wfound,eX _ _,by omega,λv hv hmin=>?_⟩
   obtain⟨dv,pv,ev⟩:∃d q,F v=some (d,q):=by
    cases e:F v with
    | none=>exact absurd e (J.wfound v hv)
    | some a=>exact⟨a.1,a.2,rfl⟩
   have D0:=J.take hv ev λy hy dy q ey=>hmin y hy dv pv dy q ev ey;have hvp:=insW v hv;have hidx:(w0::Wr).idxOf v<(w0::Wr).length:=List.idxOf_lt_length_of_mem hv;have hget:(w0::Wr)[(w0::Wr).idxOf v]?=some v:=by rw [Go hidx,List.getElem_idxOf]
   have ee:((w0::Wr).map D.str).eraseIdx ((w0::Wr).idxOf v)=((w0::Wr).erase v).map D.str:=by
    rw [List.erase_eq_eraseIdx_of_idxOf (rfl:(w0::Wr).idxOf v=_),Ld]
   refine⟨_,rfl,rfl,_,_,(w0::Wr).idxOf v,rfl,rfl,Rk ok insW,OJ (ok.names v hvp),⟨.str v,by rw [bv,hget]; rfl,by show (v==v)=true; exact beq_self_eq_true v⟩,λk x hk hx=>?_,?_⟩
   ·rw [bv] at hx
    obtain⟨t,ht,rfl⟩:=cU.mp hx;have hkl:k<(w0::Wr).length:=(bh.mp ht).1;have hh:=List.not_of_lt_findIdx (p:=λy=>y==v) (xs:=w0::Wr) hk;have e2:(w0::Wr)[k]=t:=(bh.mp ht).2;have h3:((w0::Wr)[k]==v)=false:=hh;rw [e2] at h3;exact h3
   rw [ee];refine⟨_,_,_,Rj N.ts v,rfl,BD v,LQ hvp,_,_,rfl,λk hk=>?_,?_⟩
   ·obtain⟨q,hq,rfl⟩:=Tk.mp hk
    have:=(ok.names _ (Md ok hq).1).2.1
    show q.1.length<=sizeLine;omega
   rw [VA];have el:=f9 hv
   have inner:∀(rest seen:List (Str×Int)) (Wt:List Str) (ks:List Key) (ds:List D) (F:Ow) (s6 s7 s8:Slot),seen++rest=DF N.ts v->Dmap ks ds KR F->Dm N s F Wt v dv seen->m+ks.length=N.ps.length+Wt.length+1 ->
     BR (DU 2 (An (Aa 6) (An (Aa 7) B0))) (AZ (Ax 8 (AT Az (AT Aw (AT Bm (BB 3) (AB 5)) (wC (D.int 0))) (AB 7)))
 (BP (AY (AT (Ih true) (AB 6) (BB 3))) (AZ (Oy 4 "list" Hv (AF (AB 6) Ab))
 (GY 3 (AB 6) (B7 (AF (AB 8) (AF (AB 5) Ab))))) (BP (AY (AT GO (AB 8) (AT Aw (AT Bm (BB 3) (AB 6)) (wC (D.int 0))))) (GY 3 (AB 6) (B7 (AF (AB 8) (AF (AB 5) Ab)))) A9))) { EF Pd with nx:=N',ct:=N',bk:=NR 3 (EF Pd) } (rest.map aE) n' [.sh (enc N),.sh (.str s),.sh (ED N),.ow (.dic ks ds),.ow (.lst (Wt.map .str)),.sh (.str v),s6,s7,s8]:=by
    intro rest
    induction rest with
    | nil =>
     intro seen Wt ks ds F s6 s7 s8 e M D0 hm;rw [cH] at e;exact hN (m - 1) n' _ (by have:=M.le D0.ins; omega) ⟨rfl,Wt,ks,ds,F,_,_,_,_,rfl,M,D0.finish λy l hy=>by rw [e]; exact hy,by have:=M.le D0.ins; omega⟩
    | cons q rest ih =>
     intro seen Wt ks ds F s6 s7 s8 e M D0 hm;obtain⟨y,l⟩:=q;have he:Ed N v y l:=by show (y,l)∈DF N.ts v; rw [← e]; exact bq _ On
     have e':(seen++[(y,l)])++rest=DF N.ts v:=by rw [cb]; exact e
     obtain⟨pv,ev⟩:=D0.here;have kl:=M.le D0.ins;have hyp:=he.ins ok;have insW:∀x∈Wt,x∈N.ps:=λx hx=>D0.ins x (D0.wfound x hx);have wl:=L4 D0.nd insW;refine⟨rfl,rfl,?_⟩;refine⟨ks,ds,_,KR (dv,pv),rfl,BD v,by rw [M.at_,ev]; rfl,_,AQ (j:=0) rfl,?_⟩;refine⟨ks,ds,_,rfl,BD y,?_⟩;show if (!(BM ks ds (.inr y)).isSome)=true then _ else _
     cases ey:F y with
     | none =>
      have hno:=(M.has (x:=y)).1 ey;rw [M.at_,ey];refine Dt ⟨_,rfl,rfl,_,_,rfl,rfl,by rw [No]; omega,?_⟩;refine⟨ks,ds,rfl,(by decide:2<=sizeLine),_,BD y,by omega,?_⟩
      have:=ih (seen++[(y,l)]) (Wt++[y]) (C0 ks (.inr y)) (DC ks ds (.inr y) (KR (dv+l,some v))) _ (.sh (.str y)) (.sh (.int l)) (.sh (.int (dv+l))) e' (M.put y (dv+l,some v)) (D0.find ok he ey) (by rw [Jp,if_neg (by rw [hno]; decide),bi,cA]; omega)
      rw [cN] at this;exact this
     | some a =>
      obtain⟨dy,qy⟩:=a;have hyes:=(M.has (x:=y)).2 (by rw [ey]; intro z; cases z);rw [M.at_,ey];refine Cp ⟨ks,ds,_,KR (dy,qy),rfl,BD y,by rw [M.at_,ey]; rfl,_,AQ (j:=0) rfl,?_⟩;show if decide (dv+l<dy)=true then _ else _
      by_cases c:dv+l<dy
      ·rw [decide_eq_true c]
       refine Dt ⟨ks,ds,rfl,(by decide:2<=sizeLine),_,BD y,by omega,?_⟩;exact ih (seen++[(y,l)]) Wt (C0 ks (.inr y)) (DC ks ds (.inr y) (KR (dv+l,some v))) _ (.sh (.str y)) (.sh (.int l)) (.sh (.int (dv+l))) e' (M.put y (dv+l,some v)) (D0.nearer ok he ey c) (by rw [Jp,if_pos hyes]; omega)
      ·rw [decide_eq_false c]
       exact Cp (ih (seen++[(y,l)]) Wt ks ds F (.sh (.str y)) (.sh (.int l)) (.sh (.int (dv+l))) e' M (D0.skip ey (by omega)) hm)
   exact inner (DF N.ts v) [] ((w0::Wr).erase v) ks ds F _ _ _ rfl M D0 (by have:=gO hv; omega)
 ·rintro n' ρ P Q hPQ h
  unfold XQ BB at h ⊢
  split at h
  all_goals first
   | exact h.elim
   | (obtain⟨c,hc,h⟩:=h; exact⟨c,hc,hPQ _ _ h⟩)
end
structure WInv (N:Net) (F:Ow) (b:Str) (db:Int) (acc:List Str) (pl:Option Str):Prop where
 st:(acc=[]/\pl=some b)\/∃z r dz,acc.reverse=z::r/\F z=some (dz,pl)/\walk N acc.reverse (db - dz)/\acc.reverse.getLast?=some b
 nd:acc.Nodup
 ins:∀x∈acc,x∈N.ps
 less:∀y dy q,pl=some y->F y=some (dy,q)->∀x∈acc,∃dx qx,F x=some (dx,qx)/\dy<dx
 fnd:∀y,pl=some y->F y≠none
def wm(F:Ow):Option Str->Nat
 | none=>0
 | some y=>((F y).getD (0,none)).1.toNat+1
theorem WInv.step{N:Net}(ok:N.Ok){a:Str}{F:Ow}(T:Told N a F){b:Str}{db:Int}{qb:Option Str}(eb:F b=some (db,qb)){acc:List Str}{y:Str}{dy:Int}{qy:Option Str}(h:WInv N F b db acc (some y))(ey:F y=some (dy,qy)):WInv N F b db (acc++[y]) qy/\wm F qy<wm F (some y):=by
 have hy0:=(T.least y dy qy ey).1.pos ok
 have nx:∀w dw q,qy=some w->F w=some (dw,q)->dw<dy:=λw dw q e ew=>by
  rcases T.prev y dy qy ey with ⟨z,_⟩ | ⟨w',dw',q',l,e1,e2,e3,e4⟩
  ·rw [e] at z; cases z
  ·rw [e] at e1
   cases e1;rw [ew] at e2;cases e2
   have:=(e3.pos ok).1
   omega
 have hf:∀w,qy=some w->F w≠none:=λw e=>by
  rcases T.prev y dy qy ey with ⟨z,_⟩ | ⟨w',dw',q',l,e1,e2,_⟩
  ·rw [e] at z; cases z
  ·rw [e] at e1
   cases e1;rw [e2];intro z; cases z
 refine⟨⟨.inr ?_,?_,λx hx=>?_,λw dw q e ew x hx=>?_,hf⟩,?_⟩
 ·rw [List.reverse_append,List.reverse_singleton,gZ]
  rcases h.st with ⟨rfl,e⟩ | ⟨z,r,dz,e1,e2,e3,e4⟩
  ·cases e
   rw [eb] at ey;cases ey;exact⟨_,_,_,rfl,eb,(by show db - db=0; omega),rfl⟩
  ·refine⟨y,acc.reverse,dy,rfl,ey,?_,?_⟩
   ·rw [e1] at e3 ⊢
    rcases T.prev z dz (some y) e2 with ⟨w,_⟩ | ⟨w',dw',q',l,k1,k2,k3,k4⟩
    ·cases w
    ·cases k1
     rw [ey] at k2;cases k2
     have:=Q8 k3 e3
     rw [show l+(db - dz)=db - dy by omega] at this;exact this
   ·rw [e1] at e4 ⊢
    exact e4
 ·rw [dX]
  refine⟨h.nd,cD.mpr ⟨bu,cr⟩,λx hx z hz e=>?_⟩;rw [Re.mp hz] at e;obtain⟨dx,qx,ex,hlt⟩:=h.less y dy qy rfl ey x hx;rw [e,ey] at ex;cases ex;omega
 ·rcases b_.mp hx with hx | hx
  ·exact h.ins x hx
  ·rw [Re.mp hx]
   exact T.ins y (by rw [ey]; intro z; cases z)
 ·have h1:=nx w dw q e ew
  rcases b_.mp hx with hx | hx
  ·obtain⟨dx,qx,ex,hlt⟩:=h.less y dy qy rfl ey x hx
   exact⟨dx,qx,ex,by omega⟩
  ·rw [Re.mp hx]
   exact⟨dy,qy,ey,h1⟩
 ·cases qy with
  | none=>exact Nat.succ_pos _
  | some w =>
   cases ew:F w with
   | none=>exact absurd ew (hf w rfl)
   | some p =>
    have h1:=nx w p.1 p.2 rfl ew;have h2:=(T.least w p.1 p.2 ew).1.pos ok;show ((F w).getD (0,none)).1.toNat+1<((F y).getD (0,none)).1.toNat+1;rw [ew,ey];show p.1.toNat+1<dy.toNat+1;omega
section
variable {ss:List Slot}{n:Nat}{Pd:D->Nat->Prop}
theorem RL(h:WQ ss n Pd):Oj (EE Pd) n (ss++bj 3 .no):=by
 obtain⟨N,a,b,rfl,okn,ha,hb,p⟩:=h;have szl:=PySem.sizeLine_eq;have ok:=okn.1;unfold Oj;refine⟨N,a,rfl,okn,ha,λks ds F M T=>?_⟩;refine⟨ks,ds,_,rfl,BD b,?_⟩;show if (!(BM ks ds (.inr b)).isSome)=true then _ else _
 have hfar:=T.far b;cases eb:F b with
 | none =>
  rw [M.at_,eb];rw [eb] at hfar;exact Dt (p none hfar)
 | some x =>
  obtain⟨db,qb⟩:=x;rw [M.at_,eb];refine Cp ⟨z0,?_⟩;refine HS (λm n' ρ=>n'=n/\∃(acc:List Str) (pl:Option Str),ρ=[.sh (enc N),.sh (.str a),.sh (.str b),.sh (.dic ks ds),.ow (.lst (acc.map .str)),.sh (ZW pl)]/\WInv N F b db acc pl/\m=wm F pl) (wm F (some b)) ⟨rfl,[],some b,rfl,⟨.inl ⟨rfl,rfl⟩,cr,(λx hx=>by cases hx),(λ_ _ _ _ _ x hx=>by cases hx),λy e=>by cases e; rw [eb]; intro z; cases z⟩,rfl⟩ ?_ ?_
  ·rintro m n' ρ N' ⟨rfl,acc,pl,rfl,J,rfl⟩ hN
   have wl:=L4 J.nd J.ins;have l25:=okn.2.1;cases pl with
   | none =>
    refine⟨rfl,_,rfl,?_⟩
    rcases J.st with ⟨_,e⟩ | ⟨z,r,dz,e1,e2,e3,e4⟩
    ·cases e
    ·have hz:z=a:=by
      rcases T.prev z dz none e2 with ⟨_,w⟩ | ⟨w',dw',q',l,k1,_⟩
      ·exact w
      ·cases k1
     subst hz;rw [T.start] at e2;cases e2;rw [← ik];refine p (some acc.reverse) ⟨db - 0,r,e1,e4,e3,?_,by rw [eU]; omega,λx hx=>J.ins x (List.mem_reverse.mp hx)⟩;rw [show db - 0=db by omega];exact T.least b db qb eb
   | some y =>
    cases ey:F y with
    | none=>exact absurd ey (J.fnd y rfl)
    | some q =>
     obtain⟨dy,qy⟩:=q;obtain⟨J2,lt2⟩:=J.step ok T eb ey;refine⟨rfl,?_⟩;refine⟨_,rfl,rfl,_,_,rfl,rfl,by rw [No]; omega,?_⟩;refine⟨ks,ds,_,KR (dy,qy),rfl,BD y,by rw [M.at_,ey]; rfl,_,AQ (j:=1) rfl,?_⟩;refine hN (wm F qy) _ _ lt2 ⟨rfl,acc++[y],qy,?_,J2,rfl⟩;rw [cN];rfl
  ·rintro n' ρ P Q hPQ h
   unfold AY AT AB wC Ie at h ⊢
   split at h
   ·exact⟨h.1,hPQ _ _ h.2⟩
   ·exact h.elim
end
theorem QY{w:List Str}{b:Str}(h:w.getLast?=some b):atI (w.map D.str) (-1)=some (.str b):=by
 obtain⟨ys,rfl⟩:=List.getLast?_eq_some_iff.mp h;rw [cN];exact Uq _ _
section
variable {ss:List Slot}{n:Nat}{Pd:D->Nat->Prop}
end
section
variable {ss:List Slot}{n:Nat}{Pd:D->Nat->Prop}
end
theorem JW{N:Net}(okn:okN N):EO 1000001 (enc N)/\Ip (enc N)<=48000/\Iz (enc N)<=3:=XU (Vr okn.1) (KC okn.1) (by rw [No]; have:=okn.2.1; omega) (by rw [No]; have:=okn.2.2; omega)
end Nt
namespace Dp
open PySem PySem.Spec PyProof.Rows L2
def Wc(i:Nat)(b:BW)(body:Af):Af:=λD2 n ρ=>∃d ds,ρ[i]?=some (.br d)/\Em d=some ds/\BR b body D2 ds n ρ
section
variable {X:Cx}{κ:Kd}{tg:Expr}{body:List Stmt}{b:BW}{wb:Af}{pos p:Pos}{x:Str}{i:Nat}
theorem Rel.lessKp{K:Frag}{C:Fm}{q:Db×HO}{M:Db->Prop}{H:Hp}{n:Nat}{ρ:List Slot}{σ:L2.St}(R:Rel K { C with kp:=q::C.kp } M H n ρ σ):Rel K C M H n ρ σ :=
 ⟨R.len,R.sub,R.dom,R.ext,R.fU,R.uV,R.vM,R.feed,R.sl,R.pin,R.br0,R.new,R.two,λp hp=>R.kept p (TM _ hp)⟩
theorem WA(hp:g_ (model X.prog X.w) X.A X.env X.xe)(hc:X.calm=true)(h:PE X (.Name x p) (B3 i))(hg:DG X tg b)(hb:Q6 X κ body wb)
  (hs:∀y,foldedSetIterable (.Name x p) X.env y=pure y:=by intro _; rfl):DS X κ (.For tg (.Name x p) body [] pos) (Wc i b wb):=by
 obtain⟨g,g1,g2⟩:=hg;obtain⟨tb,b1,b2⟩:=hb;refine⟨_,Jq hp hc (MN h) g1 b1 hs,λC M H n ρ σ D2 E R L w=>?_⟩;obtain⟨d,ds,hi,hd,w⟩:=w;obtain⟨v,e1,hAt⟩:=R.sl i _ hi;cases d with
 | tup ds' =>
  cases hd;obtain⟨a,vs,rfl,hn,hat⟩:=hAt;refine⟨.ref a,getD_some e1,.inr (.inl ⟨a,rfl,⟨vs,hn.sq⟩,?_⟩)⟩;obtain⟨kp',ek⟩:∃kp',kp'=C.kp:=⟨_,rfl⟩;have R1:Rel X.K { C with kp:=kp' } M H n ρ σ:=by rw [ek]; exact R
  have less:∀{M H n ρ σ},Rel X.K { C with kp:=kp' } M H n ρ σ->Rel X.K C M H n ρ σ:=λR=>by rw [ek] at R; exact R
  have st:∀M' H' n' ρ' σ',Rel X.K { C with kp:=kp',pins:=(M,H)::C.pins } M' H' n' ρ' σ'->SqT X.K H' a vs:=λM' H' n' ρ' σ' R'=>(hn.pres (R'.pin (M,H) On)).sq;refine⟨λi m σ' H'=>m=ds.length - i/\i<=ds.length/\∃M' n' ρ',Rel X.K { C with kp:=kp',pins:=(M,H)::C.pins } M' H' n' ρ' σ'/\BR b wb D2 (ds.drop i) n' ρ',⟨ds.length,by simp,bn _,M,n,ρ,R1.pinned,w⟩,?_⟩;rintro i m σ' H' ⟨rfl,hil,M',n',ρ',R',w'⟩;have pr:Pres M H M' H':=R'.pin (M,H) On;have hq:=st M' H' n' ρ' σ' R'
  by_cases hlt:i<ds.length
  ·have ed:ds.drop i=ds[i]::ds.drop (i+1):=c9 hlt
   rw [ed] at w';obtain⟨v,ev,hv⟩:=(hat.pres pr).get (Go hlt);refine .inr ⟨⟨vs,v,hq,ev⟩,λσ2 H2=>∃M2 n2 ρ2,Rel X.K { C with kp:=kp',pins:=(M,H)::C.pins } M2 H2 n2 ρ2 σ2/\BR b wb D2 (ds.drop (i+1)) n2 ρ2,λσ2 H2 ⟨M2,n2,ρ2,R2',w2⟩=>⟨ds.length - (i+1),by omega,rfl,hlt,M2,n2,ρ2,R2',w2⟩,λy H2 hy=>?_⟩;obtain⟨e2,hy⟩:=hy;subst e2
   have:some v=some y:=ev.symm.trans (hy vs hq)
   cases this;refine g2 _ M' H2 n' ρ' σ' ds[i] v _ _ R' hv w' λρ3 σ3 R3 w3=>?_;refine b2 _ M' H2 n' ρ3 σ3 { D2 with nx:=BR b wb D2 (ds.drop (i+1)),ct:=BR b wb D2 (ds.drop (i+1)),bk:=D2.nx } _ R3 ⟨λM4 H4 n4 ρ4 σ4 R4 w4=>⟨M4,n4,ρ4,R4,w4⟩,L.rt,λM4 H4 n4 ρ4 σ4 R4 w4=>L.nx M4 H4 n4 ρ4 σ4 (less R4.unpin) w4,λM4 H4 n4 ρ4 σ4 R4 w4=>⟨M4,n4,ρ4,R4,w4⟩⟩ w3
  ·have e:i=ds.length:=by omega
   subst e;rw [fK] at w';exact .inl ⟨⟨vs,hq,by rw [hat.length]; exact Rs _⟩,L.nx M' H' n' ρ' σ' (less R'.unpin) w'⟩
 | lst ds' =>
  cases hd;obtain⟨a,vs,rfl,nV,hH,hat⟩:=hAt
  obtain⟨o,ho,hro⟩:∃o,H a=some o/\∀H':Hp,H' a=some o->SqL X.K H' a vs:=by
   rcases hH with z | ⟨u,z⟩
   ·exact⟨_,z,λH' e=>.inl (.inl e)⟩
   ·exact⟨_,z,λH' e=>.inl (.inr ⟨u,e⟩)⟩
  refine⟨.ref a,getD_some e1,.inl ⟨a,rfl,⟨vs,hro H ho⟩,?_⟩⟩
  obtain⟨kp',R1,less,st⟩:∃kp',Rel X.K { C with kp:=kp' } M H n ρ σ/\(∀{M H n ρ σ},Rel X.K { C with kp:=kp' } M H n ρ σ->Rel X.K C M H n ρ σ)/\(∀M' H' n' ρ' σ',Rel X.K { C with kp:=kp',pins:=(M,H)::C.pins } M' H' n' ρ' σ'->SqL X.K H' a vs):=by
   by_cases hM:M a
   ·refine⟨(a,o)::C.kp,⟨R.len,R.sub,R.dom,R.ext,R.fU,R.uV,R.vM,R.feed,R.sl,R.pin,R.br0,R.new,R.two,λq hq=>?_⟩,λR=>R.lessKp,λM' H' n' ρ' σ' R'=>hro H' (R'.kept (a,o) On).1⟩
    rcases TW.mp hq with rfl | hq
    ·refine⟨ho,hM,nV,λj e q z=>?_⟩
     obtain⟨u,hu⟩:=R.br0 i _ a hi e1
     have:=(R.new j _ a q rfl z).2
     rw [hu] at this;cases this
    ·exact R.kept q hq
   ·exact⟨C.kp,R,λR=>R,λM' H' n' ρ' σ' R'=>hro H' ((R'.pin (M,H) On).1 a o ho hM)⟩
  refine⟨λi m σ' H'=>m=ds.length - i/\i<=ds.length/\∃M' n' ρ',Rel X.K { C with kp:=kp',pins:=(M,H)::C.pins } M' H' n' ρ' σ'/\BR b wb D2 (ds.drop i) n' ρ',⟨ds.length,by simp,bn _,M,n,ρ,R1.pinned,w⟩,?_⟩;rintro i m σ' H' ⟨rfl,hil,M',n',ρ',R',w'⟩;have pr:Pres M H M' H':=R'.pin (M,H) On;have hq:=st M' H' n' ρ' σ' R'
  by_cases hlt:i<ds.length
  ·have ed:ds.drop i=ds[i]::ds.drop (i+1):=c9 hlt
   rw [ed] at w';obtain⟨v,ev,hv⟩:=(hat.pres pr).get (Go hlt);refine .inr ⟨⟨vs,v,hq,ev⟩,λσ2 H2=>∃M2 n2 ρ2,Rel X.K { C with kp:=kp',pins:=(M,H)::C.pins } M2 H2 n2 ρ2 σ2/\BR b wb D2 (ds.drop (i+1)) n2 ρ2,λσ2 H2 ⟨M2,n2,ρ2,R2',w2⟩=>⟨ds.length - (i+1),by omega,rfl,hlt,M2,n2,ρ2,R2',w2⟩,λy H2 hy=>?_⟩;obtain⟨e2,hy⟩:=hy;subst e2
   have:some v=some y:=ev.symm.trans (hy vs hq)
   cases this;refine g2 _ M' H2 n' ρ' σ' ds[i] v _ _ R' hv w' λρ3 σ3 R3 w3=>?_;refine b2 _ M' H2 n' ρ3 σ3 { D2 with nx:=BR b wb D2 (ds.drop (i+1)),ct:=BR b wb D2 (ds.drop (i+1)),bk:=D2.nx } _ R3 ⟨λM4 H4 n4 ρ4 σ4 R4 w4=>⟨M4,n4,ρ4,R4,w4⟩,L.rt,λM4 H4 n4 ρ4 σ4 R4 w4=>L.nx M4 H4 n4 ρ4 σ4 (less R4.unpin) w4,λM4 H4 n4 ρ4 σ4 R4 w4=>⟨M4,n4,ρ4,R4,w4⟩⟩ w3
  ·have e:i=ds.length:=by omega
   subst e;rw [fK] at w';exact .inl ⟨⟨vs,hq,by rw [hat.length]; exact Rs _⟩,L.nx M' H' n' ρ' σ' (less R'.unpin) w'⟩
 | _=>cases hd
end
end Dp
namespace Nt
open PySem PySem.Spec PyProof.Rows L2 Dp
def sub(N:Net)(kept:List Ao):Net:=⟨N.ps,N.ts.filter λu=>decide (u∈kept)⟩
def EX(N:Net)(t b:Int)(u:Ao):Prop:=∃d,Least N u.a u.b d/\d*b<=u.len*t
noncomputable def Gr(N:Net)(t b:Int)(u:Ao):Bool:=@decide (EX N t b u) (dk _)
theorem nearB_iff{N:Net}{t b:Int}{u:Ao}:Gr N t b u=true↔EX N t b u:=by
 unfold Gr;exact @decide_eq_true_iff _ (dk _)
noncomputable def Bp(N:Net)(t b:Int):List Ao->List Ao->List Ao
 | kept,[]=>kept
 | kept,u::r=>if Gr (sub N kept) t b u=true then Bp N t b kept r else Bp N t b (kept++[u]) r
def GU:W2:=λss n P=>∃(N:Net) (z:D) (ts:List Ao),ss=[.sh (enc N),.br z]/\Em z=some (ts.map Aj)/\ts.length<64/\∀ts':List Ao,ts'.Perm ts->Lj ts'->P (enc ⟨N.ps,ts'⟩) n
def GV:W2:=λss n P=>∃(N:Net) (u:Ao) (t b:Int),ss=[.sh (enc N),.sh (.tup [.int t,.int b]),.sh (Aj u)]/\okN N/\u.a∈N.ps/\u.b∈N.ps/\1<=b/\b<=1000000/\1<=t/\t<=1000000/\∀o:Option (List Str),(∀w,o=some w->Way N u.a u.b (some w)/\Gr N t b u=true)->(o=none->Gr N t b u=false)->P (GG o) n
def HK:W2:=λss n P=>∃(N:Net) (t b:Int),ss=[.sh (enc N),.sh (.tup [.int t,.int b])]/\okN N/\1<=b/\b<=1000000/\1<=t/\t<=1000000/\∀ord:List Ao,ord.Perm N.ts->Cg ord->P (enc (sub N (Bp N t b [] ord))) n
def FN:W2:=λss n P=>∃(N:Net) (s:Str) (z:D) (us:List Ao),ss=[.br z,.sh (.str s)]/\Em z=some (us.map Aj)/\(∀u,u∈us↔u∈N.ts)/\okN N/\s∈N.ps/\∀(ks:List Key) (ds:List D) (K:Kn),Dmap ks ds D.int K->XI N s K->P (.dic ks ds) n
def Ol:Af:=(Av (B7 (AF (AT Aw (AB 0) (wC (D.int 0))) (AF (DR B_ (AF (DR Mn (AF (BB 1) Ab)) Ab)) Ab))))
def G9:Af:=(AZ (Ax 3 (AV WQ (AC (AG (AB 0)) (AC (AG (AT Aw (AB 2) (wC (D.int 0)))) (AC (AG (AT Aw (AB 2) (wC (D.int 1)))) AW)))))
 (AZ (BP (Ef (AY (AT (Ie false) (AB 3) (wC D.non))) (DX (AY (AV HI (AC (AG (AV NK (AC (AG (AB 0)) (AC (AG (AB 3)) AW)))) (AC (AG (AB 1)) (AC (AG (AT Aw (AB 2) (wC (D.int 2)))) AW))))))) (Av (wC D.non)) A9)
 (Av (AB 3))))
def IL:Af:=(AZ (DV 2 (Ek Ab))
 (AZ (Dy (BO (AV ET (AC (AG (AT Aw (AB 0) (wC (D.int 1)))) AW))) (Aa 3) (BP (AY (AT (Ie false) (AV GV (AC (AG (AV GU (AC (AG (AB 0)) (AC (EC (BB 2)) AW)))) (AC (AG (AB 1)) (AC (AG (AB 3)) AW)))) (wC D.non))) (Oy 2 "list" Hv (AF (AB 3) Ab)) A9))
 (Av (AV GU (AC (AG (AB 0)) (AC (EC (BB 2)) AW))))))
def FF:Af:=(AZ (DV 2 (Oz (AB 1) (wC (D.int 0))))
 (AZ (Ax 3 (wC (D.bl true)))
 (AZ (JM (AY (AB 3)) (AZ (Ax 3 (wC (D.bl false)))
 (Wc 0 (DU 3 (An (Aa 4) (An (Aa 5) (An (Aa 6) B0)))) (Dy (BO (Ek (AF (B7 (AF (AB 4) (AF (AB 5) Ab))) (AF (B7 (AF (AB 5) (AF (AB 4) Ab))) Ab)))) (DU 2 (An (Aa 7) (An (Aa 8) B0))) (BP (AY (AT (Ih false) (AB 7) (BB 2))) (AZ (Ax 9 (AT Az (AT Bm (BB 2) (AB 7)) (AB 6)))
 (BP (AY (AT GO (AB 9) (P2 (BB 2) (AB 8) (AT Az (AB 9) (wC (D.int 1)))))) (AZ (GY 2 (AB 8) (AB 9))
 (Ax 3 (wC (D.bl true)))) A9)) A9)))))
 (NR 2))))
theorem sub_mem{N:Net}{kept:List Ao}{u:Ao}:u∈(sub N kept).ts↔u∈N.ts/\u∈kept:=by
 show u∈N.ts.filter _↔_;rw [dC,decide_eq_true_eq]
theorem P_{N:Net}(okn:okN N)(kept:List Ao):okN (sub N kept):=⟨S5 okn.1 (λt h=>(sub_mem.mp h).1) (okn.1.trise.filter _),okn.2.1,cG (dP _ _) okn.2.2⟩
theorem S6{N:Net}(ok:N.Ok){kept ts:List Ao}(hk:∀t∈kept,t∈N.ts)(nd:kept.Nodup)(hp:ts.Perm kept)(hb:Lj ts):(⟨N.ps,ts⟩:Net)=sub N kept:=by
 unfold sub
 congr 1
 refine O2 ((iG (hp.nodup_iff.mpr nd) ((CZ ok.trise).filter _)).mpr λt=>?_) hb (Pp (ok.trise.filter _));rw [dC,decide_eq_true_eq,hp.mem_iff];exact⟨λh=>⟨hk t h,h⟩,λh=>h.2⟩
theorem Pj{N:Net}{t b:Int}{kept r:List Ao}{u:Ao}:Bp N t b kept (u::r)=if Gr (sub N kept) t b u=true then Bp N t b kept r else Bp N t b (kept++[u]) r:=rfl
theorem FU{N:Net}{t b:Int}:∀{rest kept:List Ao},(∀u∈kept,u∈Bp N t b kept rest)/\∀u∈Bp N t b kept rest,u∈kept\/u∈rest
 | [],kept=>⟨λu h=>h,λu h=>.inl h⟩
 | v::r,kept=>by
  unfold Bp
  split
  ·obtain⟨h1,h2⟩:=FU (N:=N) (t:=t) (b:=b) (rest:=r) (kept:=kept)
   exact⟨h1,λu hu=>(h2 u hu).imp id λz=>TM _ z⟩
  ·obtain⟨h1,h2⟩:=FU (N:=N) (t:=t) (b:=b) (rest:=r) (kept:=kept++[v])
   refine⟨λu hu=>h1 u (c0 _ hu),λu hu=>?_⟩
   rcases h2 u hu with z | z
   ·rcases b_.mp z with z | z
    ·exact .inl z
    ·exact .inr (by rw [Re.mp z]; exact On)
   ·exact .inr (TM _ z)
theorem GL{N:Net}{t b:Int}:∀{rest kept:List Ao} {u:Ao},u∈rest->u∈Bp N t b kept rest\/∃k',(∀v∈k',v∈Bp N t b kept rest)/\EX (sub N k') t b u
 | [],kept,u,h=>by cases h
 | v::r,kept,u,h=>by
  unfold Bp
  split
  ·rename_i hn
   rcases TW.mp h with rfl | h
   ·exact .inr ⟨kept,(FU (rest:=r)).1,nearB_iff.mp hn⟩
   ·exact GL h
  ·rcases TW.mp h with rfl | h
   ·exact .inl ((FU (rest:=r)).1 u (bq _ (Re.mpr rfl)))
   ·exact GL h
theorem Wk.mono{N N':Net}(h:∀t∈N.ts,t∈N'.ts){s x:Str}{d:Int}(hw:Wk N s x d):Wk N' s x d:=by
 induction hw with
 | nil=>exact .nil
 | snoc _ he ih =>
  refine .snoc ih ?_;obtain⟨t,ht,z⟩:=eA.mp he;exact eA.mpr ⟨t,h t ht,z⟩
theorem J1{α β:Type}:∀{l:List (α×β)},(l.map (·.1)).Nodup->∀{p q:α×β},p∈l->q∈l->p.1=q.1->p=q
 | a::l,nd,p,q,hp,hq,e=>by
  rw [bm,cD] at nd
  rcases TW.mp hp with hp2 | hp2 <;> rcases TW.mp hq with hq2 | hq2
  ·rw [hp2,hq2]
  ·exact absurd (Tk.mpr ⟨q,hq2,by rw [← e,hp2]⟩:a.1∈l.map (·.1)) nd.1
  ·exact absurd (Tk.mpr ⟨p,hp2,by rw [e,hq2]⟩:a.1∈l.map (·.1)) nd.1
  ·exact J1 nd.2 hp2 hq2 e
theorem QT{N:Net}(ok:N.Ok){x y:Str}{l:Int}(h:Ed N x y l):look N.ts x y=some l:=by
 unfold look;cases e:(DF N.ts x).find? λz=>decide (z.1=y) with
 | none=>exact absurd (List.find?_eq_none.mp e (y,l) h) (by simp)
 | some q =>
  have h1:decide (q.1=y)=true:=List.find?_some (p:=λz:Str×Int=>decide (z.1=y)) e;have e1:q.1=y:=of_decide_eq_true h1;rw [J1 (Ri ok x) (iT e) h e1];rfl
theorem NP{N:Net}(ok:N.Ok):∀{r:List Str} {x:Str} {s d:Int},walk N (x::r) d->Fg N.ts x r s=some (s+d)
 | [],x,s,d,h=>by
  have:d=0:=h
  subst this;show some s=some (s+0);rw [Int.add_zero]
 | y::r,x,s,d,h=>by
  obtain⟨l,e,he,hw,rfl⟩:=h;show (match look N.ts x y with | some l=>Fg N.ts y r (s+l) | none=>none)=_;rw [QT ok he];show Fg N.ts y r (s+l)=_;rw [NP ok hw,iI]
theorem QU{N:Net}(ok:N.Ok){x:Str}{r:List Str}{d:Int}(hx:x∈N.ps)(hw:walk N (x::r) d):X5 N (.tup ((x::r).map .str))=.int d:=by
 show (if ((x::r).map D.str).all CY then Vo N (strsOf ((x::r).map .str)) else .non)=_;rw [if_pos (all_strs _),F7];show (if x∈N.ps then RJ (Fg N.ts x r 0) else .non)=_;rw [if_pos hx,NP ok hw,Int.zero_add];rfl
theorem FP{N:Net}{B:Nat}(ok:N.Ok):∀{w:List Str},(∀x∈w,x∈N.ps)->Fo B (w.map .str)/\JV (w.map .str)<=9*w.length/\FV (w.map .str)<=0
 | [],_=>⟨trivial,Rs _,Rs _⟩
 | x::r,h=>by
  obtain⟨a,b,c⟩:=FP ok (w:=r) λy hy=>h y (TM _ hy);have hx:=ok.names x (h x On);refine⟨⟨λch hc=>by have:=hx.2.2 ch hc; omega,a⟩,?_,?_⟩
  ·show x.length+1+JV (r.map .str)<=9*(r.length+1)
   have:=hx.2.1
   omega
  ·show max 0 (FV (r.map .str))<=0
   omega
theorem Sk{N:Net}(ok:N.Ok){w:List Str}(hl:w.length<=30)(h:∀x∈w,x∈N.ps):YI (.tup (w.map .str)):=by
 obtain⟨a,b,c⟩:=FP ok h;exact⟨a,by show JV (w.map .str)<=60000; omega,by show FV (w.map .str)+1<=50; omega⟩
section
variable {ss:List Slot}{n:Nat}{Pd:D->Nat->Prop}
theorem RN(h:GU ss n Pd):Ol (EE Pd) n (ss++bj 0 .no):=by
 obtain⟨N,z,ts,rfl,hz,h64,p⟩:=h;unfold Ol;refine⟨_,AQ (j:=0) rfl,z,_,rfl,hz,by rw [No]; exact h64,⟨λx hx=>?_,λx hx y hy ka kb ea eb=>?_⟩,λxs' hp ho=>?_⟩
 ·obtain⟨t,_,rfl⟩:=Tk.mp hx
  exact⟨Eg t,rfl,eX _ _⟩
 ·obtain⟨t,_,rfl⟩:=Tk.mp hx
  obtain⟨u,_,rfl⟩:=Tk.mp hy;cases (show some (Eg t)=some ka from ea);cases (show some (Eg u)=some kb from eb);rfl
 ·obtain⟨ts',h1,rfl⟩:=Sv (g:=Zo) (λ_=>rfl) hp
  exact⟨z2,p ts' h1 (Ve ho)⟩
theorem K0(h:GV ss n Pd):G9 (EE Pd) n (ss++bj 1 .no):=by
 obtain⟨N,u,t,b,rfl,okn,ha,hb,b1,b2,t1,t2,p⟩:=h;unfold G9;refine⟨_,AQ (j:=0) rfl,_,AQ (j:=1) rfl,N,u.a,u.b,rfl,okn,ha,hb,λo ho=>⟨rfl,?_⟩⟩;cases o with
 | none =>
  refine p none (λw e=>by cases e) λ_=>?_;rw [eO];intro z;obtain⟨d,hd,_⟩:=nearB_iff.mp z;exact ho d hd.1
 | some w =>
  have ho':=ho;obtain⟨d,r,rfl,hl,hw,hd,h30,hin⟩:=ho'
  have near:Gr N t b u=decide (d*b<=u.len*t):=by
   rw [d7,nearB_iff,decide_eq_true_eq];exact⟨fun⟨d',hd',h2⟩=>by rw [Least.unique hd hd']; exact h2,λh2=>⟨d,hd,h2⟩⟩
  refine⟨N,.tup ((u.a::r).map .str),rfl,okn.1,by have:=okn.2.1; omega,okn.2.2,Sk okn.1 h30 hin,?_⟩;rw [QU okn.1 (hin _ On) hw];refine⟨_,AQ (j:=2) rfl,d,t,b,u.len,rfl,b1,b2,t1,t2,?_⟩
  by_cases c:d*b<=u.len*t
  ·rw [decide_eq_true c]
   exact p (some _) (λw e=>by cases e; exact⟨ho,by rw [near]; exact decide_eq_true c⟩) λe=>by cases e
  ·rw [decide_eq_false c]
   exact p none (λw e=>by cases e) λ_=>by rw [near]; exact decide_eq_false c
theorem MG(h:HK ss n Pd):IL (EE Pd) n (ss++bj 2 .no):=by
 obtain⟨N,t,b,rfl,okn,b1,b2,t1,t2,p⟩:=h;have ok:=okn.1;have l60:=okn.2.2;have szl:=PySem.sizeLine_eq;unfold IL;refine⟨z0,_,AQ (j:=1) rfl,_,N.ts,rfl,rfl,by omega,λord o1 o2=>?_⟩;have hol:=o1.length_eq;have ndo:ord.Nodup:=o1.nodup_iff.mpr (CZ ok.trise)
 have go:∀(rest done kept:List Ao) (s3:Slot),done++rest=ord->(∀u∈kept,u∈done)->kept.Nodup->Bp N t b kept rest=Bp N t b [] ord ->
   BR (Aa 3) (BP (AY (AT (Ie false) (AV GV (AC (AG (AV GU (AC (AG (AB 0)) (AC (EC (BB 2)) AW)))) (AC (AG (AB 1)) (AC (AG (AB 3)) AW)))) (wC D.non))) (Oy 2 "list" Hv (AF (AB 3) Ab)) A9) { EE Pd with nx:=Av (AV GU (AC (AG (AB 0)) (AC (EC (BB 2)) AW))) (EE Pd) } (rest.map Aj) n [.sh (enc N),.sh (.tup [.int t,.int b]),.ow (.lst (kept.map Aj)),s3]:=by
  intro rest
  induction rest with
  | nil =>
   intro done kept s3 e h1 h2 h3;rw [cH] at e;subst e;have hin:∀u∈kept,u∈N.ts:=λu hu=>o1.mem_iff.mp (h1 u hu);have hkl:=sub_len h2 (CZ ok.trise) hin;refine⟨N,_,kept,rfl,rfl,by omega,λts' p1 p2=>?_⟩;rw [S6 ok hin h2 p1 p2,show kept=Bp N t b [] done from h3];exact p done o1 o2
  | cons u rest ih =>
   intro done kept s3 e h1 h2 h3;have hin:∀v∈kept,v∈N.ts:=λv hv=>o1.mem_iff.mp (by rw [← e]; exact c0 _ (h1 v hv));have hkl:=sub_len h2 (CZ ok.trise) hin;have hu:u∈N.ts:=o1.mem_iff.mp (by rw [← e]; exact bq _ On)
   have hud:u∉done:=by
    rw [← e,dX] at ndo;exact λz=>ndo.2.2 u z u On rfl
   have e':(done++[u])++rest=ord:=by rw [cb]; exact e
   obtain⟨m1,m2,_⟩:=ok.tin u hu;refine⟨N,_,kept,rfl,rfl,by omega,λts' p1 p2=>?_⟩;rw [S6 ok hin h2 p1 p2];refine⟨sub N kept,u,t,b,rfl,P_ okn kept,m1,m2,b1,b2,t1,t2,λo hs hn=>⟨rfl,?_⟩⟩;rw [Pj] at h3;cases o with
   | some w =>
    rw [(hs w rfl).2,if_pos rfl] at h3;exact ih (done++[u]) kept _ e' (λv hv=>c0 _ (h1 v hv)) h2 h3
   | none =>
    rw [hn rfl,if_neg (by decide)] at h3;refine⟨_,rfl,rfl,_,_,rfl,rfl,by rw [No]; omega,?_⟩
    have:=ih (done++[u]) (kept++[u]) (.sh (Aj u)) e' (λv hv=>by
     rcases b_.mp hv with hv | hv
     ·exact c0 _ (h1 v hv)
     ·exact bq _ hv) (by
     rw [dX];exact⟨h2,cD.mpr ⟨bu,cr⟩,λx hx y hy z=>hud (by rw [← Re.mp hy,← z]; exact h1 x hx)⟩) h3
    rw [cN] at this;exact this
 exact go ord [] [] _ rfl (λu h=>by cases h) cr rfl
end
section
variable {ss:List Slot}{n:Nat}{Pd:D->Nat->Prop}
theorem Jn(h:FN ss n Pd):FF (EF Pd) n (ss++bj 8 .no):=by
 obtain⟨N,s,zz,us,rfl,hzz,hus,okn,hs,p⟩:=h;have szl:=PySem.sizeLine_eq;have ok:=okn.1;have l25:=okn.2.1;unfold FF;refine⟨_,BD s,?_⟩
 have step:∀(D3:E2) (x y:Str) (l:Int),Ed N x y l->∀(ks:List Key) (ds:List D) (K:Kn) (g:Bool) (s4 s5 s7 s8 s9:Slot),Dmap ks ds D.int K->Bf N s ks.length K ->
   (∀(ks':List Key) (ds':List D) (K':Kn) (g':Bool) (t7 t8 t9:Slot),Dmap ks' ds' D.int K'->Bf N s ks'.length K'->((g'=g/\K'=K/\JR K (x,y,l))\/(g'=true/\Sb N.ps K'<Sb N.ps K)) ->
    D3.nx n [.br zz,.sh (.str s),.ow (.dic ks' ds'),.sh (.bl g'),s4,s5,.sh (.int l),t7,t8,t9]) ->
   (BP (AY (AT (Ih false) (AB 7) (BB 2))) (AZ (Ax 9 (AT Az (AT Bm (BB 2) (AB 7)) (AB 6)))
 (BP (AY (AT GO (AB 9) (P2 (BB 2) (AB 8) (AT Az (AB 9) (wC (D.int 1)))))) (AZ (GY 2 (AB 8) (AB 9))
 (Ax 3 (wC (D.bl true)))) A9)) A9) D3 n [.br zz,.sh (.str s),.ow (.dic ks ds),.sh (.bl g),s4,s5,.sh (.int l),.sh (.str x),.sh (.str y),s9]:=by
  intro D3 x y l he ks ds K g s4 s5 s7 s8 s9 M B hD;have kl:=M.le B.ins;refine⟨ks,ds,_,rfl,BD x,?_⟩;show if ((BM ks ds (.inr x)).isSome)=true then _ else _
  cases ex:K x with
  | none =>
   rw [M.at_,ex];exact Cp (hD ks ds K g _ _ _ M B (.inl ⟨rfl,rfl,λd e=>by rw [show K x=some d from e] at ex; cases ex⟩))
  | some d =>
   rw [M.at_,ex];refine Dt ⟨ks,ds,_,_,rfl,BD x,by rw [M.at_,ex]; rfl,?_⟩;refine⟨ks,ds,rfl,_,BD y,?_⟩
   have put:(K y=none\/∃d',K y=some d'/\d+l<d')->(AZ (GY 2 (AB 8) (AB 9)) (Ax 3 (wC (D.bl true)))) D3 n [.br zz,.sh (.str s),.ow (.dic ks ds),.sh (.bl g),s4,s5,.sh (.int l),.sh (.str x),.sh (.str y),.sh (.int (d+l))]:=λhy=>by
    refine⟨ks,ds,rfl,_,BD y,by omega,?_⟩;have hlen:=Jp ks (.inr y)
    have key:=B.put ok (c':=(C0 ks (.inr y)).length) (by rw [hlen]; split <;> omega) (by rw [hlen]; split <;> omega) ex he (λe=>by rw [hlen,if_neg (by rw [(M.has (x:=y)).1 e]; decide)]) (λd' e=>by
     rcases hy with hy | ⟨d2,hy,hlt⟩
     ·rw [e] at hy; cases hy
     ·rw [e] at hy; cases hy; exact hlt)
    exact hD _ _ _ true _ _ _ (M.put y (d+l)) key.1 (.inr ⟨rfl,key.2⟩)
   rw [M.at_];cases ey:K y with
   | none =>
    show if decide (d+l<d+l+1)=true then _ else _
    rw [decide_eq_true (by omega)];exact Dt (put (.inl ey))
   | some d' =>
    show if decide (d+l<d')=true then _ else _
    by_cases c:d+l<d'
    ·rw [decide_eq_true c]
     exact Dt (put (.inr ⟨d',ey,c⟩))
    ·rw [decide_eq_false c]
     refine Cp (hD ks ds K g _ _ _ M B (.inl ⟨rfl,rfl,λd2 e=>?_⟩));rw [show K x=some d2 from e] at ex;cases ex;exact⟨d',ey,by show d'<=d+l; omega⟩
 refine HS (λm n' ρ=>n'=n/\∃(ks:List Key) (ds:List D) (K:Kn) (g:Bool) (s4 s5 s6 s7 s8 s9:Slot),ρ=[.br zz,.sh (.str s),.ow (.dic ks ds),.sh (.bl g),s4,s5,s6,s7,s8,s9]/\Dmap ks ds D.int K/\Bf N s ks.length K/\((g=true/\m=Sb N.ps K+1)\/(g=false/\m=0/\∀t∈N.ts,JR K (t.a,t.b,t.len)/\JR K (t.b,t.a,t.len)))) _ ⟨rfl,_,_,_,true,_,_,_,_,_,_,rfl,Dmap.one (enc:=D.int) (a:=(0:Int)),Bf.init hs,.inl ⟨rfl,rfl⟩⟩ ?_ ?_
 ·rintro m n' ρ N' ⟨rfl,ks,ds,K,g,s4,s5,s6,s7,s8,s9,rfl,M,B,hg⟩ hN
  rcases hg with ⟨rfl,hm⟩ | ⟨rfl,_,ht⟩
  ·have outer:∀(rest done:List Ao) (ks:List Key) (ds:List D) (K':Kn) (g:Bool) (s4 s5 s6 s7 s8 s9:Slot),done++rest=us->Dmap ks ds D.int K'->Bf N s ks.length K'->((g=true/\Sb N.ps K'<Sb N.ps K)\/(g=false/\Sb N.ps K'<=Sb N.ps K/\∀t∈done,JR K' (t.a,t.b,t.len)/\JR K' (t.b,t.a,t.len))) ->
     BR (DU 3 (An (Aa 4) (An (Aa 5) (An (Aa 6) B0)))) (Dy (BO (Ek (AF (B7 (AF (AB 4) (AF (AB 5) Ab))) (AF (B7 (AF (AB 5) (AF (AB 4) Ab))) Ab)))) (DU 2 (An (Aa 7) (An (Aa 8) B0))) (BP (AY (AT (Ih false) (AB 7) (BB 2))) (AZ (Ax 9 (AT Az (AT Bm (BB 2) (AB 7)) (AB 6)))
 (BP (AY (AT GO (AB 9) (P2 (BB 2) (AB 8) (AT Az (AB 9) (wC (D.int 1)))))) (AZ (GY 2 (AB 8) (AB 9))
 (Ax 3 (wC (D.bl true)))) A9)) A9)) { EF Pd with nx:=N',ct:=N',bk:=NR 2 (EF Pd) } (rest.map Aj) n' [.br zz,.sh (.str s),.ow (.dic ks ds),.sh (.bl g),s4,s5,s6,s7,s8,s9]:=by
    intro rest
    induction rest with
    | nil =>
     intro done ks ds K' g s4 s5 s6 s7 s8 s9 e M B hg;rw [cH] at e;subst e
     rcases hg with ⟨rfl,hlt⟩ | ⟨rfl,_,ht⟩
     ·exact hN (Sb N.ps K'+1) _ _ (by omega) ⟨rfl,ks,ds,K',true,_,_,_,_,_,_,rfl,M,B,.inl ⟨rfl,rfl⟩⟩
     ·exact hN 0 _ _ (by omega) ⟨rfl,ks,ds,K',false,_,_,_,_,_,_,rfl,M,B,.inr ⟨rfl,rfl,λt h=>ht t ((hus t).mpr h)⟩⟩
    | cons t rest ih =>
     intro done ks ds K' g s4 s5 s6 s7 s8 s9 e M B hg;have hmem:t∈N.ts:=(hus t).mp (by rw [← e]; exact bq _ On);have e':(done++[t])++rest=us:=by rw [cb]; exact e
     have ed:=G0 hmem;refine⟨rfl,rfl,z2,z2,z2,?_⟩;refine⟨rfl,rfl,?_⟩;refine step _ t.a t.b t.len ed.1 ks ds K' g _ _ s7 s8 s9 M B λks1 ds1 K1 g1 t7 t8 t9 M1 B1 h1=>?_;refine⟨rfl,rfl,?_⟩;refine step _ t.b t.a t.len ed.2 ks1 ds1 K1 g1 _ _ t7 t8 t9 M1 B1 λks2 ds2 K2 g2 u7 u8 u9 M2 B2 h2=>?_;refine ih (done++[t]) ks2 ds2 K2 g2 _ _ _ _ _ _ e' M2 B2 ?_
     rcases h1 with ⟨rfl,rfl,t1⟩ | ⟨rfl,lt1⟩
     ·rcases h2 with ⟨rfl,rfl,t2⟩ | ⟨rfl,lt2⟩
      ·rcases hg with z | ⟨z1,z2,z3⟩
       ·exact .inl z
       ·refine .inr ⟨z1,z2,λu hu=>?_⟩
        rcases b_.mp hu with hu | hu
        ·exact z3 u hu
        ·rw [Re.mp hu]; exact⟨t1,t2⟩
      ·refine .inl ⟨rfl,?_⟩
       rcases hg with ⟨_,z⟩ | ⟨_,z,_⟩ <;> omega
     ·have base:Sb N.ps K1<Sb N.ps K:=by rcases hg with ⟨_,z⟩ | ⟨_,z,_⟩ <;> omega
      rcases h2 with ⟨rfl,rfl,t2⟩ | ⟨rfl,lt2⟩
      ·exact .inl ⟨rfl,base⟩
      ·exact .inl ⟨rfl,by omega⟩
   exact⟨zz,_,rfl,hzz,outer us [] ks ds K false _ _ _ _ _ _ rfl M B (.inr ⟨rfl,Rs _,λt h=>by cases h⟩)⟩
  ·exact⟨_,rfl,p ks ds K M (B.told ok (by have:=M.le B.ins; omega) ht)⟩
 ·rintro n' ρ P Q hPQ h
  unfold AY AB at h ⊢
  split at h
  ·rename_i d hd
   cases d with
   | bl b=>exact hPQ _ _ h
   | _=>exact h.elim
  ·exact h.elim
end
section
variable {ss:List Slot}{n:Nat}{Pd:D->Nat->Prop}
end
end Nt
namespace L2
open PySem PySem.Spec PyProof.Rows
open AutoSeq1 (wpAny_loadPart')
theorem boot_enumerate:bootBuiltins "enumerate"=some (.type "enumerate"):=by decide +kernel
section
variable {prog:Program}{w:World}{A:Around}{E:Value->Shared->Prop}{s:Shared}
theorem SH{κ:Bool}(hh:A.handled=none)(it l:Db)(hne:l≠it)(items:Array Ev):Draws prog w A it [it,l] items.size (λi v=>items[i]?=some v) (λi h=>ItAt κ h it l i/\SqAt κ h l items) where
 live:=λ_ _ st=>let ⟨o,ho,_⟩:=st.1.lies; ⟨o,ho⟩
 frame:=λ_ _ _ st k=>⟨st.1.mv λo e=>k it (by simp) o e,st.2.mv λo e=>k l (by simp) o e⟩
 item:=λi s Q E hi st hQ=>C_ st.1 st.2 (x:=items[i]) (by simp [hi]) λh' a b=>hQ _ h' s.toks (by simp [hi]) ⟨a,st.2.eb b.extBut hne⟩ b
 done:=λs Q E st hE=>E_ hh st.1 st.2 (by simp) hE
theorem Pm{κ:Bool}(hh:A.handled=none)(it l:Db)(items:Array Ev)(k:Nat)(hk:items[k]?=none):Draws prog w A it [it,l] k (λ_ _=>True) (λi h=>ItAt κ h it l i/\SqAt κ h l items/\i=k) where
 live:=λ_ _ st=>let ⟨o,ho,_⟩:=st.1.lies; ⟨o,ho⟩
 frame:=λ_ _ _ st k=>⟨st.1.mv λo e=>k it (by simp) o e,st.2.1.mv λo e=>k l (by simp) o e,st.2.2⟩
 item:=λi s Q E hi st hQ=>absurd st.2.2 (b8 hi)
 done:=λs Q E st hE=>E_ hh st.1 st.2.1 hk hE
theorem Tw(κ:Bool)(l:Db)(items:Array Ev):Meets (dh.«enumerate.__new__» ⟨[.type "enumerate",.ref l],[]⟩) (λ_ R s=>SqAt κ s.heap l items /\
   R (.ok (.ret (.ref (s.heap.push (IF κ l)).objs.size))) { s with heap:=(s.heap.push (IF κ l)).push { cls:=.type "enumerate",data:=.fields #[.none,.bool false,.ref s.heap.objs.size,rawInt 0,.none,.none] } }) :=
 .of_wp λprog w A R s h=>by
  obtain⟨hp,g,d,tk,os⟩:=s; obtain⟨hl,h⟩:=h
  have hsub:=sub_enumerate;cases κ with
  | true =>
   have hL:i5 (fZ ⟨hp,g,d,tk,os⟩) l items:=hl;obtain⟨⟨c,dct,dt,sl⟩,ho,hc,n,hd⟩:=id hL;replace hc:c=.type "list":=hc;replace hd:dt=.seq items n:=hd;subst hc hd
   wp_walk using dM ho
   refine wpAny_stack_any λst=>Sc ?_
   split
   ·rename_i c _ _ _ _ _
    cases (c==f_ "enumerate") <;> (wp_walk using dM ho,dW hL; exact⟨_,rfl,h⟩)
   ·(wp_walk using dM ho,dW hL; exact⟨_,rfl,h⟩)
  | false =>
   have hL:ia (fZ ⟨hp,g,d,tk,os⟩) l items:=hl;obtain⟨⟨c,dct,dt,sl⟩,ho,hc,n,hd⟩:=id hL;replace hc:c=.type "tuple":=hc;replace hd:dt=.seq items n:=hd;subst hc hd
   wp_walk using dM ho
   refine wpAny_stack_any λst=>Sc ?_
   split
   ·rename_i c _ _ _ _ _
    cases (c==f_ "enumerate") <;> (wp_walk using dM ho,dI hL; exact⟨_,rfl,h⟩)
   ·(wp_walk using dM ho,dI hL; exact⟨_,rfl,h⟩)
theorem LD{κ:Bool}{l:Db}{items:Array Ev}{Q:Ev->Op->Prop}(hl:SqAt κ s.heap l items)
  (h:∀h',IsEnum h' (s.heap.objs.size+1) s.heap.objs.size 0 .none->ItAt κ h' s.heap.objs.size l 0->(∀b o,s.heap.get? b=some o->h'.get? b=some o)->Q (.ref (s.heap.objs.size+1)) { s with heap:=h' }) :
  wpAny (model prog w) A (call (.type "enumerate") [.ref l]) Q E s:=by
 refine callType_new F.called_enumerate (by decide) (F.typeCall_enumerate_1 _) (F.newCall_enumerate_1 _) (λobj=>F.args_object_init_2 obj _) F.entry_enumerate_new (Tw κ l items) ⟨hl,?_⟩;have hz:(s.heap.push (IF κ l)).objs.size=s.heap.objs.size+1:=dH ..;have g1:((s.heap.push (IF κ l)).push { cls:=.type "enumerate",data:=.fields #[.none,.bool false,.ref s.heap.objs.size,rawInt 0,.none,.none] }).get? (s.heap.push (IF κ l)).objs.size=some _:=Uf _ rfl;rw [hz] at g1;refine⟨⟨_,by rw [hz]; exact g1,rfl⟩,?_⟩;rw [hz];exact h _ g1 ((KD κ s.heap l).mv λo e=>FM _ e) λb o e=>FM _ (FM _ e)
end
def Yu(K:Frag)(κ:Bool)(a:Db)(xs:List V):It :=
 ⟨λi H=>SqK κ K H a xs/\i<xs.length,λi H x H'=>∃T p,x=.ref T/\H T=none/\H'=BC H T (.tup [.int i,p])/\xs[i]?=some p,λi H=>SqK κ K H a xs/\xs.length<=i⟩
structure Yo (κ:Bool) (e it a:Db) (k:Nat) (h:b9):Prop where
 e:∃old,IsEnum h e it (k:Int) old
 i:ItAt κ h it a k
theorem RD{P:cL}{w:cQ}{K:Frag}{es:List cC}{j:Nat}{pos:Pos}(κ:Bool)(e it a:Db)(xs:List V)(ei:e≠it)(ae:a≠e)(ai:a≠it) :
  Turn P w K (.Tuple es j pos) (Yu K κ a xs) [e,it] e (Yo κ e it a) where
 mem:=by simp
 obj:=λi h st c hc=>by
  simp only [TW,bu,or_false] at hc
  rcases hc with rfl | rfl
  ·obtain⟨o,q⟩:=st.e
   exact⟨_,q,λv q=>by cases q⟩
  ·exact st.i.lies
 keep:=λi h h' st k=>by
  obtain⟨o,q⟩:=st.e;exact⟨⟨o,k e (by simp) _ q⟩,st.i.mv λo e=>k it (by simp) o e⟩
 item:=by
  intro X hP hw hK hc i pins s σ H E I hf st hg;subst hP hw hK;obtain⟨ha,hi⟩:=hg;obtain⟨us,r1,q1⟩:=ha.at I;obtain⟨u,hu,ru⟩:=r1.get (Go hi);obtain⟨old,ee⟩:=st.e;have l1:=r1.length;refine wpAny_pyNext_enum_itemD (SH (κ:=κ) (A:=X.A.in1) (I.ok.hd hc) it a ai us.toArray) ee ⟨st.i,q1⟩ (by simp; omega) ei (by simp [ei,ae.symm]) λx h' tk hp a1 a2 a3 a4 a5=>⟨_,rfl,?_⟩
  have hxu:x=u:=by
   have e2:us[i]?=some x:=by simpa using hp
   rw [hu] at e2;exact(bg e2).symm
  subst hxu;refine wpAny_letOwnedTupleGo_enum a1 λh2 b1 b2=>?_;have hT:H s.heap.objs.size=none:=I.hok.fresh (Rs _)
  have kk:∀c o,c∉[e,it]->s.heap.get? c=some o->h2.get? c=some o:=λc o hc z=>by
   simp only [TW,bu,or_false,not_or] at hc;exact b2.extBut _ _ hc.1 (a5 c o hc.1 hc.2 z)
  have I2:Inv X pins σ (BC H s.heap.objs.size (.tup [.int i,xs[i]])) { s with heap:=h2,toks:=tk+1 }:=by
   refine I.turnLaid (t':=tk+1) (ch:=[e,it]) hf kk (Rs _) ?_;have nT:s.heap.objs.size≠e:=fI (XV ee);exact⟨by show 2<=sizeLine; decide,[.int i tk,x],.cons ⟨_,rfl⟩ (.cons ru .nil),⟨_,b2.extBut _ _ nT a3,rfl,_,rfl,rfl,rfl⟩⟩
  refine⟨.ref s.heap.objs.size,_,I2,rfl,⟨_,_,rfl,hT,rfl,Go hi⟩,⟨⟨_,b1⟩,a2.1.eb b2.extBut ei.symm⟩,λc hc=>?_⟩;have hcn:H c=none:=(hf c hc).1
  have hlt:c≠s.heap.objs.size:=λz=>by
   obtain⟨o,ho⟩:∃o,s.heap.get? c=some o:=by
    simp only [TW,bu,or_false] at hc
    rcases hc with rfl | rfl
    ·exact⟨_,ee⟩
    ·obtain⟨o,q,_⟩:=st.i.lies; exact⟨o,q⟩
   rw [z] at ho;exact cy _ (XV ho)
  rw [AU hlt]; exact hcn
 done:=by
  intro X hP hw hK hc i pins s σ H E I hf st hg;subst hP hw hK;obtain⟨ha,hi⟩:=hg;obtain⟨us,r1,q1⟩:=ha.at I;obtain⟨old,ee⟩:=st.e;have l1:=r1.length;refine wpAny_pyNext_enum_endD (Pm (κ:=κ) (A:=X.A.in1) (I.ok.hd hc) it a us.toArray i (by simp; omega)) ee ⟨st.i,q1,rfl⟩ λh' kk=>⟨rfl,?_⟩;refine I.turnedL (t':=s.toks) (ch:=[e,it]) hf λc o hc e=>?_;simp only [TW,bu,or_false,not_or] at hc;exact kk c o hc.2 e
 self:=λA i s Q E st h=>by
  obtain⟨old,ee⟩:=st.e;exact wpAny_pyIter_enum ee h
section
variable {X:Cx}{e1:Expr}{es:List Expr}{j:Nat}{tpos p pos:Pos}{te:TE}
def Zd(K:Frag)(te:TE):TI:=λσ H R=>te σ H λv H1=>∃κ a xs,v=.ref a/\SqK κ K H1 a xs/\R (Yu K κ a xs) H1
theorem VZ(hg:Gl X "enumerate")(hm:X.mg "enumerate"=none)(he:PE X e1 te)(hs:starEach [e1] X.env=[(false,eval e1 X.env)]:=by rfl) :
  PI X (.Tuple es j tpos) (.Call (.Name "enumerate" p) [e1] [] pos) (Zd X.K te):=by
 intro pins s σ H R I h;refine da (Cw I hg hm boot_enumerate ?_);refine cY ?_ hs rfl;rw [hs];refine eC (thn (he pins s σ H _ I h) λu s1 ⟨x,H1,I1,r1,κ,a,xs,ex,hq,q⟩=>e_ ?_);subst ex;cases r1;obtain⟨us,r1',q1⟩:=hq.at I1;have la:a<s1.heap.objs.size:=by obtain⟨o,e⟩:=q1.lies; exact XV e
 refine LD q1 λh' hz hi hk=>?_;refine wpAny_pyIter_enum hz ?_;refine⟨s1.heap.objs.size+1,[s1.heap.objs.size+1,s1.heap.objs.size],_,Yu X.K κ a xs,H1,rfl,I1.kept (t':=s1.toks) hk,RD κ _ _ a xs (by show (_:Nat)≠(_:Nat); omega) (b8 (dn la)) (b8 la),⟨⟨_,hz⟩,hi⟩,λc hc=>?_,q⟩
 have hge:s1.heap.objs.size<=c:=by
  simp only [TW,bu,or_false] at hc
  rcases hc with rfl | rfl
  ·exact dQ _
  ·exact Rs _
 exact I1.fpOk hge (I1.hok.fresh hge)
end
end L2
namespace Dp
open PySem PySem.Spec PyProof.Rows L2
def D8:Nat->List D->List D
 | _,[]=>[]
 | k,x::r=>.tup [.int (k:Int),x]::D8 (k+1) r
theorem Hw:∀(k:Nat) (ds:List D),(D8 k ds).length=ds.length
 | _,[]=>rfl
 | k,x::r=>by show (D8 (k+1) r).length+1=r.length+1; rw [Hw (k+1) r]
theorem Hx:∀(k:Nat) (ds:List D) (i:Nat),(D8 k ds)[i]?=(ds[i]?).map λx=>.tup [.int ((k+i:Nat):Int),x]
 | _,[],i=>by simp [D8]
 | k,x::r,0=>rfl
 | k,x::r,i+1=>by
  show (D8 (k+1) r)[i]?=(r[i]?).map _;rw [Hx (k+1) r i,show k+1+i=k+(i+1) by omega]
section
variable {K:Frag}
theorem OU{M:Db->Prop}{H:Hp}{κ:Bool}{a:Db}{vs:List V}{ds:List D}(hs:Ats K M H ds vs){i:Nat}{M':Db->Prop}{H':Hp}(pr:Pres M H M' H')(h1:SqK κ K H' a vs)(dom:∀a,M' a->∃o,H' a=some o) :
  (∀d,(D8 0 ds)[i]?=some d->(Yu K κ a vs).go i H'/\∀x H2,(Yu K κ a vs).yld i H' x H2->Grow H' H2/\At K M' H2 d x)/\((D8 0 ds).length<=i->(Yu K κ a vs).stop i H'):=by
 have l1:=hs.length;refine⟨λd hd=>?_,λhl=>⟨h1,by rw [Hw] at hl; omega⟩⟩;rw [Hx,Nat.zero_add] at hd;cases q1:ds[i]? with
 | none=>rw [q1] at hd; cases hd
 | some d1 =>
  rw [q1] at hd;have hd':D.tup [.int (i:Int),d1]=d:=bg hd;have i1:i<ds.length:=(bh.mp q1).1;refine⟨⟨h1,by omega⟩,λx H2 y=>?_⟩;obtain⟨T,p,rfl,hT,rfl,e1⟩:=y;obtain⟨v1,f1,a1⟩:=(hs.pres pr).get q1;rw [e1] at f1;cases f1;subst hd';exact⟨Ay hT,Cq dom hT ⟨.int (i:Int),[p],rfl,rfl,p,[],rfl,a1,rfl⟩⟩
end
section
variable {X:Cx}{e1:Expr}{es:List Expr}{j:Nat}{tpos p pos:Pos}{κ:Kd}{wa:DW}
def Sq(wa:DW):Ee:=λn ρ P=>wa n ρ λd n1=>∃xs,Em d=some xs/\P (D8 0 xs) n1
theorem Qn(hg:Gl X "enumerate")(hm:X.mg "enumerate"=none)(h:DE X e1 κ wa)(hk:κ≠.tp:=by intro z; cases z)(hs:starEach [e1] X.env=[(false,eval e1 X.env)]:=by rfl) :
  DI X (.Tuple es j tpos) (.Call (.Name "enumerate" p) [e1] [] pos) (Sq wa):=by
 obtain⟨t,a1,a2⟩:=h;refine⟨_,VZ hg hm a1 hs,λC M H n ρ σ P Rr R w q=>?_⟩;refine a2 C M H n ρ σ _ _ R w λv H1 d n1 ee f1 r1 p=>?_;obtain⟨xs,hd,p⟩:=p;obtain⟨κ1,a,us,rfl,h1,s1⟩:=O5 (r1.shOf R.dom hk) hd;exact⟨κ1,a,us,rfl,s1 M H1 (Pres.refl _ _),q _ H1 _ n1 ee f1 (λi M' H' pr dom=>OU h1 pr (s1 M' H' pr) dom) p⟩
end
section
variable {X:Cx}{κ κe:Kd}{tg e:Expr}{b:BW}{we:DW}{pos p apos cpos:Pos}{x:Str}{i:Nat}
end
def L5:Af:=λ_ _ _=>False
section
variable {X:Cx}{κ κe:Kd}{e:Expr}{st:Stmt}{we:DW}{pos p apos cpos:Pos}{x:Str}{i:Nat}
theorem OX:DS X κ st L5:=⟨λ_ _ _=>False,λ_ _ _ _ _ _ h=>h.elim,λ_ _ _ _ _ _ _ _ _ _ w=>w⟩
end
section
variable {X:Cx}{κe:Kd}{tg elt iter:Expr}{ifs:List Expr}{sc:Scope}{pos:Pos}{src:Ee}{b:BW}{tt:Ij}{te:DW}
end
end Dp
namespace Nt
open PySem PySem.Spec PyProof.Rows L2 Dp
def thn(N:Net)(ts:List Ao):Prop:=(∀t∈ts,t∈N.ts)/\ts.Pairwise Bk
def J8(N:Net)(ts:List Ao):List Ao:=N.ts.filter λt=>decide (t∉ts)
abbrev Fb(w:List Str):D:=.tup (w.map .str)
def Z_(t b:Int):Prop:=1<=b/\b<=1000000/\1<=t/\t<=1000000
def C8(k:Nat)(M:Net)(a b:Str)(w:List Str)(d:Int):Prop:=(∃r,w=a::r)/\w.getLast?=some b/\walk M w d/\w.length<=k/\∀x∈w,x∈M.ps
abbrev walked:=C8 1000
def PapOkK(k:Nat)(M:Net)(t b:Int):List Ao->List (List Str)->Prop
 | [],[]=>True
 | u::us,w::ws=>(∃d,C8 k M u.a u.b w d/\d*b<=u.len*t)/\PapOkK k M t b us ws
 | _,_=>False
abbrev XH:=PapOkK 1000
theorem PapOkK.up{k:Nat}(hk:k<=1000){M:Net}{t b:Int}:∀{us:List Ao} {ws:List (List Str)},PapOkK k M t b us ws->XH M t b us ws
 | [],[],_=>trivial
 | u::us,w::ws,⟨⟨d,⟨h1,h2,h3,h4,h5⟩,h6⟩,h⟩=>⟨⟨d,⟨h1,h2,h3,cG h4 hk,h5⟩,h6⟩,PapOkK.up hk h⟩
 | [],_::_,h=>h.elim
 | _::_,[],h=>h.elim
def Q3:W2:=λss n P=>∃(M:Net) (a b:Str) (w:List Str) (d:Int),ss=[.sh (enc M),.sh (.str a),.sh (.str b),.sh (Fb w)]/\okN M/\walked M a b w d/\P (.int d) n
def HJ:W2:=λss n P=>∃(M:Net) (t b:Int) (u:Ao) (w:List Str) (d:Int),ss=[.sh (enc M),.sh (.tup [.int t,.int b]),.sh (Aj u),.sh (Fb w)]/\okN M/\Z_ t b/\walked M u.a u.b w d/\d*b<=u.len*t/\P .non n
def paperOfK(k:Nat)(N:Net)(ts:List Ao)(t b:Int)(ws:List (List Str)):Prop:=∀lo:List Ao,lo.Perm (J8 N ts)->Cg lo->PapOkK k ⟨N.ps,ts⟩ t b lo ws
abbrev QL:=paperOfK 1000
theorem paperOfK.up{k:Nat}{N:Net}{ts:List Ao}{t b:Int}{ws:List (List Str)}(h:paperOfK k N ts t b ws)(hk:k<=1000):QL N ts t b ws:=λlo p r=>(h lo p r).up hk
def Ku:W2:=λss n P=>∃(N:Net) (ts:List Ao) (t b:Int) (ws:List (List Str)),ss=[.sh (enc N),.sh (.tup [.int t,.int b]),.sh (enc ⟨N.ps,ts⟩),.sh (.tup (ws.map Fb))]/\okN N/\N.ps.length<=24/\thn N ts/\Z_ t b/\QL N ts t b ws/\P (.bl true) n
def JE:W2:=λss n P=>∃(N:Net) (ts:List Ao) (t b:Int),ss=[.sh (enc N),.sh (.tup [.int t,.int b]),.sh (enc ⟨N.ps,ts⟩)]/\okN N/\thn N ts/\Z_ t b /\
 (∀ws,paperOfK N.ps.length N ts t b ws->(∀u∈J8 N ts,EX ⟨N.ps,ts⟩ t b u)->P (.tup (ws.map Fb)) n)/\((∃u∈J8 N ts,¬EX ⟨N.ps,ts⟩ t b u)->P .non n)
def FY(N:Net)(ts:List Ao)(t b:Int):Prop:=∀u∈N.ts,EX ⟨N.ps,ts⟩ t b u
def DM:Af:=(AZ (Ax 4 (AV NK (AC (AG (AB 0)) (AC (AG (AB 3)) AW))))
 (AZ (BP (Ef (AY (AT (Ie false) (AB 4) (wC D.non))) (Ef (AY (AT (Ig true) (AT Aw (AB 3) (wC (D.int 0))) (AB 1))) (AY (AT (Ig true) (AT Aw (AB 3) (Q_ (wC (D.int 1)))) (AB 2))))) (Av (wC D.non)) A9)
 (Av (AB 4))))
def Ft:Af:=(AZ (Ax 4 (AV Q3 (AC (AG (AB 0)) (AC (AG (AT Aw (AB 2) (wC (D.int 0)))) (AC (AG (AT Aw (AB 2) (wC (D.int 1)))) (AC (AG (AB 3)) AW))))))
 (AZ (BP (AY (AT (Ie false) (AB 4) (wC D.non))) (Av (wC (D.str "way"))) A9)
 (Av (Yr (AY (AV HI (AC (AG (AB 4)) (AC (AG (AB 1)) (AC (AG (AT Aw (AB 2) (wC (D.int 2)))) AW))))) (wC D.non) (wC (D.str "far"))))))
def Fv:Af:=(AZ (BP (Ef (DX (AY (AV Q0 (AC (AG (AB 0)) (AC (AG (AB 2)) AW))))) (DX (AY (AV FK (AC (AG (DR KQ (AF (AV IX (AC (AG (AB 0)) (AC (AG (AB 2)) AW))) Ab))) (AC (AG (AB 3)) AW)))))) L5 A9)
 (AZ (Dy (Sq (AV IX (AC (AG (AB 0)) (AC (AG (AB 2)) AW)))) (DU 2 (An (Aa 4) (An (Aa 5) B0))) (AZ (Ax 6 (AV HJ (AC (AG (AB 2)) (AC (AG (AB 1)) (AC (AG (AB 5)) (AC (AG (AT Aw (AB 3) (AB 4))) AW))))))
 (BP (AY (AT (Ie true) (AB 6) (wC D.non))) L5 A9)))
 (Av (wC (D.bl true)))))
def FE:Af:=(AZ (Ax 3 (Bl [some 2,some 1,none] (BO (AV IX (AC (AG (AB 0)) (AC (AG (AB 2)) AW)))) (Aa 2) CI (AV GV (AC (AG (AB 0)) (AC (AG (AB 1)) (AC (AG (AB 2)) AW))))))
 (Av (Yr (AY (AT (GP false) (wC D.non) (AB 3))) (wC D.non) (DR B_ (AF (AB 3) Ab)))))
theorem LH{N:Net}(ok:N.Ok){w:List Str}(hl:w.length<=1000)(h:∀x∈w,x∈N.ps):YI (.tup (w.map .str)):=by
 obtain⟨a,b,c⟩:=FP ok h;exact⟨a,by show JV (w.map .str)<=60000; omega,by show FV (w.map .str)+1<=50; omega⟩
theorem thn.okN{N:Net}(okn:okN N){ts:List Ao}(h:thn N ts):okN ⟨N.ps,ts⟩:=⟨S5 okn.1 h.1 h.2,okn.2.1,by
 have:=sub_len (CZ h.2) (CZ okn.1.trise) h.1
 have:=okn.2.2
 show ts.length<=60
 omega⟩
theorem thn.thinB{N:Net}{ts:List Ao}(h:thn N ts):thinB N (enc ⟨N.ps,ts⟩)=true:=thinB_iff.mpr ⟨ts,rfl,h.1,h.2⟩
theorem PapOkK.len{k:Nat}{M:Net}{t b:Int}:∀{us:List Ao} {ws:List (List Str)},PapOkK k M t b us ws->ws.length=us.length
 | [],[],_=>rfl
 | u::us,w::ws,h=>by rw [ZB,ZB,PapOkK.len h.2]
theorem Gv{N:Net}(ok:N.Ok){s x:Str}:∀(k:Nat) (d:Int),d.toNat<=k->Wk N s x d->∃e,Least N s x e/\e<=d
 | k,d,hk,h=>by
  by_cases c:∃d',Wk N s x d'/\d'<d
  ·obtain⟨d',h',lt⟩:=c
   have p':=h'.pos ok
   match k with
   | 0=>omega
   | k+1 =>
    obtain⟨e,he,hle⟩:=Gv ok k d' (by omega) h';exact⟨e,he,by omega⟩
  ·exact⟨d,⟨h,λd' h'=>eI λz=>c ⟨d',h',by omega⟩⟩,fH _⟩
theorem Tx{N:Net}(okn:okN N){ts:List Ao}(h:thn N ts){t b:Int}(bt:b<=t)(b0:1<=b){u:Ao}(hu:u∈ts):EX ⟨N.ps,ts⟩ t b u:=by
 have okm:=h.okN okn;have ed:=(G0 (N:=⟨N.ps,ts⟩) hu).1;have hw:Wk ⟨N.ps,ts⟩ u.a u.b (0+u.len):=.snoc .nil ed;rw [Int.zero_add] at hw;obtain⟨e,he,hle⟩:=Gv okm.1 _ _ (Rs _) hw;have lp:=(ed.pos okm.1).1;refine⟨e,he,?_⟩;have h1:e*b<=u.len*b:=gs hle (by omega);have h2:u.len*b<=u.len*t:=eP bt (by omega);omega
theorem J6{M:Net}(okm:okN M){a b:Str}{w:List Str}{d:Int}(h:walked M a b w d):X5 M (Fb w)=.int d:=by
 obtain⟨⟨r,rfl⟩,_,hw,_,hin⟩:=h;exact QU okm.1 (hin _ On) hw
section
variable {ss:List Slot}{n:Nat}{Pd:D->Nat->Prop}
theorem Fc(h:Q3 ss n Pd):DM (EE Pd) n (ss++bj 1 .no):=by
 obtain⟨M,a,b,w,d,rfl,okm,hw,p⟩:=h;have e:=J6 okm hw;obtain⟨⟨r,rfl⟩,hl,hwk,h30,hin⟩:=hw;unfold DM;refine⟨M,Fb (a::r),rfl,okm.1,by have:=okm.2.1; omega,okm.2.2,LH okm.1 h30 hin,?_⟩;rw [e];refine⟨rfl,.str a,AQ (j:=0) rfl,?_⟩;refine CD (λc=>absurd c (by simp)) λ_=>?_;refine⟨1,rfl,.str b,QY hl,?_⟩;refine CD (λc=>absurd c (by simp)) λ_=>?_;exact p
theorem Jk(h:HJ ss n Pd):Ft (EE Pd) n (ss++bj 1 .no):=by
 obtain⟨M,t,b,u,w,d,rfl,okm,⟨b1,b2,t1,t2⟩,hw,hle,p⟩:=h;unfold Ft;refine⟨_,AQ (j:=0) rfl,_,AQ (j:=1) rfl,M,u.a,u.b,w,d,rfl,okm,hw,⟨rfl,?_⟩⟩;refine⟨_,AQ (j:=2) rfl,d,t,b,u.len,rfl,b1,b2,t1,t2,?_⟩;rw [decide_eq_true hle];exact p
theorem Jm(h:Ku ss n Pd):Fv (EE Pd) n (ss++bj 3 .no):=by
 obtain⟨N,ts,t,b,ws,rfl,okn,l24,ht,tm,hp,p⟩:=h;have okm:=ht.okN okn;have l60:=okn.2.2;have sz:=JW okm;have szl:=PySem.sizeLine_eq;unfold Fv;refine⟨N,enc ⟨N.ps,ts⟩,rfl,okn.1,l24,l60,(SE (by decide) _).1 _ (Rs _) sz.1,by have:=sz.2.1; omega,by have:=sz.2.2; omega,?_⟩;show if (!thinB N (enc ⟨N.ps,ts⟩))=true then _ else _
 rw [ht.thinB];refine Cp ⟨N,ts,rfl,okn.1,by omega,ht.1,λlo p1 p2=>⟨_,_,rfl,rfl,?_⟩⟩;have hlen:=(hp lo p1 p2).len;refine⟨_,_,rfl,?_⟩;show if (!(((ws.map Fb).length:Int)==((lo.map Aj).length:Int)))=true then _ else _
 rw [No,No,hlen,beq_self_eq_true];refine Cp ⟨N,ts,rfl,okn.1,by omega,ht.1,λlo p1 p2=>⟨_,rfl,?_⟩⟩;have pap:=hp lo p1 p2
 have go:∀(us:List Ao) (ws1 ws2:List (List Str)) (s4 s5 s6:Slot),ws1++ws2=ws->XH ⟨N.ps,ts⟩ t b us ws2 ->
   BR (DU 2 (An (Aa 4) (An (Aa 5) B0))) (AZ (Ax 6 (AV HJ (AC (AG (AB 2)) (AC (AG (AB 1)) (AC (AG (AB 5)) (AC (AG (AT Aw (AB 3) (AB 4))) AW))))))
 (BP (AY (AT (Ie true) (AB 6) (wC D.non))) L5 A9)) { EE Pd with nx:=Av (wC (D.bl true)) (EE Pd) } (D8 ws1.length (us.map Aj)) n [.sh (enc N),.sh (.tup [.int t,.int b]),.sh (enc ⟨N.ps,ts⟩),.sh (.tup (ws.map Fb)),s4,s5,s6]:=by
  intro us
  induction us with
  | nil=>intro ws1 ws2 s4 s5 s6 _ _; exact p
  | cons u us ih =>
   intro ws1 ws2 s4 s5 s6 e hk
   match ws2,hk with
   | w::ws2,⟨⟨d,hw,hle⟩,hk⟩ =>
    have hat:(ws.map Fb)[ws1.length]?=some (Fb w):=by rw [← e,bv,cf (Rs _),f7]; rfl
    refine⟨rfl,rfl,_,AQ hat,⟨N.ps,ts⟩,t,b,u,w,d,rfl,okm,tm,hw,hle,⟨rfl,?_⟩⟩
    have:=ih (ws1++[w]) ws2 (.sh (.int (ws1.length:Int))) (.sh (Aj u)) (.sh .non) (by rw [cb]; exact e) hk
    rw [bi,cA] at this;exact this
 exact go lo [] ws _ _ _ rfl pap
def SY(M:Net)(t b:Int):List Ao->List (Option (List Str))->Prop
 | [],[]=>True
 | u::us,o::os=>((∀w,o=some w->Way M u.a u.b (some w)/\Gr M t b u=true)/\(o=none->Gr M t b u=false))/\SY M t b us os
 | _,_=>False
theorem Wk.cons{N:Net}{x y z:Str}{l d:Int}(e:Ed N x y l)(h:Wk N y z d):Wk N x z (l+d):=by
 induction h with
 | nil=>rw [Int.add_comm]; exact .snoc .nil e
 | snoc h f ih=>rw [← iI]; exact .snoc ih f
theorem HR{N:Net}(ok:N.Ok){b:Str}:∀{w:List Str} {d:Int},walk N w d->w.getLast?=some b->∀x∈w,∃e,Wk N x b e/\e<=d
 | [],_,h,_,_,_=>h.elim
 | [y],d,h,hl,x,hx=>by
  cases hl;rw [Re.mp hx,show d=0 from h];exact⟨0,.nil,fH _⟩
 | y::z::r,d,h,hl,x,hx=>by
  obtain⟨l,f,e1,e2,rfl⟩:=h;rw [eR] at hl
  have:=(e1.pos ok).1
  rcases TW.mp hx with rfl | hx
  ·obtain⟨e,h1,h2⟩:=HR ok e2 hl z On
   exact⟨l+e,Wk.cons e1 h1,by omega⟩
  ·obtain⟨e,h1,h2⟩:=HR ok e2 hl x hx
   exact⟨e,h1,by omega⟩
theorem OI{N:Net}(ok:N.Ok){b:Str}:∀{r:List Str} {a:Str} {d:Int},walk N (a::r) d->(a::r).getLast?=some b->(∀d',Wk N a b d'->d<=d')->(a::r).Nodup
 | [],a,d,_,_,_=>cD.mpr ⟨by simp,cr⟩
 | z::r,a,d,h,hl,hd=>by
  obtain⟨l,f,e1,e2,rfl⟩:=h;rw [eR] at hl;refine cD.mpr ⟨λhm=>?_,OI ok e2 hl λd' hw=>?_⟩
  ·obtain⟨e,h1,h2⟩:=HR ok e2 hl a hm
   have:=hd e h1
   have:=(e1.pos ok).1
   omega
  ·have:=hd _ (Wk.cons e1 hw)
   omega
theorem Ny{M:Net}(ok:M.Ok){t b:Int}:∀{us:List Ao} {os:List (Option (List Str))},SY M t b us os->(∃ws,os=ws.map some/\PapOkK M.ps.length M t b us ws/\∀u∈us,EX M t b u)\/(os.any jI=true/\∃u∈us,¬EX M t b u)
 | [],[],_=>.inl ⟨[],rfl,trivial,λu hu=>by cases hu⟩
 | u::us,none::os,h=>.inr ⟨rfl,u,On,λz=>by
  have:=h.1.2 rfl
  rw [nearB_iff.mpr z] at this;cases this⟩
 | u::us,some w::os,h=>by
  obtain⟨hw,hn⟩:=h.1.1 w rfl;have hn:=nearB_iff.mp hn
  rcases Ny ok h.2 with ⟨ws,rfl,h1,h2⟩ | ⟨h1,v,h2,h3⟩
  ·refine .inl ⟨w::ws,rfl,⟨?_,h1⟩,λv hv=>?_⟩
   ·obtain⟨d,r,e1,e2,e3,e4,e5,e6⟩:=hw
    obtain⟨d',f1,f2⟩:=hn;subst e1;exact⟨d,⟨⟨r,rfl⟩,e2,e3,L4 (OI ok e3 e2 e4.2) e6,e6⟩,by rw [Least.unique e4 f1]; exact f2⟩
   ·rcases TW.mp hv with e | hv
    ·rw [e]; exact hn
    ·exact h2 v hv
  ·exact .inr ⟨by rw [fR,h1,Bool.or_true],v,TM _ h2,h3⟩
theorem Qt:∀os:List (Option (List Str)),((os.map GG).any λy=>GQ y .non)=os.any jI
 | []=>rfl
 | none::os=>rfl
 | some w::os=>by
  rw [bm,fR,fR,Qt os];rfl
theorem Pg{M:Net}(ok:M.Ok){t b:Int}:∀{us:List Ao} {os:List (Option (List Str))},SY M t b us os->Fo 0 (os.map GG)/\FV (os.map GG)<=1
 | [],[],_=>⟨trivial,bn _⟩
 | u::us,none::os,h=>by
  obtain⟨h1,h2⟩:=Pg ok h.2;exact⟨⟨trivial,h1⟩,by show max 0 (FV (os.map GG))<=1; omega⟩
 | u::us,some w::os,h=>by
  obtain⟨h1,h2⟩:=Pg ok h.2;obtain⟨d,r,e1,e2,e3,e4,e5,e6⟩:=(h.1.1 w rfl).1;obtain⟨f1,_,f3⟩:=FP (B:=0) ok e6;exact⟨⟨f1,h1⟩,by show max (FV (w.map .str)+1) (FV (os.map GG))<=1; omega⟩
theorem IY(h:JE ss n Pd):FE (EE Pd) n (ss++bj 1 .no):=by
 obtain⟨N,ts,t,b,rfl,okn,ht,⟨b1,b2,t1,t2⟩,p,q⟩:=h;have okm:=ht.okN okn;have l60:=okn.2.2;unfold FE;refine⟨N,ts,rfl,okn.1,by omega,ht.1,λlo p1 p2=>?_⟩;have hlo:lo.length<=60:=by rw [p1.length_eq]; exact cG (dP _ _) l60
 refine⟨by show (lo.map Aj).length<=10000000; rw [No]; omega,?_⟩
 have go:∀(P:List D->Nat->Prop),(∀os,SY ⟨N.ps,ts⟩ t b lo os->P (os.map GG) n)->∀(rest:List Ao) (acc:List D) (s:Slot),(∀u∈rest,u∈N.ts)->(∀os,SY ⟨N.ps,ts⟩ t b rest os->P (acc++os.map GG) n) ->
   B9 (Aa 2) CI (AV GV (AC (AG (AB 0)) (AC (AG (AB 1)) (AC (AG (AB 2)) AW)))) P (rest.map Aj) acc n [.sh (enc ⟨N.ps,ts⟩),.sh (.tup [.int t,.int b]),s]:=by
  intro P hP rest
  induction rest with
  | nil =>
   intro acc s _ h
   have:=h [] trivial
   rw [fJ,cH] at this;exact this
  | cons u rest ih =>
   intro acc s hu h;obtain⟨m1,m2,_⟩:=okn.1.tin u (hu u On);refine⟨⟨N.ps,ts⟩,u,t,b,rfl,okm,m1,m2,b1,b2,t1,t2,λo h1 h2=>?_⟩;refine ih (acc++[GG o]) _ (λv hv=>hu v (TM _ hv)) λos hos=>?_
   have:=h (o::os) ⟨⟨h1,h2⟩,hos⟩
   rw [cb];exact this
 have fin:∀os,SY ⟨N.ps,ts⟩ t b lo os->(Av (Yr (AY (AT (GP false) (wC D.non) (AB 3))) (wC D.non) (DR B_ (AF (AB 3) Ab)))) (EE Pd) n [.sh (enc N),.sh (.tup [.int t,.int b]),.sh (enc ⟨N.ps,ts⟩),.sh (.lst (os.map GG))]:=λos hos=>by
  obtain⟨f1,f2⟩:=Pg okm.1 hos;refine⟨⟨rfl,rfl,bn _⟩,E8 (B:=0) (by decide) f1 (by show FV (os.map GG)+1<=100; omega),_,rfl,?_⟩;show if ((os.map GG).any λy=>GQ y .non)=true then _ else _
  rw [Qt]
  rcases Ny okm.1 hos with ⟨ws,rfl,h1,h2⟩ | ⟨h1,u,hu,hn⟩
  ·have e1:(ws.map some).any jI=false:=by
    rw [eO];intro z;obtain⟨o,ho,z⟩:=eB.mp z;obtain⟨w,_,rfl⟩:=Tk.mp ho;cases z
   rw [e1];have e2:(ws.map some).map GG=ws.map Fb:=by rw [dN]; rfl
   refine Cp ?_;show Pd (.tup ((ws.map some).map GG)) n;rw [e2];refine p ws (λlo' p3 p4=>?_) λu hu=>h2 u (p1.mem_iff.mpr hu);rw [Dd (p3.trans p1.symm) p4 p2];exact h1
  ·rw [h1]
   exact Dt (q ⟨u,p1.mem_iff.mp hu,hn⟩)
 exact go _ fin lo [] _ (λu hu=>(dC.mp (p1.mem_iff.mp hu)).1) λos hos=>by rw [cK]; exact fin os hos
theorem Cj{N:Net}(okn:okN N){ts:List Ao}(h:ts.Sublist N.ts):thn N ts:=⟨λt ht=>h.subset ht,okn.1.trise.sublist h⟩
end
end Nt
namespace L2
open PySem PySem.Spec PyProof.Rows
open PySem.AutoSeq1 (wpAny_loadPart')
section
variable {X:Cx}
end
end L2
namespace Dp
open PySem PySem.Spec PyProof.Rows L2
section
variable {X:Cx}{κa:Kd}{a e:Expr}{es:List Expr}{wa:DW}{ws:Ee}
end
section
variable {X:Cx}{pos:Pos}
end
end Dp
namespace L2
open PySem PySem.Spec PyProof.Rows
def bD(d:Db)(o:Obj)(kvs:List (Key×V)):It :=
 ⟨λi H=>H d=some (.frz o (.dK kvs))/\i<kvs.length,λi H x H'=>H'=H/\∃p,kvs[i]?=some p/\x=kV p.1,λi H=>H d=some (.frz o (.dK kvs))/\kvs.length<=i⟩
theorem RC{P:cL}{w:cQ}{K:Frag}{tg:cC}(d it:Db)(o:Obj)(kvs:List (Key×V))(es:Array DictEntry)(ep:Nat)(hdat:o.data=.dict es ep) :
  Turn P w K tg (bD d o kvs) [it] it (λi h=>h.IsKeyIter it d i kvs.length ep) where
 mem:=by simp
 obj:=λi h st c hc=>by
  rw [Re.mp hc];obtain⟨u,hu,_,hd⟩:=st;exact⟨u,hu,λv q=>by rw [hd] at q; cases q⟩
 keep:=λi h h' st k=>st.at λu e=>k it (by simp) u e
 item:=by
  intro X hP hw hK hc i pins s σ H E I hf st hg;subst hP hw hK;obtain⟨hH,hi⟩:=hg;obtain⟨ws,kv,D⟩:=FW I hH hdat
  have hl:=kv.length;have hiw:i<ws.length:=by omega
  rw [hl] at st;obtain⟨k,v,hkv⟩:∃k v,ws[i]=(k,v):=⟨_,_,rfl⟩;have hx:ws[i]?=some (k,v):=by rw [Go hiw,hkv]
  have hp:kvs[i]?=some kvs[i]:=Go hi;obtain⟨ek,rv⟩:=Jt kv hp hx;have ek:kvs[i].1=k:=ek;refine wpAny_pyNext_dict_item st D hx λkey h' hkey hit hsame=>⟨_,rfl,?_⟩;obtain⟨u,hu,hcu,hdu⟩:=id hit;refine OS hu hcu hdu (by decide) ?_;have I2:Inv X pins σ H { s with heap:=h' }:=I.turnedL (t':=s.toks) (ch:=[it]) hf λc o hc e=>hsame.extBut c o (λz=>hc (by rw [z]; exact Re.mpr rfl)) e;exact⟨_,H,I2,UC (by rw [← ek] at hkey; exact hkey),⟨rfl,_,hp,rfl⟩,by rw [hl]; exact hit,λb hb=>(hf b hb).1⟩
 done:=by
  intro X hP hw hK hc i pins s σ H E I hf st hg;subst hP hw hK;obtain⟨hH,hi⟩:=hg;obtain⟨ws,kv,D⟩:=FW I hH hdat
  have hl:=kv.length;rw [hl] at st;refine wpAny_pyNext_dict_end (I.ok.hd hc) st D (gc (by omega)) λh' ext=>⟨rfl,?_⟩;exact I.turnedL (t':=s.toks) (ch:=[it]) hf λc o hc e=>ext c o (λz=>hc (by rw [z]; exact Re.mpr rfl)) e
 self:=λA i s Q E st h=>wpAny_pyIter_keyiter st h
def Zc(te:TE):TI:=λσ H R=>te σ H λx H1=>∃d o kvs,x=.ref d/\H1 d=some (.frz o (.dK kvs))/\R (bD d o kvs) H1
theorem VY{X:Cx}{e tg:cC}{te:TE}(he:PE X e te):PI X tg e (Zc te):=by
 intro pins s σ H R I h;refine thn (he pins s σ H _ I h) λu s1 ⟨x,H1,I1,r1,d,o,kvs,ex,hd,q⟩=>?_;subst ex;cases r1;obtain⟨_,lo,_⟩:=G3 I1.hok (.inr ⟨o,hd⟩)
 obtain⟨es,ep,hdat⟩:∃es ep,o.data=.dict es ep:=by
  obtain⟨e0,_,_,ws,kv,o',es',ep',e1,e2,e3,e4⟩:=(show ObjOk X.prog X.w H1 s1.heap d (.frz o (.dK kvs)) from I1.hok d _ hd);rw [e0] at e1;cases e1;exact⟨es',ep',e3⟩
 obtain⟨ws,kv,D⟩:=FW I1 hd hdat
 have hl:=kv.length;refine wpAny_pyIter_dict lo D ?_;refine⟨s1.heap.objs.size,[s1.heap.objs.size],_,bD d o kvs,H1,rfl,I1.kept (t':=s1.toks) λb o e=>FM _ e,RC d _ o kvs es ep hdat,⟨_,Uf _ rfl,rfl,by rw [hl]; rfl⟩,λc hc=>?_,q⟩;rw [Re.mp hc];exact I1.fpOk (Rs _) (I1.hok.fresh (Rs _))
section
variable {X:Cx}
end
end L2
namespace Dp
open PySem PySem.Spec PyProof.Rows L2
section
variable {X:Cx}{a tg:Expr}{κa:Kd}{wa:DW}
def WY(wa:DW):Ee:=λn ρ P=>wa n ρ λd n1=>∃ks ds,d=.fdi ks ds/\(∀k∈ks,Mg k)/\P (ks.map U9) n1
theorem WF(ha:DE X a κa wa):DI X tg a (WY wa):=by
 obtain⟨t,a1,a2⟩:=ha;refine⟨_,VY a1,λC M H n ρ σ P Rr R w q=>?_⟩;refine a2 C M H n ρ σ _ _ R w λv H1 d n1 ee f1 r1 p=>?_;obtain⟨ks,ds,rfl,hfit,p⟩:=p;have R1:=R.step ee f1;obtain⟨ad,vs,rfl,⟨o,nM,hd⟩,hlen,hs⟩:∃a vs,v=.ref a/\NdF M H1 a ks vs/\ks.length=ds.length/\Ats X.K M H1 ds vs:=r1.tpOf R.dom R.vM;have hl:=hs.length;refine⟨ad,o,_,rfl,hd,q _ _ _ n1 ee f1 (λi M' H' pr dom=>?_) p⟩;have hd':H' ad=some (.frz o (.dK (ks.zip vs))):=(pr.nd nM hd).2;have zl:(ks.zip vs).length=ks.length:=by rw [eM]; omega
 refine⟨λe he=>?_,λhle=>⟨hd',by rw [No] at hle; omega⟩⟩;have hi:i<ks.length:=by have:=(bh.mp he).1; rw [No] at this; exact this
 refine⟨⟨hd',by omega⟩,λx H2 y=>?_⟩;obtain⟨rfl,pp,hp,rfl⟩:=y
 have e2:(ks.zip vs)[i]?=some (ks[i],vs[i]'(by omega)):=by
  rw [eJ];exact⟨Go hi,Go (by omega)⟩
 rw [e2] at hp;cases hp
 have e3:e=U9 ks[i]:=by
  rw [bv,Go hi] at he;exact(bg he).symm
 subst e3;refine⟨.refl,?_⟩;rw [UD];exact Uj (hfit _ (dO hi))
def Sn(wa:DW):DW:=λn ρ P=>wa n ρ λd n1=>∃ks ds,d=.dic ks ds/\Bo ds=true/\P (.fdi ks ds) n1
mutual
theorem At.frz{K:Frag}{M:Db->Prop}{H:Hp}{a:Db}{f:Db->Obj}{kvs:List (Key×V)}(ha:H a=some (.dK kvs)):∀{d:D} {v:V},EW d=true->At K M H d v->At K M (Fh H [a] f) d v
 | .non,v,_,h=>h
 | .bl b,v,_,h=>h
 | .int i,v,_,h=>h
 | .str x,v,_,h=>h
 | .tup ds,v,hn,h=>by
  obtain⟨b,vs,e,n2,hs⟩:=h;refine⟨b,vs,e,?_,Ats.frz ha hn hs⟩;unfold NdT at n2 ⊢;rw [DJ λz=>by rw [Re.mp z,ha] at n2; cases n2];exact n2
 | .lst ds,v,hn,h=>by
  obtain⟨b,vs,e,⟨n1,n2⟩,hs⟩:=h;refine⟨b,vs,e,⟨n1,?_⟩,Ats.frz ha hn hs⟩;rw [DJ λz=>by rw [Re.mp z,ha] at n2; cases n2];exact n2
 | .dic _ _,v,hn,h=>by cases hn
 | .fdi _ _,v,hn,h=>by cases hn
 | .dit _ _,v,hn,h=>by cases hn
theorem Ats.frz{K:Frag}{M:Db->Prop}{H:Hp}{a:Db}{f:Db->Obj}{kvs:List (Key×V)}(ha:H a=some (.dK kvs)):∀{ds:List D} {vs:List V},Bo ds=true->Ats K M H ds vs->Ats K M (Fh H [a] f) ds vs
 | [],vs,_,h=>h
 | d::ds,vs,hn,h=>by
  obtain⟨v,r,e,h1,h2⟩:=h;have hn:(EW d&&Bo ds)=true:=hn;rw [bz] at hn;exact⟨v,r,e,At.frz ha hn.1 h1,Ats.frz ha hn.2 h2⟩
end
theorem Uh(ha:DE X a .fr wa):DE X a .sh (Sn wa):=by
 obtain⟨t,a1,a2⟩:=ha;refine⟨_,Te a1,λC M H n ρ σ P Q R w q=>?_⟩;refine a2 C M H n ρ σ _ _ R w λv H1 d n1 e1 f1 r1 p=>?_;obtain⟨ks,ds,rfl,hnd,p⟩:=p;obtain⟨b,rfl,hb,vs,hH,hl,hs⟩:=r1;refine⟨[b],λc hc=>by rw [Re.mp hc]; exact⟨_,hH⟩,λf=>?_⟩;have nM:¬M b:=λz=>by obtain⟨o,w⟩:=R.dom b z; rw [hb] at w; cases w
 have out:∀{c:Db},c≠b->Fh H1 [b] f c=H1 c:=λh=>DJ λz=>h (Re.mp z);refine q _ _ (.fdi ks ds) n1 (λc o ec=>?_) ?_ ⟨b,vs,rfl,⟨f b,nM,Ml (Re.mpr rfl) hH⟩,hl,Ats.frz hH hnd ?_⟩ p
 ·have nb:c≠b:=Al ec hb
  obtain⟨o1,z1,k1⟩:=e1 c o ec;exact⟨o1,by rw [out nb]; exact z1,k1⟩
 ·intro g hg
  obtain⟨at_,rest,cells,h1,h2,⟨n3,h3⟩,h4⟩:=f1 g hg;exact⟨at_,rest,cells,by rw [out λz=>by rw [z,hH] at h1; cases h1]; exact h1,h2,⟨n3,by rw [out λz=>by rw [z,hH] at h3; cases h3]; exact h3⟩,h4⟩
 ·exact hs.pres (Pres.less (M':=M) λ_ z=>.inl z)
end
def Cz:List (List Key)->List D->List Key->Option D
 | k0::ks,d::ds,k=>if k0=k then some d else Cz ks ds k
 | _,_,_=>none
def OM:List D->Option (List Key)
 | []=>some []
 | d::ds=>match keyOf d,OM ds with
  | some k,some ks=>some (k::ks)
  | _,_=>none
def keysOf:D->Option (List Key)
 | .tup ds=>OM ds
 | _=>none
section
variable {K:Frag}{X:Cx}
theorem Gb{M:Db->Prop}{H:Hp}{k:List Key}:∀{ks:List (List Key)} {ds:List D} {vs:List V},Ats K M H ds vs ->
  match Cz ks ds k with
  | some z=>∃v,Bs (ks.zip vs) k=some v/\At K M H z v
  | none=>Bs (ks.zip vs) k=none
 | [],ds,vs,h=>by unfold Cz; exact rfl
 | k0::ks,[],vs,h=>by cases h; exact rfl
 | k0::ks,d::ds,vs,h=>by
  obtain⟨v,r,rfl,h1,h2⟩:=h;have ih:=Gb (k:=k) (ks:=ks) h2;unfold Cz
  by_cases e:k0=k
  ·rw [if_pos e]
   refine⟨v,?_,h1⟩;show Bs ((k0,v)::ks.zip r) k=some v;rw [Dz e]
  ·rw [if_neg e]
   have:Bs ((k0,v)::ks.zip r) k=Bs (ks.zip r) k:=D1 e
   rw [show (k0::ks).zip (v::r)=(k0,v)::ks.zip r from rfl,this];exact ih
theorem UB{M:Db->Prop}{H:Hp}{d:D}{v:V}{k:Key}(e:keyOf d=some k)(h:At K M H d v):v=kV k:=by
 cases d with
 | int i=>cases e; exact h
 | str x=>cases e; exact h.1
 | _=>cases e
theorem OL{M:Db->Prop}{H:Hp}:∀{ds:List D} {vs:List V} {ks:List Key},OM ds=some ks->Ats K M H ds vs->vs=ks.map kV
 | [],vs,ks,e,h=>by cases e; exact h
 | d::ds,vs,ks,e,h=>by
  obtain⟨v,r,rfl,h1,h2⟩:=h;unfold OM at e;cases c1:keyOf d with
  | none=>rw [c1] at e; cases e
  | some k =>
   cases c2:OM ds with
   | none=>rw [c1,c2] at e; cases e
   | some k2 =>
    rw [c1,c2] at e;cases e;rw [OL c2 h2,UB c1 h1];rfl
theorem FT{U M:Db->Prop}{H:Hp}{d:D}{v:V}{k:List Key}(e:keysOf d=some k)(h:AtT K U M H d v):∃b,v=.ref b/\H b=some (.tup (k.map kV)):=by
 cases d with
 | tup ds =>
  obtain⟨a,vs,rfl,ha,hs⟩:=h.tup;refine⟨a,rfl,?_⟩;rw [← OL e hs];exact ha
 | _=>cases e
theorem Mu{U M:Db->Prop}{H:Hp}{x:V}{ks:List (List Key)}{ds:List D}(h:AtT K U M H (.dit ks ds) x):∃a vs,x=.ref a/\Rd H a (.dT (ks.zip vs))/\Ats K M H ds vs:=by
 obtain⟨a,vs,rfl,_,ha,_,hs⟩:=h;exact⟨a,vs,rfl,.inl ha,hs⟩
theorem Mw{H:Hp}{a b:Db}{kvs:List (List Key×V)}{k:List Key}(e:Rd H a (.dT kvs))(eb:H b=some (.tup (k.map kV))):DGet H a (.ref b) (Bs kvs k):=.inr ⟨kvs,k,b,e,rfl,eb,rfl⟩
def Zi(neg:Bool)(e d:D)(P:D->Prop):Prop:=∃ks ds k,d=.dit ks ds/\keysOf e=some k/\P (.bl (if neg then !(Cz ks ds k).isSome else (Cz ks ds k).isSome))
def Qe(d e:D)(P:D->Prop):Prop:=∃ks ds k z,d=.dit ks ds/\keysOf e=some k/\Cz ks ds k=some z/\P z
theorem Zr:Fa K .sh Xm (Zi false):=λU M H e d y x P Q dom vM hy hx w q=>by
 obtain⟨ks,ds,k,rfl,he,w⟩:=w;obtain⟨a,vs,rfl,ha,hs⟩:=Mu hx;obtain⟨b,rfl,eb⟩:=FT he hy;refine⟨a,Bs (ks.zip vs) k,rfl,Mw ha eb,q _ H (.bl _) .refl rfl ?_⟩;have h:=Gb (k:=k) (ks:=ks) hs;cases c:Cz ks ds k with
 | none=>rw [c] at h w; rw [show Bs (ks.zip vs) k=none from h]; exact w
 | some z=>rw [c] at h w; obtain⟨v,h1,_⟩:=h; rw [h1]; exact w
theorem Ya:Fa K .sh QC Qe:=λU M H d e x y P Q dom vM hx hy w q=>by
 obtain⟨ks,ds,k,z,rfl,he,hz,w⟩:=w;obtain⟨a,vs,rfl,ha,hs⟩:=Mu hx;obtain⟨b,rfl,eb⟩:=FT he hy;have h:=Gb (k:=k) (ks:=ks) hs;rw [hz] at h;obtain⟨v,h1,h2⟩:=h;exact⟨a,v,rfl,by rw [← h1]; exact Mw ha eb,q v H z .refl h2 w⟩
variable {a b:Expr}{κa κb:Kd}{wa wb:DW}{pos:Pos}
theorem Qp{k:Nat}(hr:Room k X.A)(ha:DE X a κa wa)(hb:DE X b κb wb)(hs:WU b:=by intro _ _; rfl):DE X (.Subscript a b pos) .sh (AT Qe wa wb):=by
 obtain⟨ta,ha1,ha2⟩:=ha;obtain⟨tb,hb1,hb2⟩:=hb;exact⟨Dh QC ta tb,Iv (IG hr) ha1 hb1 hs,λC M H n ρ σ P Q R w q=>ER Ya ha2 hb2 C M H n ρ σ P Q R w q⟩
end
section
variable {X:Cx}{a b e:Expr}{κ κa κb:Kd}{wa wb:DW}{pos pos':Pos}
variable {apos cpos:Pos}{f:Expr}{κf:Kd}{wf:DW}
def WZ(wa wk wx:DW):DW:=λn ρ P=>wa n ρ λd n1=>∃ks ds,d=.dit ks ds/\wk n1 ρ λk n2=>wx n2 ρ λz n3=>∃key,keysOf k=some key/\P ((Cz ks ds key).getD z) n3
theorem WH{k:Nat}(hr:Room k X.A)(ha:DE X a κa wa)(hb:DE X b κb wb)(hf:DE X f κf wf)(hk:κf≠.tp:=by intro z; cases z)(m:M2 X a "get" apos b f cpos:=by exact⟨rfl,rfl,rfl,rfl⟩):DE X (.Call (.Attribute a "get" apos) [b,f] [] cpos) .sh (WZ wa wb wf):=by
 obtain⟨t,h1,h2⟩:=ha;obtain⟨u,g1,g2⟩:=hb;obtain⟨u2,k1,k2⟩:=hf;refine⟨_,Nw (IG hr) h1 g1 k1 m,λC M H n ρ σ P Q R w q=>?_⟩;refine h2 C M H n ρ σ _ _ R w λv H1 d n1 e1 f1 r1 p=>?_;obtain⟨ks,ds,rfl,p⟩:=p;have R1:=R.step e1 f1;obtain⟨ad,vs,rfl,ha,hs⟩:=Mu (r1.tpOf R.dom R.vM);refine⟨ad,rfl,.inr ⟨_,ha⟩,?_⟩;refine g2 C M H1 n1 ρ σ _ _ R1 p λy H2 kk n2 e2 f2 r2 p=>?_;have R2:=R1.step e2 f2;refine k2 C M H2 n2 ρ σ _ _ R2 p λz H3 dz n3 e3 f3 r3 p=>?_;obtain⟨key,hkey,p⟩:=p;have R3:=R2.step e3 f3;have hat:=((r1.tpOf R.dom R.vM).pres (R1.pres e2) e2 R.uV).pres (R2.pres e3) e3 R.uV;have hy:=(r2.tpOf R1.dom R1.vM).pres (R2.pres e3) e3 R.uV;obtain⟨ad',vs',ex,ha',hs'⟩:=Mu hat
 cases ex;obtain⟨b,rfl,eb⟩:=FT hkey hy;have hz:=r3.shOf R2.dom hk;refine⟨Bs (ks.zip vs') key,Mw ha' eb,q _ H3 ((Cz ks ds key).getD dz) n3 ((e1.trans e2).trans e3) f3 ?_ p⟩;have h:=Gb (k:=key) (ks:=ks) hs';cases c:Cz ks ds key with
 | none=>rw [c] at h; rw [show Bs (ks.zip vs') key=none from h]; exact hz
 | some y=>rw [c] at h; obtain⟨u,h1,h2⟩:=h; rw [h1]; exact h2
end
end Dp
namespace L2
open PySem PySem.Spec PyProof.Rows
section
variable {P:Program}{w:World}{A:Around}{E:Value->Shared->Prop}{s:Shared}{d t:Addr}{es:Array DictEntry}{ep i:Nat}
end
end L2
namespace L2
open PySem PySem.Spec PyProof.Rows PySem.W
section
variable {X:Cx}
end
end L2
namespace Dp
open PySem PySem.Spec PyProof.Rows L2
section
variable {X:Cx}
end
section
variable {X:Cx}{κ κe:Kd}{e:Expr}{we:DW}{pos p apos cpos p2 apos2 cpos2:Pos}{x y:Str}{i j:Nat}
end
end Dp
namespace Nt
open PySem PySem.Spec PyProof.Rows L2 Dp
section
variable {ss:List Slot}{n:Nat}{Pd:D->Nat->Prop}
end
section
variable {ss:List Slot}{n:Nat}{Pd:D->Nat->Prop}
end
end Nt
namespace L2
open PySem PySem.Spec PyProof.Rows
section
variable {prog:Program}{w:World}{A:Around}{E:Value->Shared->Prop}{s:Shared}{x y:Str}{t u:Tok}
def Sw(x y:Str)(i:Nat):Str:=if i=0 then x else y
theorem P5{i:Nat}{v:Ev}(h:(#[eg x t,eg y u]:Array Ev)[i]?=some v):∃k,v=.str (Sw x y i) k:=by
 match i with
 | 0=>exact⟨t,(bg h).symm⟩
 | 1=>exact⟨u,(bg h).symm⟩
 | i+2=>simp at h
theorem SO:CmpOf prog w A .Lt (λi v=>(#[eg x t,eg y u]:Array Ev)[i]?=some v) (λi j=>decide ((Sw x y i).cps.toList<(Sw x y j).cps.toList)):=λi j vi vj s Q E hi hj h=>by
 obtain⟨a,rfl⟩:=P5 hi;obtain⟨b,rfl⟩:=P5 hj;exact richCompare_gives (op:=.Lt) (gA s _ a) (gA s _ b) PySem.F.slot_str_lt PySem.F.entry_str_lt (PySem.F.args_str_lt_2 _ _) (gives_str_lt _ _ a b) (λe=>nomatch e) h
theorem SQ:CmpOf prog w A .Gt (λi v=>(#[eg x t,eg y u]:Array Ev)[i]?=some v) (λi j=>decide ((Sw x y j).cps.toList<(Sw x y i).cps.toList)):=λi j vi vj s Q E hi hj h=>by
 obtain⟨a,rfl⟩:=P5 hi;obtain⟨b,rfl⟩:=P5 hj;exact richCompare_gives (op:=.Gt) (gA s _ a) (gA s _ b) PySem.F.slot_str_gt PySem.F.entry_str_gt (PySem.F.args_str_gt_2 _ _) (gives_str_gt _ _ a b) (λe=>nomatch e) h
theorem Sx{n c:Nat}(h:c∈[n+1,n]):c<n+1+1:=by
 simp only [TW,bu,or_false] at h;omega
theorem NU{bt:Nat->Nat->Bool}{v:Ev}(h:(#[eg x t,eg y u]:Array Ev)[argBest bt 1]?=some v):v=if bt 1 0=true then .str y u else .str x t:=by
 have e:argBest bt 1=if bt 1 0=true then 1 else 0:=rfl
 rw [e] at h;cases c:bt 1 0 with
 | true=>rw [c] at h; exact(bg h).symm
 | false=>rw [c] at h; exact(bg h).symm
theorem Rn{Q:Ev->Op->Prop}(hh:A.handled=none)(h:∀h' tk,(∀c o,s.heap.get? c=some o->h'.get? c=some o)->Q (if decide (y.cps.toList<x.cps.toList)=true then .str y u else .str x t) { s with heap:=h',toks:=tk }) :
  wpAny (model prog w) A (call (.builtin "min") [.str x t,.str y u]) Q E s:=by
 have hT:(s.heap.push { cls:=.type "tuple",data:=.seq #[.str x t,.str y u] }).IsTuple s.heap.objs.size #[.str x t,.str y u]:=⟨_,Uf _ rfl,rfl,0,rfl⟩;refine call_min_two (dI hT ?_);have z1:(s.heap.push { cls:=.type "tuple",data:=.seq #[.str x t,.str y u] }).objs.size=s.heap.objs.size+1:=dH ..;refine⟨_,[_,s.heap.objs.size],[_],_,_,_,_,rfl,Walks.tuple (A:=A.in1) hh _ s.heap.objs.size (by rw [z1]; exact b8 (fj _)) #[.str x t,.str y u],⟨⟨_,Uf _ rfl,rfl,rfl⟩,hT.push _⟩,λc hc=>?_,by simp,SO,λv h' tk hP k=>?_⟩
 ·rw [dH,z1]; rw [z1] at hc; exact Sx hc
 ·rw [NU hP]
  refine h h' tk λc o e=>k c o (λm=>?_) (FM _ (FM _ e));have l:=XV e;rw [Re.mp m,z1] at l;exact absurd l (gC.mpr (dQ _))
theorem Rp{Q:Ev->Op->Prop}(hh:A.handled=none)(h:∀h' tk,(∀c o,s.heap.get? c=some o->h'.get? c=some o)->Q (if decide (x.cps.toList<y.cps.toList)=true then .str y u else .str x t) { s with heap:=h',toks:=tk }) :
  wpAny (model prog w) A (call (.builtin "max") [.str x t,.str y u]) Q E s:=by
 have hT:(s.heap.push { cls:=.type "tuple",data:=.seq #[.str x t,.str y u] }).IsTuple s.heap.objs.size #[.str x t,.str y u]:=⟨_,Uf _ rfl,rfl,0,rfl⟩;refine call_max_two (dI hT ?_);have z1:(s.heap.push { cls:=.type "tuple",data:=.seq #[.str x t,.str y u] }).objs.size=s.heap.objs.size+1:=dH ..;refine⟨_,[_,s.heap.objs.size],[_],_,_,_,_,rfl,Walks.tuple (A:=A.in1) hh _ s.heap.objs.size (by rw [z1]; exact b8 (fj _)) #[.str x t,.str y u],⟨⟨_,Uf _ rfl,rfl,rfl⟩,hT.push _⟩,λc hc=>?_,by simp,SQ,λv h' tk hP k=>?_⟩
 ·rw [dH,z1]; rw [z1] at hc; exact Sx hc
 ·rw [NU hP]
  refine h h' tk λc o e=>k c o (λm=>?_) (FM _ (FM _ e));have l:=XV e;rw [Re.mp m,z1] at l;exact absurd l (gC.mpr (dQ _))
end
section
variable {X:Cx}
def Wn:List V->Hp->VK->Prop:=λxs H Q=>∃x y:Str,xs=[.str x,.str y]/\Q (.str (if decide (y.cps.toList<x.cps.toList)=true then y else x)) H
def Wp:List V->Hp->VK->Prop:=λxs H Q=>∃x y:Str,xs=[.str x,.str y]/\Q (.str (if decide (x.cps.toList<y.cps.toList)=true then y else x)) H
theorem SR(hc:X.calm=true):C7 X (.builtin "min") Wn:=by
 intro pins s σ H xs us Q I r h;obtain⟨x,y,rfl,q⟩:=h;obtain⟨u,w',rfl,⟨t,rfl⟩,⟨t',rfl⟩⟩:=vals2 r;refine Rn (I.ok.hd hc) λh' tk k=>⟨_,H,I.kept k,?_,q⟩;cases decide (y.cps.toList<x.cps.toList) <;> exact⟨_,rfl⟩
theorem SU(hc:X.calm=true):C7 X (.builtin "max") Wp:=by
 intro pins s σ H xs us Q I r h;obtain⟨x,y,rfl,q⟩:=h;obtain⟨u,w',rfl,⟨t,rfl⟩,⟨t',rfl⟩⟩:=vals2 r;refine Rp (I.ok.hd hc) λh' tk k=>⟨_,H,I.kept k,?_,q⟩;cases decide (x.cps.toList<y.cps.toList) <;> exact⟨_,rfl⟩
end
end L2
namespace Dp
open PySem PySem.Spec PyProof.Rows L2
section
variable {K:Frag}
def UQ(ds:List D)(P:D->Prop):Prop:=∃x y:Str,ds=[.str x,.str y]/\P (.str (if decide (y.cps.toList<x.cps.toList)=true then y else x))
def UR(ds:List D)(P:D->Prop):Prop:=∃x y:Str,ds=[.str x,.str y]/\P (.str (if decide (x.cps.toList<y.cps.toList)=true then y else x))
theorem NT{U M:Db->Prop}{H:Hp}{x y:Str}{vs:List V}(hp:Paired (λv d=>AtT K U M H d v) vs [.str x,.str y]):vs=[.str x,.str y]/\x.length<=sizeLine/\y.length<=sizeLine:=by
 cases hp with
 | cons r1 r2=>cases r2 with
  | cons r3 r4 =>
   cases r4;obtain⟨rfl,l1⟩:=r1.str;obtain⟨rfl,l2⟩:=r3.str;exact⟨rfl,l1,l2⟩
theorem Yb:EB K .sh Wn UQ:=by
 intro U M H ds vs P Q dom vM hp w q;obtain⟨x,y,rfl,w⟩:=w;obtain⟨e,l1,l2⟩:=NT hp;exact⟨x,y,e,q _ H (.str _) .refl ⟨rfl,by split <;> assumption⟩ w⟩
theorem Yd:EB K .sh Wp UR:=by
 intro U M H ds vs P Q dom vM hp w q;obtain⟨x,y,rfl,w⟩:=w;obtain⟨e,l1,l2⟩:=NT hp;exact⟨x,y,e,q _ H (.str _) .refl ⟨rfl,by split <;> assumption⟩ w⟩
end
end Dp
namespace L2
open PySem PySem.Spec PyProof.Rows PySem.W
section
variable {X:Cx}
end
end L2
namespace Dp
open PySem PySem.Spec PyProof.Rows L2
end Dp
namespace L2
open PySem PySem.Spec PyProof.Rows PySem.W
section
variable {X:Cx}
end
end L2
namespace Dp
open PySem PySem.Spec PyProof.Rows L2
section
variable {K:Frag}
end
end Dp
namespace Nt
open PySem PySem.Spec PyProof.Rows L2 Dp
section
variable {ss:List Slot}{n:Nat}{Pd:D->Nat->Prop}
structure ba (xs:List Str) (ks:List (List Key)) (ds:List D):Prop where
 len:ks.length=ds.length
 nd:ks.Nodup
 key:∀k∈ks,∃a b:Str,k=[.inr a,.inr b]/\a∈xs/\b∈xs/\cs a<cs b
 val:∀d∈ds,∃l:Int,d=.int l/\1<=l/\l<=1000000
end
abbrev Mx:=Nat->Nat->Option Int
inductive WI (E:Nat->Nat->Int->Prop) (m i:Nat):Nat->Int->Prop
 | nil:WI E m i i 0
 | one {j:Nat} {l:Int}:E i j l->WI E m i j l
 | snoc {k j:Nat} {d l:Int}:WI E m i k d->k<m->E k j l->WI E m i j (d+l)
section
variable {E A:Nat->Nat->Int->Prop}{n m i j a b:Nat}{d:Int}{g g0:Mx}
structure Fm (E A:Nat->Nat->Int->Prop) (n m:Nat) (g:Mx):Prop where
 snd:∀i j d,g i j=some d->A i j d
 cmp:∀i j d,i<n->j<n->WI E m i j d->∃d',g i j=some d'/\d'<=d
structure Rm (A:Nat->Nat->Int->Prop) (n m:Nat) (g0:Mx) (a b:Nat) (g:Mx):Prop where
 snd:∀i j d,g i j=some d->A i j d
 dec:∀i j d,g0 i j=some d->∃d',g i j=some d'/\d'<=d
 got:∀i j,j<n->(i<a\/(i=a/\j<b))->∀d1 d2,g0 i m=some d1->g0 m j=some d2->∃d',g i j=some d'/\d'<=d1+d2
end
def AI(N:Net)(i j:Nat)(d:Int):Prop:=∃x y,N.ps[i]?=some x/\N.ps[j]?=some y/\Wk N x y d
theorem Wk.trans{N:Net}{x y z:Str}{d1 d2:Int}(h1:Wk N x y d1)(h2:Wk N y z d2):Wk N x z (d1+d2):=by
 induction h2 with
 | nil=>rw [Int.add_zero]; exact h1
 | snoc _ e ih=>rw [← iI]; exact .snoc ih e
structure Tm (N:Net) (ts:List Ao) (g:Mx):Prop where
 snd:∀i j d,g i j=some d->AI N i j d
 dia:∀i,i<N.ps.length->∃d,g i i=some d/\d<=0
 tie:∀t∈ts,∀i j,N.ps[i]?=some t.a->N.ps[j]?=some t.b->g i j=some t.len/\g j i=some t.len
def ov:Option Int->V
 | none=>.non
 | some l=>.int l
def aY(n:Nat)(g:Mx)(i:Nat):List V:=(cF n).map λj=>ov (g i j)
structure bc (H:Hp) (d:Db) (as:List Db) (n:Nat) (g:Mx) (H':Hp):Prop where
 old:∀b o,H b=some o->H' b=some o
 new:H d=none
 top:H' d=some (.lst (as.map .ref))
 inn:∀i a,as[i]?=some a->H a=none/\a≠d/\H' a=some (.lst (aY n g i))
section
variable {H H':Hp}{d:Addr}{as:List Addr}{n:Nat}{g:Mx}
end
section
variable {K:Frag}{H H':Hp}{d:Addr}{as:List Addr}{n:Nat}{g:Mx}{σ:L2.St}{a b i j:Nat}{zi zj:Int}
end
end Nt
namespace L2
open PySem PySem.Spec PyProof.Rows PySem.W
theorem Pn:mroOf (.type "dict")=pure [.type "dict",.type "object"]:=by rw [mroOf_type]; kernel_rfl
theorem YQ:typeLookup (.type "dict") "__new__"=pure (some (.builtin "dict.__new__")):=by rw [gq,fi]; kernel_rfl
theorem dp_called:TypeCalled "dict" "dict.__new__" "dict.__init__" :=
 ⟨by decide +kernel,by decide +kernel,⟨_,_,Pn⟩,madeBy_type Pn YQ (by decide +kernel),by decide +kernel,by rw [isSubtype_type]; kernel_rfl,PySem.F.slot_dict_init⟩
theorem WC(a:Ev):checkTypeCall "dict" ⟨[a],[]⟩=pure ():=by kernel_rfl
theorem WD(a:Ev):checkBuiltinCall "dict.__new__" ⟨[.type "dict",a],[]⟩=pure ():=by kernel_rfl
theorem Mt:entryFor table "dict.__new__"=some dh.«dict.__new__»:=entryFor_of_tree (by kernel_rfl)
theorem G2:plainId "dict.__new__"=true:=by decide +kernel
theorem Fq:entryFor table "dict.update.loop"=some dh.«dict.update.loop»:=entryFor_of_tree (by kernel_rfl)
theorem Ck:plainId "dict.update.loop"=true:=by decide +kernel
section
variable {prog:Program}{w:World}{A:Around}{E:Value->Shared->Prop}{s:Shared}
theorem OY(a:Ev){Q₁:Ev->Op->Prop}(h:Q₁ (.ref s.heap.objs.size) { s with heap:=s.heap.push { cls:=.type "dict",data:=.dict #[] } }) :
  codeAny (model prog w) A (.call (.builtin "dict.__new__") ⟨[.type "dict",a],[]⟩) (wants Q₁ E) s:=by
 refine codeAny_of_tree ?_;show wpAny _ A.in1 (do checkBuiltinCall "dict.__new__" ⟨[.type "dict",a],[]⟩; again (.builtin "dict.__new__" ⟨[.type "dict",a],[]⟩)) _ _ s;refine Ch (i4 (WD a) (Sc ⟨dS G2 _,dE Mt ?_⟩));rw [cv G2 _];unfold dh.«dict.__new__»;have hsub:=dp_called.sub;have hmro:=Pn;obtain⟨hp,g,d,tk,os⟩:=s
 wp_walk
 exact h
end
section
variable {prog:Program}{w:World}{A:Around}{R:Result->Shared->Prop}{I:Addr}{fp wr:List Addr}{n:Nat}{P:Nat->Value->Prop}{St:Nat->Heap->Prop}{K:Type}[DecidableEq K]{knd:KeyKind prog w K}
end
section
variable {X:Cx}
end
end L2
namespace Dp
open PySem PySem.Spec PyProof.Rows L2
end Dp
namespace L2
open PySem PySem.Spec PyProof.Rows PySem.W
abbrev Dw(h:b9)(z TI TO:Db)(f0:Ev)(b:Bool):Prop:=h.get? z=some { cls:=.type "zip",dict:=none,data:=.fields #[f0,.bool b,.bool false,.ref TI,.ref TO],slots:=#[] }
theorem Ii:typeLookup (.type "zip") "__getattr__"=pure none:=by rw [gq,fi]; kernel_rfl
theorem Ei:entryFor table "zip.__getattribute__"=some dh.«object.__getattribute__» :=
 entryFor_alias (id' := "object.__getattribute__") (by kernel_rfl) (by decide +kernel) (by decide +kernel) (by kernel_rfl)
theorem V4:typeLookup (.type "zip") "keys"=pure none:=am_miss_of_fast (by decide +kernel)
theorem UZ(a:Db)(xs:Array Ev)(name:Str)(u:Tok)(hmiss:typeLookup (.type "zip") name=pure none)(hname:(["__module__","__name__","__qualname__","__doc__","__annotations__"]:List Str).contains name=false)(hsz:name.length+100<=sizeLine:=by size_fits) :
  Meets (dh.«object.__getattribute__» ⟨[.ref a,.str name u],[]⟩) (λA R s=>s.heap.get? a=some { cls:=.type "zip",dict:=none,data:=.fields xs,slots:=#[] }/\raisesAttr (.ref a) name A R s) :=
 Meets.of_wp λprog w A R s hs=>by
  obtain⟨hp,g,d,tk,os⟩:=s;obtain⟨hx,hs⟩:=hs;have hT:(⟨hp,g,d,tk,os⟩:Op).TypeIs (.ref a) "zip":=⟨_,hx,rfl⟩;unfold dh.«object.__getattribute__»
  repeat (any_goals (first | assumption | wp_step))
  simp only [hname,c_,if_false]
  repeat (any_goals (first | assumption | wp_step))
  exact wpAny_raiseAttrError hs.1 hs.2 (attrMsg_fits (by decide +kernel) hsz)
section
variable {prog:Program}{w:World}{A:Around}{E:Value->Shared->Prop}{s:Shared}
theorem V3{a:Db}{xs:Array Ev}{Q:Option Ev->Op->Prop}(hx:s.heap.get? a=some { cls:=.type "zip",dict:=none,data:=.fields xs,slots:=#[] })(hA:A.handled=none)
  (h:∀h' tk,(∀b o,s.heap.get? b=some o->h'.get? b=some o)->Q none { s with heap:=h',toks:=tk }):wpAny (model prog w) A (getAttr? (.ref a) "keys") Q E s:=by
 obtain⟨hp,g,d,tk,os⟩:=s;have hT:∀tk',(⟨hp,g,d,tk',os⟩:Op).TypeIs (.ref a) "zip":=λ_=>⟨_,hx,rfl⟩;have f1:=sub_AttributeError;have f3:=PySem.F.slot_zip_getattribute.lookup;have f4:=PySem.F.slot_zip_getattribute.bind (.ref a);have f5:=Ii;unfold getAttr? getAttrBy? getAttrBy
 repeat (any_goals (first | assumption | exact hT _ | ((with_reducible show wpAny _ _ (call (Value.builtin "zip.__getattribute__") _ _) _ _ _); refine call_meets PySem.F.slot_zip_getattribute (hT _) Ei (PySem.F.args_zip_getattribute_2 _ _) (UZ a xs "keys" _ V4 (by decide +kernel) (by decide +kernel)) ⟨hx,hA,λh' tk' e hx'=>?_⟩) | wp_step))
 obtain⟨t',u',he⟩:=hx'.there;show wpAny _ _ (getattributeRaised _ _ _ _ _ _ _) _ _ _;unfold getattributeRaised
 repeat (any_goals (first | assumption | wp_step))
 exact h _ _ hx'.keeps
theorem Ua{a:Db}{o:Obj}{Q:Option Obj->Op->Prop}(ho:s.heap.get? a=some o)(h:Q (some o) s):wpAny (model prog w) A (loadIfAlive a) Q E s:=by
 have h':Q (s.heap.get? a) s:=by rw [ho]; exact h
 exact λ_ _ _=>h'
theorem Qj{z TI TO a:Db}{b:Bool}{o:Obj}{Q:Bool->Op->Prop}(hz:Dw s.heap z TI TO (rawInt (a:Nat)) b)(ha:s.heap.get? a=some o)
  (hQ:∀h',Dw h' z TI TO (rawInt (a:Nat)) true->fe z s.heap h'->Q false { s with heap:=h' }):wpAny (model prog w) A (cO (.ref z)) Q E s:=by
 unfold cO;refine Ch (cT hz rfl (x:=rawInt a) rfl ?_);show wpAny _ _ (loadIfAlive ((a:Int).toNat) >>= _) _ _ _;rw [fA];refine Ch (Ua ha ?_);simp only [Option.isNone_some,c_,if_false];refine Ch (cT hz rfl (x:=.bool b) rfl ?_);cases b with
 | true =>
  rw [if_neg (show ¬((eY true != eY true)=true) from bw)];exact Sc (hQ _ hz (Heap.SameBut.refl _ _))
 | false =>
  rw [if_pos (show (eY false != eY true)=true from rfl)];refine Ch (eE hz (by simp) λh₃ he₃ hs₃=>?_);exact Sc (hQ h₃ he₃ hs₃)
theorem V5{κ1 κ2:Bool}{z TI TO i1 i2 l1 l2 a:Db}{b:Bool}{o:Obj}{k:Nat}{xs ys:Array Ev}{x y:Ev}{Q:Ev->Op->Prop}(D:Se z TI TO i1 i2 l1 l2)
  (hz:Dw s.heap z TI TO (rawInt (a:Nat)) b) (ha:s.heap.get? a=some o) (hTI:cx s.heap TI (.ref i1) (.ref i2)) (h1:ItAt κ1 s.heap i1 l1 k) (h2:ItAt κ2 s.heap i2 l2 k) (hl1:SqAt κ1 s.heap l1 xs) (hl2:SqAt κ2 s.heap l2 ys) (hx:xs[k]?=some x) (hy:ys[k]?=some y)
  (hQ:∀h',Dw h' z TI TO (rawInt (a:Nat)) true->ItAt κ1 h' i1 l1 (k+1)->ItAt κ2 h' i2 l2 (k+1)->cx h' s.heap.objs.size x y->(∀c o,c≠z->c≠i1->c≠i2->s.heap.get? c=some o->h'.get? c=some o)->Q (.ref s.heap.objs.size) { s with heap:=h' }) :
  wpAny (model prog w) A (dh.«zip.__next__» ⟨[.ref z],[]⟩) (λfin s'=>∃v,fin=.done (.ret v)/\Q v s') E s:=by
 show wpAny (model prog w) A (field (.ref z) 2 >>= _) _ _ _; refine Ch (cT hz rfl (x:=.bool false) rfl ?_)
 show wpAny (model prog w) A (field (.ref z) 3 >>= _) _ _ _; refine Ch (cT hz rfl (x:=.ref TI) rfl ?_); refine Ch (dB hTI rfl ?_)
 show wpAny (model prog w) A (cO (.ref z) >>= _) _ _ _;refine Ch (Qj hz ha λha hza hsa=>?_);simp only [c_,if_false];refine Ch ?_;simp only [hZ,fW,gz];refine Ch (Ch (cu ?_)); show wpAny (model prog w) _ (cP (.ref i1) >>= _) _ _ _
 refine Ch (C_ (h1.eb hsa.extBut D.i1z) (hl1.eb hsa.extBut D.l1z) hx λhb h1b hsb=>Sc ?_);refine Sc ?_;refine Ch (Ch (cu ?_)); show wpAny (model prog w) _ (cP (.ref i2) >>= _) _ _ _
 refine Ch (C_ ((h2.eb hsa.extBut D.i2z).eb hsb.extBut D.i12.symm) ((hl2.eb hsa.extBut D.l2z).eb hsb.extBut D.l2i1) hy λhc h2c hsc=>Sc ?_);refine Sc (Sc ?_);refine Ch (g7 ?_ (by show 2<=sizeLine; decide));have hsz:hc.objs.size=s.heap.objs.size:=by rw [hsc.1,hsb.1,hsa.1]
 have hzc:Dw hc z TI TO (rawInt (a:Nat)) true:=hsc.extBut _ _ D.i2z.symm (hsb.extBut _ _ D.i1z.symm hza)
 have hp:cx (hc.push { cls:=.type "tuple",data:=.seq #[x,y] }) s.heap.objs.size x y:=by
  show Heap.get? _ _=_;rw [← hsz];exact Uf _ rfl
 have fin:=hQ _ (FM _ hzc) ((h1b.eb hsc.extBut D.i12).mv λo e=>FM _ e) (h2c.mv λo e=>FM _ e) hp λc o c1 c3 c4 e=>FM _ (hsc.extBut _ _ c4 (hsb.extBut _ _ c3 (hsa.extBut _ _ c1 e)));refine Sc ⟨_,rfl,?_⟩;show Q (.ref hc.objs.size) _;rw [hsz];exact fin
theorem YM{κ1 κ2:Bool}{z TI TO i1 i2 l1 l2 a:Db}{b:Bool}{o:Obj}{k:Nat}{xs ys:Array Ev}{Q:Fin->Op->Prop}(hh:A.handled=none)(D:Se z TI TO i1 i2 l1 l2)
  (hz:Dw s.heap z TI TO (rawInt (a:Nat)) b) (ha:s.heap.get? a=some o) (hTI:cx s.heap TI (.ref i1) (.ref i2)) (h1:ItAt κ1 s.heap i1 l1 k) (hl1:SqAt κ1 s.heap l1 xs) (hx:xs[k]?=none)
  (hE:∀h' e,(∀c o,c≠z->c≠i1->s.heap.get? c=some o->h'.get? c=some o)->(∃o,h'.get? e=some o/\o.cls=.type "StopIteration")->E (.ref e) { s with heap:=h' }) :
  wpAny (model prog w) A (dh.«zip.__next__» ⟨[.ref z],[]⟩) Q E s:=by
 show wpAny (model prog w) A (field (.ref z) 2 >>= _) _ _ _; refine Ch (cT hz rfl (x:=.bool false) rfl ?_)
 show wpAny (model prog w) A (field (.ref z) 3 >>= _) _ _ _; refine Ch (cT hz rfl (x:=.ref TI) rfl ?_); refine Ch (dB hTI rfl ?_)
 show wpAny (model prog w) A (cO (.ref z) >>= _) _ _ _;refine Ch (Qj hz ha λha hza hsa=>?_);simp only [c_,if_false];refine Ch ?_;simp only [hZ,fW,gz];refine Ch (Ch (cu ?_)); show wpAny (model prog w) _ (cP (.ref i1) >>= _) _ _ _
 refine Ch (E_ hh (h1.eb hsa.extBut D.i1z) (hl1.eb hsa.extBut D.l1z) hx λhb e hsb he=>?_);exact hE hb e (λc o c1 c3 x=>hsb _ _ c3 (hsa.extBut _ _ c1 x)) he
theorem Mr{κ1 κ2:Bool}{z TI TO i1 i2 l1 l2 a:Db}{b:Bool}{o:Obj}{k:Nat}{xs ys:Array Ev}{x y:Ev}{Q:Option Ev->Op->Prop}(D:Se z TI TO i1 i2 l1 l2)
  (hz:Dw s.heap z TI TO (rawInt (a:Nat)) b) (ha:s.heap.get? a=some o) (hTI:cx s.heap TI (.ref i1) (.ref i2)) (h1:ItAt κ1 s.heap i1 l1 k) (h2:ItAt κ2 s.heap i2 l2 k) (hl1:SqAt κ1 s.heap l1 xs) (hl2:SqAt κ2 s.heap l2 ys) (hx:xs[k]?=some x) (hy:ys[k]?=some y)
  (hQ:∀h',Dw h' z TI TO (rawInt (a:Nat)) true->ItAt κ1 h' i1 l1 (k+1)->ItAt κ2 h' i2 l2 (k+1)->cx h' s.heap.objs.size x y->(∀c o,c≠z->c≠i1->c≠i2->s.heap.get? c=some o->h'.get? c=some o)->Q (some (.ref s.heap.objs.size)) { s with heap:=h' }) :
  wpAny (model prog w) A (pyNext (.ref z)) Q E s:=by
 have hT:s.TypeIs (.ref z) "zip":=⟨_,hz,rfl⟩;unfold pyNext
 exact Ch (gQ (cz (name:=cZ "__next__") hT eL (df eL hT gT
  (V5 D hz ha hTI h1 h2 hl1 hl2 hx hy λh' a1 a2 a3 a4 a5=>Sc (hQ h' a1 a2 a3 a4 a5)) (gI _))))
theorem OW{κ1:Bool}{z TI TO i1 i2 l1 l2 a:Db}{b:Bool}{o:Obj}{k:Nat}{xs:Array Ev}{Q:Option Ev->Op->Prop}(hh:A.handled=none)(D:Se z TI TO i1 i2 l1 l2)
  (hz:Dw s.heap z TI TO (rawInt (a:Nat)) b) (ha:s.heap.get? a=some o) (hTI:cx s.heap TI (.ref i1) (.ref i2)) (h1:ItAt κ1 s.heap i1 l1 k) (hl1:SqAt κ1 s.heap l1 xs) (hx:xs[k]?=none)
  (hQ:∀h',(∀c o,c≠z->c≠i1->s.heap.get? c=some o->h'.get? c=some o)->Q none { s with heap:=h' }):wpAny (model prog w) A (pyNext (.ref z)) Q E s:=by
 have hT:s.TypeIs (.ref z) "zip":=⟨_,hz,rfl⟩;unfold pyNext;refine Ch (gQ (cz (name:=cZ "__next__") hT eL (df eL hT gT (YM (κ2:=true) (ys:=#[]) hh D hz ha hTI h1 hl1 hx λh' e hk he=>?_) (gI _))));obtain⟨o,ho,hc⟩:=he;exact Ch (ic (T := "StopIteration") (b:=true) ⟨o,ho,hc⟩ isSubtype_stop (Sc (hQ _ hk)))
end
structure PrW (prog:cL) (w:cQ) (A:cw) (I d:Db) (n:Nat) (base:b9) (key:Nat->Db) (val:Nat->Ev) (ch:Db->Prop) (St:Nat->b9->Prop):Prop where
 new:∀b,ch b->base.get? b=none
 item:∀(i:Nat) (s:Op) (Q:Option Ev->Op->Prop) (E:Ev->Op->Prop),i<n->St i s.heap->(∀b o,base.get? b=some o->s.heap.get? b=some o)->(∃o,s.heap.get? d=some o) ->
  (∀h' tk a o c,h'.get? a=some o->o.cls=.type "tuple"->o.data=.seq #[.ref (key i),val i] c->St (i+1) h'->(∀b o,¬ch b->s.heap.get? b=some o->h'.get? b=some o)->Q (some (.ref a)) { s with heap:=h',toks:=tk })->wpAny (model prog w) A (pyNext (.ref I)) Q E s
 done:∀(s:Op) (Q:Option Ev->Op->Prop) (E:Ev->Op->Prop),St n s.heap->(∀b o,base.get? b=some o->s.heap.get? b=some o)->(∀h' tk,(∀b o,¬ch b->s.heap.get? b=some o->h'.get? b=some o)->Q none { s with heap:=h',toks:=tk })->wpAny (model prog w) A (pyNext (.ref I)) Q E s
 frame:∀i h h',St i h->fe d h h'->St i h'
 dch:¬ch d
section
variable {prog:Program}{w:World}{A:Around}{R:Result->Shared->Prop}{I d:Addr}{n:Nat}{base:Heap}{key:Nat->Addr}{val:Nat->Value}{ch:Addr->Prop}{St:Nat->Heap->Prop}
theorem HV{h h':b9}{ks:List Key}{a:Db}(x:(tupleKind (Aq prog w)).is h ks a)(k:∀b o,h.get? b=some o->h'.get? b=some o):(tupleKind (Aq prog w)).is h' ks a:=by
 obtain⟨o,its,n,h1,r⟩:=x;exact⟨o,its,n,k _ _ h1,r⟩
theorem KW{h h':b9}{d:Db}{xs:List (List Key×Db×Ev)}(x:h.DictOfH (tupleKind (Aq prog w)) d xs)(k:∀o,h.get? d=some o->h'.get? d=some o)(hk:∀y∈xs,(tupleKind (Aq prog w)).is h' y.1 y.2.1):h'.DictOfH (tupleKind (Aq prog w)) d xs:=by
 obtain⟨o,es,ep,h1,h2,h3,h4,_,h6⟩:=x;exact⟨o,es,ep,k _ h1,h2,h3,h4,hk,h6⟩
theorem UY(W:PrW prog w A.in1 I d n base key val ch St)(hu:A.units+1<cLine)(xs:List (List Key×Db×Ev))(hlen:xs.length=n)(nd:(xs.map (·.1)).Nodup)(hsz:n<=sizeLine)(hdb:base.get? d=none)
  (hxs:∀(i:Nat) y,xs[i]?=some y->y.2.1=key i/\y.2.2=val i) (hkey:∀y∈xs,(tupleKind (Aq prog w)).is base y.1 y.2.1) :
  ∀(k i:Nat) (s:Op),n - i=k->i<=n->St i s.heap->(∀b o,base.get? b=some o->s.heap.get? b=some o)->s.heap.DictOfH (tupleKind (Aq prog w)) d (xs.take i) ->
   (∀h' tk,h'.DictOfH (tupleKind (Aq prog w)) d xs->(∀b o,base.get? b=some o->h'.get? b=some o)->R (.ok (.ret .none)) { s with heap:=h',toks:=tk }) ->
   codeAny (model prog w) A (.builtin "dict.update.loop" ⟨[.ref d,.ref I,rawInt (i:Int),.none],[]⟩) R s:=by
 have old:∀{h h':b9},(∀b o,base.get? b=some o->h.get? b=some o)->(∀b o,¬ch b->h.get? b=some o->h'.get? b=some o)->∀b o,base.get? b=some o->h'.get? b=some o:=λh1 h2 b o e=>h2 b o (λz=>by rw [W.new b z] at e; cases e) (h1 b o e);intro k
 induction k with
 | zero =>
  intro i s hk hi hst hold hD hR;have hin:i=n:=by omega
  subst hin;refine dE Fq ?_;rw [cv Ck _];show wpAny _ A.in1 (pyNext (.ref I) >>= _) _ _ s;refine Ch (W.done s _ _ hst hold λh' tk hk'=>?_);show wpAny _ A.in1 (Builtin.Dict.addKeywords d [] >>= λ_=>ret cR) _ _ _;have ho:=old hold hk';rw [gL (by omega)] at hD;exact Ch (Sc (Sc (hR h' tk (KW hD (λo e=>hk' d o W.dch e) λy hy=>HV (hkey y hy) ho) ho)))
 | succ k ih =>
  intro i s hk hi hst hold hD hR;have hlt:i<n:=by omega
  refine dE Fq ?_;rw [cv Ck _];show wpAny _ A.in1 (pyNext (.ref I) >>= _) _ _ s;refine Ch (W.item i s _ _ hlt hst hold (by obtain⟨o,_,_,h,_⟩:=hD; exact⟨o,h⟩) λh' tk a o c ha hc hd hst' hk'=>?_);have hp:xs[i]?=some (xs[i]'(by omega)):=Go (by omega);have hmem:xs[i]'(by omega)∈xs:=dO _;generalize xs[i]'(by omega)=p at hp hmem;obtain⟨k1,k2⟩:=hxs i p hp;have ho:=old hold hk';have hD':=KW hD (λo e=>hk' d o W.dch e) λy hy=>HV (hkey y (fE hy)) ho;show wpAny _ A.in1 (holding [cV a] _ >>= _) _ _ _;refine Ch (cu ?_);show wpAny _ A.in1 (tryCatch (i7 (.ref a)) _ >>= _) _ _ _;refine Ch (gD ?_);unfold i7;refine Ch (eh (T := "tuple") ⟨o,ha,hc⟩ ?_);show wpAny _ A.in1 (seqItems? (.ref a) >>= _) _ _ _;refine Ch (dB ha hd (Sc ?_));show wpAny _ A.in1 (holding [cV (key i),val i] (dictSet d (.ref (key i)) (val i))) _ _ _;refine cu (wpAny_dictSet_heap (knd:=tupleKind (Aq prog w)) (k:=p.1) (xs:=xs.take i) (hsz:=by rw [dG]; omega) (em hu) (by rw [← k1]; exact HV (hkey p hmem) ho) hD' λh'' hD'' hs=>?_)
  have hni:p.1∉(xs.take i).map (·.1):=λz=>by
   have e:xs.map (·.1)=(xs.take i).map (·.1)++p.1::(xs.drop (i+1)).map (·.1):=by
    have:=jA i xs
    rw [c9 (by omega:i<xs.length)] at this;rw [Go (by omega:i<xs.length)] at hp;cases hp
    conv=>lhs; rw [← this]
    rw [cN,bm]
   rw [e,dX] at nd;exact nd.2.2 p.1 z p.1 On rfl
  have e2:xs.take (i+1)=xs.take i++[p]:=by rw [iQ,hp]; rfl
  have e3:storedH (xs.take i) p.1 (key i) (val i)=xs.take (i+1):=by
   rw [storedH_new,e2]
   ·have:p=(p.1,key i,val i):=by rw [← k1,← k2]
    rw [← this]
   ·unfold atKey
    rw [List.find?_eq_none.mpr λy hy z=>hni (by rw [← of_decide_eq_true z]; exact Tk.mpr ⟨y,hy,rfl⟩)]; rfl
  rw [e3] at hD'';refine Sc ⟨dS Ck _,?_⟩;have hi1:((i:Int)+1)=((i+1:Nat):Int):=by omega
  rw [hi1];refine ih (i+1) _ (by omega) hlt (W.frame _ _ _ hst' hs) (λb o e=>?_) hD'' λh3 tk3 hD3 hold3=>hR h3 tk3 hD3 hold3;exact(hs.2 b λz=>by rw [z,hdb] at e; cases e).trans (ho b o e)
def ZS(κ1 κ2:Bool)(z TI TO i1 i2 l1 l2 d:Db)(i:Nat)(h:b9):Prop:=cx h TI (.ref i1) (.ref i2)/\ItAt κ1 h i1 l1 i/\ItAt κ2 h i2 l2 i/\((fD h z TI TO .none/\∃a b,cx h TO a b)\/∃(a:Nat) (b:Bool) (o:Obj),Dw h z TI TO (rawInt (a:Nat)) b/\h.get? a=some o/\a≠z/\a≠TO/\a≠i1/\a≠i2/\a≠d)
theorem PrW.zip{κ1 κ2:Bool}{z TI TO i1 i2 l1 l2:Db}{ks vs:Array Ev}(hh:A.handled=none)(D:Se z TI TO i1 i2 l1 l2)(hTI:TI≠z/\TI≠TO/\TI≠i1/\TI≠i2)(hd:d≠z/\d≠TI/\d≠TO/\d≠i1/\d≠i2)(hn:∀b,b=z\/b=TO\/b=i1\/b=i2->base.get? b=none)
  (hl1:SqAt κ1 base l1 ks) (hl2:SqAt κ2 base l2 vs) (h1:ks.size=n) (hk:∀i,i<n->ks[i]?=some (.ref (key i))/\vs[i]?=some (val i)):PrW prog w A z d n base key val (λb=>b=z\/b=TO\/b=i1\/b=i2) (ZS κ1 κ2 z TI TO i1 i2 l1 l2 d) where
 new:=hn
 item:=λi s Q E hi ⟨ti,a1,a2,st⟩ hold ⟨od,hod⟩ h=>by
  have q1:SqAt κ1 s.heap l1 ks:=hl1.mv λo e=>hold _ o e;have q2:SqAt κ2 s.heap l2 vs:=hl2.mv λo e=>hold _ o e;obtain⟨e1,e2⟩:=hk i hi;have lt:∀{b:Db} {o:Obj},s.heap.get? b=some o->s.heap.objs.size≠b:=λe=>fI (XV e);obtain⟨o1,x1,_⟩:=a1.lies;obtain⟨o2,x2,_⟩:=a2.lies
  rcases st with ⟨hz,p,q,hTO⟩ | ⟨a,b,o,hz,ha,n1,n2,n3,n4,n5⟩
  ·refine Fl D hz ti hTO a1 a2 q1 q2 e1 e2 λh' b1 b2 b3 b4 b5 _ b7=>?_
   exact h h' s.toks _ _ _ b5 rfl rfl ⟨b7 _ _ hTI.1 hTI.2.1 hTI.2.2.1 hTI.2.2.2 ti,b3,b4,.inr ⟨_,false,_,b1,b5,lt hz,lt hTO,lt x1,lt x2,lt hod⟩⟩ λb o nb e=>b7 b o (λz=>nb (.inl z)) (λz=>nb (.inr (.inl z))) (λz=>nb (.inr (.inr (.inl z)))) (λz=>nb (.inr (.inr (.inr z)))) e
  ·refine Mr D hz ha ti a1 a2 q1 q2 e1 e2 λh' b1 b3 b4 b5 b7=>?_
   exact h h' s.toks _ _ _ b5 rfl rfl ⟨b7 _ _ hTI.1 hTI.2.2.1 hTI.2.2.2 ti,b3,b4,.inr ⟨a,true,o,b1,b7 _ _ n1 n3 n4 ha,n1,n2,n3,n4,n5⟩⟩ λb o nb e=>b7 b o (λz=>nb (.inl z)) (λz=>nb (.inr (.inr (.inl z)))) (λz=>nb (.inr (.inr (.inr z)))) e
 done:=λs Q E ⟨ti,a1,a2,st⟩ hold h=>by
  have q1:SqAt κ1 s.heap l1 ks:=hl1.mv λo e=>hold _ o e;have q2:SqAt κ2 s.heap l2 vs:=hl2.mv λo e=>hold _ o e;have e1:ks[n]?=none:=by rw [i6 (by omega)]
  rcases st with ⟨hz,p,q,hTO⟩ | ⟨a,b,o,hz,ha,n1,n2,n3,n4,n5⟩
  ·exact Gq hh D hz ti hTO a1 a2 q1 q2 (.inl e1) λh' b7=>h h' s.toks λb o nb e=>b7 b o (λz=>nb (.inl z)) (λz=>nb (.inr (.inl z))) (λz=>nb (.inr (.inr (.inl z)))) (λz=>nb (.inr (.inr (.inr z)))) e
  ·exact OW hh D hz ha ti a1 q1 e1 λh' b7=>h h' s.toks λb o nb e=>b7 b o (λz=>nb (.inl z)) (λz=>nb (.inr (.inr (.inl z)))) e
 frame:=λi h h' ⟨ti,a1,a2,st⟩ hs=>by
  have mv:∀b o,b≠d->h.get? b=some o->h'.get? b=some o:=λb o nb e=>(hs.2 b nb).trans e;refine⟨mv _ _ (ci hd.2.1) ti,a1.mv λo e=>mv _ o (ci hd.2.2.2.1) e,a2.mv λo e=>mv _ o (ci hd.2.2.2.2) e,?_⟩
  rcases st with ⟨hz,p,q,hTO⟩ | ⟨a,b,o,hz,ha,n1,n2,n3,n4,n5⟩
  ·exact .inl ⟨mv _ _ (ci hd.1) hz,p,q,mv _ _ (ci hd.2.2.1) hTO⟩
  ·exact .inr ⟨a,b,o,mv _ _ (ci hd.1) hz,mv _ _ n5 ha,n1,n2,n3,n4,n5⟩
 dch:=λz=>by
  rcases z with z | z | z | z
  ·exact hd.1 z
  ·exact hd.2.2.1 z
  ·exact hd.2.2.2.1 z
  ·exact hd.2.2.2.2 z
end
section
variable {prog:Program}{w:World}{A:Around}{E:Value->Shared->Prop}{s:Shared}
theorem SJ{h:b9}{d:Db}(hd:h.get? d=some { cls:=.type "dict",data:=.dict #[] }):h.DictOfH (tupleKind (Aq prog w)) d ([]:List (List Key×Db×Ev)):=⟨_,#[],0,hd,⟨rfl,rfl,rfl⟩,rfl,rfl,(λx hx=>by cases hx),cr⟩
theorem V6{κ1 κ2:Bool}{z TI TO i1 i2 l1 l2:Db}{ks vs:Array Ev}{base:b9}{n:Nat}{key:Nat->Db}{val:Nat->Ev}{Q:Ev->Op->Prop}(hh:A.handled=none)(hu:A.units+8<cLine)(D:Se z TI TO i1 i2 l1 l2)(hTI:TI≠z/\TI≠TO/\TI≠i1/\TI≠i2)
  (hz:fD s.heap z TI TO .none) (ti:cx s.heap TI (.ref i1) (.ref i2)) (to:∃a b,cx s.heap TO a b) (it1:ItAt κ1 s.heap i1 l1 0) (it2:ItAt κ2 s.heap i2 l2 0) (hn:∀b,b=z\/b=TO\/b=i1\/b=i2->base.get? b=none) (hold:∀b o,base.get? b=some o->s.heap.get? b=some o)
  (hl1:SqAt κ1 base l1 ks) (hl2:SqAt κ2 base l2 vs) (h1:ks.size=n) (hk:∀i,i<n->ks[i]?=some (.ref (key i))/\vs[i]?=some (val i))
  (xs:List (List Key×Db×Ev)) (hlen:xs.length=n) (nd:(xs.map (·.1)).Nodup) (hsz:n<=sizeLine) (hxs:∀(i:Nat) y,xs[i]?=some y->y.2.1=key i/\y.2.2=val i) (hkey:∀y∈xs,(tupleKind (Aq prog w)).is base y.1 y.2.1)
  (h:∀h' tk,h'.DictOfH (tupleKind (Aq prog w)) s.heap.objs.size xs->(∀b o,base.get? b=some o->h'.get? b=some o)->Q (.ref s.heap.objs.size) { s with heap:=h',toks:=tk }) :
  wpAny (model prog w) A (call (.type "dict") [.ref z]) Q E s:=by
 refine callType_codes (Q₁:=λobj s₁=>obj=.ref s.heap.objs.size/\s₁={ s with heap:=s.heap.push { cls:=.type "dict",data:=.dict #[] } }) dp_called (WC _) PySem.F.entry_dict_init (OY _ ⟨rfl,rfl⟩) ?_;rintro obj s₁ ⟨rfl,rfl⟩;have hd0:(s.heap.push { cls:=.type "dict",data:=.dict #[] }).get? s.heap.objs.size=some { cls:=.type "dict",data:=.dict #[] }:=Uf _ rfl;have hz':fD (s.heap.push { cls:=.type "dict",data:=.dict #[] }) z TI TO .none:=FM _ hz;have nd':∀{b:Db} {o:Obj},s.heap.get? b=some o->s.heap.objs.size≠b:=λe=>fI (XV e);refine⟨⟨_,hd0,rfl⟩,PySem.F.args_dict_init_2 _ _,?_⟩;unfold dh.«dict.__init__»;refine Ch ?_;unfold Builtin.Dict.selfAndRest;refine Ch (wpAny_notOrdered_dict ⟨_,hd0,rfl⟩ ?_);show wpAny _ _ (pure (s.heap.objs.size,[cV z])) _ _ _;refine Sc ?_;show wpAny _ _ (io "dict.__init__" s.heap.objs.size (.ref z) [] .none) _ _ _;unfold io;refine Ch (eh (T := "zip") ⟨_,hz',rfl⟩ ?_);rw [if_pos (by decide)];have hh2:A.in1.in1.handled=none:=by simp [hh]
 have hh1:A.in1.handled=none:=by simp [hh]
 refine Ch (V3 hz' hh2 λh1' tk1 hk1=>?_);show wpAny _ _ (rule _ >>= _) _ _ _;refine Ch (fk ?_);have up:∀b o,s.heap.get? b=some o->h1'.get? b=some o:=λb o e=>hk1 b o (FM _ e);refine Ch (ie (s:={ s with heap:=h1',toks:=tk1 }) (up _ _ hz) ?_);refine Sc ⟨dS Ck _,?_⟩;obtain⟨p,q,hTO⟩:=to;obtain⟨o1,x1,_⟩:=it1.lies;obtain⟨o2,x2,_⟩:=it2.lies
 have hdb:base.get? s.heap.objs.size=none:=by
  cases e:base.get? s.heap.objs.size with
  | none=>rfl
  | some o=>exact absurd (XV (hold _ _ e)) (cy _)
 refine UY (A:=A.in1) (PrW.zip (A:=A.in1.in1) hh2 D hTI ⟨nd' hz,nd' ti,nd' hTO,nd' x1,nd' x2⟩ hn hl1 hl2 h1 hk) (by simp; omega) xs hlen nd hsz hdb hxs hkey n 0 _ (Nat.sub_zero _) (bn _) ⟨up _ _ ti,it1.mv λo e=>up _ o e,it2.mv λo e=>up _ o e,.inl ⟨up _ _ hz,p,q,up _ _ hTO⟩⟩ (λb o e=>up b o (hold b o e)) (by rw [List.take_zero]; exact SJ (hk1 _ _ hd0)) λh' tk hD hk'=>?_;exact⟨rfl,h h' tk hD hk'⟩
theorem NM{H:Hp}:∀{keys:List (List Key)} {as:List Db} {ws:List V} {us:List Ev},as.length=keys.length->Vals ws us->(∀(i:Nat) x k,as[i]?=some x->keys[i]?=some k->H x=some (.tup (k.map kV))) ->
  Paired (fun(p:List Key×V) (q:List Key×Db×Ev)=>p.1=q.1/\H q.2.1=some (.tup (p.1.map kV))/\RelV p.2 q.2.2) (keys.zip ws) (keys.zip (as.zip us))
 | [],_,_,_,_,_,_=>.nil
 | k::keys,[],_,_,hl,_,_=>by cases hl
 | k::keys,a::as,[],[],hl,r,hk=>.nil
 | k::keys,a::as,w::ws,u::us,hl,r,hk=>by
  cases r with
  | cons r1 r2=>exact .cons ⟨rfl,hk 0 a k rfl rfl,r1⟩ (NM (jR hl) r2 λi x k e1 e2=>hk (i+1) x k e1 e2)
end
section
variable {X:Cx}
theorem V8{pins:List (Db×Obj)}{σ:L2.St}{H:Hp}{s:Op}{h':b9}{tk:Nat}{keys:List (List Key)}{as:List Db}{ws:List V}{us:List Ev}{l:Db}(I:Inv X pins σ H s)(hl:s.heap.objs.size<=l)(hb:(l==sysModules)=false)(kp:∀b o,s.heap.get? b=some o->h'.get? b=some o)(la:as.length=keys.length)(lw:ws.length=keys.length)(hz:keys.length<=sizeLine)(r:Vals ws us)(hk:∀(i:Nat) x k,as[i]?=some x->keys[i]?=some k->H x=some (.tup (k.map kV)))
  (hD:h'.DictOfH (tupleKind (Aq X.prog X.w)) l (keys.zip (as.zip us))):Inv X pins σ (BC H l (.dT (keys.zip ws))) { s with heap:=h',toks:=tk }:=by
 obtain⟨o,es,ep,h1,h2,h3,h4,_,h6⟩:=hD;refine I.laid (t':=tk) (o:=.dT (keys.zip ws)) kp hl ⟨by rw [eM]; omega,hb,_,NM la r λi x k e1 e2=>?_,o,es,ep,h1,h2,h3,h4,h6⟩
 have:=hk i x k e1 e2
 rw [AU (Al this (I.hok.fresh hl))];exact this
def Xb(K:Frag)(ta:TA):TE:=λσ H Q=>ta σ H λvs H1=>∃κ1 κ2 a b,∃(as:List Db) (ws:List V) (keys:List (List Key)),vs=[.ref a,.ref b]/\SqK κ1 K H1 a (as.map .ref)/\SqK κ2 K H1 b ws/\as.length=keys.length/\ws.length=keys.length/\keys.length<=sizeLine/\(∀(i:Nat) x k,as[i]?=some x->keys[i]?=some k->H1 x=some (.tup (k.map kV)))/\keys.Nodup/\∀l,H1 l=none->Q (.ref l) (BC H1 l (.dT (keys.zip ws)))
theorem Sg{α β γ:Type}{xs:List α}{ys:List β}{zs:List γ}(h1:ys.length=xs.length)(h2:zs.length=xs.length):(xs.zip (ys.zip zs)).map (·.1)=xs:=by
 rw [List.map_fst_zip];rw [eM]; omega
theorem Pz{keys:List (List Key)}{as:List Db}{us:List Ev}{i:Nat}{y:List Key×Db×Ev}(e:(keys.zip (as.zip us))[i]?=some y):keys[i]?=some y.1/\as[i]?=some y.2.1/\us[i]?=some y.2.2:=by
 obtain⟨y1,y2,y3⟩:=y;rw [eJ,eJ] at e;exact⟨e.1,e.2.1,e.2.2⟩
theorem Tf{e1 e2:cC}{ta:TA}{p1 q1 p2 q2:Pos}(hc:X.calm=true){k0:Nat}(hr:Room k0 X.A)(ha:PA X [e1,e2] ta)(hg1:Gl X "dict")(hm1:X.mg "dict"=none)(hg2:Gl X "zip")(hm2:X.mg "zip"=none)(h1:starEach [f8 (.Name "zip" p2) [e1,e2] [] q2] X.env=[(false,eval (f8 (.Name "zip" p2) [e1,e2] [] q2) X.env)]:=by rfl)
  (hs:starEach [e1,e2] X.env=[(false,eval e1 X.env),(false,eval e2 X.env)]:=by rfl) (hs2:starEach [e2] X.env=[(false,eval e2 X.env)]:=by rfl):PE X (.Call (.Name "dict" p1) [.Call (.Name "zip" p2) [e1,e2] [] q2] [] q1) (Xb X.K ta):=by
 intro pins s σ H Q I h;refine da (Cw I hg1 hm1 boot_dict ?_);refine cY ?_ h1 rfl;rw [h1];refine eC ?_;refine Call_ (Cw I hg2 hm2 boot_zip (cY (thn (ha q2 pins s σ H _ I h) λus0 s1 ⟨vs,H1,I1,r1,q1⟩=>?_) (by rw [hs,hs2]) (by rw [hs2]; rfl)));obtain⟨κ1,κ2,a,b,as,ws,keys,e,g1,g2,la,lw,hz,hk,nd,q⟩:=q1;subst e;obtain⟨u,v,rfl,ru,rv⟩:=vals2 r1;cases ru;cases rv;obtain⟨ks,r1',q1'⟩:=g1.at I1;obtain⟨us,r2',q2'⟩:=g2.at I1;have l1:=r1'.length;have l2:=r2'.length;rw [No] at l1;have lta:a<s1.heap.objs.size:=by obtain⟨o,e⟩:=q1'.lies; exact XV e
 have ltb:b<s1.heap.objs.size:=by obtain⟨o,e⟩:=q2'.lies; exact XV e
 have none_ge:∀c,s1.heap.objs.size<=c->s1.heap.get? c=none:=λc hb=>by
  cases e:s1.heap.get? c with
  | none=>rfl
  | some o=>exact absurd (cJ (XV e) hb) (cy _)
 refine G7 q1' q2' λh' hz' hTI hTO hi1 hi2 hkp=>e_ ?_;have D:=Sh s1.heap.objs.size a b lta ltb;have hun:=hr.un;have hsz:s1.heap.objs.size<=h'.objs.size:=gf (fS (ii _ 4) (XV hz'));refine V6 (s:={ s1 with heap:=h' }) (base:=s1.heap) (n:=keys.length) (ks:=ks.toArray) (vs:=us.toArray) (key:=λi=>as.getD i 0) (val:=λi=>us.getD i .none) (I1.ok.hd hc) (by omega) D (by refine⟨?_,?_,?_,?_⟩ <;> (show (_:Nat)≠(_:Nat); omega)) hz' hTI ⟨_,_,hTO⟩ hi1 hi2 (λc hc=>none_ge c ?_) hkp q1' q2' (by rw [UF]; omega) (λi hi=>?_) (keys.zip (as.zip us)) (by rw [eM,eM]; omega) (by rw [Sg la (by omega)]; exact nd) hz (λi y e=>?_) (λy hy=>?_) λh2 tk hD hk2=>?_
 ·rcases hc with rfl | rfl | rfl | rfl <;> (show (_:Nat)<=(_:Nat); omega)
 ·obtain⟨u,f1,f2⟩:=r1'.get (i:=i) (x:=.ref (as.getD i 0)) (by rw [bv,Go (by omega),bp,Go (by omega)]; rfl)
  cases (show u=cV (as.getD i 0) from f2);refine⟨by simpa using f1,?_⟩;rw [List.getElem?_toArray,Go (by omega),bp,Go (by omega)]; rfl
 ·obtain⟨_,e2,e3⟩:=Pz e
  refine⟨?_,?_⟩
  ·show _=as.getD i 0; rw [bp,e2]; rfl
  ·show _=us.getD i .none; rw [bp,e3]; rfl
 ·obtain⟨i,hi⟩:=eF.mp hy
  obtain⟨e1,e2,e3⟩:=Pz hi;exact GK I1.hok (hk i _ _ e2 e1)
 ·refine⟨.ref h'.objs.size,_,V8 (s:=s1) (l:=h'.objs.size) I1 hsz (beq_eq_false_iff_ne.mpr (ci (b8 (cJ I1.big hsz)))) hk2 la lw hz r2' hk hD,rfl,q _ (I1.hok.fresh hsz)⟩
end
end L2
namespace Dp
open PySem PySem.Spec PyProof.Rows L2
section
variable {K:Frag}
def EN:List D->Option (List (List Key))
 | []=>some []
 | d::ds=>match keysOf d,EN ds with
  | some k,some ks=>some (k::ks)
  | _,_=>none
theorem R0{M:Db->Prop}{H:Hp}{d:D}{v:V}{k:List Key}(e:keysOf d=some k)(h:At K M H d v):∃b,v=.ref b/\H b=some (.tup (k.map kV)):=FT (U:=λ_=>False) e (h.tp λ_ z=>z.elim)
theorem J9{M:Db->Prop}{H:Hp}:∀{ds:List D} {vs:List V} {ks:List (List Key)},EN ds=some ks->Ats K M H ds vs->∃as:List Db,vs=as.map .ref/\as.length=ks.length/\∀(i:Nat) x k,as[i]?=some x->ks[i]?=some k->H x=some (.tup (k.map kV))
 | [],vs,ks,e,h=>by
  cases e;exact⟨[],h,rfl,λi x k e=>by simp at e⟩
 | d::ds,vs,ks,e,h=>by
  obtain⟨v,r,rfl,h1,h2⟩:=h;unfold EN at e
  split at e
  ·rename_i k ks' c1 c2
   cases e;obtain⟨as,rfl,l,ha⟩:=J9 c2 h2;obtain⟨b,rfl,hb⟩:=R0 c1 h1;refine⟨b::as,rfl,by rw [ZB,ZB,l],λi x k' f1 f2=>?_⟩;cases i with
   | zero=>cases f1; cases f2; exact hb
   | succ i=>exact ha i x k' f1 f2
  ·cases e
theorem WE{M:Db->Prop}{H:Hp}{l:Db}{ks:List (List Key)}{ds:List D}{vs:List V}(hn:H l=none)(hl:ks.length=ds.length)(hs:Ats K M H ds vs):∃a,V.ref l=.ref a/\H a=none/\Tops K (λb=>M b\/b=a) (BC H l (.dT (ks.zip vs))) a (.dit ks ds):=by
 refine⟨l,rfl,hn,vs,Ai,hl,hs.pres ?_⟩;exact⟨λb o eb nb=>by rw [AU (λz=>by rw [z,hn] at eb; cases eb)]; exact eb,λb z=>z.elim .inl λz=>.inr (by rw [z]; exact hn),λb vs eb=>by rw [AU (λz=>by rw [z,hn] at eb; cases eb)]; exact eb⟩
end
section
variable {X:Cx}{e1 e2:Expr}{ws:Ee}{p1 q1 p2 q2:Pos}
def Sr(ws:Ee):DW:=λn ρ P=>ws n ρ λds n1=>∃d e xs ys ks,ds=[d,e]/\Em d=some xs/\Em e=some ys/\EN xs=some ks/\ks.length=ys.length/\ks.length<=sizeLine/\ks.Nodup/\P (.dit ks ys) n1
theorem Ui(hc:X.calm=true){k0:Nat}(hr:Room k0 X.A)(ha:U_ X [e1,e2] ws)(hg1:Gl X "dict")(hm1:X.mg "dict"=none)(hg2:Gl X "zip")(hm2:X.mg "zip"=none)(h1:starEach [f8 (.Name "zip" p2) [e1,e2] [] q2] X.env=[(false,eval (f8 (.Name "zip" p2) [e1,e2] [] q2) X.env)]:=by rfl)
  (hs:starEach [e1,e2] X.env=[(false,eval e1 X.env),(false,eval e2 X.env)]:=by rfl) (hs2:starEach [e2] X.env=[(false,eval e2 X.env)]:=by rfl):DE X (.Call (.Name "dict" p1) [.Call (.Name "zip" p2) [e1,e2] [] q2] [] q1) .fr (Sr ws):=by
 obtain⟨t,a1,a2⟩:=ha;refine⟨_,Tf hc hr a1 hg1 hm1 hg2 hm2 h1 hs hs2,λC M H n ρ σ P Q R w q=>?_⟩;refine a2 C M H n ρ σ _ _ R w λvs H1 ds n1 ee f1 r1 p=>?_;obtain⟨d,e,xs,ys,ks,rfl,hd,he,hk,hl,hz,nd,p⟩:=p;cases r1 with
 | cons r rr =>
  cases rr with
  | cons r' rr =>
   cases rr;have R1:=R.step ee f1;obtain⟨κ1,a,us,rfl,g1,s1⟩:=HZ (U:=C.U) r hd R.uV R1.vM;obtain⟨κ2,b,us',rfl,g2,s2⟩:=HZ (U:=C.U) r' he R.uV R1.vM;obtain⟨as,rfl,la,hka⟩:=J9 hk g1;have l2:=g2.length;refine⟨κ1,κ2,a,b,as,us',ks,rfl,s1 M H1 (Pres.refl _ _) (Ext.refl _ _),s2 M H1 (Pres.refl _ _) (Ext.refl _ _),la,by omega,hz,hka,nd,λl hn=>?_⟩;have g:Grow H1 (BC H1 l (.dT (ks.zip us'))):=Ay hn;exact q _ _ (.dit ks ys) n1 (ee.trans g.ext) (f1.grow g) (VR.back ee (κ:=.fr) (WE hn hl g2)) p
end
end Dp
namespace L2
open PySem PySem.Spec PyProof.Rows
section
variable {X:Cx}
def Wq:V->List V->Hp->VK->Prop:=λx vs H Q=>∃l b xs zs,x=.ref l/\vs=[.ref b]/\H l=some (.lst xs)/\H b=some (.tup zs)/\xs.length+zs.length<=sizeLine/\Q .non (BC H l (.lst (xs++zs)))
theorem Vn:bO X "list.extend" Wq:=by
 intro pins s σ H x vs v us Q I rx rv h;obtain⟨l,b,xs,zs,rfl,rfl,hH,hB,hz,q⟩:=h;cases rx;obtain⟨u,rfl,ru⟩:=rv.one;cases ru;obtain⟨z,its,n,r,hl,e⟩:=I.lstM hH;obtain⟨z2,its2,r2,⟨⟨cls,dt,data,sl⟩,e2,c1,n2,c2,c3,c4⟩⟩:=(show ObjOk X.prog X.w H s.heap b (.tup zs) from I.hok b _ hB);simp only at c1 c2 c3 c4;subst c1 c2 c3 c4;have hl2:=r2.length;have hsz:its.toArray.size+its2.toArray.size<=sizeLine:=by rw [UF,UF]; omega
 have hlong:¬(!its.toArray.isEmpty&&fu (its.toArray.size+its2.toArray.size))=true:=by
  rw [Tv hsz,Bool.and_false];exact bw
 refine call_meets F.slot_list_extend ⟨_,e,rfl⟩ F.entry_list_extend (F.args_list_extend_2 _ _)
  (AutoSeq1.list_extend_list_tuple_0 l its.toArray n b its2.toArray n2 hlong (by rw [UF]; omega) (by omega)) ⟨e,e2,?_⟩
 refine⟨.non,_,I.lset (its':=its++its2) hH e (by simp) (r.append r2) ?_,rfl,q⟩;rw [bi];exact hz
end
end L2
namespace Dp
open PySem PySem.Spec PyProof.Rows L2
def W6(d:D)(ds:List D)(P:D->D->Prop):Prop:=∃xs ys,d=.lst xs/\ds=[.tup ys]/\xs.length+ys.length<=sizeLine/\P (.lst (xs++ys)) .non
theorem Yf{K:Frag}:WV K Wq W6:=by
 intro M H a d ds vs P Q m t hv w q;obtain⟨xs,ys,rfl,rfl,hl,w⟩:=w;obtain⟨us,h1,h2⟩:=t;obtain⟨u,r,rfl,hu,hr⟩:=hv;cases (show r=[] from hr);obtain⟨b,zs,rfl,hb,hz⟩:=hu;refine⟨a,b,us,zs,rfl,rfl,h1,hb,by rw [h2.length,hz.length]; exact hl,q _ (.lst (xs++ys)) .non _ ⟨us++zs,Ai,?_⟩ rfl w⟩;exact(h2.append hz).pres (EK m h1)
section
variable {X:Cx}{κ:Kd}{pos:Pos}
end
end Dp
namespace Nt
open PySem PySem.Spec PyProof.Rows L2 Dp
inductive Cn (K:List Ao) (x:Str):Str->Prop
 | refl:Cn K x x
 | step {y z:Str}:Cn K x y->(∃t∈K,(t.a=y/\t.b=z)\/(t.b=y/\t.a=z))->Cn K x z
section
variable {ss:List Slot}{n:Nat}{Pd:D->Nat->Prop}
end
section
variable {ss:List Slot}{n:Nat}{Pd:D->Nat->Prop}
structure bb (N:Net) (ks:List Key) (ds:List D) (F:Str->Option Str):Prop where
 m:Dmap ks ds D.str F
 i:∀x,F x≠none->x∈N.ps
end
end Nt
namespace L2
open PySem PySem.Spec PyProof.Rows
section
variable {X:Cx}{e1 tg:Expr}{p pos:Pos}{te:TE}
end
end L2
namespace Dp
open PySem PySem.Spec PyProof.Rows L2
section
variable {X:Cx}{e1 tg:Expr}{p pos:Pos}{κ:Kd}{wa:DW}
end
end Dp
namespace Nt
open PySem PySem.Spec PyProof.Rows L2 Dp
section
variable {ss:List Slot}{n:Nat}{Pd:D->Nat->Prop}
end
def tj(t:Ao)(x y:Str):Prop:=(t.a=x/\t.b=y)\/(t.b=x/\t.a=y)
inductive Us (K:List Ao) (x:Str):Str->Nat->Prop
 | nil:Us K x x 0
 | snoc {y z:Str} {n:Nat} {t:Ao}:Us K x y n->t∈K->tj t y z->Us K x z (n+1)
def firm(N:Net)(t b:Int)(L:List Ao):Prop:=∀pre z post,L=pre++z::post->¬EX (sub N pre) t b z
structure Kept (N:Net) (t b:Int) (L:List Ao):Prop where
 ok:okN N
 firm:firm N t b L
 ins:∀u∈L,u∈N.ts
 up:L.Pairwise λu v=>u.len<=v.len
 b1:1<=b
end Nt
namespace L2
open PySem PySem.Spec PyProof.Rows PySem.W
section
variable {prog:Program}{w:World}{A:Around}{E:Value->Shared->Prop}{I:Addr}{fp wr:List Addr}{N:Nat}{P:Nat->Value->Prop}{St:Nat->Heap->Prop}
end
section
variable {X:Cx}{pos:Pos}
end
end L2
namespace Dp
open PySem PySem.Spec PyProof.Rows L2
section
variable {X:Cx}{es:List Expr}{pos:Pos}
end
section
variable {X:Cx}{κ κe:Kd}{tg tg2 iter e:Expr}{sc:Scope}{pos cp p apos cpos:Pos}{x:Str}{src:Ee}{b:BW}{we:DW}{i f:Nat}
end
end Dp
namespace Nt
open PySem PySem.Spec PyProof.Rows L2 Dp
theorem XY{N:Net}(ok:N.Ok){x y:Str}{l:Int}(he:Ed N x y l):∃t∈N.ts,t.len=l/\((t.a=x/\t.b=y)\/(t.b=x/\t.a=y))/\(if decide (cs y<cs x)=true then y else x)=t.a/\(if decide (cs x<cs y)=true then y else x)=t.b:=by
 obtain⟨t,ht,tl,h2⟩:=he.tie ok;have lt:=(ok.tin t ht).2.2.1;refine⟨t,ht,tl,h2,?_⟩
 rcases h2 with ⟨rfl,rfl⟩ | ⟨rfl,rfl⟩
 ·have:¬cs t.b<cs t.a:=λz=>ce _ (ft lt z)
  exact⟨by rw [decide_eq_false this,if_neg (by decide)],by rw [decide_eq_true lt,if_pos rfl]⟩
 ·have:¬cs t.b<cs t.a:=λz=>ce _ (ft lt z)
  exact⟨by rw [decide_eq_true lt,if_pos rfl],by rw [decide_eq_false this,if_neg (by decide)]⟩
theorem UX{M:Net}{t:Ao}{x y:Str}(ht:t∈M.ts)(h:(t.a=x/\t.b=y)\/(t.b=x/\t.a=y)):Ed M x y t.len:=by
 rcases h with ⟨rfl,rfl⟩ | ⟨rfl,rfl⟩
 ·exact(G0 ht).1
 ·exact(G0 ht).2
section
variable {ss:List Slot}{n:Nat}{Pd:D->Nat->Prop}
end
def BS(w:List Str):D:=.tup (w.map .str)
def Ds(t:Ao):List Key:=[.inr t.a,.inr t.b,.inl t.len]
def Ct(N:Net):List Str->List Ao->Prop
 | x::y::r,us=>∃t us',us=t::us'/\t∈N.ts/\((t.a=x/\t.b=y)\/(t.b=x/\t.a=y))/\Ct N (y::r) us'
 | [_],us=>us=[]
 | [],_=>False
abbrev Dx:=List (Ao×List Str)
def Mv(T:Dx):D:=.dit (T.map λp=>Ds p.1) (T.map λp=>BS p.2)
def Ba:Dx->Ao->Option (List Str)
 | [],_=>none
 | p::T,t=>if p.1=t then some p.2 else Ba T t
def CF(T:Dx)(t:Ao)(x:Str):List Str:=if x=t.a then (Ba T t).getD [t.a,t.b] else ((Ba T t).getD [t.a,t.b]).reverse
def BK(T:Dx):List Str->List Ao->List Str
 | x::w,t::us=>(CF T t x).drop 1++BK T w us
 | _,_=>[]
def HL(N:Net)(ts os:List Ao):Prop:=os.Perm (N.ts.filter λt=>decide (t∉ts))/\Cg os
def U4(N1:Net)(T1 T2:Dx)(t:Ao)(r:List Str):Prop:=Ba T2 t=some r\/(Ba T2 t=none/\∃x w us,Ba T1 t=some (x::w)/\Ct N1 (x::w) us/\r=x::BK T2 (x::w) us)
def papOkK(k:Nat)(N1:Net)(T:Dx):Prop:=∀p∈T,∃r us,p.2=p.1.a::r/\Ct N1 p.2 us/\p.2.length<=k/\∀x∈p.2,x∈N1.ps
abbrev Ti:=papOkK 500
theorem papOkK.up{k:Nat}(hk:k<=500){N1:Net}{T:Dx}(h:papOkK k N1 T):Ti N1 T:=λp hp=>by
 obtain⟨r,us,h1,h2,h3,h4⟩:=h p hp;exact⟨r,us,h1,h2,cG h3 hk,h4⟩
structure Z6 (N:Net) (ts1 ts2:List Ao) (T1 T2:Dx):Prop where
 ok:N.Ok
 lp:N.ps.length<=24
 lt:N.ts.length<60
 s1:ts1.Sublist N.ts
 s2:ts2.Sublist ts1
 o1:HL N ts1 (T1.map (·.1))
 o2:HL ⟨N.ps,ts1⟩ ts2 (T2.map (·.1))
 p1:Ti ⟨N.ps,ts1⟩ T1
 p2:Ti ⟨N.ps,ts2⟩ T2
def JF:W2:=λss n P=>∃(N:Net) (w:List Str) (us:List Ao),ss=[.sh (enc N),.sh (BS w)]/\N.Ok/\N.ps.length<=1000/\N.ts.length<=1000/\Ct N w us/\w.length<=500/\(∀x∈w,x∈N.ps)/\P (.lst (us.map Aj)) n
def U1:W2:=λss n P=>∃(N:Net) (ts:List Ao) (T:Dx),ss=[.sh (enc N),.sh (enc ⟨N.ps,ts⟩),.sh (.tup (T.map λp=>BS p.2))]/\N.Ok/\N.ts.length<64/\(∀t∈ts,t∈N.ts)/\HL N ts (T.map (·.1))/\P (Mv T) n
def NH:W2:=λss n P=>∃(N:Net) (x:Str) (w:List Str) (us:List Ao) (T:Dx),ss=[.sh (enc N),.sh (BS (x::w)),.sh (Mv T)]/\N.Ok/\N.ps.length<=1000/\N.ts.length<=1000/\Ct N (x::w) us/\w.length<=499/\(∀y∈x::w,y∈N.ps)/\(∀p∈T,p.2.length<=500)/\P (BS (x::BK T (x::w) us)) n
def Ci:W2:=λss n P=>∃(N:Net) (ts1 ts2:List Ao) (T1 T2:Dx),ss=[.sh (enc N),.sh (enc ⟨N.ps,ts1⟩),.sh (enc ⟨N.ps,ts2⟩),.sh (.tup (T1.map λp=>BS p.2)),.sh (.tup (T2.map λp=>BS p.2))]/\Z6 N ts1 ts2 T1 T2/\∀os:List Ao,HL N ts2 os->∃rs:List (List Str),rs.length=os.length/\(∀(i:Nat) t r,os[i]?=some t->rs[i]?=some r->U4 ⟨N.ps,ts1⟩ T1 T2 t r)/\P (.tup (rs.map BS)) n
def Fu:Af:=(AZ (Ax 2 (AV Kt (AC (AG (AB 0)) AW)))
 (Av (Bl [some 2,none,none] (Q9 (AF (AB 1) (AF (NQ Eh (AB 1) (B8 (wC (D.int 1))) Br) Ab))) (DU 2 (An (Aa 1) (An (Aa 2) B0))) CI (B7 (AF (DR UQ (AF (AB 1) (AF (AB 2) Ab))) (AF (DR UR (AF (AB 1) (AF (AB 2) Ab))) (AF (AT Bm (AT Bm (AB 0) (AB 1)) (AB 2)) Ab)))))))
def EZ:Af:=(Av (Sr (AF (AV IX (AC (AG (AB 0)) (AC (AG (AB 1)) AW))) (AF (AB 2) Ab))))
def Fs:Af:=(AZ (DV 3 (Ek (AF (AT Aw (AB 1) (wC (D.int 0))) Ab)))
 (AZ (Dy (Sq (AV JF (AC (AG (AB 0)) (AC (AG (AB 1)) AW)))) (DU 2 (An (Aa 4) (An (Aa 5) B0))) (AZ (Ax 6 (WZ (AB 2) (AB 5) (NQ Eh (AB 5) Br (B8 (wC (D.int 2))))))
 (AZ (BP (AY (AT (Ig true) (AT Aw (AB 1) (AB 4)) (AT Aw (AB 5) (wC (D.int 0))))) (Ax 6 (Yw (AB 6) (Q_ (wC (D.int 1))))) A9)
 (Oy 3 "list" W6 (AF (NQ Eh (AB 6) (B8 (wC (D.int 1))) Br) Ab)))))
 (Av (DR B_ (AF (BB 3) Ab)))))
def HA:Af:=(AZ (Ax 5 (AV U1 (AC (AG (AB 0)) (AC (AG (AB 1)) (AC (AG (AB 3)) AW)))))
 (AZ (Ax 6 (AV U1 (AC (AG (AB 1)) (AC (AG (AB 2)) (AC (AG (AB 4)) AW)))))
 (AZ (DV 7 (Ek Ab))
 (AZ (Dy (BO (AV IX (AC (AG (AB 0)) (AC (AG (AB 2)) AW)))) (Aa 8) (Oy 7 "list" Hv (AF (Yr (AY (AT (Zi false) (AB 8) (AB 6))) (AT Qe (AB 6) (AB 8)) (AV NH (AC (AG (AB 1)) (AC (AG (AT Qe (AB 5) (AB 8))) (AC (AG (AB 6)) AW))))) Ab)))
 (Av (DR B_ (AF (BB 7) Ab)))))))
theorem ON{s t:Ao}(h:Ds s=Ds t):s=t:=by
 obtain⟨a,b,l⟩:=s;obtain⟨a',b',l'⟩:=t;have h:([.inr a,.inr b,.inl l]:List Key)=[.inr a',.inr b',.inl l']:=h;simp only [iu,jH,jG,and_true] at h;obtain⟨rfl,rfl,rfl⟩:=h;rfl
theorem Gs(T:Dx)(t:Ao):Cz (T.map λp=>Ds p.1) (T.map λp=>BS p.2) (Ds t)=(Ba T t).map BS:=by
 induction T with
 | nil=>rfl
 | cons p T ih =>
  show (if Ds p.1=Ds t then some (BS p.2) else Cz (T.map λp=>Ds p.1) (T.map λp=>BS p.2) (Ds t))=_;unfold Ba
  by_cases e:p.1=t
  ·rw [if_pos (by rw [e]),if_pos e]; rfl
  ·rw [if_neg (λz=>e (ON z)),if_neg e,ih]
theorem Ph(t:Ao):keysOf (Aj t)=some (Ds t):=rfl
theorem CT{T:Dx}{t:Ao}{w:List Str}(h:Ba T t=some w):(t,w)∈T:=by
 induction T with
 | nil=>cases h
 | cons p T ih =>
  unfold Ba at h
  split at h
  ·rename_i e
   cases h;rw [← e];exact On
  ·exact TM _ (ih h)
theorem J4{T:Dx}{t:Ao}(h:t∈T.map (·.1)):∃w,Ba T t=some w:=by
 induction T with
 | nil=>cases h
 | cons p T ih =>
  unfold Ba
  by_cases e:p.1=t
  ·rw [if_pos e]; exact⟨_,rfl⟩
  ·rw [if_neg e]
   rcases TW.mp h with h | h
   ·exact absurd h.symm e
   ·exact ih h
theorem J5{T:Dx}{t:Ao}(h:Ba T t=none):t∉T.map (·.1):=λz=>by
 obtain⟨w,e⟩:=J4 z;rw [h] at e;cases e
theorem P7{N:Net}(ok:N.Ok){s t:Ao}(hs:s∈N.ts)(ht:t∈N.ts)(ea:s.a=t.a)(eb:s.b=t.b):s=t:=by
 have key:∀ts:List Ao,ts.Pairwise Bk->s∈ts->t∈ts->s=t:=by
  intro ts hp h1 h2
  induction hp with
  | nil=>cases h1
  | @cons u ts hu _ ih =>
   have no:∀v w:Ao,Bk v w->v.a=w.a->v.b=w.b->False:=λv w h e1 e2=>by
    rcases h with h | ⟨_,h⟩
    ·rw [e1] at h; exact ce _ h
    ·rw [e2] at h; exact ce _ h
   rcases TW.mp h1 with e1 | k1
   ·rcases TW.mp h2 with e2 | k2
    ·exact e1.trans e2.symm
    ·exact(no _ _ (hu t k2) (by rw [← e1]; exact ea) (by rw [← e1]; exact eb)).elim
   ·rcases TW.mp h2 with e2 | k2
    ·exact(no _ _ (hu s k1) (by rw [← e2]; exact ea.symm) (by rw [← e2]; exact eb.symm)).elim
    ·exact ih k1 k2
 exact key N.ts ok.trise hs ht
theorem OV{N:Net}(ok:N.Ok){s t:Ao}{x y:Str}(hs:s∈N.ts)(ht:t∈N.ts)(h1:(s.a=x/\s.b=y)\/(s.b=x/\s.a=y))(h2:(t.a=x/\t.b=y)\/(t.b=x/\t.a=y)):s=t:=by
 have l1:=(ok.tin s hs).2.2.1;have l2:=(ok.tin t ht).2.2.1
 rcases h1 with ⟨a1,b1⟩ | ⟨a1,b1⟩ <;> rcases h2 with ⟨a2,b2⟩ | ⟨a2,b2⟩
 ·exact P7 ok hs ht (a1.trans a2.symm) (b1.trans b2.symm)
 ·rw [a1,b1] at l1; rw [a2,b2] at l2; exact absurd l1 (List.lt_asymm l2)
 ·rw [a1,b1] at l1; rw [a2,b2] at l2; exact absurd l1 (List.lt_asymm l2)
 ·exact P7 ok hs ht (b1.trans b2.symm) (a1.trans a2.symm)
theorem PQ{N:Net}:∀{w:List Str} {us:List Ao},Ct N w us->w.length=us.length+1
 | [],_,h=>h.elim
 | [_],_,h=>by rw [show _=[] from h]; rfl
 | x::y::r,us,h=>by
  obtain⟨t,us',rfl,_,_,h⟩:=h
  have:=PQ h
  simp only [ZB] at this ⊢;omega
theorem W3{N:Net}:∀{w:List Str} {us:List Ao} {i:Nat} {t:Ao},Ct N w us->us[i]?=some t->∃x y,w[i]?=some x/\w[i+1]?=some y/\t∈N.ts/\((t.a=x/\t.b=y)\/(t.b=x/\t.a=y))
 | [],_,_,_,h,_=>h.elim
 | [_],_,_,_,h,e=>by rw [show _=[] from h] at e; simp at e
 | x::y::r,us,i,t,h,e=>by
  obtain⟨s,us',rfl,hs,hx,h⟩:=h;cases i with
  | zero=>cases e; exact⟨x,y,rfl,rfl,hs,hx⟩
  | succ i =>
   obtain⟨x',y',h1,h2,h3⟩:=W3 h (show us'[i]?=some t from e);exact⟨x',y',h1,h2,h3⟩
theorem JT(T:Dx):∀{w:List Str} {us:List Ao} {i:Nat} {x:Str} {t:Ao},us[i]?=some t->w[i]?=some x->BK T w (us.take (i+1))=BK T w (us.take i)++(CF T t x).drop 1
 | [],_,_,_,_,_,h=>by simp at h
 | _::_,[],_,_,_,h,_=>by simp at h
 | z::w,s::us,0,x,t,h1,h2=>by
  cases h1;cases h2;show (CF T s z).drop 1++BK T w (us.take 0)=_;rw [List.take_zero];show (CF T s z).drop 1++BK T w []=[]++(CF T s z).drop 1
  have:BK T w []=[]:=by cases w <;> rfl
  rw [this,cH,cK]
 | z::w,s::us,i+1,x,t,h1,h2=>by
  have ih:=JT T (w:=w) (us:=us) (i:=i) h1 h2;show (CF T s z).drop 1++BK T w (us.take (i+1))=((CF T s z).drop 1++BK T w (us.take i))++_;rw [ih,cb]
theorem Nx{k:Nat}(hk:2<=k){T:Dx}(h:∀p∈T,p.2.length<=k)(t:Ao)(x:Str):(CF T t x).length<=k:=by
 have:((Ba T t).getD [t.a,t.b]).length<=k:=by
  cases e:Ba T t with
  | none=>exact hk
  | some w=>exact h _ (CT e)
 unfold CF
 split
 ·exact this
 ·rw [eU]; exact this
theorem HW{k:Nat}(hk:2<=k){T:Dx}(h:∀p∈T,p.2.length<=k):∀(w:List Str) (us:List Ao),(BK T w us).length<=k*us.length
 | [],us=>by show 0<=_; exact bn _
 | _::_,[]=>bn _
 | x::w,t::us=>by
  have h1:=HW hk h w us;have h2:=Nx hk h t x;show ((CF T t x).drop 1++BK T w us).length<=k*(us.length+1);rw [Nat.mul_succ,bi,de];omega
section
variable {ss:List Slot}{n:Nat}{Pd:D->Nat->Prop}
theorem Jl(h:JF ss n Pd):Fu (EF Pd) n (ss++bj 1 .no):=by
 obtain⟨N,w,us,rfl,ok,lp,lt,hw,hl,hin,p⟩:=h;unfold Fu;refine⟨N,rfl,ok,lp,lt,?_⟩
 have go:∀(r:List Str) (x:Str) (us acc:List Ao) (s1 s2:Slot),Ct N (x::r) us->(∀y∈x::r,y∈N.ps)->Pd (.lst ((acc++us).map Aj)) n ->
   B9 (DU 2 (An (Aa 1) (An (Aa 2) B0))) CI (B7 (AF (DR UQ (AF (AB 1) (AF (AB 2) Ab))) (AF (DR UR (AF (AB 1) (AF (AB 2) Ab))) (AF (AT Bm (AT Bm (AB 0) (AB 1)) (AB 2)) Ab)))) (λacc n2=>Pd (.lst acc) n2) (DA ((x::r).map .str) (r.map .str)) (acc.map Aj) n [.sh (ED N),s1,s2]:=by
  intro r
  induction r with
  | nil =>
   intro x us acc s1 s2 hw hin h;rw [show us=[] from hw,cH] at h;exact h
  | cons y r ih =>
   intro x us acc s1 s2 hw hin h;obtain⟨t,us,rfl,ht,te,hw⟩:=hw;have he:Ed N x y t.len:=UX ht te;obtain⟨t',ht',tl,te',ea,eb⟩:=XY ok he
   have:=OV ok ht' ht te' te
   subst this;have hx:=hin x On;refine⟨rfl,rfl,x,y,rfl,x,y,rfl,_,_,_,Rj N.ts x,rfl,BD x,LQ hx,_,_,_,.int t'.len,rfl,BD y,?_,z3,?_⟩
   ·show BM ((DF N.ts x).map λz=>.inr z.1) ((DF N.ts x).map λz=>.int z.2) (.inr y)=_
    rw [Il]
    have:=QT ok he
    unfold look at this;rw [this];rfl
   have et:D.tup [.str (if decide (y.cps.toList<x.cps.toList)=true then y else x),.str (if decide (x.cps.toList<y.cps.toList)=true then y else x),.int t'.len]=Aj t':=by
    show D.tup [.str (if decide (cs y<cs x)=true then y else x),.str (if decide (cs x<cs y)=true then y else x),.int t'.len]=Aj t';rw [ea,eb];rfl
   rw [et]
   have:=ih y us (acc++[t']) (.sh (.str x)) (.sh (.str y)) hw (λz hz=>hin z (TM _ hz)) (by rw [cb]; exact h)
   rw [cN] at this;exact this
 cases w with
 | nil=>exact hw.elim
 | cons x r =>
  rw [ZB] at hl;refine⟨_,_,(x::r).map .str,r.map .str,rfl,rfl,by show some (Dp.cutD (D.str x::r.map .str) (some 1) none)=_; rw [Uk]; rfl,?_,?_⟩
  ·unfold DA
   rw [fN,No,No];omega
  ·exact go r x us [] _ _ hw hin (by rw [cK]; exact p)
theorem PZ{N:Net}(ok:N.Ok){ts os:List Ao}(h:HL N ts os):os.Nodup:=by
 refine h.1.nodup_iff.mpr (List.Nodup.sublist gx ?_)
 exact ok.trise.imp λ{s t} h e=>by
  rw [e] at h
  rcases h with h | ⟨_,h⟩
  ·exact ce _ h
  ·exact ce _ h
theorem keys_nodup{os:List Ao}(h:os.Nodup):(os.map Ds).Nodup:=List.Pairwise.map Ds (λ_ _ h e=>h (ON e)) h
theorem Mf(os:List Ao):EN (os.map Aj)=some (os.map Ds):=by
 induction os with
 | nil=>rfl
 | cons t os ih =>
  show (match keysOf (Aj t),EN (os.map Aj) with
   | some k,some ks=>some (k::ks)
   | _,_=>none)=_
  rw [Ph,ih]; rfl
theorem SI{N:Net}(ok:N.Ok)(l64:N.ts.length<64){ts:List Ao}{T:Dx}(h:HL N ts (T.map (·.1))){ts':List Ao}(h1:ts'.Perm (N.ts.filter λt=>decide (t∉ts)))(h2:Cg ts'){P:D->Prop}(p:P (Mv T)) :
  ∃d e xs ys ks,[D.lst (ts'.map Aj),D.tup (T.map λp=>BS p.2)]=[d,e]/\Em d=some xs/\Em e=some ys/\EN xs=some ks/\ks.length=ys.length/\ks.length<=sizeLine/\ks.Nodup/\P (.dit ks ys):=by
 have e:=Dd (h1.trans h.1.symm) h2 h.2;subst e;have szl:=PySem.sizeLine_eq;have l1:=h1.length_eq;have l2:=dP (λt=>decide (t∉ts)) N.ts;rw [No] at l1;refine⟨_,_,_,_,(T.map fun(p:Ao×List Str)=>Ds p.1),rfl,rfl,rfl,?_,by rw [No,No],by rw [No]; omega,?_,p⟩
 ·rw [Mf,dN]; rfl
 ·have:=keys_nodup (PZ ok h)
  rw [dN] at this;exact this
theorem Hg(h:U1 ss n Pd):EZ (EE Pd) n (ss++bj 0 .no):=by
 obtain⟨N,ts,T,rfl,ok,l64,hts,ho,p⟩:=h;unfold EZ;exact⟨N,ts,rfl,ok,l64,hts,λts' h1 h2=>SI ok l64 ho h1 h2 (P:=λd=>Pd d n) p⟩
theorem V0{us:List Ao}{pre post:List D}{d:D}(h:D8 0 (us.map Aj)=pre++d::post):∃t,us[pre.length]?=some t/\d=.tup [.int (pre.length:Int),Aj t]:=by
 have e:(D8 0 (us.map Aj))[pre.length]?=some d:=by rw [h,cf (Rs _),f7]; rfl
 rw [Hx,bv,Option.map_map] at e;obtain⟨t,h1,h2⟩:=cU.mp e;refine⟨t,h1,?_⟩;rw [← h2];show D.tup [.int ((0+pre.length:Nat):Int),Aj t]=_;rw [Nat.zero_add]
theorem UO(T:Dx)(t:Ao):(Cz (T.map λp=>Ds p.1) (T.map λp=>BS p.2) (Ds t)).getD (.tup [.str t.a,.str t.b])=BS ((Ba T t).getD [t.a,t.b]):=by
 rw [Gs];cases Ba T t <;> rfl
theorem Jj(h:NH ss n Pd):Fs (EE Pd) n (ss++bj 4 .no):=by
 obtain⟨N,x,w,us,T,rfl,ok,lp,lt,hw,hl,hin,hT,p⟩:=h;have szl:=PySem.sizeLine_eq;have ul:=PQ hw;rw [ZB] at ul;unfold Fs;refine⟨_,AQ (j:=0) rfl,z1,?_⟩;refine⟨N,x::w,us,rfl,ok,lp,lt,hw,by rw [ZB]; omega,hin,?_⟩;refine⟨us.map Aj,rfl,?_⟩;refine Bj (all:=D8 0 (us.map Aj)) (λpre m ρ=>m=n/\∃s4 s5 s6,ρ=[.sh (enc N),.sh (BS (x::w)),.sh (Mv T),.ow (.lst ((x::BK T (x::w) (us.take pre.length)).map .str)),s4,s5,s6]) ?_ ?_ _ [] _ _ rfl ⟨rfl,_,_,_,rfl⟩
 ·rintro m ρ ⟨rfl,s4,s5,s6,rfl⟩
  rw [Hw,No,fL];exact p
 ·rintro pre d post m ρ nx hall ⟨rfl,s4,s5,s6,rfl⟩ hnx
  obtain⟨t,ht,rfl⟩:=V0 hall;rw [bi,cA] at hnx;generalize pre.length=i at ht hnx ⊢;obtain⟨xi,yi,hx,hy,hm,he⟩:=W3 hw ht;have hi:i<us.length:=(bh.mp ht).1;rw [JT T ht hx] at hnx;have lpart:=Nx (by decide) hT t xi;have ltak:=HW (by decide) hT (x::w) (us.take i);rw [dG] at ltak;refine⟨rfl,rfl,_,_,rfl,Ds t,rfl,?_⟩;rw [show (Cz (T.map λp=>Ds p.1) (T.map λp=>BS p.2) (Ds t)).getD (D.tup (Dp.cutD [D.str t.a,D.str t.b,D.int t.len] none (some 2)))=BS ((Ba T t).getD [t.a,t.b]) from UO T t];refine⟨.str xi,AQ (by show ((x::w).map D.str)[i]?=_; rw [bv,hx]; rfl),_,AQ (j:=0) rfl,?_⟩;have fin:=hnx m [.sh (enc N),.sh (BS (x::w)),.sh (Mv T),.ow (.lst ((x::BK T (x::w) (us.take i)).map .str++((CF T t xi).drop 1).map .str)),.sh (.int (i:Int)),.sh (Aj t),.sh (BS (CF T t xi))] ⟨rfl,_,_,_,by rw [← cN]; rfl⟩;have ev:∀l:List Str,Dp.cutD (l.map D.str) (some 1) none=(l.drop 1).map .str:=λl=>by rw [Uk,List.map_drop]
  have le:((x::BK T (x::w) (us.take i)).map D.str).length+(((CF T t xi).drop 1).map D.str).length<=sizeLine:=by
   rw [No,No,de,ZB]; omega
  show if (!(xi==t.a))=true then _ else _
  refine CD (λc=>?_) λc=>?_
  ·have c:¬xi=t.a:=by simpa using c
   rw [show CF T t xi=((Ba T t).getD [t.a,t.b]).reverse from if_neg c] at fin le;refine⟨1,rfl,rfl,_,rfl,rfl,_,_,rfl,rfl,?_,?_⟩
   ·rw [← ik,ev]; exact le
   ·rw [← ik,ev]; exact fin
  ·have c:xi=t.a:=by simpa using c
   rw [show CF T t xi=(Ba T t).getD [t.a,t.b] from if_pos c] at fin le;refine⟨_,rfl,rfl,_,_,rfl,rfl,?_,?_⟩
   ·rw [ev]; exact le
   ·rw [ev]; exact fin
theorem Iq{N:Net}(ok:N.Ok){ts:List Ao}(h:ts.Sublist N.ts):(⟨N.ps,ts⟩:Net).Ok:=⟨ok.names,ok.rise,λt ht=>ok.tin t (h.subset ht),ok.trise.sublist h⟩
theorem YY{α:Type}{f:α->D}{xs:List α}{pre post:List D}{d:D}(h:xs.map f=pre++d::post):∃t,xs[pre.length]?=some t/\d=f t:=by
 have e:(xs.map f)[pre.length]?=some d:=by rw [h,cf (Rs _),f7]; rfl
 rw [bv] at e;obtain⟨t,h1,h2⟩:=cU.mp e;exact⟨t,h1,h2.symm⟩
theorem K5(h:Ci ss n Pd):HA (EE Pd) n (ss++bj 4 .no):=by
 obtain⟨N,ts1,ts2,T1,T2,rfl,C,hp⟩:=h;have szl:=PySem.sizeLine_eq;have ok:=C.ok;have ok1:=Iq ok C.s1;have lp:=C.lp;have lt:=C.lt;have l1:=C.s1.length_le;have m1:=λt=>C.s1.subset (a:=t);have m2:=λt=>C.s2.subset (a:=t);unfold HA;refine⟨N,ts1,T1,rfl,ok,by omega,m1,C.o1,?_⟩;refine⟨⟨N.ps,ts1⟩,ts2,T2,rfl,ok1,by show ts1.length<64; omega,m2,C.o2,?_⟩;refine⟨z0,N,ts2,rfl,ok,by omega,λt ht=>m1 t (m2 t ht),λts' h1 h2=>?_⟩;obtain⟨rs,hrl,hd,p⟩:=hp ts' ⟨h1,h2⟩
 have lo:ts'.length<=60:=by
  have:=h1.length_eq
  have:=dP (λt=>decide (t∉ts2)) N.ts
  omega
 refine Bj (all:=ts'.map Aj) (λpre m ρ=>m=n/\∃s8,ρ=[.sh (enc N),.sh (enc ⟨N.ps,ts1⟩),.sh (enc ⟨N.ps,ts2⟩),.sh (.tup (T1.map λp=>BS p.2)),.sh (.tup (T2.map λp=>BS p.2)),.sh (Mv T1),.sh (Mv T2),.ow (.lst ((rs.take pre.length).map BS)),s8]) ?_ ?_ _ [] _ _ rfl ⟨rfl,_,rfl⟩
 ·rintro m ρ ⟨rfl,s8,rfl⟩
  rw [No,← hrl,fL];exact p
 ·rintro pre d post m ρ nx hall ⟨rfl,s8,rfl⟩ hnx
  obtain⟨t,ht,rfl⟩:=YY hall;rw [bi,cA] at hnx;generalize pre.length=i at ht hnx ⊢;have hi:i<rs.length:=by rw [hrl]; exact(bh.mp ht).1
  have hr:rs[i]?=some rs[i]:=Go hi;generalize rs[i]=r at hr;have fin:=hnx m [.sh (enc N),.sh (enc ⟨N.ps,ts1⟩),.sh (enc ⟨N.ps,ts2⟩),.sh (.tup (T1.map λp=>BS p.2)),.sh (.tup (T2.map λp=>BS p.2)),.sh (Mv T1),.sh (Mv T2),.ow (.lst ((rs.take i).map BS++[BS r])),.sh (Aj t)] ⟨rfl,_,by rw [iQ,hr,cN]; rfl⟩;have lr:((rs.take i).map BS).length<sizeLine:=by rw [No,dG]; omega
  refine⟨_,rfl,rfl,_,_,_,rfl,rfl,?_⟩;show if (Cz (T2.map λp=>Ds p.1) (T2.map λp=>BS p.2) (Ds t)).isSome=true then _ else _
  rcases hd i t r ht hr with e2 | ⟨e2,x,w,us,e1,hw,rfl⟩
  ·have v2:=Gs T2 t
   rw [e2] at v2;rw [v2];refine CD (λ_=>?_) λc=>absurd rfl c;exact⟨_,_,_,_,rfl,rfl,v2,_,_,rfl,rfl,lr,fin⟩
  ·have v2:=Gs T2 t
   rw [e2] at v2;have v1:=Gs T1 t;rw [e1] at v1;rw [v2];refine CD (λc=>absurd c (by decide)) λ_=>?_;obtain⟨_,us',_,_,hl30,hin⟩:=C.p1 _ (CT e1);have hl30:(x::w).length<=500:=hl30;rw [ZB] at hl30;refine⟨_,_,_,_,rfl,rfl,v1,⟨N.ps,ts1⟩,x,w,us,T2,rfl,ok1,by show N.ps.length<=1000; omega,by show ts1.length<=1000; omega,hw,by omega,hin,λp hp=>?_,_,_,rfl,rfl,lr,fin⟩;obtain⟨_,_,_,_,h30,_⟩:=C.p2 p hp;exact h30
theorem Ed.symm6{N:Net}(ok:N.Ok){x y:Str}{l:Int}(e:Ed N x y l):Ed N y x l:=by
 obtain⟨t,ht,rfl,h⟩:=e.tie ok;exact UX ht (h.elim (λz=>.inr ⟨z.2,z.1⟩) λz=>.inl ⟨z.2,z.1⟩)
theorem LO{T:Dx}{y:Str}:∀{w:List Str} {us:List Ao},y∈BK T w us->(∃p∈T,y∈p.2)\/∃t∈us,y=t.a\/y=t.b
 | [],_,h=>by cases h
 | _::_,[],h=>by cases h
 | x::w,t::us,h=>by
  rcases b_.mp (show y∈(CF T t x).drop 1++BK T w us from h) with h | h
  ·have h:=fF h
   have h:y∈(Ba T t).getD [t.a,t.b]:=by
    unfold CF at h
    split at h
    ·exact h
    ·exact List.mem_reverse.mp h
   cases e:Ba T t with
   | none =>
    rw [e] at h;have h:y∈[t.a,t.b]:=h;refine .inr ⟨t,On,?_⟩
    simpa using h
   | some p =>
    rw [e] at h;exact .inl ⟨_,CT e,h⟩
  ·rcases LO h with z | ⟨s,hs,z⟩
   ·exact .inl z
   ·exact .inr ⟨s,TM _ hs,z⟩
theorem Tu{N:Net}:∀{w:List Str} {us:List Ao},Ct N w us->∀t∈us,t∈N.ts
 | [],_,h,_,_=>h.elim
 | [_],us,h,t,ht=>by rw [show us=[] from h] at ht; cases ht
 | x::y::r,us,h,t,ht=>by
  obtain⟨s,us',rfl,hs,_,h⟩:=h
  rcases TW.mp ht with rfl | ht
  ·exact hs
  ·exact Tu h t ht
def O4(k:Nat)(ps:List Str)(r:List Str):Prop:=r.length<=k/\∀x∈r,x∈ps
theorem V7{N:Net}{ts1 ts2:List Ao}{T1 T2:Dx}(C:Z6 N ts1 ts2 T1 T2){k1 k2:Nat}(hk1:1<=k1)(hk2:2<=k2)(B1:papOkK k1 ⟨N.ps,ts1⟩ T1)(B2:papOkK k2 ⟨N.ps,ts2⟩ T2){t:Ao}(h1:t∈N.ts)(h2:t∉ts2):∃r,U4 ⟨N.ps,ts1⟩ T1 T2 t r/\O4 (k1*k2) N.ps r:=by
 cases e2:Ba T2 t with
 | some w =>
  obtain⟨_,_,_,_,hl,hin⟩:=B2 _ (CT e2);exact⟨w,.inl e2,cG hl (Nat.le_mul_of_pos_left _ hk1),hin⟩
 | none =>
  have hn:=J5 e2;have hn1:t∉ts1:=λz=>hn (C.o2.1.mem_iff.mpr (dC.mpr ⟨z,decide_eq_true h2⟩));obtain⟨w1,e1⟩:=J4 (C.o1.1.mem_iff.mpr (dC.mpr ⟨h1,decide_eq_true hn1⟩));obtain⟨r,us,e,hw,hl,hin⟩:=B1 _ (CT e1);have e:w1=t.a::r:=e;have hw:Ct ⟨N.ps,ts1⟩ w1 us:=hw;have hl:w1.length<=k1:=hl;have hin:∀x∈w1,x∈N.ps:=hin;subst e;have ul:=PQ hw;have tl:=HW hk2 (T:=T2) (λp hp=>by obtain⟨_,_,_,_,h,_⟩:=B2 p hp; exact h) (t.a::r) us;refine⟨_,.inr ⟨e2,t.a,r,us,e1,hw,rfl⟩,?_,λy hy=>?_⟩
  ·have g:k2*(us.length+1)<=k2*k1:=gv _ (by omega)
   rw [Nat.mul_succ,Nat.mul_comm k2 k1] at g;rw [ZB]; omega
  ·rcases TW.mp hy with rfl | hy
   ·exact hin _ On
   ·rcases LO hy with ⟨p,hp,hy⟩ | ⟨s,hs,hy⟩
    ·obtain⟨_,_,_,_,_,hin⟩:=B2 p hp
     exact hin y hy
    ·obtain⟨m1,m2,_⟩:=C.ok.tin s (C.s1.subset (Tu hw s hs))
     rcases hy with rfl | rfl
     ·exact m1
     ·exact m2
theorem Qk{N:Net}{ts1 ts2:List Ao}{T1 T2:Dx}(C:Z6 N ts1 ts2 T1 T2){k1 k2:Nat}(hk1:1<=k1)(hk2:2<=k2)(B1:papOkK k1 ⟨N.ps,ts1⟩ T1)(B2:papOkK k2 ⟨N.ps,ts2⟩ T2):∀{os:List Ao},(∀t∈os,t∈N.ts/\t∉ts2)->∃rs:List (List Str),rs.length=os.length/\(∀(i:Nat) t r,os[i]?=some t->rs[i]?=some r->U4 ⟨N.ps,ts1⟩ T1 T2 t r)/\∀r∈rs,O4 (k1*k2) N.ps r
 | [],_=>⟨[],rfl,(λi t r h=>by simp at h),λr h=>by cases h⟩
 | t::os,h=>by
  obtain⟨rs,h1,h2,h3⟩:=Qk C hk1 hk2 B1 B2 (os:=os) λs hs=>h s (TM _ hs);obtain⟨r,hr,hs⟩:=V7 C hk1 hk2 B1 B2 (h t On).1 (h t On).2;refine⟨r::rs,by rw [ZB,ZB,h1],λi s q e1 e2=>?_,λq hq=>?_⟩
  ·cases i with
   | zero=>cases e1; cases e2; exact hr
   | succ i=>exact h2 i s q e1 e2
  ·rcases TW.mp hq with rfl | hq
   ·exact hs
   ·exact h3 q hq
theorem VE{rs:List (List Str)}{k:Nat}(h:∀r∈rs,r.length<=k/\∀x∈r,U7 x):EO 1000001 (.tup (rs.map BS))/\Ip (.tup (rs.map BS))<=(9*k+1)*rs.length/\Iz (.tup (rs.map BS))<=2:=by
 have one:∀r∈rs,EO 1000001 (BS r)/\Ip (BS r)+1<=9*k+1/\Iz (BS r)<=1:=λr hr=>by
  obtain⟨h1,h2⟩:=h r hr;refine⟨fines_iff.mpr λd hd=>?_,?_,?_⟩
  ·obtain⟨x,hx,rfl⟩:=Tk.mp hd
   exact(D6 (h2 x hx)).1
  ·have:=JU (k:=9) (ds:=r.map D.str) λd hd=>by
    obtain⟨x,hx,rfl⟩:=Tk.mp hd
    have:=(h2 x hx).2.1
    show x.length+1<=9;omega
   rw [No] at this;have e:9*r.length<=9*k:=gv _ h1;show JV (r.map D.str)+1<=_;omega
  ·have:FV (r.map D.str)<=0:=dps_le.mpr λd hd=>by
    obtain⟨x,hx,rfl⟩:=Tk.mp hd;exact Rs _
   show FV (r.map D.str)+1<=1;omega
 refine⟨fines_iff.mpr λd hd=>?_,?_,?_⟩
 ·obtain⟨r,hr,rfl⟩:=Tk.mp hd
  exact(one r hr).1
 ·have:=JU (k:=9*k+1) (ds:=rs.map BS) λd hd=>by
   obtain⟨r,hr,rfl⟩:=Tk.mp hd;exact(one r hr).2.1
  rw [No] at this;exact this
 ·have:FV (rs.map BS)<=1:=dps_le.mpr λd hd=>by
   obtain⟨r,hr,rfl⟩:=Tk.mp hd;exact(one r hr).2.2
  show FV (rs.map BS)+1<=2;omega
end
def Z9(m t b:Int):Prop:=1<=b/\b<=t/\t<=m
abbrev Y3(t b:Int):D:=.tup [.int t,.int b]
def FL:W2:=λss n P=>∃t b u v:Int,ss=[.sh (Y3 t b),.sh (Y3 u v)]/\Z9 1000000 t b/\Z9 1000000 u v/\P (Y3 (t*u) (b*v)) n
def NI:W2:=λss n P=>∃t b u v:Int,ss=[.sh (Y3 t b),.sh (Y3 u v)]/\Z9 1000000 t b/\Z9 1000000 u v/\P (.bl (decide (u*b<=t*v))) n
def Lp:Af:=(Av (B7 (AF (AT By (AT Aw (AB 0) (wC (D.int 0))) (AT Aw (AB 1) (wC (D.int 0)))) (AF (AT By (AT Aw (AB 0) (wC (D.int 1))) (AT Aw (AB 1) (wC (D.int 1)))) Ab))))
def D9:Af:=(Av (AT (f2 λi j=>D.bl (decide (j<=i))) (AT By (AT Aw (AB 0) (wC (D.int 0))) (AT Aw (AB 1) (wC (D.int 1)))) (AT By (AT Aw (AB 1) (wC (D.int 0))) (AT Aw (AB 0) (wC (D.int 1))))))
section
variable {ss:List Slot}{n:Nat}{Pd:D->Nat->Prop}
theorem PC(h:FL ss n Pd):Lp (EE Pd) n (ss++bj 0 .no):=by
 obtain⟨t,b,u,v,rfl,⟨b0,bt,t1⟩,⟨v0,vu,u1⟩,p⟩:=h;unfold Lp;exact⟨_,AQ (j:=0) rfl,_,AQ (j:=0) rfl,Ys (by omega) u1,_,AQ (j:=1) rfl,_,AQ (j:=1) rfl,Ys (by omega) (by omega),z2,p⟩
theorem Gg(h:NI ss n Pd):D9 (EE Pd) n (ss++bj 0 .no):=by
 obtain⟨t,b,u,v,rfl,⟨b0,bt,t1⟩,⟨v0,vu,u1⟩,p⟩:=h;unfold D9;exact⟨_,AQ (j:=0) rfl,_,AQ (j:=1) rfl,Ys (by omega) (by omega),_,AQ (j:=0) rfl,_,AQ (j:=1) rfl,Ys (by omega) (by omega),p⟩
end
def JL(N M:Net)(t b:Int):Prop:=∀{x y:Str} {d:Int},Wk N x y d->∃d',Wk M x y d'/\d'*b<=d*t
structure Ppr (k:Nat) (N:Net) (ts:List Ao) (t b:Int) (T:Dx):Prop where
 out:HL N ts (T.map (·.1))
 way:∀p∈T,∃d,C8 k ⟨N.ps,ts⟩ p.1.a p.1.b p.2 d/\d*b<=p.1.len*t
theorem N_{x y z:Int}(h:x<=y)(hz:0<=z):x*z<=y*z:=gs h hz
theorem JO{d d1 d2 t1 b1 t2 b2:Int}(h2:d2*b2<=d1*t2)(h1:d1*b1<=d*t1)(hb:0<=b1)(ht:0<=t2):d2*(b1*b2)<=d*(t1*t2):=by
 have e1:d2*(b1*b2)=d2*b2*b1:=by rw [fM b1 b2,d_]
 have e2:d1*t2*b1=d1*b1*t2:=by rw [d_,fM t2 b1,d_]
 have e3:d*t1*t2=d*(t1*t2):=d_ _ _ _
 have:=N_ h2 hb
 have:=N_ h1 ht
 omega
theorem Wk.back{N:Net}(ok:N.Ok){x y:Str}{d:Int}(h:Wk N x y d):Wk N y x d:=by
 induction h with
 | nil=>exact .nil
 | snoc h e ih =>
  rename_i y z d l
  have:=Wk.trans (Wk.snoc .nil (e.symm6 ok)) ih
  rw [show d+l=0+l+d by omega];exact this
theorem VD{N:Net}{ts:List Ao}{t b:Int}(okn:okN N)(ht:thn N ts)(h:FY N ts t b):JL N ⟨N.ps,ts⟩ t b:=by
 intro x y d hw;have okm:=(ht.okN okn).1
 induction hw with
 | nil=>exact⟨0,.nil,by omega⟩
 | snoc hw e ih =>
  rename_i y z d l
  obtain⟨d1,w1,h1⟩:=ih;obtain⟨u,hu,el,hj⟩:=e.tie okn.1;obtain⟨d2,⟨w2,_⟩,h2⟩:=h u hu
  have w3:Wk ⟨N.ps,ts⟩ y z d2:=by
   rcases hj with ⟨e1,e2⟩ | ⟨e1,e2⟩
   ·rw [← e1,← e2]; exact w2
   ·rw [← e1,← e2]; exact w2.back okm
  rw [el] at h2;refine⟨d1+d2,w1.trans w3,?_⟩;rw [i8,i8];omega
theorem R8{N:Net}(okn:okN N){t b:Int}(b0:1<=b)(bt:b<=t){ord:List Ao}(o1:ord.Perm N.ts):FY N (sub N (Bp N t b [] ord)).ts t b:=by
 intro u hu;have okm:=(P_ okn (Bp N t b [] ord)).1;show EX (sub N (Bp N t b [] ord)) t b u
 rcases GL (N:=N) (t:=t) (b:=b) (kept:=[]) (o1.mem_iff.mpr hu) with h | ⟨k',h1,d,h2,h3⟩
 ·exact Tx okn (Cj okn gx) bt b0 (sub_mem.mpr ⟨hu,h⟩)
 ·have hw:Wk (sub N (Bp N t b [] ord)) u.a u.b d:=h2.1.mono λv hv=>by
   obtain⟨a1,a2⟩:=sub_mem.mp hv;exact sub_mem.mpr ⟨a1,h1 v a2⟩
  obtain⟨e,he,le⟩:=Gv okm d.toNat d (Rs _) hw;exact⟨e,he,Int.le_trans (N_ le (by omega)) h3⟩
theorem HQ{M:Net}{y:Str}{q:List Str}{e:Int}(hq:walk M (y::q) e):∀{p:List Str} {d:Int},walk M p d->p.getLast?=some y->walk M (p++q) (d+e)
 | [],d,h,_=>h.elim
 | [x],d,h,hl=>by
  cases hl;rw [show d=0 from h,Int.zero_add];exact hq
 | x::z::r,d,h,hl=>by
  obtain⟨l,f,e1,e2,rfl⟩:=h
  have:=HQ hq (p:=z::r) e2 (by rw [eR] at hl; exact hl)
  rw [iI];exact⟨l,f+e,e1,this,rfl⟩
theorem NO{M:Net}{x y:Str}{l:Int}(e:Ed M x y l):walk M [x,y] l:=⟨l,0,e,rfl,by omega⟩
theorem LI{M:Net}(ok:M.Ok):∀{w:List Str} {d:Int},walk M w d->walk M w.reverse d
 | [],d,h=>h
 | [x],d,h=>h
 | x::z::r,d,h=>by
  obtain⟨l,f,e1,e2,rfl⟩:=h;have ih:=LI ok e2;have hl:(z::r).reverse.getLast?=some z:=by rw [jC]; rfl
  have:=HQ (NO (e1.symm6 ok)) ih hl
  rw [fb,show l+f=f+l by omega];exact this
theorem QQ{M:Net}(ok:M.Ok):∀{w:List Str} {d:Int},walk M w d->∃us,Ct M w us
 | [],d,h=>h.elim
 | [x],d,h=>⟨[],rfl⟩
 | x::z::r,d,h=>by
  obtain⟨l,f,e1,e2,rfl⟩:=h;obtain⟨us,hu⟩:=QQ ok e2;obtain⟨t,ht,_,hj⟩:=e1.tie ok;exact⟨t::us,t,us,rfl,ht,hj,hu⟩
structure aI (k:Nat) (ps:List Str) (ts1 ts2:List Ao) (T2:Dx) (t2 b2:Int):Prop where
 ok2:(⟨ps,ts2⟩:Net).Ok
 bt:b2<=t2
 out:∀t∈ts1,Ba T2 t=none->t∈ts2
 way:∀t w,Ba T2 t=some w->∃d,C8 k ⟨ps,ts2⟩ t.a t.b w d/\d*b2<=t.len*t2
theorem RU{k:Nat}{ps:List Str}{ts1 ts2:List Ao}{T2:Dx}{t2 b2:Int}(h:aI k ps ts1 ts2 T2 t2 b2){t:Ao}(ht:t∈ts1)(ok1:(⟨ps,ts1⟩:Net).Ok){x y:Str}(hj:(t.a=x/\t.b=y)\/(t.b=x/\t.a=y)) :
  ∃r d,CF T2 t x=x::r/\(x::r).getLast?=some y/\walk ⟨ps,ts2⟩ (x::r) d/\d*b2<=t.len*t2:=by
 obtain⟨m1,m2,m3,l0,_⟩:=ok1.tin t ht;have nab:t.a≠t.b:=λe=>by rw [e] at m3; exact ce _ m3
 obtain⟨w,d,e,hh,hl,hw,hd⟩:∃w d,(Ba T2 t).getD [t.a,t.b]=w/\(∃r,w=t.a::r)/\w.getLast?=some t.b/\walk ⟨ps,ts2⟩ w d/\d*b2<=t.len*t2:=by
  cases e:Ba T2 t with
  | none =>
   refine⟨_,t.len,rfl,⟨[t.b],rfl⟩,rfl,NO (G0 (N:=⟨ps,ts2⟩) (h.out t ht e)).1,?_⟩;rw [fM,fM t.len];exact N_ h.bt (by omega)
  | some w =>
   obtain⟨d,⟨h1,h2,h3,_⟩,h4⟩:=h.way t w e;exact⟨w,d,rfl,h1,h2,h3,h4⟩
 unfold CF;rw [e];obtain⟨r,rfl⟩:=hh
 rcases hj with ⟨rfl,rfl⟩ | ⟨rfl,rfl⟩
 ·rw [if_pos rfl]
  exact⟨r,d,rfl,hl,hw,hd⟩
 ·rw [if_neg (λz=>nab z.symm)]
  have hr:(t.a::r).reverse.head?=some t.b:=by rw [List.head?_reverse]; exact hl
  obtain⟨q,eq⟩:∃q,(t.a::r).reverse=t.b::q:=by
   cases c:(t.a::r).reverse with
   | nil=>rw [c] at hr; cases hr
   | cons z q=>rw [c] at hr; cases hr; exact⟨q,rfl⟩
  refine⟨q,d,eq,?_,?_,hd⟩
  ·rw [← eq,jC]; rfl
  ·rw [← eq]; exact LI h.ok2 hw
theorem JS{k:Nat}{ps:List Str}{ts1 ts2:List Ao}{T2:Dx}{t2 b2:Int}(h:aI k ps ts1 ts2 T2 t2 b2)(ok1:(⟨ps,ts1⟩:Net).Ok):∀{w:List Str} {x:Str} {us:List Ao} {d:Int},walk ⟨ps,ts1⟩ (x::w) d->Ct ⟨ps,ts1⟩ (x::w) us ->
  ∃e,walk ⟨ps,ts2⟩ (x::BK T2 (x::w) us) e/\e*b2<=d*t2/\(x::BK T2 (x::w) us).getLast?=(x::w).getLast?
 | [],x,us,d,hw,hu=>by
  rw [show us=[] from hu,show d=0 from hw];exact⟨0,rfl,by omega,rfl⟩
 | y::w,x,us,d,hw,hu=>by
  obtain⟨t,us',rfl,ht,hj,hu⟩:=hu;obtain⟨l,f,e1,e2,rfl⟩:=hw
  have el:l=t.len:=by
   obtain⟨s,hs,e,hj'⟩:=e1.tie ok1;rw [← e,OV ok1 hs ht hj' hj]
  subst el;obtain⟨e,g1,g2,g3⟩:=JS h ok1 e2 hu;obtain⟨r,d1,p1,p2,p3,p4⟩:=RU h ht ok1 hj
  have key:x::BK T2 (x::y::w) (t::us')=(x::r)++BK T2 (y::w) us':=by
   show x::((CF T2 t x).drop 1++BK T2 (y::w) us')=_;rw [p1];rfl
  rw [key];refine⟨d1+e,HQ g1 p3 p2,?_,?_⟩
  ·rw [i8,i8]; omega
  ·rw [eR,← g3]
   cases c:BK T2 (y::w) us' with
   | nil=>rw [cH,p2]; rfl
   | cons z q =>
    rw [List.getLast?_append,eR];cases k:(z::q).getLast? with
    | none=>simp at k
    | some v=>rfl
theorem Th{k:Nat}{M:Net}{t b:Int}:∀{os:List Ao} {ws:List (List Str)},PapOkK k M t b os ws->∃T:Dx,T.map (·.1)=os/\T.map (λp=>BS p.2)=ws.map Fb/\∀p∈T,∃d,C8 k M p.1.a p.1.b p.2 d/\d*b<=p.1.len*t
 | [],[],_=>⟨[],rfl,rfl,λp h=>by cases h⟩
 | u::us,w::ws,⟨h,hr⟩=>by
  obtain⟨T,e1,e2,h2⟩:=Th hr;refine⟨(u,w)::T,by rw [bm,e1],by rw [bm,e2]; rfl,λp hp=>?_⟩
  rcases TW.mp hp with rfl | hp
  ·exact h
  ·exact h2 p hp
 | [],_::_,h=>h.elim
 | _::_,[],h=>h.elim
theorem Tg{k:Nat}{M:Net}(ok:M.Ok){t b:Int}{T:Dx}(h:∀p∈T,∃d,C8 k M p.1.a p.1.b p.2 d/\d*b<=p.1.len*t):papOkK k M T:=λp hp=>by
 obtain⟨d,⟨⟨r,e⟩,h2,h3,h4,h5⟩,_⟩:=h p hp;obtain⟨us,hu⟩:=QQ ok h3;exact⟨r,us,e,hu,h4,h5⟩
theorem Pl{k1 k2:Nat}{N:Net}{ts1 ts2:List Ao}{T1 T2:Dx}{t1 b1 t2 b2:Int}(ok1:(⟨N.ps,ts1⟩:Net).Ok)(h2:aI k2 N.ps ts1 ts2 T2 t2 b2)(bt:b1<=t1)(b0:0<=b1)(b20:1<=b2)
  (hT:∀p∈T1,∃d,C8 k1 ⟨N.ps,ts1⟩ p.1.a p.1.b p.2 d/\d*b1<=p.1.len*t1) {t:Ao} (l0:0<=t.len) {r:List Str} (h:U4 ⟨N.ps,ts1⟩ T1 T2 t r) (hs:O4 (k1*k2) N.ps r):∃d,C8 (k1*k2) ⟨N.ps,ts2⟩ t.a t.b r d/\d*(b1*b2)<=t.len*(t1*t2):=by
 rcases h with e | ⟨_,x,w,us,e1,hu,rfl⟩
 ·obtain⟨d,⟨g1,g2,g3,g4,g5⟩,g6⟩:=h2.way t r e
  refine⟨d,⟨g1,g2,g3,hs.1,g5⟩,?_⟩;exact JO (d1:=t.len) g6 (by rw [fM,fM t.len]; exact N_ bt l0) b0 (by have:=h2.bt; omega)
 ·obtain⟨d,⟨⟨q,g1⟩,g2,g3,g4,g5⟩,g6⟩:=hT _ (CT e1)
  have g1:x::w=t.a::q:=g1;have g2:(x::w).getLast?=some t.b:=g2;have g3:walk ⟨N.ps,ts1⟩ (x::w) d:=g3;have g6:d*b1<=t.len*t1:=g6;obtain⟨e,f1,f2,f3⟩:=JS h2 ok1 g3 hu;have ex:x=t.a:=(List.cons.inj g1).1;refine⟨e,⟨⟨_,by rw [ex]⟩,by rw [f3]; exact g2,f1,hs.1,hs.2⟩,JO f2 g6 b0 (by have:=h2.bt; omega)⟩
theorem Xy{N:Net}{ord:List Ao}(o1:ord.Perm N.ts)(r1:Cg ord)(ts:List Ao):HL N ts (ord.filter λt=>decide (t∉ts)):=⟨o1.filter _,List.Pairwise.sublist gx r1⟩
theorem compose{k1 k2:Nat}{N:Net}{ts1 ts2:List Ao}{T1 T2:Dx}{t1 b1 t2 b2:Int}(ok:N.Ok)(lp:N.ps.length<=24)(lt:N.ts.length<60)(s1:ts1.Sublist N.ts)(s2:ts2.Sublist ts1)(A:Ppr k1 N ts1 t1 b1 T1)(B:Ppr k2 ⟨N.ps,ts1⟩ ts2 t2 b2 T2)
  (hk1:1<=k1) (hk2:2<=k2) (k15:k1<=500) (k25:k2<=500) (b10:1<=b1) (bt1:b1<=t1) (b20:1<=b2) (bt2:b2<=t2) :
  Z6 N ts1 ts2 T1 T2/\∀os:List Ao,HL N ts2 os->∃(rs:List (List Str)) (T3:Dx),rs.length=os.length/\(∀(i:Nat) t r,os[i]?=some t->rs[i]?=some r->U4 ⟨N.ps,ts1⟩ T1 T2 t r)/\Ppr (k1*k2) N ts2 (t1*t2) (b1*b2) T3/\rs.map BS=T3.map λp=>BS p.2:=by
 have ok1:(⟨N.ps,ts1⟩:Net).Ok:=Iq ok s1;have ok2:(⟨N.ps,ts2⟩:Net).Ok:=Iq ok (s2.trans s1);have g1:=Tg ok1 A.way;have g2:=Tg ok2 B.way;have C:Z6 N ts1 ts2 T1 T2:=⟨ok,lp,lt,s1,s2,A.out,B.out,g1.up k15,g2.up k25⟩
 have tw:aI k2 N.ps ts1 ts2 T2 t2 b2:=⟨ok2,bt2,λt ht hn=>by
  have:=J5 hn
  exact eI λz=>this (B.out.1.mem_iff.mpr (dC.mpr ⟨ht,decide_eq_true z⟩)),λt w hw=>B.way _ (CT hw)⟩
 refine⟨C,λos ho=>?_⟩
 have hmem:∀t∈os,t∈N.ts/\t∉ts2:=λt ht=>by
  have:=dC.mp (ho.1.mem_iff.mp ht)
  exact⟨this.1,of_decide_eq_true this.2⟩
 obtain⟨rs,q1,q2,q3⟩:=Qk C hk1 hk2 g1 g2 hmem;have e1:(os.zip rs).map (·.1)=os:=List.map_fst_zip (by omega);have e2:(os.zip rs).map (·.2)=rs:=List.map_snd_zip (by omega);have e3:=congrArg (List.map BS) e2;rw [dN] at e3
 exact⟨rs,os.zip rs,q1,q2,⟨by rw [e1]; exact ho,λx hx=>by
  obtain⟨i,hi⟩:=eF.mp hx;obtain⟨h1,h2⟩:=eJ.mp hi;have hu:=hmem x.1 (dJ h1)
  have:=(ok.tin x.1 hu.1).2.2.2.1
  exact Pl ok1 tw bt1 (by omega) b20 A.way (by omega) (q2 i x.1 x.2 h1 h2) (q3 x.2 (dJ h2))⟩,e3.symm⟩
theorem Ppr.of{k:Nat}{N:Net}{ts ord:List Ao}{t b:Int}{ws:List (List Str)}(o1:ord.Perm N.ts)(r1:Cg ord)(h:paperOfK k N ts t b ws):∃T,Ppr k N ts t b T/\(T.map λp=>BS p.2)=ws.map Fb:=by
 have ho:=Xy o1 r1 ts;obtain⟨T,a1,a2,a3⟩:=Th (h _ ho.1 ho.2);exact⟨T,⟨by rw [a1]; exact ho,a3⟩,a2⟩
theorem QM{k:Nat}{M:Net}{t b:Int}:∀{T:Dx},(∀p∈T,∃d,C8 k M p.1.a p.1.b p.2 d/\d*b<=p.1.len*t)->PapOkK k M t b (T.map (·.1)) (T.map (·.2))
 | [],_=>trivial
 | p::T,h=>⟨h p On,QM λq hq=>h q (TM _ hq)⟩
theorem Ppr.paper{k:Nat}{N:Net}{ts:List Ao}{t b:Int}{T:Dx}(h:Ppr k N ts t b T):paperOfK k N ts t b (T.map (·.2)):=λlo p1 p2=>by
 rw [Dd (p1.trans h.out.1.symm) p2 h.out.2];exact QM h.way
def JG:W2:=λss n P=>ss=[.fd]/\3<=n/\∀t b:Int,1<=b->b<=t->t<=1000->P (.tup [.int t,.int b]) (n - 3)
def NJ:W2:=λss n P=>∃(N:Net) (ts:List Ao),ss=[.fd,.sh (enc N),.sh (enc ⟨N.ps,ts⟩)]/\okN N/\(∀t∈ts,t∈N.ts)/\N.ts.length<=n/\∀(ts':List Ao) (n':Nat),ts'.Sublist N.ts->(∀t∈ts,t∈ts')->n - N.ts.length<=n'->P (enc ⟨N.ps,ts'⟩) n'
def FZ:W2:=λss n P=>∃(N:Net) (ts:List Ao) (t b:Int) (T:Dx),ss=[.sh (enc N),.sh (.tup [.int t,.int b]),.sh (enc ⟨N.ps,ts⟩),.sh (.tup (T.map λp=>BS p.2))]/\okN N/\ts.Sublist N.ts/\(0<=b/\b<=1000000000/\0<=t/\t<=1000000000)/\Ppr 1000 N ts t b T/\P (.bl true) n
def HH:W2:=λss n P=>∃(N:Net) (ts:List Ao) (t b:Int),ss=[.sh (enc N),.sh (.tup [.int t,.int b]),.sh (enc ⟨N.ps,ts⟩)]/\okN N/\thn N ts/\Z_ t b/\JL N ⟨N.ps,ts⟩ t b/\P (.bl true) n
def Cr:Af:=(AZ (Ax 1 (AT Az (wC (D.int 1)) (AV BN (AC (BH 0) (AC (AG (AT Aw (Ek (AF (wC (D.int 1)) (AF (wC (D.int 3)) (AF (wC (D.int 1000)) Ab)))) (AV BN (AC (BH 0) (AC (AG (wC (D.int 3))) AW))))) AW)))))
 (AZ (Ax 1 (DR KP (AF (AB 1) (AF (wC (D.int 1000)) Ab))))
 (Av (B7 (AF (DR KP (AF (wC (D.int 1000)) (AF (AT Az (AB 1) (AV BN (AC (BH 0) (AC (AG (AT Az (AT By (wC (D.int 2)) (AB 1)) (wC (D.int 1)))) AW)))) Ab))) (AF (AB 1) Ab))))))
def Fx:Af:=(AZ (Ax 3 (Bl [some 2,some 0,none] (BO (AT Aw (AB 1) (wC (D.int 1)))) (Aa 2) (Ef (AY (AT (GP false) (AB 2) (AT Aw (AB 0) (wC (D.int 1))))) (AY (AT (Ig false) (AV BN (AC (BH 1) (AC (AG (wC (D.int 5))) AW))) (wC (D.int 0))))) (AB 2)))
 (Av (B7 (AF (AT Aw (AB 1) (wC (D.int 0))) (AF (DR B_ (AF (AB 3) Ab)) Ab)))))
def Up:Af:=(AZ (Ax 7 (AV NK (AC (AG (AB 2)) (AC (AG (AB 6)) AW))))
 (AZ (BP (Ef (AY (AT (Ie false) (AB 7) (wC D.non))) (Ef (AY (AT (Ig true) (AT Aw (AB 6) (wC (D.int 0))) (AT Aw (AB 5) (wC (D.int 0))))) (AY (AT (Ig true) (AT Aw (AB 6) (Q_ (wC (D.int 1)))) (AT Aw (AB 5) (wC (D.int 1))))))) (Av (wC (D.bl false))) A9)
 (BP (AY (AT (f2 λi j=>D.bl (decide (j<i))) (AT By (AB 7) (AT Aw (AB 1) (wC (D.int 1)))) (AT By (AT Aw (AB 5) (wC (D.int 2))) (AT Aw (AB 1) (wC (D.int 0)))))) (Av (wC (D.bl false))) A9)))
def C2:Af:=(AZ (Ax 4 (AV ET (AC (AG (Bl [some 2,none] (BO (AT Aw (AB 0) (wC (D.int 1)))) (Aa 1) (AY (AT (GP true) (AB 1) (AT Aw (AB 0) (wC (D.int 1))))) (AB 1))) AW)))
 (AZ (BP (Ef (DX (AY (Kw "tuple" (AB 3)))) (AY (AT (Ig true) (DR KQ (AF (AB 3) Ab)) (DR KQ (AF (AB 4) Ab))))) (Av (wC (D.bl false))) A9)
 (AZ (Dy (Q9 (AF (AB 4) (AF (AB 3) Ab))) (DU 2 (An (Aa 5) (An (Aa 6) B0))) Up)
 (Av (wC (D.bl true))))))
def YX:Af:=(BP (Ef (AY (AT (Ih true) (AB 6) (AB 5))) (AY (AT (f2 λi j=>D.bl (decide (j<i))) (AT By (AT Bm (AB 5) (AB 6)) (AT Aw (AB 1) (wC (D.int 1)))) (AT By (AT Bm (AB 4) (AB 6)) (AT Aw (AB 1) (wC (D.int 0))))))) (Av (wC (D.bl false))) A9)
def Ea:Af:=(AZ (Dy (BO (AT Aw (AB 0) (wC (D.int 0)))) (Aa 3) (AZ (Ax 4 (Sn (AV FN (AC (EC (AT Aw (AB 0) (wC (D.int 1)))) (AC (AG (AB 3)) AW)))))
 (AZ (Ax 5 (Sn (AV FN (AC (EC (AT Aw (AB 2) (wC (D.int 1)))) (AC (AG (AB 3)) AW)))))
 (Dy (WY (AB 4)) (Aa 6) YX))))
 (Av (wC (D.bl true))))
def Pq:Af:=(AZ (Ax 11 (B7 (AF (AT By (AT Aw (AB 7) (wC (D.int 0))) (AT Aw (AT Aw (AB 3) (wC (D.int 2))) (wC (D.int 0)))) (AF (AT By (AT Aw (AB 7) (wC (D.int 1))) (AT Aw (AT Aw (AB 3) (wC (D.int 2))) (wC (D.int 1)))) Ab))))
 (AZ (DV 12 (Ek (AF (AV Ci (AC (AG (AT Aw (AB 2) (wC (D.int 0)))) (AC (AG (AT Aw (AB 2) (wC (D.int 2)))) (AC (AG (AT Aw (AB 2) (wC (D.int 3)))) (AC (AG (AB 9)) (AC (AG (AT Aw (AB 5) (wC (D.int 2)))) AW)))))) Ab)))
 (AZ (Oy 12 "list" Hv (AF (AV Ci (AC (AG (AT Aw (AB 2) (wC (D.int 0)))) (AC (AG (AT Aw (AB 2) (wC (D.int 1)))) (AC (AG (AT Aw (AB 2) (wC (D.int 3)))) (AC (AG (AT Aw (AB 5) (wC (D.int 0)))) (AC (AG (AB 10)) AW)))))) Ab))
 (AZ (Wa 12 (Aa 13) (BP (DX (AY (AV FZ (AC (AG (AT Aw (AB 2) (wC (D.int 0)))) (AC (AG (AB 11)) (AC (AG (AT Aw (AB 2) (wC (D.int 3)))) (AC (AG (AB 13)) AW))))))) (Av (wC (D.bl false))) A9))
 (AZ (Dy (BO (AB 3)) (Aa 4) (BP (IB (AY (AV NI (AC (AG (AB 4)) (AC (AG (AT Aw (AB 3) (wC (D.int 0)))) AW)))) (DX (AY (AV HH (AC (AG (AT Aw (AB 2) (wC (D.int 0)))) (AC (AG (AB 4)) (AC (AG (AT Aw (AB 2) (wC (D.int 1)))) AW))))))) (Av (wC (D.bl false))) A9))
 (Av (AT (Ig false) (DR OT (AF (B7 (AF (AB 2) (AF (AB 5) Ab))) Ab)) (AB 6))))))))
def Pr:Af:=(AZ (Ax 6 (DR OT (AF (B7 (AF (AB 2) (AF (AB 5) Ab))) Ab)))
 (AZ (Ax 7 (AV FL (AC (AG (AT Aw (AB 3) (wC (D.int 0)))) (AC (AG (AT Aw (AB 3) (wC (D.int 1)))) AW))))
 (AZ (Ax 8 (AV FL (AC (AG (AT Aw (AB 3) (wC (D.int 1)))) (AC (AG (AT Aw (AB 3) (wC (D.int 2)))) AW))))
 (AZ (BP (AY (AT (Ig true) (DR OT (AF (AB 7) Ab)) (DR OT (AF (B7 (AF (AT By (AT Aw (AT Aw (AB 3) (wC (D.int 0))) (wC (D.int 0))) (AT Aw (AT Aw (AB 3) (wC (D.int 1))) (wC (D.int 0)))) (AF (AT By (AT Aw (AT Aw (AB 3) (wC (D.int 0))) (wC (D.int 1))) (AT Aw (AT Aw (AB 3) (wC (D.int 1))) (wC (D.int 1)))) Ab))) Ab)))) (Av (wC (D.bl false))) A9)
 (AZ (Ax 9 (AV Ci (AC (AG (AT Aw (AB 2) (wC (D.int 0)))) (AC (AG (AT Aw (AB 2) (wC (D.int 1)))) (AC (AG (AT Aw (AB 2) (wC (D.int 2)))) (AC (AG (AT Aw (AB 5) (wC (D.int 0)))) (AC (AG (AT Aw (AB 5) (wC (D.int 1)))) AW)))))))
 (AZ (Ax 10 (AV Ci (AC (AG (AT Aw (AB 2) (wC (D.int 1)))) (AC (AG (AT Aw (AB 2) (wC (D.int 2)))) (AC (AG (AT Aw (AB 2) (wC (D.int 3)))) (AC (AG (AT Aw (AB 5) (wC (D.int 1)))) (AC (AG (AT Aw (AB 5) (wC (D.int 2)))) AW)))))))
 (AZ (BP (Ef (DX (AY (AV FZ (AC (AG (AT Aw (AB 2) (wC (D.int 0)))) (AC (AG (AB 7)) (AC (AG (AT Aw (AB 2) (wC (D.int 2)))) (AC (AG (AB 9)) AW))))))) (DX (AY (AV FZ (AC (AG (AT Aw (AB 2) (wC (D.int 1)))) (AC (AG (AB 8)) (AC (AG (AT Aw (AB 2) (wC (D.int 3)))) (AC (AG (AB 10)) AW)))))))) (Av (wC (D.bl false))) A9)
 (AZ (BP (Ef (AY (AT (Vz true) (AV Ku (AC (AG (AT Aw (AB 2) (wC (D.int 0)))) (AC (AG (AB 7)) (AC (AG (AT Aw (AB 2) (wC (D.int 2)))) (AC (AG (AB 9)) AW))))) (wC (D.bl true)))) (AY (AT (Vz true) (AV Ku (AC (AG (AT Aw (AB 2) (wC (D.int 1)))) (AC (AG (AB 8)) (AC (AG (AT Aw (AB 2) (wC (D.int 3)))) (AC (AG (AB 10)) AW))))) (wC (D.bl true))))) (Av (wC (D.bl false))) A9)
 Pq))))))))
def Lq:Af:=(AZ (DV 2 (Ek (AF (AV WS (AC (BH 1) (AC (AG (wC (D.int 7))) (AC (AG (wC (D.int 12))) AW)))) Ab)))
 (AZ (Ax 3 (Bl [some 1,none] (EU (AF (wC (D.int 3)) Ab)) (Aa 1) CI (AV JG (AC (BH 0) AW))))
 (AZ (Dy (BO (AB 3)) (Aa 4) (Oy 2 "list" Hv (AF (AV NJ (AC (BH 1) (AC (AG (AT Aw (BB 2) (Q_ (wC (D.int 1))))) (AC (AG (AV HK (AC (AG (AT Aw (BB 2) (Q_ (wC (D.int 1))))) (AC (AG (AB 4)) AW)))) AW)))) Ab)))
 (Yy 2 (AZ (Ax 5 (Bl [some 2,some 3,none] (EU (AF (wC (D.int 3)) Ab)) (Aa 2) CI (AV JE (AC (AG (AT Aw (AB 0) (AB 2))) (AC (AG (AT Aw (AB 1) (AB 2))) (AC (AG (AT Aw (AB 0) (AT Az (AB 2) (wC (D.int 1))))) AW))))))
 Pr)))))
section
variable {ss:List Slot}{n:Nat}{Pd:D->Nat->Prop}
theorem Ez(h:JG ss n Pd):Cr (EE Pd) n (ss++bj 1 .no):=by
 obtain⟨rfl,hn,p⟩:=h;unfold Cr;have key:∀m:Int,1<=m->m<=1000->∀n',n'=n - 1->(AZ (Ax 1 (AT Az (wC (D.int 1)) (AV BN (AC (BH 0) (AC (AG (wC (D.int m))) AW)))))
 (AZ (Ax 1 (DR KP (AF (AB 1) (AF (wC (D.int 1000)) Ab))))
 (Av (B7 (AF (DR KP (AF (wC (D.int 1000)) (AF (AT Az (AB 1) (AV BN (AC (BH 0) (AC (AG (AT Az (AT By (wC (D.int 2)) (AB 1)) (wC (D.int 1)))) AW)))) Ab))) (AF (AB 1) Ab)))))) (EE Pd) n' [.fd,.no]:=by
  rintro m m1 m2 _ rfl;refine⟨m,rfl,m1,by omega,by omega,λr r0 r1=>?_⟩
  have fin:∀x:Int,x=1+r->(Av (B7 (AF (DR KP (AF (wC (D.int 1000)) (AF (AT Az (AB 1) (AV BN (AC (BH 0) (AC (AG (AT Az (AT By (wC (D.int 2)) (AB 1)) (wC (D.int 1)))) AW)))) Ab))) (AF (AB 1) Ab)))) (EE Pd) (n - 1 - 1) [.fd,.sh (.int x)]:=by
   rintro _ rfl;refine⟨.inl ⟨by decide,by decide⟩,2*(1+r)+1,rfl,by omega,by omega,by omega,λq q0 q1=>⟨z2,?_⟩⟩
   have e2:∃t:Int,(if 1+r+q<1000 then 1+r+q else (1000:Int))=t/\1+r<=t/\t<=1000:=by
    by_cases c:1+r+q<1000
    ·exact⟨_,if_pos c,by omega,by omega⟩
    ·exact⟨_,if_neg c,by omega,by omega⟩
   obtain⟨t,et,t1,t2⟩:=e2;show Pd (.tup [.int (if 1+r+q<1000 then 1+r+q else (1000:Int)),.int (1+r)]) (n - 1 - 1 - 1);rw [et];exact p t (1+r) (by omega) t1 t2
  exact fin _ (if_neg (by omega))
 refine⟨z3,3,rfl,by decide,by decide,by omega,λr r0 r1=>?_⟩
 rcases (show r=0\/r=1\/r=2 by omega) with rfl | rfl | rfl
 ·exact⟨_,AQ (j:=0) rfl,key 1 (by decide) (by decide) _ rfl⟩
 ·exact⟨_,AQ (j:=1) rfl,key 3 (by decide) (by decide) _ rfl⟩
 ·exact⟨_,AQ (j:=2) rfl,key 1000 (by decide) (by decide) _ rfl⟩
theorem K4(h:NJ ss n Pd):Fx (EE Pd) n (ss++bj 1 .no):=by
 obtain⟨N,ts,rfl,okn,hts,hn,p⟩:=h;have l60:=okn.2.2;have szl:=PySem.sizeLine_eq;unfold Fx;refine⟨_,AQ (j:=1) rfl,by rw [No]; omega,?_⟩
 have go:∀(rest done acc:List Ao) (m:Nat) (s:Slot),done++rest=N.ts->acc.Sublist done->(∀t∈done,t∈ts->t∈acc)->n - done.length<=m ->
   B9 (Aa 2) (Ef (AY (AT (GP false) (AB 2) (AT Aw (AB 0) (wC (D.int 1))))) (AY (AT (Ig false) (AV BN (AC (BH 1) (AC (AG (wC (D.int 5))) AW))) (wC (D.int 0))))) (AB 2) (λacc n2=>(Av (B7 (AF (AT Aw (AB 1) (wC (D.int 0))) (AF (DR B_ (AF (AB 3) Ab)) Ab)))) (EE Pd) n2 [.fd,.sh (enc N),.sh (enc ⟨N.ps,ts⟩),.sh (.lst acc)]) (rest.map Aj) (acc.map Aj) m [.sh (enc ⟨N.ps,ts⟩),.fd,s]:=by
  intro rest
  induction rest with
  | nil =>
   intro done acc m s e h1 h2 h3;rw [cH] at e;subst e;exact⟨_,AQ (j:=0) rfl,z2,p acc m h1 (λt ht=>h2 t (hts t ht) ht) h3⟩
  | cons v rest ih =>
   intro done acc m s e h1 h2 h3;have hl:done.length+(rest.length+1)=N.ts.length:=by rw [← e,bi,ZB]
   have e':(done++[v])++rest=N.ts:=by rw [cb]; exact e
   have hv:v∈N.ts:=by rw [← e]; exact bq _ On
   have add:∀m',n - (done.length+1)<=m'->B9 (Aa 2) (Ef (AY (AT (GP false) (AB 2) (AT Aw (AB 0) (wC (D.int 1))))) (AY (AT (Ig false) (AV BN (AC (BH 1) (AC (AG (wC (D.int 5))) AW))) (wC (D.int 0))))) (AB 2) (λacc n2=>(Av (B7 (AF (AT Aw (AB 1) (wC (D.int 0))) (AF (DR B_ (AF (AB 3) Ab)) Ab)))) (EE Pd) n2 [.fd,.sh (enc N),.sh (enc ⟨N.ps,ts⟩),.sh (.lst acc)]) (rest.map Aj) (acc.map Aj++[Aj v]) m' [.sh (enc ⟨N.ps,ts⟩),.fd,.sh (Aj v)]:=λm' hm'=>by
    have:=ih (done++[v]) (acc++[v]) m' (.sh (Aj v)) e' (h1.append (jS [v])) (λt ht hts=>by
     rcases b_.mp ht with ht | ht
     ·exact c0 _ (h2 t ht hts)
     ·exact bq _ ht) (by rw [bi,cA]; exact hm')
    rw [cN] at this;exact this
   refine⟨_,AQ (j:=1) rfl,Me okn.1 hv,(Gw okn.1 hts).1,_,rfl,?_⟩;refine CD (λ_=>add m (by omega)) λc=>?_;refine⟨5,rfl,by decide,by decide,by omega,λr r0 r1=>CD (λ_=>add (m - 1) (by omega)) λ_=>?_⟩;refine ih (done++[v]) acc (m - 1) (.sh (Aj v)) e' (h1.trans (List.sublist_append_left _ _)) (λt ht hts=>?_) (by rw [bi,cA]; omega)
   rcases b_.mp ht with ht | ht
   ·exact h2 t ht hts
   ·rw [Re.mp ht] at hts
    refine absurd ?_ c;show ((ts.map Aj).any λy=>GQ y (Aj v))=true;rw [JD];exact decide_eq_true hts
 exact go N.ts [] [] _ _ rfl (jS _) (λt h=>by cases h) (by simp)
theorem Fd(h:FZ ss n Pd):C2 (EE Pd) n (ss++bj 4 .no):=by
 obtain⟨N,ts,t,b,T,rfl,okn,hs,⟨b0,b1,t0,t1⟩,hp,p⟩:=h;have ht:thn N ts:=Cj okn hs;have okm:=ht.okN okn;have l60:=okn.2.2;have szl:=PySem.sizeLine_eq;unfold C2;refine⟨_,AQ (j:=1) rfl,by show (N.ts.map Aj).length<=10000000; rw [No]; omega,?_⟩;refine E5 (λd=>!((ts.map Aj).any λy=>GQ y d)) id (λρ=>∃s,ρ=[.sh (enc ⟨N.ps,ts⟩),s]) _ _ _ _ ?_ ⟨_,rfl⟩ ?_
 ·rintro d hd ρ m nx sk ⟨s,rfl⟩ h1 h2
  obtain⟨t,ht',rfl⟩:=Tk.mp hd;refine⟨_,AQ (j:=1) rfl,Me okn.1 ht',(Gw okn.1 ht.1).1,_,rfl,?_⟩;exact CD (λc=>h1 _ ⟨_,rfl⟩ c) λc=>h2 _ ⟨_,rfl⟩ (eO.mpr c)
 rw [cK,List.map_id]
 have e:(N.ts.map Aj).filter (λd=>!((ts.map Aj).any λy=>GQ y d))=(J8 N ts).map Aj:=by
  unfold J8;rw [List.filter_map]
  congr 1
  refine List.filter_congr λt _=>?_;show (!((ts.map Aj).any λy=>GQ y (Aj t)))=decide (t∉ts);rw [JD,decide_not]
 rw [e];refine⟨_,J8 N ts,rfl,rfl,fS (dP _ _) (by omega),λlo p1 p2=>?_⟩;have eT:lo=T.map (·.1):=Dd (p1.trans hp.out.1.symm) p2 hp.out.2;subst eT;refine⟨_,_,rfl,rfl,_,_,rfl,rfl,?_⟩;show if (!(((T.map λp=>BS p.2).length:Int)==(((T.map (·.1)).map Aj).length:Int)))=true then _ else _
 rw [No,No,No,beq_self_eq_true];refine Cp ⟨_,_,_,_,rfl,rfl,rfl,?_⟩
 have go:∀(T':Dx) (s5 s6 s7:Slot),(∀p∈T',p∈T) ->
   BR (DU 2 (An (Aa 5) (An (Aa 6) B0))) Up { EE Pd with nx:=Av (wC (D.bl true)) (EE Pd) } (DA ((T'.map (·.1)).map Aj) (T'.map λp=>BS p.2)) n [.sh (enc N),.sh (.tup [.int t,.int b]),.sh (enc ⟨N.ps,ts⟩),.sh (.tup (T.map λp=>BS p.2)),.sh (.lst ((T.map (·.1)).map Aj)),s5,s6,s7]:=by
  intro T'
  induction T' with
  | nil=>intro s5 s6 s7 _; exact p
  | cons x T' ih =>
   intro s5 s6 s7 hT;obtain⟨u,w⟩:=x;obtain⟨d,hw,hle⟩:=hp.way _ (hT _ On);have hw:walked ⟨N.ps,ts⟩ u.a u.b w d:=hw;have hle:d*b<=u.len*t:=hle;have el:=J6 okm hw;obtain⟨⟨r,rfl⟩,hl,hwk,h30,hin⟩:=hw;refine⟨rfl,rfl,⟨N.ps,ts⟩,Fb (u.a::r),rfl,okm.1,by have:=okm.2.1; omega,okm.2.2,LH okm.1 h30 hin,?_⟩;rw [el];refine⟨rfl,.str u.a,AQ (j:=0) rfl,_,AQ (j:=0) rfl,?_⟩;refine CD (λc=>absurd c (by simp)) λ_=>?_;refine⟨1,rfl,.str u.b,QY hl,_,AQ (j:=1) rfl,?_⟩;refine CD (λc=>absurd c (by simp)) λ_=>?_;refine⟨_,AQ (j:=1) rfl,.inr ⟨by omega,by omega⟩,_,AQ (j:=2) rfl,_,AQ (j:=0) rfl,.inr ⟨by omega,by omega⟩,?_⟩;refine CD (λc=>absurd (of_decide_eq_true c:u.len*t<d*b) (by omega)) λ_=>?_;exact ih (.sh (Aj u)) (.sh (BS (u.a::r))) (.sh (.int d)) λp hp=>hT p (TM _ hp)
 exact go T _ _ _ λ_ h=>h
theorem P4:∀{ks:List Key} {ds:List D},ks.length=ds.length->ks.Nodup->(∀k∈ks,∀z,BM ks ds k=some z->EW z=true)->Bo ds=true
 | [],[],_,_,_=>rfl
 | k::ks,d::ds,hl,nd,h=>by
  rw [cD] at nd;show (EW d&&Bo ds)=true;rw [h k On d (if_pos rfl),P4 (jR hl) nd.2 λj hj z hz=>h j (TM _ hj) z ((if_neg λe=>nd.1 (by rw [e]; exact hj)).trans hz)];rfl
 | [],_::_,hl,_,_=>by cases hl
 | _::_,[],hl,_,_=>by cases hl
theorem Qc{ks:List Key}{ds:List D}{K:Kn}(M:Dmap ks ds D.int K):Bo ds=true:=P4 M.len M.nd λk hk z hz=>by
 obtain⟨x,rfl⟩:=M.dom k hk;rw [M.at_] at hz;obtain⟨a,_,rfl⟩:=cU.mp hz;rfl
theorem IZ(h:HH ss n Pd):Ea (EE Pd) n (ss++bj 4 .no):=by
 obtain⟨N,ts,t,b,rfl,okn,ht,⟨b1,b2,t1,t2⟩,hw,p⟩:=h;have okm:=ht.okN okn;have szl:=PySem.sizeLine_eq;unfold Ea;refine⟨_,AQ (j:=0) rfl,?_⟩;refine Bj (all:=N.ps.map D.str) (λpre m ρ=>m=n/\∃s3 s4 s5 s6,ρ=[.sh (enc N),.sh (.tup [.int t,.int b]),.sh (enc ⟨N.ps,ts⟩),s3,s4,s5,s6]) ?_ ?_ _ [] _ _ rfl ⟨rfl,_,_,_,_,rfl⟩
 ·rintro m ρ ⟨rfl,s3,s4,s5,s6,rfl⟩
  exact p
 ·rintro pre d post m ρ nx hall ⟨rfl,s3,s4,s5,s6,rfl⟩ hnx
  have hd:d∈N.ps.map D.str:=by rw [hall]; exact bq _ On
  obtain⟨s,hs,rfl⟩:=Tk.mp hd;refine⟨_,AQ (j:=1) rfl,N,s,_,N.ts,rfl,rfl,λ_=>Iff.rfl,okn,hs,λks ds K Mp T=>⟨ks,ds,rfl,Qc Mp,?_⟩⟩;refine⟨_,AQ (j:=1) rfl,⟨N.ps,ts⟩,s,_,ts,rfl,rfl,λ_=>Iff.rfl,okm,hs,λks' ds' K' Mp' T'=>⟨ks',ds',rfl,Qc Mp',?_⟩⟩;refine⟨ks,ds,rfl,λk hk=>?_,?_⟩
  ·obtain⟨x,rfl⟩:=Mp.dom k hk
   have:=(okn.1.names x (T.ins x ((Mp.mem x).mp hk))).2.1
   show x.length<=sizeLine;omega
  refine Bj (all:=ks.map U9) (λpre m' ρ=>m'=m/\∃s6,ρ=[.sh (enc N),.sh (.tup [.int t,.int b]),.sh (enc ⟨N.ps,ts⟩),.sh (.str s),.sh (.fdi ks ds),.sh (.fdi ks' ds'),s6]) ?_ ?_ _ [] _ _ rfl ⟨rfl,_,rfl⟩
  ·rintro m' ρ ⟨rfl,s6,rfl⟩
   exact hnx _ _ ⟨rfl,_,_,_,_,rfl⟩
  ·rintro pre' d' post' m' ρ nx' hall' ⟨rfl,s6,rfl⟩ hnx'
   have hd':d'∈ks.map U9:=by rw [hall']; exact bq _ On
   obtain⟨k,hk,rfl⟩:=Tk.mp hd';obtain⟨x,rfl⟩:=Mp.dom k hk;have hx:=(Mp.mem x).mp hk;have fin:=hnx' m' _ ⟨rfl,.sh (.str x),rfl⟩;cases ek:K x with
   | none=>exact absurd ek hx
   | some d =>
    obtain⟨d1,w1,h1⟩:=hw (T.least x d ek).1;cases ek':K' x with
    | none=>exact absurd ek' (T'.all x d1 w1)
    | some d' =>
     have le:=(T'.least x d' ek').2 d1 w1;have hle:d'*b<=d*t:=Int.le_trans (N_ le (by omega)) h1;have v1:BM ks ds (.inr x)=some (.int d):=by rw [Mp.at_,ek]; rfl
     have v2:BM ks' ds' (.inr x)=some (.int d'):=by rw [Mp'.at_,ek']; rfl
     refine⟨_,_,_,rfl,BD x,?_⟩;rw [v2];refine Cp ⟨_,_,_,_,rfl,BD x,v2,_,AQ (j:=1) rfl,.inr ⟨by omega,by omega⟩,_,_,_,_,rfl,BD x,v1,_,AQ (j:=0) rfl,.inr ⟨by omega,by omega⟩,?_⟩;exact CD (λc=>absurd (of_decide_eq_true c:d*t<d'*b) (by omega)) λ_=>fin
end
theorem Ho{N:Net}(okn:okN N){t b:Int}(b0:1<=b)(bt:b<=t){ord:List Ao}(o1:ord.Perm N.ts){ts1:List Ao}(s1:ts1.Sublist N.ts)(hin:∀u∈(sub N (Bp N t b [] ord)).ts,u∈ts1):FY N ts1 t b:=λu hu=>by
 obtain⟨d,h1,h2⟩:=R8 okn b0 bt o1 u hu;have hw:Wk ⟨N.ps,ts1⟩ u.a u.b d:=h1.1.mono hin;obtain⟨e,he,le⟩:=Gv (Iq okn.1 s1) d.toNat d (Rs _) hw;exact⟨e,he,Int.le_trans (N_ le (by omega)) h2⟩
theorem Ppr.up{k k':Nat}{N:Net}{ts:List Ao}{t b:Int}{T:Dx}(h:Ppr k N ts t b T)(hk:k<=k'):Ppr k' N ts t b T:=⟨h.out,λp hp=>by
 obtain⟨d,⟨h1,h2,h3,h4,h5⟩,h6⟩:=h.way p hp;exact⟨d,⟨h1,h2,h3,cG h4 hk,h5⟩,h6⟩⟩
theorem HP{N:Net}{ts ord:List Ao}{t b:Int}{ws:List (List Str)}(l7:N.ps.length<=7)(o1:ord.Perm N.ts)(r1:Cg ord)(h:paperOfK N.ps.length N ts t b ws):∃T,Ppr 7 N ts t b T/\ws.map Fb=T.map λp=>BS p.2:=by
 obtain⟨T,A,e⟩:=Ppr.of o1 r1 h;exact⟨T,A.up l7,e.symm⟩
theorem Mb{N:Net}{ts:List Ao}{t b:Int}{p:Prop}(near:FY N ts t b):(∃u∈J8 N ts,¬EX ⟨N.ps,ts⟩ t b u)->p:=fun⟨u,hu,hn⟩=>absurd (near u (dC.mp hu).1) hn
theorem X4{N M:Net}(ok:N.Ok){t b t' b':Int}(h:JL N M t b)(b0:1<=b)(b0':0<=b')(hl:t*b'<=t'*b):JL N M t' b':=λ{x y d} hw=>by
 obtain⟨d',h1,h2⟩:=h hw;refine⟨d',h1,?_⟩;have d0:=hw.pos ok;have e1:d'*b*b'<=d*t*b':=N_ h2 b0';have e2:d*(t*b')<=d*(t'*b):=eP hl d0
 have e3:d'*b'*b<=d*t'*b:=by
  rw [d_,fM b' b,← d_,d_ d t' b];rw [d_ d t b'] at e1;omega
 exact Int.le_of_mul_le_mul_right e3 (by omega)
theorem DB{N:Net}(okn:okN N){ts:List Ao}(s:ts.Sublist N.ts):okN ⟨N.ps,ts⟩:=(Cj okn s).okN okn
theorem Im{t1 b1 t2 b2:Int}(b10:1<=b1)(bt1:b1<=t1)(t11:t1<=1000)(b20:1<=b2)(bt2:b2<=t2)(t21:t2<=1000):1<=b1*b2/\b1*b2<=t1*t2/\t1*t2<=1000000:=by
 have h1:1*1<=b1*b2:=gE b10 b20 (by decide) (by omega);have h2:b1*b2<=t1*t2:=gE bt1 bt2 (by omega) (by omega);have h3:t1*t2<=1000*1000:=gE t11 t21 (by omega) (by decide);omega
theorem S7{N:Net}(okn:okN N)(l12:N.ts.length<=12){ts1 ts2 ts3:List Ao}(s1:ts1.Sublist N.ts)(s2:ts2.Sublist ts1)(s3:ts3.Sublist ts2){T0 T1 T2:Dx}{t0 b0 t1 b1 t2 b2:Int}(A0:Ppr 7 N ts1 t0 b0 T0)(A1:Ppr 7 ⟨N.ps,ts1⟩ ts2 t1 b1 T1)(A2:Ppr 7 ⟨N.ps,ts2⟩ ts3 t2 b2 T2) :
  Nf (.tup [.lst [enc N,enc ⟨N.ps,ts1⟩,enc ⟨N.ps,ts2⟩,enc ⟨N.ps,ts3⟩],.lst [.tup (T0.map λp=>BS p.2),.tup (T1.map λp=>BS p.2),.tup (T2.map λp=>BS p.2)]]):=by
 have one:∀{M:Net} {ts:List Ao} {T:Dx} {t b:Int},M.ps=N.ps->M.ts.length<=12->Ppr 7 M ts t b T->EO 1000001 (.tup (T.map λp=>BS p.2))/\Ip (.tup (T.map λp=>BS p.2))<=768/\Iz (.tup (T.map λp=>BS p.2))<=2:=λ{M ts T t b} hM hl A=>by
  have:=VE (k:=7) (rs:=T.map (·.2)) λr hr=>by
   obtain⟨p,hp,rfl⟩:=Tk.mp hr;obtain⟨d,⟨_,_,_,h4,h5⟩,_⟩:=A.way p hp;exact⟨h4,λx hx=>okn.1.names x (by have:=h5 x hx; rw [← hM]; exact this)⟩
  rw [dN] at this
  have tl:T.length<=12:=by
   have:=A.out.1.length_eq
   have h2:=dP (λt=>decide (t∉ts)) M.ts;rw [No] at this;omega
  refine⟨this.1,cG this.2.1 ?_,this.2.2⟩;rw [No];omega
 have n0:=JW okn;have n1:=JW (DB okn s1);have n2:=JW (DB okn (s2.trans s1));have n3:=JW (DB okn (s3.trans (s2.trans s1)));have l1:=s1.length_le;have l2:=s2.length_le;obtain⟨p0,q0,r0⟩:=one rfl l12 A0;obtain⟨p1,q1,r1⟩:=one (M:=⟨N.ps,ts1⟩) rfl (by show ts1.length<=12; omega) A1;obtain⟨p2,q2,r2⟩:=one (M:=⟨N.ps,ts2⟩) rfl (by show ts2.length<=12; omega) A2;obtain⟨f0,g0,h0⟩:=n0;obtain⟨f1,g1,h1⟩:=n1;obtain⟨f2,g2,h2⟩:=n2;obtain⟨f3,g3,h3⟩:=n3;refine QA (B:=1000001) (by decide) ⟨⟨f0,f1,f2,f3,trivial⟩,⟨p0,p1,p2,trivial⟩,trivial⟩ ?_ ?_
 ·show max (max (Iz (enc N)) (max (Iz (enc ⟨N.ps,ts1⟩)) (max (Iz (enc ⟨N.ps,ts2⟩)) (max (Iz (enc ⟨N.ps,ts3⟩)) 0)))+1) (max (max (Iz (.tup (T0.map λp=>BS p.2))) (max (Iz (.tup (T1.map λp=>BS p.2))) (max (Iz (.tup (T2.map λp=>BS p.2))) 0))+1) 0)+1<=100
  omega
 ·show (Ip (enc N)+1+(Ip (enc ⟨N.ps,ts1⟩)+1+(Ip (enc ⟨N.ps,ts2⟩)+1+(Ip (enc ⟨N.ps,ts3⟩)+1+0))))+1+((Ip (.tup (T0.map λp=>BS p.2))+1+(Ip (.tup (T1.map λp=>BS p.2))+1+(Ip (.tup (T2.map λp=>BS p.2))+1+0)))+1+0)<=200000
  omega
section
variable {N:Net}{ts1 ts2 ts3:List Ao}{T0 T1 T2:Dx}{t0 b0 t1 b1 t2 b2:Int}{m:Nat}{s4 s12 s13:Slot}
theorem VP(okn:okN N)(lp:N.ps.length<=7)(lt:N.ts.length<=12)(s1:ts1.Sublist N.ts)(s2:ts2.Sublist ts1)(s3:ts3.Sublist ts2)(A0:Ppr 7 N ts1 t0 b0 T0)(A1:Ppr 7 ⟨N.ps,ts1⟩ ts2 t1 b1 T1)(A2:Ppr 7 ⟨N.ps,ts2⟩ ts3 t2 b2 T2)(b01:1<=b0)(bt0:b0<=t0)(t01:t0<=1000)(b11:1<=b1)(bt1:b1<=t1)(t11:t1<=1000)(b21:1<=b2)(bt2:b2<=t2)(t21:t2<=1000)(near0:FY N ts1 t0 b0){T3 T4:Dx}(A3:Ppr 49 N ts2 (t0*t1) (b0*b1) T3)(A4:Ppr 49 ⟨N.ps,ts1⟩ ts3 (t1*t2) (b1*b2) T4)(sh:Nf (.tup [.lst [enc N,enc ⟨N.ps,ts1⟩,enc ⟨N.ps,ts2⟩,enc ⟨N.ps,ts3⟩],.lst [.tup (T0.map λp=>BS p.2),.tup (T1.map λp=>BS p.2),.tup (T2.map λp=>BS p.2)]])){d8:D} :
  Pq { nx:=λ_ _=>False,rt:=λd _=>d=.bl true } m [.no,.fd,.sh (.lst [enc N,enc ⟨N.ps,ts1⟩,enc ⟨N.ps,ts2⟩,enc ⟨N.ps,ts3⟩]),.sh (.lst [.tup [.int t0,.int b0],.tup [.int t1,.int b1],.tup [.int t2,.int b2]]),s4,.sh (.lst [.tup (T0.map λp=>BS p.2),.tup (T1.map λp=>BS p.2),.tup (T2.map λp=>BS p.2)]),.sh (.str (Jc (.tup [.lst [enc N,enc ⟨N.ps,ts1⟩,enc ⟨N.ps,ts2⟩,enc ⟨N.ps,ts3⟩],.lst [.tup (T0.map λp=>BS p.2),.tup (T1.map λp=>BS p.2),.tup (T2.map λp=>BS p.2)]]))),.sh (.tup [.int (t0*t1),.int (b0*b1)]),.sh d8,.sh (.tup (T3.map λp=>BS p.2)),.sh (.tup (T4.map λp=>BS p.2)),.no,.no,.no]:=by
 obtain⟨m1,m2,m3⟩:=Im b01 bt0 t01 b11 bt1 t11;obtain⟨k1,k2,k3⟩:=Im b11 bt1 t11 b21 bt2 t21;have g1:0<=t0*t1*t2:=Int.mul_nonneg (by omega) (by omega);have g2:t0*t1*t2<=1000000*1000:=gE m3 t21 (by omega) (by decide);have g3:0<=b0*b1*b2:=Int.mul_nonneg (by omega) (by omega);have g4:b0*b1*b2<=1000000*1000:=gE (by omega) (by omega) (by omega) (by decide);have lt1:=s1.length_le;obtain⟨C5,c5⟩:=compose okn.1 (by omega) (by omega) (s2.trans s1) s3 A3 A2 (by decide) (by decide) (by decide) (by decide) m1 m2 b21 bt2;obtain⟨C6,c6⟩:=compose okn.1 (by omega) (by omega) s1 (s3.trans s2) A0 A4 (by decide) (by decide) (by decide) (by decide) b01 bt0 k1 k2;have wd:JL N ⟨N.ps,ts1⟩ t0 b0:=λ{x y d}=>VD okn (Cj okn s1) near0;unfold Pq;refine⟨_,rfl,_,rfl,_,rfl,.inr ⟨by omega,by omega⟩,_,rfl,_,rfl,_,rfl,.inr ⟨by omega,by omega⟩,z2,?_⟩;refine⟨_,rfl,_,rfl,_,rfl,_,rfl,N,ts2,ts3,T3,T2,rfl,C5,λos ho=>?_⟩;obtain⟨rs,T5,q1,q2,A5,e5⟩:=c5 os ho;refine⟨rs,q1,q2,z1,?_⟩;rw [e5];clear e5 q2 q1 ho rs os c5 C5;refine⟨_,rfl,rfl,_,rfl,_,rfl,_,rfl,_,rfl,N,ts1,ts3,T0,T4,rfl,C6,λos ho=>?_⟩;obtain⟨rs,T6,q1,q2,A6,e6⟩:=c6 os ho;refine⟨rs,q1,q2,_,_,rfl,rfl,by show 1<sizeLine; decide,?_⟩;rw [e6];clear e6 q2 q1 ho rs os c6 C6;rw [← d_,← d_] at A6;refine⟨_,rfl,λa=>?_⟩;refine⟨_,rfl,_,rfl,N,ts3,t0*t1*t2,b0*b1*b2,T5,rfl,okn,s3.trans (s2.trans s1),⟨g3,by omega,g1,by omega⟩,A5.up (by decide),?_⟩;refine⟨_,rfl,_,rfl,N,ts3,t0*t1*t2,b0*b1*b2,T6,rfl,okn,s3.trans (s2.trans s1),⟨g3,by omega,g1,by omega⟩,A6.up (by decide),?_⟩;refine⟨rfl,?_⟩;refine Bj (all:=[.tup [.int t0,.int b0],.tup [.int t1,.int b1],.tup [.int t2,.int b2]]) (λ_ m' ρ=>∃s4 s7 s8 s9 s10 s11 s12 s13,ρ=[.no,.fd,.sh (.lst [enc N,enc ⟨N.ps,ts1⟩,enc ⟨N.ps,ts2⟩,enc ⟨N.ps,ts3⟩]),.sh (.lst [.tup [.int t0,.int b0],.tup [.int t1,.int b1],.tup [.int t2,.int b2]]),s4,.sh (.lst [.tup (T0.map λp=>BS p.2),.tup (T1.map λp=>BS p.2),.tup (T2.map λp=>BS p.2)]),.sh (.str (Jc (.tup [.lst [enc N,enc ⟨N.ps,ts1⟩,enc ⟨N.ps,ts2⟩,enc ⟨N.ps,ts3⟩],.lst [.tup (T0.map λp=>BS p.2),.tup (T1.map λp=>BS p.2),.tup (T2.map λp=>BS p.2)]]))),s7,s8,s9,s10,s11,s12,s13]) ?_ ?_ _ [] _ _ rfl ⟨_,_,_,_,_,_,_,_,rfl⟩
 ·rintro m' ρ ⟨s4,s7,s8,s9,s10,s11,s12,s13,rfl⟩
  refine⟨z2,_,rfl,sh,?_⟩;show D.bl (_==_)=.bl true;rw [beq_self_eq_true]
 ·rintro pre d post m' ρ nx hall ⟨s4,s7,s8,s9,s10,s11,s12,s13,rfl⟩ hnx
  have hd:d∈([.tup [.int t0,.int b0],.tup [.int t1,.int b1],.tup [.int t2,.int b2]]:List D):=by rw [hall]; exact bq _ On
  have fin:=hnx m' [.no,.fd,.sh (.lst [enc N,enc ⟨N.ps,ts1⟩,enc ⟨N.ps,ts2⟩,enc ⟨N.ps,ts3⟩]),.sh (.lst [.tup [.int t0,.int b0],.tup [.int t1,.int b1],.tup [.int t2,.int b2]]),.sh d,.sh (.lst [.tup (T0.map λp=>BS p.2),.tup (T1.map λp=>BS p.2),.tup (T2.map λp=>BS p.2)]),.sh (.str (Jc (.tup [.lst [enc N,enc ⟨N.ps,ts1⟩,enc ⟨N.ps,ts2⟩,enc ⟨N.ps,ts3⟩],.lst [.tup (T0.map λp=>BS p.2),.tup (T1.map λp=>BS p.2),.tup (T2.map λp=>BS p.2)]]))),s7,s8,s9,s10,s11,s12,s13] ⟨_,_,_,_,_,_,_,_,rfl⟩
  obtain⟨t,b,rfl,h1,h2,h3⟩:∃t b:Int,d=.tup [.int t,.int b]/\1<=b/\b<=t/\t<=1000:=by
   simp only [TW,bu,or_false] at hd
   rcases hd with rfl | rfl | rfl
   ·exact⟨_,_,rfl,b01,bt0,t01⟩
   ·exact⟨_,_,rfl,b11,bt1,t11⟩
   ·exact⟨_,_,rfl,b21,bt2,t21⟩
  refine⟨_,rfl,t,b,t0,b0,rfl,⟨h1,h2,by omega⟩,⟨b01,bt0,by omega⟩,?_⟩;refine CD (λc=>?_) λ_=>fin;exact⟨_,rfl,_,rfl,N,ts1,t,b,rfl,okn,Cj okn s1,⟨h1,by omega,by omega,by omega⟩,λ{x y d}=>X4 okn.1 wd b01 (by omega) (of_decide_eq_true c),fin⟩
theorem VQ(okn:okN N)(lp:N.ps.length<=7)(lt:N.ts.length<=12)(s1:ts1.Sublist N.ts)(s2:ts2.Sublist ts1)(s3:ts3.Sublist ts2)(A0:Ppr 7 N ts1 t0 b0 T0)(A1:Ppr 7 ⟨N.ps,ts1⟩ ts2 t1 b1 T1)(A2:Ppr 7 ⟨N.ps,ts2⟩ ts3 t2 b2 T2)(b01:1<=b0)(bt0:b0<=t0)(t01:t0<=1000)(b11:1<=b1)(bt1:b1<=t1)(t11:t1<=1000)(b21:1<=b2)(bt2:b2<=t2)(t21:t2<=1000)(near0:FY N ts1 t0 b0) :
  Pr { nx:=λ_ _=>False,rt:=λd _=>d=.bl true } m [.no,.fd,.sh (.lst [enc N,enc ⟨N.ps,ts1⟩,enc ⟨N.ps,ts2⟩,enc ⟨N.ps,ts3⟩]),.sh (.lst [.tup [.int t0,.int b0],.tup [.int t1,.int b1],.tup [.int t2,.int b2]]),s4,.sh (.lst [.tup (T0.map λp=>BS p.2),.tup (T1.map λp=>BS p.2),.tup (T2.map λp=>BS p.2)]),.no,.no,.no,.no,.no,.no,.no,.no]:=by
 have sh:=S7 okn lt s1 s2 s3 A0 A1 A2;obtain⟨m1,m2,m3⟩:=Im b01 bt0 t01 b11 bt1 t11;obtain⟨k1,k2,k3⟩:=Im b11 bt1 t11 b21 bt2 t21;have shp:Nf (.tup [.int (t0*t1),.int (b0*b1)]):=QA (B:=1000001) (by decide) ⟨by show (t0*t1).natAbs<=1000001; omega,by show (b0*b1).natAbs<=1000001; omega,trivial⟩ (by show 1<=100; decide) (by show 402<=200000; decide);have okn1:=DB okn s1;have lt1:=s1.length_le;obtain⟨C3,c3⟩:=compose okn.1 (by omega) (by omega) s1 s2 A0 A1 (by decide) (by decide) (by decide) (by decide) b01 bt0 b11 bt1;obtain⟨C4,c4⟩:=compose (N:=⟨N.ps,ts1⟩) okn1.1 (by show N.ps.length<=24; omega) (by show ts1.length<60; omega) s2 s3 A1 A2 (by decide) (by decide) (by decide) (by decide) b11 bt1 b21 bt2;unfold Pr;refine⟨z2,_,rfl,sh,?_⟩;refine⟨_,rfl,_,rfl,t0,b0,t1,b1,rfl,⟨b01,bt0,by omega⟩,⟨b11,bt1,by omega⟩,?_⟩;refine⟨_,rfl,_,rfl,t1,b1,t2,b2,rfl,⟨b11,bt1,by omega⟩,⟨b21,bt2,by omega⟩,?_⟩;refine⟨_,rfl,shp,_,rfl,_,rfl,_,rfl,_,rfl,.inr ⟨by omega,by omega⟩,_,rfl,_,rfl,_,rfl,_,rfl,.inr ⟨by omega,by omega⟩,z2,_,rfl,shp,?_⟩;refine CD (λc=>absurd c (by simp)) λ_=>?_;refine⟨_,rfl,_,rfl,_,rfl,_,rfl,_,rfl,N,ts1,ts2,T0,T1,rfl,C3,λos ho=>?_⟩;obtain⟨rs,T3,q1,q2,A3,e3⟩:=c3 os ho;refine⟨rs,q1,q2,?_⟩;rw [e3];clear e3 q2 q1 ho rs os c3 C3;refine⟨_,rfl,_,rfl,_,rfl,_,rfl,_,rfl,⟨N.ps,ts1⟩,ts2,ts3,T1,T2,rfl,C4,λos ho=>?_⟩;obtain⟨rs,T4,q1,q2,A4,e4⟩:=c4 os ho;refine⟨rs,q1,q2,?_⟩;rw [e4];clear e4 q2 q1 ho rs os c4 C4;refine⟨_,rfl,_,rfl,N,ts2,t0*t1,b0*b1,T3,rfl,okn,s2.trans s1,⟨by omega,by omega,by omega,by omega⟩,A3.up (by decide),?_⟩;refine⟨_,rfl,_,rfl,⟨N.ps,ts1⟩,ts3,t1*t2,b1*b2,T4,rfl,okn1,s3.trans s2,⟨by omega,by omega,by omega,by omega⟩,A4.up (by decide),?_⟩;have e5:∀T:Dx,(T.map λp=>BS p.2)=(T.map (·.2)).map Fb:=λT=>by rw [dN]; rfl
 refine⟨_,rfl,_,rfl,N,ts2,t0*t1,b0*b1,T3.map (·.2),by rw [e5],okn,by omega,Cj okn (s2.trans s1),⟨by omega,by omega,by omega,by omega⟩,A3.paper.up (by decide),?_⟩;refine⟨_,rfl,_,rfl,⟨N.ps,ts1⟩,ts3,t1*t2,b1*b2,T4.map (·.2),by rw [e5],okn1,by show N.ps.length<=24; omega,Cj okn1 (s3.trans s2),⟨by omega,by omega,by omega,by omega⟩,A4.paper.up (by decide),?_⟩;exact VP okn lp lt s1 s2 s3 A0 A1 A2 b01 bt0 t01 b11 bt1 t11 b21 bt2 t21 near0 A3 A4 sh
end
theorem PD:Lq { nx:=λ_ _=>False,rt:=λd _=>d=.bl true } 3000 (.no::.fd::bj 12 .no):=by
 have szl:=PySem.sizeLine_eq;unfold Lq;refine⟨7,12,rfl,by decide,by decide,by decide,λN n1 ok lp1 lp lt hn1=>⟨z1,?_⟩⟩;have okn:okN N:=⟨ok,by omega,by omega⟩;refine⟨3,rfl,by decide,?_,?_⟩
 ·decide
 rw [show Cv 0 (3:Int).toNat=[.int 0,.int 1,.int 2] from rfl];refine⟨rfl,by omega,λt0 b0 b01 bt0 t01=>⟨rfl,by omega,λt1 b1 b11 bt1 t11=>⟨rfl,by omega,λt2 b2 b21 bt2 t21=>?_⟩⟩⟩;refine⟨_,rfl,rfl,1,rfl,enc N,rfl,1,rfl,enc N,rfl,N,t0,b0,rfl,okn,b01,by omega,by omega,by omega,λord0 o0 r0=>?_⟩;refine⟨N,(sub N (Bp N t0 b0 [] ord0)).ts,rfl,okn,λu hu=>(sub_mem.mp hu).1,by omega,λts1 n2 s1 i1 hn2=>?_⟩;have near0:=Ho okn b01 bt0 o0 s1 i1;have okn1:=DB okn s1;have l1:=s1.length_le;clear i1;refine⟨_,_,rfl,rfl,by show 1<sizeLine; decide,?_⟩;refine⟨_,rfl,rfl,1,rfl,enc ⟨N.ps,ts1⟩,rfl,1,rfl,enc ⟨N.ps,ts1⟩,rfl,⟨N.ps,ts1⟩,t1,b1,rfl,okn1,b11,by omega,by omega,by omega,λord1 o1 r1=>?_⟩;refine⟨⟨N.ps,ts1⟩,(sub ⟨N.ps,ts1⟩ (Bp ⟨N.ps,ts1⟩ t1 b1 [] ord1)).ts,rfl,okn1,λu hu=>(sub_mem.mp hu).1,by show ts1.length<=_; omega,λts2 n3 s2 i2 hn3=>?_⟩;have s2:ts2.Sublist ts1:=s2;have near1:=Ho okn1 b11 bt1 o1 s2 i2;have okn2:=DB okn (s2.trans s1);have l2:=s2.length_le;have hn3:n2 - ts1.length<=n3:=hn3;clear i2;refine⟨_,_,rfl,rfl,by show 2<sizeLine; decide,?_⟩;refine⟨_,rfl,rfl,1,rfl,enc ⟨N.ps,ts2⟩,rfl,1,rfl,enc ⟨N.ps,ts2⟩,rfl,⟨N.ps,ts2⟩,t2,b2,rfl,okn2,b21,by omega,by omega,by omega,λord2 o2 r2=>?_⟩;refine⟨⟨N.ps,ts2⟩,(sub ⟨N.ps,ts2⟩ (Bp ⟨N.ps,ts2⟩ t2 b2 [] ord2)).ts,rfl,okn2,λu hu=>(sub_mem.mp hu).1,by show ts2.length<=_; omega,λts3 n4 s3 i3 hn4=>?_⟩;have s3:ts3.Sublist ts2:=s3;have near2:=Ho okn2 b21 bt2 o2 s3 i3;have okn3:=DB okn (s3.trans (s2.trans s1));have hn4:n3 - ts2.length<=n4:=hn4;clear i3;refine⟨_,_,rfl,rfl,by show 3<sizeLine; decide,?_⟩;refine⟨_,rfl,?_⟩;refine⟨3,rfl,by decide,by decide,?_⟩;rw [show Cv 0 (3:Int).toNat=[.int 0,.int 1,.int 2] from rfl];refine⟨_,rfl,_,rfl,_,rfl,N,ts1,t0,b0,rfl,okn,Cj okn s1,⟨b01,by omega,by omega,by omega⟩,λws h _=>?_,Mb near0⟩;obtain⟨T0,A0,e⟩:=HP (N:=N) lp o0 r0 h;rw [e];clear e h ws;refine⟨_,rfl,_,rfl,_,rfl,⟨N.ps,ts1⟩,ts2,t1,b1,rfl,okn1,Cj okn1 s2,⟨b11,by omega,by omega,by omega⟩,λws h _=>?_,Mb near1⟩;obtain⟨T1,A1,e⟩:=HP (N:=⟨N.ps,ts1⟩) lp o1 r1 h;rw [e];clear e h ws;refine⟨_,rfl,_,rfl,_,rfl,⟨N.ps,ts2⟩,ts3,t2,b2,rfl,okn2,Cj okn2 s3,⟨b21,by omega,by omega,by omega⟩,λws h _=>?_,Mb near2⟩;obtain⟨T2,A2,e⟩:=HP (N:=⟨N.ps,ts2⟩) lp o2 r2 h;rw [e];clear e h ws;exact VQ okn lp lt s1 s2 s3 A0 A1 A2 b01 bt0 t01 b11 bt1 t11 b21 bt2 t21 near0
end Nt
namespace K91
open PySem PySem.Spec PyProof.Rows L2 Dp Nt
section
variable (P:Program)(w:World)(K:Frag)(mg:Str->Option Value)(base:Heap)
abbrev Kq:Prop:=Got P w K mg base "is_whole" 1 ["thing"] .sh NG
abbrev Dv:Prop:=Got P w K mg base "is_tuple_of" 1 ["count","thing"] .sh FK
abbrev IV:Prop:=Got P w K mg base "is_rising" 1 ["things"] .sh JH
abbrev Lw:Prop:=Got P w K mg base "rank_of" 1 ["tie"] .sh Q1
abbrev GR:Prop:=Got P w K mg base "order_of" 4 ["ties"] .fr ET
abbrev ES:Prop:=Got P w K mg base "steps_of" 1 ["net"] .sh Kt
abbrev U0:Prop:=Got P w K mg base "only" 1 ["net","ties"] .sh GU
abbrev IU:Prop:=Got P w K mg base "is_tie_of" 2 ["net","thing"] .sh WR
abbrev Ly:Prop:=Got P w K mg base "is_thin" 3 ["net","thing"] .sh Q0
abbrev DP:Prop:=Got P w K mg base "left_out" 5 ["net","thin"] .fr IX
abbrev FI:Prop:=Got P w K mg base "length_of" 2 ["net","thing"] .sh NK
abbrev D_:Prop:=Got P w K mg base "length_between" 3 ["net","a","b","thing"] .sh Q3
abbrev IS:Prop:=Got P w K mg base "ties_over" 2 ["net","way"] .fr JF
abbrev HE:Prop:=Got P w K mg base "nearest_of" 1 ["waiting","found"] .sh Q2
abbrev HF:Prop:=Got P w K mg base "least_ways" 2 ["net","start"] .fr NL
abbrev Ov:Prop:=Got P w K mg base "way_of" 3 ["net","a","b"] .sh WQ
abbrev Lx:Prop:=Got P w K mg base "product" 1 ["one","other"] .sh FL
abbrev EA:Prop:=Got P w K mg base "is_no_stricter" 1 ["one","other"] .sh NI
abbrev F2:Prop:=Got P w K mg base "ways_by_tie" 6 ["net","thin","paper"] .sh U1
abbrev IQ:Prop:=Got P w K mg base "way_taken" 3 ["thin","way","taken"] .sh NH
abbrev Kr:Prop:=Got P w K mg base "composed" 7 ["net","thin","thinner","ways","more"] .sh Ci
abbrev FJ:Prop:=Got P w K mg base "is_within" 1 ["length","times","number"] .sh HI
abbrev GS:Prop:=Got P w K mg base "near_way" 4 ["net","times","tie"] .sh GV
abbrev Lv:Prop:=Got P w K mg base "thinned" 5 ["net","times"] .sh HK
abbrev HD:Prop:=Got P w K mg base "ways_paper" 6 ["net","times","thin"] .sh JE
abbrev IR:Prop:=Got P w K mg base "way_fault" 4 ["net","times","tie","thing"] .sh HJ
abbrev IT:Prop:=Got P w K mg base "lets_ways" 6 ["net","times","thin","paper"] .sh Ku
abbrev CH:Prop:=Got P w K mg base "_law_next" 1 ["_law_feed_here","_law_many"] .sh BN
abbrev F5:Prop:=Got P w K mg base "_law_places" 2 ["_law_feed_here","_law_many"] .fr JI
abbrev F6:Prop:=Got P w K mg base "_law_length" 2 ["_law_feed_here","_law_scale"] .sh WT
abbrev Ks:Prop:=Got P w K mg base "_law_net" 3 ["_law_feed_here","_law_most","_law_ties"] .sh WS
abbrev Ec:Prop:=Got P w K mg base "_law_in_order" 1 ["_law_ties"] .fr ET
abbrev HG:Prop:=Got P w K mg base "_law_least" 1 ["_law_ties","_law_place"] .fr FN
abbrev F3:Prop:=Got P w K mg base "_law_within" 2 ["_law_net_here","_law_times","_law_thin"] .sh HH
abbrev F4:Prop:=Got P w K mg base "_law_walked" 1 ["_law_net_here","_law_way"] .sh NK
abbrev DQ:Prop:=Got P w K mg base "_law_small_times" 2 ["_law_feed_here"] .sh JG
abbrev IW:Prop:=Got P w K mg base "_law_more" 2 ["_law_feed_here","_law_net_here","_law_thin"] .sh NJ
abbrev Dg:Prop:=Got P w K mg base "_law_ways_right" 2 ["_law_net_here","_law_times","_law_thin","_law_paper"] .sh FZ
end
section
variable {P:Program}{w:World}{K:Frag}{mg:Str->Option Value}{base:Heap}
theorem Ni:Ah ["thing"] ["thing"] (AR GB):=by constructor <;> first | rfl | decide +kernel
theorem N4{f:Db}{fd:bo}(T:Txt K mg)(F:Fun K "is_whole" "is_whole" GB f fd):BG P w K mg base CP 1 f fd ["thing"] (DY K .sh NG 1):=by
 exact Ej F Ni (by decide) (λcdv A outer s H E hr=>(AK (Ad (Ka (EQ Vp (dv 0) rfl T.n_isinstance rfl T.n_int (by decide +kernel)) (M5 (YS (EQ UA (dv 0) rfl T.n_isinstance rfl T.n_bool (by decide +kernel)))))))) (λss n Pd hl hw=>Nm hw)
theorem Je:Ah ["count","thing"] ["count","thing"] (AR Dk):=by constructor <;> first | rfl | decide +kernel
theorem Jw{f:Db}{fd:bo}(T:Txt K mg)(F:Fun K "is_tuple_of" "is_tuple_of" Dk f fd):BG P w K mg base CP 1 f fd ["count","thing"] (DY K .sh FK 2):=by
 exact Ej F Je (by decide) (λcdv A outer s H E hr=>(AK (Ad (Ka (EQ kit_tuple (dv 1) rfl T.n_isinstance rfl T.n_tuple (by decide +kernel)) (M5 (FC Fk LG (As Bh Fz rfl T.n_len PySem.boot_len (AS (dv 1) Ae)) (dv 0) (Ap _))))))) (λss n Pd hl hw=>Jo hw)
theorem MC:Ah ["things"] ["things"] (AR Ew):=by constructor <;> first | rfl | decide +kernel
theorem MY{f:Db}{fd:bo}(T:Txt K mg)(F:Fun K "is_rising" "is_rising" Ew f fd):BG P w K mg base CP 1 f fd ["things"] (DY K .sh JH 1):=by
 exact Ej F MC (by decide) (λcdv A outer s H E hr=>(AK (Ad (As (Kk rfl) Uz rfl T.n_all ge (AS (Bg rfl [("ahead":Str),("behind":Str)] [none,none] (Qm rfl T.n_zip (AS (dv 0) (AS (FA Jb FG (dv 0) (Bw AD) C9) Ae))) (λ_ _ _ _ _=>(DL rfl (Au (AX (i:=0) (show cm [("ahead":Str),("behind":Str)] by decide +kernel) rfl (be rfl)) (Au (AX (i:=1) (show cm [("ahead":Str),("behind":Str)] by decide +kernel) rfl (be rfl)) CN)))) (λ_ _ _ _ _=>Be) (λ_ _ _ _ _=>(FC (Hj hr) Lu (dv 0) (dv 1) (Ap _))) (by kernel_rfl)) Ae))))) (λss n Pd hl hw=>MK hw)
theorem O6:Ah ["tie"] ["tie"] (AR Hd):=by constructor <;> first | rfl | decide +kernel
theorem PU{f:Db}{fd:bo}(T:Txt K mg)(F:Fun K "rank_of" "rank_of" Hd f fd):BG P w K mg base CP 1 f fd ["tie"] (DY K .sh Q1 1):=by
 exact Ej F O6 (by decide) (λcdv A outer s H E hr=>(AK (Ad (Bc (AJ (AN AH Ac (dv 0) AD) (AJ (AN AH Ac (dv 0) AD) (AJ (AN AH Ac (dv 0) AD) Ag))))))) (λss n Pd hl hw=>PB hw)
theorem Ng:Ah ["ties"] ["ties"] (AR F9):=by constructor <;> first | rfl | decide +kernel
theorem N0{f:Db}{fd:bo}(T:Txt K mg)(jV:Lw P w K mg base)(F:Fun K "order_of" "order_of" F9 f fd):BG P w K mg base CP 4 f fd ["ties"] (DY K .fr ET 1):=by
 exact Ej F Ng (by decide) (λcdv A outer s H E hr=>(AK (Ad (Ue jV (hr.mono (by decide)) rfl T.n_sorted rfl (dv 0))))) (λss n Pd hl hw=>Nk hw)
theorem jW:Ah ["net","steps","place","a","b","length"] ["net"] (AR F8):=⟨rfl,rfl,rfl,by decide +kernel,rfl,by decide +kernel,by decide +kernel⟩
theorem Nz{f:Db}{fd:bo}(F:Fun K "steps_of" "steps_of" F8 f fd):BG P w K mg base CP 1 f fd ["net"] (DY K .sh Kt 1):=by
 refine F.ok (k:=0) jW (λvs H Q E h=>h.1) (λcdv A outer s H vs Q E hr h=>?_);obtain⟨hl,F0,U,V',M,n,ss,Pd,ra,⟨N,rfl,ok,lp,lt,p⟩,q⟩:=h;obtain⟨dom,fU,uV,vM,fd0,pa⟩:=ra;cases pa with
 | cons r1 pa =>
 cases pa;obtain⟨v,e1,h1⟩:=r1.1;cases e1;obtain⟨an,vs,rfl,hn,v1,r,rfl,hp,v2,r2,rfl,ht,e2⟩:=h1;cases (show r2=[] from e2);obtain⟨ap,us,rfl,hpn,hps⟩:=hp;obtain⟨at_,ws,rfl,htn,hts⟩:=ht;have nd:=jW.nd;have hu:=IG hr;have szl:=PySem.sizeLine_eq;have lus:us.length=N.ps.length:=by rw [hps.length,No]
 have lws:ws.length=N.ts.length:=by rw [hts.length,No]
 refine⟨_,BL (E3 (i:=1) nd rfl (be rfl) Nv)
  (BL (Jq cI rfl (Ta (EV ix_tup (pv 0) A_ (λ_ _=>rfl))) (Gj (i:=2) nd rfl (be rfl)) (De (Iu hu (pv 1) (pv 2) Nv rfl)))
  (BL (Jq cI rfl (Ta (EV ix_tup (pv 0) A_ (λ_ _=>rfl))) (Tc rfl (Gi (Gj (i:=3) nd rfl (be rfl)) (Gi (Gj (i:=4) nd rfl (be rfl)) (Gi (Gj (i:=5) nd rfl (be rfl)) QJ))))
   (BL (Iu hu (Iv hu (pv 1) (pv 3) (λ_ _=>rfl)) (pv 4) (pv 5) rfl) (De (Iu hu (Iv hu (pv 1) (pv 4) (λ_ _=>rfl)) (pv 3) (pv 5) rfl))))
  (De (GF (Te (pv 1)))))),?_⟩
 refine λd hd=>?_;have old0:∀b o,H b=some o->BC H d (.dK []) b=some o:=λb o e=>by rw [AU (Al e hd)]; exact e
 have SqN:∀H':Hp,(∀b o,H b=some o->H' b=some o)->SqT K H' an [.ref ap,.ref at_]:=λH' o=>SqT.of (o _ _ hn);have SqP:∀H':Hp,(∀b o,H b=some o->H' b=some o)->SqT K H' ap us:=λH' o=>SqT.of (o _ _ hpn);have SqW:∀H':Hp,(∀b o,H b=some o->H' b=some o)->SqT K H' at_ ws:=λH' o=>SqT.of (o _ _ htn);refine⟨_,rfl,an,_,0,_,rfl,rfl,SqN _ old0,rfl,ap,rfl,⟨_,SqP _ old0⟩,?_⟩;refine Qd (xs:=us) (λi σ H'=>∃(as:List (Str×Db)) (x2 x3 x4 x5:Option V),σ=[some (.ref an),some (.ref d),x2,x3,x4,x5]/\as.map (·.1)=N.ps.take i/\Stp H d as (λ_=>[]) H') ?_ (λi σ H' hi ⟨as,x2,x3,x4,x5,e,hm,st⟩=>SqP _ st.old) ?_ ?_
 ·exact⟨[],_,_,_,_,rfl,rfl,old0,hd,Ai,(λx hx=>by cases hx),cr,cr⟩
 ·rintro i x σ H' hx ⟨as,x2,x3,x4,x5,rfl,hm,st⟩
  have hi:i<N.ps.length:=by rw [← lus]; exact(bh.mp hx).1
  obtain⟨x',hx',hAt⟩:=hps.get (i:=i) (d:=.str N.ps[i]) (by rw [bv,Go hi]; rfl);rw [hx] at hx';cases hx';obtain⟨rfl,_⟩:=hAt;intro q hq;have las:as.length<=i:=by have:=congrArg fG hm; rw [No,dG] at this; omega
  have nq:d≠q:=λe=>by rw [← e,st.top] at hq; cases hq
  have las2:(as.map λx=>((.inr x.1:Key),V.ref x.2)).length=as.length:=No ..;refine⟨_,rfl,_,rfl,d,_,rfl,DPut.k (k:=.inr N.ps[i]) (by rw [AU nq]; exact st.top) (by omega),?_⟩;refine⟨as++[(N.ps[i],q)],_,_,_,_,rfl,?_,st.more hq ?_ rfl⟩
  ·rw [cN,hm,List.take_succ,Go hi]; rfl
  ·rw [hm]; exact PY (ME ok.rise) hi
 ·rintro σ H' ⟨as,x2,x3,x4,x5,rfl,hm,st⟩
  rw [lus,fL] at hm;refine⟨_,rfl,an,_,1,_,rfl,rfl,SqN _ st.old,rfl,at_,rfl,⟨_,SqW _ st.old⟩,?_⟩;refine Qd (xs:=ws) (λi σ H'=>∃(x2 x3 x4 x5:Option V),σ=[some (.ref an),some (.ref d),x2,x3,x4,x5]/\Stp H d as (λp=>(DF (N.ts.take i) p).map kv) H') ⟨_,_,_,_,rfl,st⟩ (λi σ H' hi ⟨x2,x3,x4,x5,e,st⟩=>SqW _ st.old) ?_ ?_
  ·rintro i x σ H' hx ⟨x2,x3,x4,x5,rfl,st⟩
   have hi:i<N.ts.length:=by rw [← lws]; exact(bh.mp hx).1
   obtain⟨x',hx',hAt⟩:=hts.get (i:=i) (d:=Aj N.ts[i]) (by rw [bv,Go hi]; rfl);rw [hx] at hx';cases hx';have hmem:N.ts[i]∈N.ts:=dO hi;have hsnoc:N.ts.take (i+1)=N.ts.take i++[N.ts[i]]:=by rw [List.take_succ,Go hi]; rfl
   have hpre:(N.ts.take (i+1)).Pairwise Bk:=ok.trise.sublist (List.take_sublist _ _);have hlt2:∀s∈N.ts.take (i+1),cs s.a<cs s.b:=λs hs=>(ok.tin s (fE hs)).2.2.1;rw [hsnoc] at hpre hlt2;have new:=UW hpre hlt2;have ltk:(N.ts.take i).length<=1000:=by rw [dG]; omega
   generalize N.ts[i]=t at hAt hmem hsnoc new;generalize N.ts.take i=ts at hsnoc new st ltk;obtain⟨m1,m2,m3,_⟩:=ok.tin t hmem;have hab:t.a≠t.b:=λe=>by rw [e] at m3; exact ce _ m3
   obtain⟨ta,tb,tl⟩:=t;obtain⟨tt,us3,rfl,htt,hit⟩:=hAt;obtain⟨va,r3,rfl,⟨rfl,_⟩,vb,r4,rfl,⟨rfl,_⟩,vl,r5,rfl,rfl,e5⟩:=hit;cases (show r5=[] from e5);rw [← hm] at m1 m2;obtain⟨⟨xa,pa⟩,ha,ea⟩:=Tk.mp m1;obtain⟨⟨xb,pb⟩,hb,eb⟩:=Tk.mp m2;have ea':ta=xa:=ea.symm;have eb':tb=xb:=eb.symm;subst ea' eb';clear ea eb;replace hab:ta≠tb:=hab;replace new:tb∉(DF ts ta).map (·.1)/\ta∉(DF ts tb).map (·.1):=new;have ga:=DGet.k (k:=.inr ta) st.top;rw [Ik st.nms ha] at ga;have l1:=QR ts ta;refine⟨tt,_,rfl,SqT.of (st.old _ _ htt),rfl,_,_,rfl,_,_,rfl,_,_,rfl,rfl,?_⟩;refine⟨_,rfl,_,rfl,_,rfl,d,_,rfl,ga,_,rfl,pa,_,rfl,DPut.k (k:=.inr tb) (st.inn _ ha).2.2 (by show ((DF ts ta).map kv).length<sizeLine; rw [No]; omega),?_⟩;have st1:=st.put (tb2:=λp=>(DF ts p++if ta=p then [(tb,tl)] else []).map kv) ha (kvs:=putK ((DF ts ta).map kv) (.inr tb) (.int tl)) (by rw [QG new.1,if_pos rfl]) (λq hq=>by rw [if_neg (ci hq),cH]);have gb:=DGet.k (k:=.inr tb) st1.top;rw [Ik st1.nms hb] at gb;have l2:=QR ts tb;have ib:=(st1.inn _ hb).2.2;simp only [if_neg hab,cH] at ib;refine⟨_,rfl,_,rfl,_,rfl,d,_,rfl,gb,_,rfl,pb,_,rfl,DPut.k (k:=.inr ta) ib (by rw [No]; omega),?_⟩;refine⟨_,_,_,_,rfl,st1.put hb ?_ λq hq=>?_⟩
   ·show (DF (N.ts.take (i+1)) tb).map kv=_
    rw [hsnoc,N8,QG new.2];show ((DF ts tb++((if ta=tb then [(tb,tl)] else [])++if tb=tb then [(ta,tl)] else [])).map kv)=_;rw [if_neg hab,if_pos rfl]; rfl
   ·show (DF (N.ts.take (i+1)) q).map kv=_
    rw [hsnoc,N8];show ((DF ts q++((if ta=q then [(tb,tl)] else [])++if tb=q then [(ta,tl)] else [])).map kv)=_;rw [if_neg (ci hq),cH]
  ·rintro σ H' ⟨x2,x3,x4,x5,rfl,st⟩
   rw [lws,fL] at st
   have old:∀(f:Db->Obj) b o,H b=some o->Fh H' (as.map (·.2)) f b=some o:=λf b o e=>by
    rw [DJ (λhm=>by obtain⟨x,hx,e2⟩:=Tk.mp hm; have:=(st.inn x hx).1; rw [e2,e] at this; cases this)];exact st.old b o e
   refine⟨_,rfl,(as.map fun(x:Str×Db)=>x.2),λb hb=>?_,λf=>q (.ref d) (Fh H' (as.map fun(x:Str×Db)=>x.2) f) (ED N) n (λb o e=>⟨o,old f b o e,λ_=>rfl,λ_ _=>rfl⟩) (λg hg=>?_) (show At K M (Fh H' (as.map fun(x:Str×Db)=>x.2) f) (ED N) (.ref d) from st.at_ dom hm f) p⟩
   ·obtain⟨x,hx,rfl⟩:=Tk.mp hb
    exact⟨_,(st.inn x hx).2.2⟩
   ·obtain⟨a,r,cells,hf,hcf,hc,rest⟩:=fd0 g hg
    exact⟨a,r,cells,old f _ _ hf,hcf,⟨hc.1,old f _ _ hc.2⟩,rest⟩
theorem VO:Ah ["net","ties"] ["net","ties"] (AR O9):=by constructor <;> first | rfl | decide +kernel
theorem Vi{f:Db}{fd:bo}(T:Txt K mg)(F:Fun K "only" "only" O9 f fd):BG P w K mg base CP 1 f fd ["net","ties"] (DY K .sh GU 2):=by
 exact Ej F VO (by decide) (λcdv A outer s H E hr=>(AK (Ad (Bc (AJ (AN AH Ac (dv 0) AD) (AJ (Ce BV DN rfl T.n_tuple fm (AS (As Ki Qx rfl T.n_sorted g9 (AS (Kv 1) Ae)) Ae)) Ag)))))) (λss n Pd hl hw=>RN hw)
theorem MB:Ah ["net","thing"] ["net","thing"] (AR Eu):=by constructor <;> first | rfl | decide +kernel
theorem MX{f:Db}{fd:bo}(T:Txt K mg)(jX:Kq P w K mg base)(F:Fun K "is_tie_of" "is_tie_of" Eu f fd):BG P w K mg base CP 2 f fd ["net","thing"] (DY K .sh WR 2):=by
 exact Ej F MB (by decide) (λcdv A outer s H E hr=>(AK (Ad (Ka (FC (E4 hr) F1 (dv 1) (AN AH Ac (dv 0) AD) (by with_unfolding_all rfl)) (M5 (AL jX (hr.mono (by decide)) rfl (AA (AM (AN AH Ac (dv 1) AD)) AO))))))) (λss n Pd hl hw=>MJ hw)
theorem O8:Ah ["net","thing"] ["net","thing"] (AR Hf):=by constructor <;> first | rfl | decide +kernel
theorem PX{f:Db}{fd:bo}(T:Txt K mg)(jY:IV P w K mg base)(jZ:IU P w K mg base)(ja:Dv P w K mg base)(F:Fun K "is_thin" "is_thin" Hf f fd):BG P w K mg base CP 3 f fd ["net","thing"] (DY K .sh Q0 2):=by
 exact Ej F O8 (by decide) (λcdv A outer s H E hr=>(AE (BI (DTW.dt (DK (Cb (B4 (AL ja (hr.mono (by decide)) rfl (AA (AM AD) (AA (AM (dv 1)) AO))))) (Cy (Cb (B4 (EQ kit_tuple (AN AH Ac (dv 1) AD) rfl T.n_isinstance rfl T.n_tuple (by decide +kernel))))))) (AK (Ad CG)) Ar)
 (AK (Ad (Ka (FC (Tq hr) XG (AN AH Ac (dv 1) AD) (AN AH Ac (dv 0) AD) (Ap _)) (Ka (As (Kk rfl) Uz rfl T.n_all ge (AS (Bg rfl [("net":Str),("tie":Str)] [some 0,none] (CA (AN AH Ac (dv 1) AD)) (λ_ _ _ _ _=>(AX (i:=1) (show cm [("net":Str),("tie":Str)] by decide +kernel) rfl (be rfl))) (λ_ _ _ _ _=>Be) (λ_ _ _ _ _=>(AL jZ (hr.mono (by decide)) rfl (AA (AM (dv 0)) (AA (AM (dv 1)) AO)))) (by kernel_rfl)) Ae)) (M5 (AL jY (hr.mono (by decide)) rfl (AA (AM (AN AH Ac (dv 1) AD)) AO))))))))) (λss n Pd hl hw=>PH hw)
theorem Nh:Ah ["net","thin"] ["net","thin"] (AR GA):=by constructor <;> first | rfl | decide +kernel
theorem N3{f:Db}{fd:bo}(T:Txt K mg)(jb:GR P w K mg base)(F:Fun K "left_out" "left_out" GA f fd):BG P w K mg base CP 5 f fd ["net","thin"] (DY K .fr IX 2):=by
 exact Ej F Nh (by decide) (λcdv A outer s H E hr=>(AK (Ad (AL jb (hr.mono (by decide)) rfl (AA (AM (Bg rfl [("thin":Str),("tie":Str)] [some 1,none] (CA (AN AH Ac (dv 0) AD)) (λ_ _ _ _ _=>(AX (i:=1) (show cm [("thin":Str),("tie":Str)] by decide +kernel) rfl (be rfl))) (λ_ _ _ _ _=>(I0 (Ak (LV hr) F1 (dv 1) (AN AH Ac (dv 0) AD) (by with_unfolding_all rfl)))) (λ_ _ _ _ _=>(dv 1)) (by kernel_rfl))) AO))))) (λss n Pd hl hw=>Nl hw)
theorem jc:Ah ["net","thing","steps","length","here","there"] ["net","thing"] (AR Es):=by constructor <;> first | rfl | decide +kernel
theorem MV{f:Db}{fd:bo}(T:Txt K mg)(jd:ES P w K mg base)(F:Fun K "length_of" "length_of" Es f fd):BG P w K mg base CP 2 f fd ["net","thing"] (DY K .sh NK 2):=by
 exact Ej F jc (by decide) (λcdv A outer s H E hr=>(AE (BI (DTW.dt (DK (Cb (B4 (EQ kit_tuple (dv 1) rfl T.n_isinstance rfl T.n_tuple (by decide +kernel)))) (Cy (Ak Fk LG (As Bh Fz rfl T.n_len PySem.boot_len (AS (dv 1) Ae)) AD (Ap _))))) (AK (Ad BU)) Ar)
 (AE (BI (Cb (B4 (As (Kk rfl) Uz rfl T.n_all ge (AS (Bg rfl [("place":Str)] [none] (CA (dv 1)) (λ_ _ _ _ _=>(AX (i:=0) (show cm [("place":Str)] by decide +kernel) rfl (be rfl))) (λ_ _ _ _ _=>Be) (λ_ _ _ _ _=>(EQ QZ (dv 0) rfl T.n_isinstance rfl T.n_str (by decide +kernel))) (by kernel_rfl)) Ae)))) (AK (Ad BU)) Ar)
 (AE (Am (i:=2) jc.nd rfl (be rfl) (AL jd (hr.mono (by decide)) rfl (AA (AM (dv 0)) AO)))
 (AE (BI (Ak (D4 hr) FH (AN AH Ac (dv 1) AD) (dv 2) (by with_unfolding_all rfl)) (AK (Ad BU)) Ar)
 (AE (Am (i:=3) jc.nd rfl (be rfl) AD)
 (AE (B5 cI rfl (Uc rfl T.n_zip (AJ (dv 1) (AJ (FA Jb FG (dv 1) (Bw AD) C9) Ag))) (DL rfl (Au (AX (i:=4) jc.nd rfl (be rfl)) (Au (AX (i:=5) jc.nd rfl (be rfl)) CN))) (AE (BI (Ak (D4 hr) FH (dv 5) (Bx hr (dv 2) (dv 4)) (by with_unfolding_all rfl)) (AK (Ad BU)) Ar)
 (AK (WB (i:=3) jc.nd rfl (be rfl) (Bx hr (Bx hr (dv 2) (dv 4)) (dv 5))))))
 (AK (Ad (dv 3)))))))))) (λss n Pd hl hw=>MH hw)
theorem je:Ah ["net","a","b","thing","length"] ["net","a","b","thing"] (AR CQ):=by constructor <;> first | rfl | decide +kernel
theorem Gn{f:Db}{fd:bo}(T:Txt K mg)(jf:FI P w K mg base)(F:Fun K "length_between" "length_between" CQ f fd):BG P w K mg base CP 3 f fd ["net","a","b","thing"] (DY K .sh Q3 4):=by
 exact Ej F je (by decide) (λcdv A outer s H E hr=>(AE (Am (i:=4) je.nd rfl (be rfl) (AL jf (hr.mono (by decide)) rfl (AA (AM (dv 0)) (AA (AM (dv 3)) AO))))
 (AE (BI (DTW.dt (DK (Ak Ju Ou (dv 4) BU (Ap _)) (DK (Ak ID Ot (AN AH Ac (dv 3) AD) (dv 1) (Ap _)) (Cy (Ak ID Ot (AN AH Ac (dv 3) (KZ AD)) (dv 2) (Ap _)))))) (AK (Ad BU)) Ar)
 (AK (Ad (dv 4)))))) (λss n Pd hl hw=>Fc hw)
theorem jg:Ah ["net","way","steps"] ["net","way"] (AR Ep):=by constructor <;> first | rfl | decide +kernel
theorem MT{f:Db}{fd:bo}(T:Txt K mg)(jd:ES P w K mg base)(F:Fun K "ties_over" "ties_over" Ep f fd):BG P w K mg base CP 2 f fd ["net","way"] (DY K .fr JF 2):=by
 exact Ej F jg (by decide) (λcdv A outer s H E hr=>(AE (Am (i:=2) jg.nd rfl (di rfl) (AL jd (hr.mono (by decide)) rfl (AA (AM (dv 0)) AO)))
 (AK (Ad (Bg rfl [("steps":Str),("here":Str),("there":Str)] [some 2,none,none] (Qm rfl T.n_zip (AS (dv 1) (AS (FA Jb FG (dv 1) (Bw AD) C9) Ae))) (λ_ _ _ _ _=>(DL rfl (Au (AX (i:=1) (show cm [("steps":Str),("here":Str),("there":Str)] by decide +kernel) rfl (be rfl)) (Au (AX (i:=2) (show cm [("steps":Str),("here":Str),("there":Str)] by decide +kernel) rfl (be rfl)) CN)))) (λ_ _ _ _ _=>Be) (λ_ _ _ _ _=>(Bc (AJ (As (SR rfl) Yb rfl T.n_min boot_min (AS (dv 1) (AS (dv 2) Ae))) (AJ (As (SU rfl) Yd rfl T.n_max boot_max (AS (dv 1) (AS (dv 2) Ae))) (AJ (Bx hr (Bx hr (dv 0) (dv 1)) (dv 2)) Ag))))) (by kernel_rfl)))))) (λss n Pd hl hw=>Jl hw)
theorem Ky:Ah ["waiting","found"] ["waiting","found"] (AR EH):=by constructor <;> first | rfl | decide +kernel
theorem K8{f:Db}{fd:bo}(T:Txt K mg)(F:Fun K "nearest_of" "nearest_of" EH f fd):BG P w K mg base CP 1 f fd ["waiting","found"] (DY K .sh Q2 2):=by
 exact Ej F Ky (by decide) (λcdv A outer s H E hr=>(AK (Ad (AN AH Ac (As (SS hr) Yc rfl T.n_min boot_min (AS (Bg rfl [("found":Str),("place":Str)] [some 1,none] (CA (Kv 0)) (λ_ _ _ _ _=>(AX (i:=1) (show cm [("found":Str),("place":Str)] by decide +kernel) rfl (be rfl))) (λ_ _ _ _ _=>Be) (λ_ _ _ _ _=>(Bc (AJ (AN AH Ac (Bx hr (Kv 0) (dv 1)) AD) (AJ (dv 1) Ag)))) (by kernel_rfl)) Ae)) AD)))) (λss n Pd hl hw=>Kz hw)
theorem jh:Ah ["net","start","steps","found","waiting","place","other","step","length"] ["net","start"] (AR EI):=by constructor <;> first | rfl | decide +kernel
theorem K9{f:Db}{fd:bo}(T:Txt K mg)(ji:HE P w K mg base)(jd:ES P w K mg base)(F:Fun K "least_ways" "least_ways" EI f fd):BG P w K mg base CP 2 f fd ["net","start"] (DY K .fr NL 2):=by
 exact Ej F jh (by decide) (λcdv A outer s H E hr=>(AE (Am (i:=2) jh.nd rfl (be rfl) (AL jd (hr.mono (by decide)) rfl (AA (AM (dv 0)) AO)))
 (AE (CM (i:=3) jh.nd rfl (be rfl) (Ob (dv 1) (Bc (AJ AD (AJ BU Ag)))))
 (AE (CM (i:=4) jh.nd rfl (be rfl) (Cd (AJ (dv 1) Ag)))
 (AE (KU cI (YN (Kv 4)) (AE (Am (i:=5) jh.nd rfl (be rfl) (AL ji (hr.mono (by decide)) rfl (AA (Lg (Kv 4)) (AA (Lg (Kv 3)) AO))))
 (AE (Fp 4 PySem.F.plainAttrs_list PySem.F.slot_list_remove PySem.F.type_list_remove (Rl hr) Zs (pv 4) (AJ (dv 5) Ag))
 (AK (B5 cI rfl (Ud (Bx hr (dv 2) (dv 5))) (DL rfl (Au (AX (i:=6) jh.nd rfl (be rfl)) (Au (AX (i:=7) jh.nd rfl (be rfl)) CN))) (AE (Am (i:=8) jh.nd rfl (be rfl) (A7 BF BQ (AN AH Ac (Bx hr (Kv 3) (dv 5)) AD) (dv 7)))
 (AK (BI (Ak (D4 hr) FH (dv 6) (Kv 3) (by with_unfolding_all rfl)) (AE (Fp 4 PySem.F.plainAttrs_list PySem.F.slot_list_append PySem.F.type_list_append Bu IP (pv 4) (AJ (dv 6) Ag))
 (AK (Ms (i:=3) hr (pv 3) (dv 6) (Bc (AJ (dv 8) (AJ (dv 5) Ag)))))) (AK (BI (Ak (Hj hr) Lu (dv 8) (AN AH Ac (Bx hr (Kv 3) (dv 6)) AD) (Ap _)) (AK (Ms (i:=3) hr (pv 3) (dv 6) (Bc (AJ (dv 8) (AJ (dv 5) Ag))))) Ar))))))))))
 (AK (Ql 3 (pv 3)))))))) (λss n Pd hl hw=>K3 hw)
theorem jj:Ah ["net","a","b","found","way","place"] ["net","a","b"] (AR Jg):=by constructor <;> first | rfl | decide +kernel
theorem Rb{f:Db}{fd:bo}(T:Txt K mg)(jk:HF P w K mg base)(F:Fun K "way_of" "way_of" Jg f fd):BG P w K mg base CP 3 f fd ["net","a","b"] (DY K .sh WQ 3):=by
 exact Ej F jj (by decide) (λcdv A outer s H E hr=>(AE (Am (i:=3) jj.nd rfl (be rfl) (AL jk (hr.mono (by decide)) rfl (AA (AM (dv 0)) (AA (AM (dv 1)) AO))))
 (AE (BI (Ak (D4 hr) FH (dv 2) (dv 3) (by with_unfolding_all rfl)) (AK (Ad BU)) Ar)
 (AE (CM (i:=4) jj.nd rfl (be rfl) (Cd Ag))
 (AE (Am (i:=5) jj.nd rfl (be rfl) (dv 2))
 (AE (KU cI (Ak QP Uw (dv 5) BU (Ap _)) (AE (Fp 4 PySem.F.plainAttrs_list PySem.F.slot_list_append PySem.F.type_list_append Bu IP (pv 4) (AJ (dv 5) Ag))
 (AK (Am (i:=5) jj.nd rfl (be rfl) (AN AH Ac (Bx hr (dv 3) (dv 5)) AD)))))
 (AK (Ad (SK rfl (Kv 4) rfl T.n_tuple rfl T.n_reversed))))))))) (λss n Pd hl hw=>RL hw)
theorem O7:Ah ["one","other"] ["one","other"] (AR He):=by constructor <;> first | rfl | decide +kernel
theorem PV{f:Db}{fd:bo}(T:Txt K mg)(F:Fun K "product" "product" He f fd):BG P w K mg base CP 1 f fd ["one","other"] (DY K .sh FL 2):=by
 exact Ej F O7 (by decide) (λcdv A outer s H E hr=>(AK (Ad (Bc (AJ (A7 BY B6 (AN AH Ac (dv 0) AD) (AN AH Ac (dv 1) AD)) (AJ (A7 BY B6 (AN AH Ac (dv 0) AD) (AN AH Ac (dv 1) AD)) Ag)))))) (λss n Pd hl hw=>PC hw)
theorem Gd:Ah ["one","other"] ["one","other"] (AR CS):=by constructor <;> first | rfl | decide +kernel
theorem Gp{f:Db}{fd:bo}(T:Txt K mg)(F:Fun K "is_no_stricter" "is_no_stricter" CS f fd):BG P w K mg base CP 1 f fd ["one","other"] (DY K .sh NI 2):=by
 exact Ej F Gd (by decide) (λcdv A outer s H E hr=>(AK (Ad (FC X0 Zt (A7 BY B6 (AN AH Ac (dv 0) AD) (AN AH Ac (dv 1) AD)) (A7 BY B6 (AN AH Ac (dv 1) AD) (AN AH Ac (dv 0) AD)) (Ap _))))) (λss n Pd hl hw=>Gg hw)
theorem Jd:Ah ["net","thin","paper"] ["net","thin","paper"] (AR Di):=by constructor <;> first | rfl | decide +kernel
theorem Jv{f:Db}{fd:bo}(T:Txt K mg)(jl:DP P w K mg base)(F:Fun K "ways_by_tie" "ways_by_tie" Di f fd):BG P w K mg base CP 6 f fd ["net","thin","paper"] (DY K .sh U1 3):=by
 exact Ej F Jd (by decide) (λcdv A outer s H E hr=>(AK (Ad (DE.sh (Ui rfl hr (AS (AL jl (hr.mono (by decide)) rfl (AA (AM (dv 0)) (AA (AM (dv 1)) AO))) (AS (dv 2) Ae)) rfl T.n_dict rfl T.n_zip))))) (λss n Pd hl hw=>Hg hw)
theorem jm:Ah ["thin","way","taken","told","number","tie","part"] ["thin","way","taken"] (AR En):=by constructor <;> first | rfl | decide +kernel
theorem MR{f:Db}{fd:bo}(T:Txt K mg)(jn:IS P w K mg base)(F:Fun K "way_taken" "way_taken" En f fd):BG P w K mg base CP 3 f fd ["thin","way","taken"] (DY K .sh NH 3):=by
 exact Ej F jm (by decide) (λcdv A outer s H E hr=>(AE (CM (i:=3) jm.nd rfl (be rfl) (Cd (AJ (AN AH Ac (dv 1) AD) Ag)))
 (AE (B5 cI rfl (Qn rfl T.n_enumerate (AL jn (hr.mono (by decide)) rfl (AA (AM (dv 0)) (AA (AM (dv 1)) AO)))) (DL rfl (Au (AX (i:=4) jm.nd rfl (be rfl)) (Au (AX (i:=5) jm.nd rfl (be rfl)) CN))) (AE (Am (i:=6) jm.nd rfl (be rfl) (WH hr (dv 2) (dv 5) (FA Jb FG (dv 5) C9 (Bw AD))))
 (AE (BI (Ak ID Ot (AN AH Ac (dv 1) (dv 4)) (AN AH Ac (dv 5) AD) (Ap _)) (AK (Am (i:=6) jm.nd rfl (be rfl) (YR (dv 6) (KZ AD)))) Ar)
 (AK (Fp 3 PySem.F.plainAttrs_list PySem.F.slot_list_extend PySem.F.type_list_extend Vn Yf (pv 3) (AJ (FA Jb FG (dv 6) (Bw AD) C9) Ag))))))
 (AK (Ad (Ce BV DN rfl T.n_tuple fm (AS (Kv 3) Ae))))))) (λss n Pd hl hw=>Jj hw)
theorem jo:Ah ["net","thin","thinner","ways","more","first","second","paper","tie"] ["net","thin","thinner","ways","more"] (AR GC):=by constructor <;> first | rfl | decide +kernel
theorem N5{f:Db}{fd:bo}(T:Txt K mg)(jl:DP P w K mg base)(jp:IQ P w K mg base)(jq:F2 P w K mg base)(F:Fun K "composed" "composed" GC f fd):BG P w K mg base CP 7 f fd ["net","thin","thinner","ways","more"] (DY K .sh Ci 5):=by
 exact Ej F jo (by decide) (λcdv A outer s H E hr=>(AE (Am (i:=5) jo.nd rfl (be rfl) (AL jq (hr.mono (by decide)) rfl (AA (AM (dv 0)) (AA (AM (dv 1)) (AA (AM (dv 3)) AO)))))
 (AE (Am (i:=6) jo.nd rfl (be rfl) (AL jq (hr.mono (by decide)) rfl (AA (AM (dv 1)) (AA (AM (dv 2)) (AA (AM (dv 4)) AO)))))
 (AE (CM (i:=7) jo.nd rfl (be rfl) (Cd Ag))
 (AE (B5 cI rfl (Hz (AL jl (hr.mono (by decide)) rfl (AA (AM (dv 0)) (AA (AM (dv 2)) AO)))) (AX (i:=8) jo.nd rfl (be rfl)) (AK (Fp 7 PySem.F.plainAttrs_list PySem.F.slot_list_append PySem.F.type_list_append Bu IP (pv 7) (AJ (Qq (Ak (Tr hr) Zr (dv 8) (dv 6) (by with_unfolding_all rfl)) (Qp hr (dv 6) (dv 8)) (AL jp (hr.mono (by decide)) rfl (AA (AM (dv 1)) (AA (AM (Qp hr (dv 5) (dv 8))) (AA (AM (dv 6)) AO))))) Ag))))
 (AK (Ad (Ce BV DN rfl T.n_tuple fm (AS (Kv 7) Ae))))))))) (λss n Pd hl hw=>K5 hw)
theorem MA:Ah ["length","times","number"] ["length","times","number"] (AR Et):=by constructor <;> first | rfl | decide +kernel
theorem MW{f:Db}{fd:bo}(T:Txt K mg)(F:Fun K "is_within" "is_within" Et f fd):BG P w K mg base CP 1 f fd ["length","times","number"] (DY K .sh HI 3):=by
 exact Ej F MA (by decide) (λcdv A outer s H E hr=>(AK (Ad (FC To XD (A7 BY B6 (dv 0) (AN AH Ac (dv 1) AD)) (A7 BY B6 (dv 2) (AN AH Ac (dv 1) AD)) (Ap _))))) (λss n Pd hl hw=>MI hw)
theorem jr:Ah ["net","times","tie","way"] ["net","times","tie"] (AR F_):=by constructor <;> first | rfl | decide +kernel
theorem N2{f:Db}{fd:bo}(T:Txt K mg)(jt:FJ P w K mg base)(jf:FI P w K mg base)(ju:Ov P w K mg base)(F:Fun K "near_way" "near_way" F_ f fd):BG P w K mg base CP 4 f fd ["net","times","tie"] (DY K .sh GV 3):=by
 exact Ej F jr (by decide) (λcdv A outer s H E hr=>(AE (Am (i:=3) jr.nd rfl (be rfl) (AL ju (hr.mono (by decide)) rfl (AA (AM (dv 0)) (AA (AM (AN AH Ac (dv 2) AD)) (AA (AM (AN AH Ac (dv 2) AD)) AO)))))
 (AE (BI (DTW.dt (DK (Ak Ju Ou (dv 3) BU (Ap _)) (Cy (Cb (B4 (AL jt (hr.mono (by decide)) rfl (AA (AM (AL jf (hr.mono (by decide)) rfl (AA (AM (dv 0)) (AA (AM (dv 3)) AO)))) (AA (AM (dv 1)) (AA (AM (AN AH Ac (dv 2) AD)) AO))))))))) (AK (Ad BU)) Ar)
 (AK (Ad (dv 3)))))) (λss n Pd hl hw=>K0 hw)
theorem jv:Ah ["net","times","kept","tie"] ["net","times"] (AR Hc):=by constructor <;> first | rfl | decide +kernel
theorem PR{f:Db}{fd:bo}(T:Txt K mg)(jw:GS P w K mg base)(jx:U0 P w K mg base)(jb:GR P w K mg base)(F:Fun K "thinned" "thinned" Hc f fd):BG P w K mg base CP 5 f fd ["net","times"] (DY K .sh HK 2):=by
 exact Ej F jv (by decide) (λcdv A outer s H E hr=>(AE (CM (i:=2) jv.nd rfl (be rfl) (Cd Ag))
 (AE (B5 cI rfl (Hz (AL jb (hr.mono (by decide)) rfl (AA (AM (AN AH Ac (dv 0) AD)) AO))) (AX (i:=3) jv.nd rfl (be rfl)) (AK (BI (Ak Ju Ou (AL jw (hr.mono (by decide)) rfl (AA (AM (AL jx (hr.mono (by decide)) rfl (AA (AM (dv 0)) (AA (Lg (Kv 2)) AO)))) (AA (AM (dv 1)) (AA (AM (dv 3)) AO)))) BU (Ap _)) (AK (Fp 2 PySem.F.plainAttrs_list PySem.F.slot_list_append PySem.F.type_list_append Bu IP (pv 2) (AJ (dv 3) Ag))) Ar)))
 (AK (Ad (AL jx (hr.mono (by decide)) rfl (AA (AM (dv 0)) (AA (Lg (Kv 2)) AO)))))))) (λss n Pd hl hw=>MG hw)
theorem jy:Ah ["net","times","thin","ways"] ["net","times","thin"] (AR EG):=by constructor <;> first | rfl | decide +kernel
theorem K7{f:Db}{fd:bo}(T:Txt K mg)(jl:DP P w K mg base)(jw:GS P w K mg base)(F:Fun K "ways_paper" "ways_paper" EG f fd):BG P w K mg base CP 6 f fd ["net","times","thin"] (DY K .sh JE 3):=by
 exact Ej F jy (by decide) (λcdv A outer s H E hr=>(AE (Iy (i:=3) jy.nd rfl (be rfl) rfl [("thin":Str),("times":Str),("tie":Str)] [some 2,some 1,none] (CA (AL jl (hr.mono (by decide)) rfl (AA (AM (dv 0)) (AA (AM (dv 2)) AO)))) (λ_ _ _ _ _=>(AX (i:=2) (show cm [("thin":Str),("times":Str),("tie":Str)] by decide +kernel) rfl (be rfl))) (λ_ _ _ _ _=>Be) (λ_ _ _ _ _=>(AL jw (hr.mono (by decide)) rfl (AA (AM (dv 0)) (AA (AM (dv 1)) (AA (AM (dv 2)) AO))))) (by kernel_rfl))
 (AK (Ad (Qq (Ak (E4 hr) F1 BU (dv 3) (by with_unfolding_all rfl)) BU (Ce BV DN rfl T.n_tuple fm (AS (dv 3) Ae))))))) (λss n Pd hl hw=>IY hw)
theorem jz:Ah ["net","times","tie","thing","length"] ["net","times","tie","thing"] (AR Eo):=by constructor <;> first | rfl | decide +kernel
theorem MS{f:Db}{fd:bo}(T:Txt K mg)(jt:FJ P w K mg base)(j1:D_ P w K mg base)(F:Fun K "way_fault" "way_fault" Eo f fd):BG P w K mg base CP 4 f fd ["net","times","tie","thing"] (DY K .sh HJ 4):=by
 exact Ej F jz (by decide) (λcdv A outer s H E hr=>(AE (Am (i:=4) jz.nd rfl (be rfl) (AL j1 (hr.mono (by decide)) rfl (AA (AM (dv 0)) (AA (AM (AN AH Ac (dv 2) AD)) (AA (AM (AN AH Ac (dv 2) AD)) (AA (AM (dv 3)) AO))))))
 (AE (BI (Ak Ju Ou (dv 4) BU (Ap _)) (AK (Ad Bq)) Ar)
 (AK (Ad (Qq (B4 (AL jt (hr.mono (by decide)) rfl (AA (AM (dv 4)) (AA (AM (dv 1)) (AA (AM (AN AH Ac (dv 2) AD)) AO))))) BU Bq)))))) (λss n Pd hl hw=>Jk hw)
theorem j2:Ah ["net","times","thin","paper","number","tie","fault"] ["net","times","thin","paper"] (AR Er):=by constructor <;> first | rfl | decide +kernel
theorem MU{f:Db}{fd:bo}(T:Txt K mg)(j3:Ly P w K mg base)(ja:Dv P w K mg base)(jl:DP P w K mg base)(j4:IR P w K mg base)(F:Fun K "lets_ways" "lets_ways" Er f fd):BG P w K mg base CP 6 f fd ["net","times","thin","paper"] (DY K .sh Ku 4):=by
 exact Ej F j2 (by decide) (λcdv A outer s H E hr=>(AE (BI (DTW.dt (DK (Cb (B4 (AL j3 (hr.mono (by decide)) rfl (AA (AM (dv 0)) (AA (AM (dv 2)) AO))))) (Cy (Cb (B4 (AL ja (hr.mono (by decide)) rfl (AA (AM (As Bh Fz rfl T.n_len PySem.boot_len (AS (AL jl (hr.mono (by decide)) rfl (AA (AM (dv 0)) (AA (AM (dv 2)) AO))) Ae))) (AA (AM (dv 3)) AO)))))))) (AK OX) Ar)
 (AE (B5 cI rfl (Qn rfl T.n_enumerate (AL jl (hr.mono (by decide)) rfl (AA (AM (dv 0)) (AA (AM (dv 2)) AO)))) (DL rfl (Au (AX (i:=4) j2.nd rfl (be rfl)) (Au (AX (i:=5) j2.nd rfl (be rfl)) CN))) (AE (Am (i:=6) j2.nd rfl (be rfl) (AL j4 (hr.mono (by decide)) rfl (AA (AM (dv 2)) (AA (AM (dv 1)) (AA (AM (dv 5)) (AA (AM (AN AH Ac (dv 3) (dv 4))) AO))))))
 (AK (BI (Ak QP Uw (dv 6) BU (Ap _)) (AK OX) Ar))))
 (AK (Ad CG))))) (λss n Pd hl hw=>Jm hw)
theorem j5:Ah ["_law_feed_here","_law_many","_law_way","_law_words","_law_first","_law_letters","_law_word","_law_at","_law_names","_law_k","_law_sign"] ["_law_feed_here","_law_many"] (AR Do):=by constructor <;> first | rfl | decide +kernel
theorem Jz{f:Db}{fd:bo}(T:Txt K mg)(j6:CH P w K mg base)(F:Fun K "_law_places" "_law_places" Do f fd):BG P w K mg base CP 2 f fd ["_law_feed_here","_law_many"] (DY K .fr JI 2):=by
 exact Ej F j5 (by decide) (λcdv A outer s H E hr=>(AE (Am (i:=2) j5.nd rfl (be rfl) (AL j6 (hr.mono (by decide)) rfl (AA (Bz 0) (AA (AM AD) AO))))
 (AE (Am (i:=3) j5.nd rfl (di rfl) (Cd (AJ Bq (AJ Bq (AJ Bq (AJ Bq (AJ Bq (AJ Bq (AJ Bq (AJ Bq (AJ Bq (AJ Bq (AJ Bq (AJ Bq Ag))))))))))))))
 (AE (BI (DTW.dt (Hy (Ak Fk LG (dv 2) AD (Ap _)) (G1 (Ak (Hj hr) Lu (dv 1) AD (Ap _))))) (AE (Am (i:=4) j5.nd rfl (di rfl) (AL j6 (hr.mono (by decide)) rfl (AA (Bz 0) (AA (AM AD) AO))))
 (AK (Ad (As Kj Qy rfl T.n_sorted g9 (AS (Bg rfl [("_law_words":Str),("_law_first":Str),("_law_k":Str)] [some 3,some 4,none] (DI.c (Cc rfl T.n_range (AS (dv 1) Ae))) (λ_ _ _ _ _=>(AX (i:=2) (show cm [("_law_words":Str),("_law_first":Str),("_law_k":Str)] by decide +kernel) rfl (be rfl))) (λ_ _ _ _ _=>Be) (λ_ _ _ _ _=>(AN AH Ac (dv 0) (A7 Dr H_ (A7 BF BQ (dv 1) (dv 2)) AD))) (by kernel_rfl)) Ae))))) Ar)
 (AE (Am (i:=5) j5.nd rfl (di rfl) Bq)
 (AE (Am (i:=6) j5.nd rfl (di rfl) (Zp PySem.F.plainAttrs_str PySem.F.slot_str_join PySem.F.type_str_join Vm Ye Bq (AS (Bg rfl [("_law_letters":Str),("_law_feed_here":Str),("_law_k":Str)] [some 5,some 0,none] (DI.c (Cc rfl T.n_range (AS AD Ae))) (λ_ _ _ _ _=>(AX (i:=2) (show cm [("_law_letters":Str),("_law_feed_here":Str),("_law_k":Str)] by decide +kernel) rfl (be rfl))) (λ_ _ _ _ _=>Be) (λ_ _ _ _ _=>(AN AH Ac (dv 0) (AL j6 (hr.mono (by decide)) rfl (AA (Bz 1) (AA (AM AD) AO))))) (by kernel_rfl)) Ae)))
 (AE (BI (DTW.dt (Hy (Ak Fk LG (dv 2) AD (Ap _)) (G1 (Ak (Hj hr) Lu (dv 1) AD (Ap _))))) (AK (Ad (Bg rfl [("_law_word":Str),("_law_k":Str)] [some 6,none] (DI.c (Cc rfl T.n_range (AS (dv 1) Ae))) (λ_ _ _ _ _=>(AX (i:=1) (show cm [("_law_word":Str),("_law_k":Str)] by decide +kernel) rfl (be rfl))) (λ_ _ _ _ _=>Be) (λ_ _ _ _ _=>(FA Jb FG (dv 0) C9 (Bw (A7 BF BQ AD (dv 1))))) (by kernel_rfl)))) Ar)
 (AE (Am (i:=7) j5.nd rfl (be rfl) (AL j6 (hr.mono (by decide)) rfl (AA (Bz 0) (AA (AM AD) AO))))
 (AE (Am (i:=4) j5.nd rfl (di rfl) (AL j6 (hr.mono (by decide)) rfl (AA (Bz 0) (AA (AM AD) AO))))
 (AE (CM (i:=8) j5.nd rfl (be rfl) (Cd Ag))
 (AE (B5 cI rfl (Cc rfl T.n_range (AS (dv 1) Ae)) (AX (i:=9) j5.nd rfl (be rfl)) (AE (Am (i:=10) j5.nd rfl (be rfl) (AN AH Ac (dv 5) (A7 Dr H_ (A7 BF BQ (dv 4) (dv 9)) AD)))
 (AK (Fp 8 PySem.F.plainAttrs_list PySem.F.slot_list_append PySem.F.type_list_append Bu IP (pv 8) (AJ (A7 BF BQ (A7 BF BQ (A7 BF BQ (FA Jb FG (dv 6) C9 (Bw (dv 7))) (dv 10)) (FA Jb FG (dv 6) (Bw (A7 BF BQ (dv 7) AD)) (Bw AD))) (A7 BY B6 Bq (A7 Dr H_ (dv 9) AD))) Ag)))))
 (AK (Ad (As Kj Qy rfl T.n_sorted g9 (AS (Kv 8) Ae))))))))))))))) (λss n Pd hl hw=>RM hw)
theorem Jf:Ah ["_law_feed_here","_law_scale"] ["_law_feed_here","_law_scale"] (AR Dq):=by constructor <;> first | rfl | decide +kernel
theorem J0{f:Db}{fd:bo}(T:Txt K mg)(j6:CH P w K mg base)(F:Fun K "_law_length" "_law_length" Dq f fd):BG P w K mg base CP 2 f fd ["_law_feed_here","_law_scale"] (DY K .sh WT 2):=by
 exact Ej F Jf (by decide) (λcdv A outer s H E hr=>(AE (BI (Ak Fk LG (dv 1) AD (Ap _)) (AK (Ad (A7 BF BQ AD (AL j6 (hr.mono (by decide)) rfl (AA (Bz 0) (AA (AM AD) AO)))))) Ar)
 (AE (BI (Ak Fk LG (dv 1) AD (Ap _)) (AK (Ad (A7 BF BQ AD (AL j6 (hr.mono (by decide)) rfl (AA (Bz 0) (AA (AM AD) AO)))))) Ar)
 (AK (Ad (Qq (Ak Fk LG (dv 1) AD (Ap _)) (A7 QO Uu (A7 PN H_ AD AD) (AL j6 (hr.mono (by decide)) rfl (AA (Bz 0) (AA (AM AD) AO)))) (A7 BF BQ AD (AL j6 (hr.mono (by decide)) rfl (AA (Bz 0) (AA (AM (A7 PN H_ AD AD)) AO)))))))))) (λss n Pd hl hw=>RO hw)
theorem j7:Ah ["_law_feed_here","_law_most","_law_ties","_law_places_here","_law_few","_law_scale","_law_found","_law_one","_law_other"] ["_law_feed_here","_law_most","_law_ties"] (AR GD):=by constructor <;> first | rfl | decide +kernel
theorem N6{f:Db}{fd:bo}(T:Txt K mg)(j8:F6 P w K mg base)(j6:CH P w K mg base)(j9:F5 P w K mg base)(F:Fun K "_law_net" "_law_net" GD f fd):BG P w K mg base CP 3 f fd ["_law_feed_here","_law_most","_law_ties"] (DY K .sh WS 3):=by
 exact Ej F j7 (by decide) (λcdv A outer s H E hr=>(AE (Am (i:=3) j7.nd rfl (be rfl) (AL j9 (hr.mono (by decide)) rfl (AA (Bz 0) (AA (AM (A7 BF BQ AD (AL j6 (hr.mono (by decide)) rfl (AA (Bz 0) (AA (AM (dv 1)) AO))))) AO))))
 (AE (Am (i:=4) j7.nd rfl (be rfl) (A7 BF BQ AD (AL j6 (hr.mono (by decide)) rfl (AA (Bz 0) (AA (AM AD) AO)))))
 (AE (Am (i:=5) j7.nd rfl (be rfl) (AL j6 (hr.mono (by decide)) rfl (AA (Bz 0) (AA (AM AD) AO))))
 (AE (CM (i:=6) j7.nd rfl (be rfl) (Cd Ag))
 (AE (B5 cI rfl (Cc rfl T.n_range (AS (As Bh Fz rfl T.n_len PySem.boot_len (AS (dv 3) Ae)) Ae)) (AX (i:=7) j7.nd rfl (be rfl)) (AK (B5 cI rfl (Lf rfl T.n_range (AS (A7 BF BQ (dv 7) AD) (AS (As Bh Fz rfl T.n_len PySem.boot_len (AS (dv 3) Ae)) Ae))) (AX (i:=8) j7.nd rfl (be rfl)) (AK (BI (DTW.dt (Hy (Ak To XD (AL j6 (hr.mono (by decide)) rfl (AA (Bz 0) (AA (AM AD) AO))) (dv 4) (Ap _)) (G1 (Ak (Hj hr) Lu (As Bh Fz rfl T.n_len PySem.boot_len (AS (Kv 6) Ae)) (dv 2) (Ap _))))) (AK (Fp 6 PySem.F.plainAttrs_list PySem.F.slot_list_append PySem.F.type_list_append Bu IP (pv 6) (AJ (Bc (AJ (AN AH Ac (dv 3) (dv 7)) (AJ (AN AH Ac (dv 3) (dv 8)) (AJ (AL j8 (hr.mono (by decide)) rfl (AA (Bz 0) (AA (AM (dv 5)) AO))) Ag)))) Ag))) Ar)))))
 (AK (Ad (Bc (AJ (Ce BV DN rfl T.n_tuple fm (AS (dv 3) Ae)) (AJ (Ce BV DN rfl T.n_tuple fm (AS (Kv 6) Ae)) Ag))))))))))) (λss n Pd hl hw=>Xi hw)
theorem Hb:Ah ["_law_ties"] ["_law_ties"] (AR Cu):=by constructor <;> first | rfl | decide +kernel
theorem Hk{f:Db}{fd:bo}(T:Txt K mg)(F:Fun K "_law_in_order" "_law_in_order" Cu f fd):BG P w K mg base CP 1 f fd ["_law_ties"] (DY K .fr ET 1):=by
 exact Ej F Hb (by decide) (λcdv A outer s H E hr=>(AK (Ad (Bg rfl [("_law_length_here":Str),("_law_one":Str),("_law_other":Str)] [none,none,none] (CA (As Ki Qx rfl T.n_sorted g9 (AS (Bg rfl [("_law_tie":Str)] [none] (CA (dv 0)) (λ_ _ _ _ _=>(AX (i:=0) (show cm [("_law_tie":Str)] by decide +kernel) rfl (be rfl))) (λ_ _ _ _ _=>Be) (λ_ _ _ _ _=>(Bc (AJ (AN AH Ac (dv 0) AD) (AJ (AN AH Ac (dv 0) AD) (AJ (AN AH Ac (dv 0) AD) Ag))))) (by kernel_rfl)) Ae))) (λ_ _ _ _ _=>(DL rfl (Au (AX (i:=0) (show cm [("_law_length_here":Str),("_law_one":Str),("_law_other":Str)] by decide +kernel) rfl (be rfl)) (Au (AX (i:=1) (show cm [("_law_length_here":Str),("_law_one":Str),("_law_other":Str)] by decide +kernel) rfl (be rfl)) (Au (AX (i:=2) (show cm [("_law_length_here":Str),("_law_one":Str),("_law_other":Str)] by decide +kernel) rfl (be rfl)) CN))))) (λ_ _ _ _ _=>Be) (λ_ _ _ _ _=>(Bc (AJ (dv 1) (AJ (dv 2) (AJ (dv 0) Ag))))) (by kernel_rfl))))) (λss n Pd hl hw=>Ib hw)
theorem j_:Ah ["_law_ties","_law_place","_law_known","_law_going","_law_one","_law_other","_law_length_here","_law_here","_law_there","_law_reach"] ["_law_ties","_law_place"] (AR EJ):=by constructor <;> first | rfl | decide +kernel
theorem K_{f:Db}{fd:bo}(T:Txt K mg)(F:Fun K "_law_least" "_law_least" EJ f fd):BG P w K mg base CP 1 f fd ["_law_ties","_law_place"] (DY K .fr FN 2):=by
 exact Ej F j_ (by decide) (λcdv A outer s H E hr=>(AE (CM (i:=2) j_.nd rfl (be rfl) (Ob (dv 1) AD))
 (AE (Am (i:=3) j_.nd rfl (be rfl) CG)
 (AE (KU cI (B4 (dv 3)) (AE (Am (i:=3) j_.nd rfl (be rfl) CG)
 (AK (WA cI rfl (pv 0) (DL rfl (Au (AX (i:=4) j_.nd rfl (be rfl)) (Au (AX (i:=5) j_.nd rfl (be rfl)) (Au (AX (i:=6) j_.nd rfl (be rfl)) CN)))) (AK (B5 cI rfl (Hz (Cd (AJ (Bc (AJ (dv 4) (AJ (dv 5) Ag))) (AJ (Bc (AJ (dv 5) (AJ (dv 4) Ag))) Ag)))) (DL rfl (Au (AX (i:=7) j_.nd rfl (be rfl)) (Au (AX (i:=8) j_.nd rfl (be rfl)) CN))) (AK (BI (Ak (Tr hr) Zu (dv 7) (Kv 2) (by with_unfolding_all rfl)) (AE (Am (i:=9) j_.nd rfl (be rfl) (A7 BF BQ (Bx hr (Kv 2) (dv 7)) (dv 6)))
 (AK (BI (Ak (Hj hr) Lu (dv 9) (WJ hr (Kv 2) (dv 8) (A7 BF BQ (dv 9) AD)) (Ap _)) (AE (Ms (i:=2) hr (pv 2) (dv 8) (dv 9))
 (AK (Am (i:=3) j_.nd rfl (be rfl) CG))) Ar))) Ar))))))))
 (AK (Ql 2 (pv 2))))))) (λss n Pd hl hw=>Jn hw)
theorem kA:Ah ["_law_net_here","_law_times","_law_thin","_law_place","_law_wide","_law_known","_law_other"] ["_law_net_here","_law_times","_law_thin"] (AR Dl):=by constructor <;> first | rfl | decide +kernel
theorem Jx{f:Db}{fd:bo}(T:Txt K mg)(kB:HG P w K mg base)(F:Fun K "_law_within" "_law_within" Dl f fd):BG P w K mg base CP 2 f fd ["_law_net_here","_law_times","_law_thin"] (DY K .sh HH 3):=by
 exact Ej F kA (by decide) (λcdv A outer s H E hr=>(AE (B5 cI rfl (Hz (AN AH Ac (dv 0) AD)) (AX (i:=3) kA.nd rfl (be rfl)) (AE (Am (i:=4) kA.nd rfl (be rfl) (Uh (AL kB (hr.mono (by decide)) rfl (AA (Lg (AN AH Ac (dv 0) AD)) (AA (AM (dv 3)) AO)))))
 (AE (Am (i:=5) kA.nd rfl (be rfl) (Uh (AL kB (hr.mono (by decide)) rfl (AA (Lg (AN AH Ac (dv 2) AD)) (AA (AM (dv 3)) AO)))))
 (AK (B5 cI rfl (WF (dv 4)) (AX (i:=6) kA.nd rfl (be rfl)) (AK (BI (DTW.dt (DK (Ak (D4 hr) FH (dv 6) (dv 5) (by with_unfolding_all rfl)) (Cy (Ak Tp XF (A7 BY B6 (Bx hr (dv 5) (dv 6)) (AN AH Ac (dv 1) AD)) (A7 BY B6 (Bx hr (dv 4) (dv 6)) (AN AH Ac (dv 1) AD)) (Ap _))))) (AK (Ad CG)) Ar)))))))
 (AK (Ad CG)))) (λss n Pd hl hw=>IZ hw)
theorem kC:Ah ["_law_net_here","_law_way","_law_sum_of","_law_k","_law_here","_law_there","_law_steps"] ["_law_net_here","_law_way"] (AR Dn):=by constructor <;> first | rfl | decide +kernel
theorem Jy{f:Db}{fd:bo}(T:Txt K mg)(F:Fun K "_law_walked" "_law_walked" Dn f fd):BG P w K mg base CP 1 f fd ["_law_net_here","_law_way"] (DY K .sh NK 2):=by
 exact Ej F kC (by decide) (λcdv A outer s H E hr=>(AE (BI (DTW.dt (DK (Cb (B4 (EQ kit_tuple (dv 1) rfl T.n_isinstance rfl T.n_tuple (by decide +kernel)))) (DK (Ak Fk LG (As Bh Fz rfl T.n_len PySem.boot_len (AS (dv 1) Ae)) AD (Ap _)) (Cy (Ak (E4 hr) F1 CG (Bg rfl [("_law_one":Str)] [none] (CA (dv 1)) (λ_ _ _ _ _=>(AX (i:=0) (show cm [("_law_one":Str)] by decide +kernel) rfl (be rfl))) (λ_ _ _ _ _=>Be) (λ_ _ _ _ _=>(EQ QZ (dv 0) rfl T.n_isinstance rfl T.n_str (by decide +kernel))) (by kernel_rfl)) (by with_unfolding_all rfl)))))) (AK (Ad BU)) Ar)
 (AE (BI (Ak (E4 hr) F1 CG (Bg rfl [("_law_net_here":Str),("_law_one":Str)] [some 0,none] (CA (dv 1)) (λ_ _ _ _ _=>(AX (i:=1) (show cm [("_law_net_here":Str),("_law_one":Str)] by decide +kernel) rfl (be rfl))) (λ_ _ _ _ _=>Be) (λ_ _ _ _ _=>(FC (E4 hr) F1 (dv 1) (AN AH Ac (dv 0) AD) (by with_unfolding_all rfl))) (by kernel_rfl)) (by with_unfolding_all rfl)) (AK (Ad BU)) Ar)
 (AE (Am (i:=2) kC.nd rfl (be rfl) AD)
 (AE (B5 cI rfl (Lf rfl T.n_range (AS AD (AS (As Bh Fz rfl T.n_len PySem.boot_len (AS (dv 1) Ae)) Ae))) (AX (i:=3) kC.nd rfl (be rfl)) (AE (YO (FA Jb FG (dv 1) (Bw (A7 QO Uu (dv 3) AD)) (Bw (A7 BF BQ (dv 3) AD))) (DL rfl (Au (AX (i:=4) kC.nd rfl (di rfl)) (Au (AX (i:=5) kC.nd rfl (di rfl)) CN))))
 (AE (Iy (i:=6) kC.nd rfl (be rfl) rfl [("_law_here":Str),("_law_there":Str),("_law_tie":Str)] [some 4,some 5,none] (CA (AN AH Ac (dv 0) AD)) (λ_ _ _ _ _=>(AX (i:=2) (show cm [("_law_here":Str),("_law_there":Str),("_law_tie":Str)] by decide +kernel) rfl (be rfl))) (λ_ _ _ _ _=>(I0 (DTW.dt (Hy (Ak ID Ot (dv 0) (dv 1) (Ap _)) (Hy (Ak (E4 hr) F1 (dv 0) (FA Jb FG (dv 2) C9 (Bw AD)) (by with_unfolding_all rfl)) (G1 (Ak (E4 hr) F1 (dv 1) (FA Jb FG (dv 2) C9 (Bw AD)) (by with_unfolding_all rfl)))))))) (λ_ _ _ _ _=>(AN AH Ac (dv 2) AD)) (by kernel_rfl))
 (AE (BI (Ak (Tq hr) XG (dv 6) (Cd Ag) (Ap _)) (AK (Ad BU)) Ar)
 (AK (Am (i:=2) kC.nd rfl (be rfl) (A7 BF BQ (dv 2) (AN AH Ac (dv 6) AD))))))))
 (AK (Ad (dv 2)))))))) (λss n Pd hl hw=>PF hw)
theorem kE:Ah ["_law_feed_here","_law_bottom"] ["_law_feed_here"] (AR CC):=by constructor <;> first | rfl | decide +kernel
theorem Fe{f:Db}{fd:bo}(T:Txt K mg)(j6:CH P w K mg base)(F:Fun K "_law_small_times" "_law_small_times" CC f fd):BG P w K mg base CP 2 f fd ["_law_feed_here"] (DY K .sh JG 1):=by
 exact Ej F kE (by decide) (λcdv A outer s H E hr=>(AE (Am (i:=1) kE.nd rfl (be rfl) (A7 BF BQ AD (AL j6 (hr.mono (by decide)) rfl (AA (Bz 0) (AA (AM (AN AH Ac (Cd (AJ AD (AJ AD (AJ AD Ag)))) (AL j6 (hr.mono (by decide)) rfl (AA (Bz 0) (AA (AM AD) AO))))) AO)))))
 (AE (Am (i:=1) kE.nd rfl (be rfl) (As (Li rfl) Ux rfl T.n_min boot_min (AS (dv 1) (AS AD Ae))))
 (AK (Ad (Bc (AJ (As (Li rfl) Ux rfl T.n_min boot_min (AS AD (AS (A7 BF BQ (dv 1) (AL j6 (hr.mono (by decide)) rfl (AA (Bz 0) (AA (AM (A7 BF BQ (A7 BY B6 AD (dv 1)) AD)) AO)))) Ae))) (AJ (dv 1) Ag)))))))) (λss n Pd hl hw=>Ez hw)
theorem kF:Ah ["_law_feed_here","_law_net_here","_law_thin","_law_some"] ["_law_feed_here","_law_net_here","_law_thin"] (AR Ex):=by constructor <;> first | rfl | decide +kernel
theorem MZ{f:Db}{fd:bo}(T:Txt K mg)(j6:CH P w K mg base)(F:Fun K "_law_more" "_law_more" Ex f fd):BG P w K mg base CP 2 f fd ["_law_feed_here","_law_net_here","_law_thin"] (DY K .sh NJ 3):=by
 exact Ej F kF (by decide) (λcdv A outer s H E hr=>(AE (Iy (i:=3) kF.nd rfl (be rfl) rfl [("_law_thin":Str),("_law_feed_here":Str),("_law_tie":Str)] [some 2,some 0,none] (CA (AN AH Ac (dv 1) AD)) (λ_ _ _ _ _=>(AX (i:=2) (show cm [("_law_thin":Str),("_law_feed_here":Str),("_law_tie":Str)] by decide +kernel) rfl (be rfl))) (λ_ _ _ _ _=>(I0 (DTW.dt (DK (Ak (E4 hr) F1 (dv 2) (AN AH Ac (dv 0) AD) (by with_unfolding_all rfl)) (Cy (Ak Fk LG (AL j6 (hr.mono (by decide)) rfl (AA (Bz 1) (AA (AM AD) AO))) AD (Ap _))))))) (λ_ _ _ _ _=>(dv 2)) (by kernel_rfl))
 (AK (Ad (Bc (AJ (AN AH Ac (dv 1) AD) (AJ (Ce BV DN rfl T.n_tuple fm (AS (dv 3) Ae)) Ag))))))) (λss n Pd hl hw=>K4 hw)
theorem kG:Ah ["_law_net_here","_law_times","_law_thin","_law_paper","_law_left","_law_tie","_law_way","_law_length_here"] ["_law_net_here","_law_times","_law_thin","_law_paper"] (AR CJ):=by constructor <;> first | rfl | decide +kernel
theorem GH{f:Db}{fd:bo}(T:Txt K mg)(kH:Ec P w K mg base)(kI:F4 P w K mg base)(F:Fun K "_law_ways_right" "_law_ways_right" CJ f fd):BG P w K mg base CP 2 f fd ["_law_net_here","_law_times","_law_thin","_law_paper"] (DY K .sh FZ 4):=by
 exact Ej F kG (by decide) (λcdv A outer s H E hr=>(AE (Am (i:=4) kG.nd rfl (be rfl) (AL kH (hr.mono (by decide)) rfl (AA (AM (Bg rfl [("_law_thin":Str),("_law_tie":Str)] [some 2,none] (CA (AN AH Ac (dv 0) AD)) (λ_ _ _ _ _=>(AX (i:=1) (show cm [("_law_thin":Str),("_law_tie":Str)] by decide +kernel) rfl (be rfl))) (λ_ _ _ _ _=>(I0 (Ak (LV hr) F1 (dv 1) (AN AH Ac (dv 0) AD) (by with_unfolding_all rfl)))) (λ_ _ _ _ _=>(dv 1)) (by kernel_rfl))) AO)))
 (AE (BI (DTW.dt (DK (Cb (B4 (EQ kit_tuple (dv 3) rfl T.n_isinstance rfl T.n_tuple (by decide +kernel)))) (Cy (Ak ID Ot (As Bh Fz rfl T.n_len PySem.boot_len (AS (dv 3) Ae)) (As Bh Fz rfl T.n_len PySem.boot_len (AS (dv 4) Ae)) (Ap _))))) (AK (Ad CG)) Ar)
 (AE (B5 cI rfl (Uc rfl T.n_zip (AJ (dv 4) (AJ (dv 3) Ag))) (DL rfl (Au (AX (i:=5) kG.nd rfl (be rfl)) (Au (AX (i:=6) kG.nd rfl (be rfl)) CN))) (AE (Am (i:=7) kG.nd rfl (be rfl) (AL kI (hr.mono (by decide)) rfl (AA (AM (dv 2)) (AA (AM (dv 6)) AO))))
 (AE (BI (DTW.dt (DK (Ak Ju Ou (dv 7) BU (Ap _)) (DK (Ak ID Ot (AN AH Ac (dv 6) AD) (AN AH Ac (dv 5) AD) (Ap _)) (Cy (Ak ID Ot (AN AH Ac (dv 6) (KZ AD)) (AN AH Ac (dv 5) AD) (Ap _)))))) (AK (Ad CG)) Ar)
 (AK (BI (Ak Tp XF (A7 BY B6 (dv 7) (AN AH Ac (dv 1) AD)) (A7 BY B6 (AN AH Ac (dv 5) AD) (AN AH Ac (dv 1) AD)) (Ap _)) (AK (Ad CG)) Ar)))))
 (AK (Ad CG)))))) (λss n Pd hl hw=>Fd hw)
end
section
variable {P:Program}{w:World}{K:Frag}{mg:Str->Option Value}{base:Heap}
theorem MD:Ah ["_law_script"] ["_law_script"] (AR Ey):=by constructor <;> first | rfl | decide +kernel
theorem Ma{f:Db}{fd:bo}(T:Txt K mg)(F:Fun K "_law_feed" "_law_feed" Ey f fd):BG P w K mg base CP 1 f fd ["_law_script"] (L8 K):=by
 refine F.ok MD (λvs H Q E h=>?_) (λcdv A outer s H vs Q E hr h=>?_)
 ·obtain⟨a,ns,rfl,_⟩:=h
  rfl
 ·obtain⟨a,ns,rfl,⟨hl,hS⟩,q⟩:=h
  refine⟨_,De (GF (PM (Bt (LU M_ rfl T.n_list boot_list (Bt (Nq sl_list (pv 0) QI (QH A_)) DD)) (Bt A_ (Bt A_ DD))))),?_⟩;refine⟨_,rfl,63,rfl,a,_,rfl,hS,λp hp=>⟨p,_,rfl,.inl (SqL.of Ai),λc hc=>⟨by show 3<=sizeLine; decide,λg hg=>?_⟩⟩⟩;rw [Zq hl] at hg ⊢;have ncg:c≠g:=λz=>by rw [← z,Ai] at hg; cases hg
  exact q c g _ ncg (by rw [AU ncg,Ai]) Ai
theorem kJ:Ah ["_law_script","_law_feed_here","_law_nets","_law_all_times","_law_times","_law_papers","_law_stays","_law_twice","_law_later","_law_one","_law_other","_law_thrice","_law_both","_law_paper"] ["_law_script"] (AR Jh):=by constructor <;> first | rfl | decide +kernel
theorem X1{f ff:Db}{fd fdf:bo}(T:Txt K mg)(Gf:BG P w K mg base CP 1 ff fdf ["_law_script"] (L8 K))(mf:mg "_law_feed"=some (.ref ff))(kf:keepIn K (.ref ff)=true)(bf:Binds K fdf ["_law_script"] [])
  (kL:IW P w K mg base) (kM:Ks P w K mg base) (kN:DQ P w K mg base) (kO:Dg P w K mg base) (kP:F3 P w K mg base) (kQ:Kr P w K mg base) (kR:EA P w K mg base) (kT:IT P w K mg base) (kU:Lx P w K mg base) (kW:Lv P w K mg base) (kX:HD P w K mg base) (F:Fun K "law" "law" Jh f fd):BG P w K mg base CP 8 f fd ["_law_script"] (Nd K):=by
 exact Zh (n0:=3000) F kJ rfl (by decide) (λcdv A outer s H E hr=>E3 (i:=1) kJ.nd rfl (di rfl) (QK Gf (hr.mono (by decide)) rfl mf kf bf .nil Wz (Bt (pv 0) DD)))
  (λcdv A outer s H E hr=>(AE (CM (i:=2) kJ.nd rfl (di rfl) (Cd (AJ (AL kM (hr.mono (by decide)) rfl (AA (Bz 1) (AA (AM AD) (AA (AM AD) AO)))) Ag)))
 (AE (Am (i:=3) kJ.nd rfl (di rfl) (Bg rfl [("_law_feed_here":Str),("_law_k":Str)] [some 1,none] (DI.c (Cc rfl T.n_range (AS AD Ae))) (λ_ _ _ _ _=>(AX (i:=1) (show cm [("_law_feed_here":Str),("_law_k":Str)] by decide +kernel) rfl (be rfl))) (λ_ _ _ _ _=>Be) (λ_ _ _ _ _=>(AL kN (hr.mono (by decide)) rfl (AA (Bz 0) AO))) (by kernel_rfl)))
 (AE (B5 cI rfl (Hz (dv 3)) (AX (i:=4) kJ.nd rfl (be rfl)) (AK (Fp 2 PySem.F.plainAttrs_list PySem.F.slot_list_append PySem.F.type_list_append Bu IP (pv 2) (AJ (AL kL (hr.mono (by decide)) rfl (AA (Bz 1) (AA (AM (AN AH Ac (Kv 2) (KZ AD))) (AA (AM (AL kW (hr.mono (by decide)) rfl (AA (AM (AN AH Ac (Kv 2) (KZ AD))) (AA (AM (dv 4)) AO)))) AO)))) Ag))))
 (V9 2 (AE (Iy (i:=5) kJ.nd rfl (be rfl) rfl [("_law_nets":Str),("_law_all_times":Str),("_law_k":Str)] [some 2,some 3,none] (DI.c (Cc rfl T.n_range (AS AD Ae))) (λ_ _ _ _ _=>(AX (i:=2) (show cm [("_law_nets":Str),("_law_all_times":Str),("_law_k":Str)] by decide +kernel) rfl (be rfl))) (λ_ _ _ _ _=>Be) (λ_ _ _ _ _=>(AL kX (hr.mono (by decide)) rfl (AA (AM (AN AH Ac (dv 0) (dv 2))) (AA (AM (AN AH Ac (dv 1) (dv 2))) (AA (AM (AN AH Ac (dv 0) (A7 BF BQ (dv 2) AD))) AO))))) (by kernel_rfl))
 (AE (Am (i:=6) kJ.nd rfl (be rfl) (As (FX hr) ND rfl T.n_repr boot_repr (AS (Bc (AJ (dv 2) (AJ (dv 5) Ag))) Ae)))
 (AE (Am (i:=7) kJ.nd rfl (be rfl) (AL kU (hr.mono (by decide)) rfl (AA (AM (AN AH Ac (dv 3) AD)) (AA (AM (AN AH Ac (dv 3) AD)) AO))))
 (AE (Am (i:=8) kJ.nd rfl (be rfl) (AL kU (hr.mono (by decide)) rfl (AA (AM (AN AH Ac (dv 3) AD)) (AA (AM (AN AH Ac (dv 3) AD)) AO))))
 (AE (BI (Ak ID Ot (As (FX hr) ND rfl T.n_repr boot_repr (AS (dv 7) Ae)) (As (FX hr) ND rfl T.n_repr boot_repr (AS (Bc (AJ (A7 BY B6 (AN AH Ac (AN AH Ac (dv 3) AD) AD) (AN AH Ac (AN AH Ac (dv 3) AD) AD)) (AJ (A7 BY B6 (AN AH Ac (AN AH Ac (dv 3) AD) AD) (AN AH Ac (AN AH Ac (dv 3) AD) AD)) Ag))) Ae)) (Ap _)) (AK (Ad CG)) Ar)
 (AE (Am (i:=9) kJ.nd rfl (be rfl) (AL kQ (hr.mono (by decide)) rfl (AA (AM (AN AH Ac (dv 2) AD)) (AA (AM (AN AH Ac (dv 2) AD)) (AA (AM (AN AH Ac (dv 2) AD)) (AA (AM (AN AH Ac (dv 5) AD)) (AA (AM (AN AH Ac (dv 5) AD)) AO)))))))
 (AE (Am (i:=10) kJ.nd rfl (be rfl) (AL kQ (hr.mono (by decide)) rfl (AA (AM (AN AH Ac (dv 2) AD)) (AA (AM (AN AH Ac (dv 2) AD)) (AA (AM (AN AH Ac (dv 2) AD)) (AA (AM (AN AH Ac (dv 5) AD)) (AA (AM (AN AH Ac (dv 5) AD)) AO)))))))
 (AE (BI (DTW.dt (DK (Cb (B4 (AL kO (hr.mono (by decide)) rfl (AA (AM (AN AH Ac (dv 2) AD)) (AA (AM (dv 7)) (AA (AM (AN AH Ac (dv 2) AD)) (AA (AM (dv 9)) AO))))))) (Cy (Cb (B4 (AL kO (hr.mono (by decide)) rfl (AA (AM (AN AH Ac (dv 2) AD)) (AA (AM (dv 8)) (AA (AM (AN AH Ac (dv 2) AD)) (AA (AM (dv 10)) AO)))))))))) (AK (Ad CG)) Ar)
 (AE (BI (DTW.dt (DK (Ak LW XE (AL kT (hr.mono (by decide)) rfl (AA (AM (AN AH Ac (dv 2) AD)) (AA (AM (dv 7)) (AA (AM (AN AH Ac (dv 2) AD)) (AA (AM (dv 9)) AO))))) CG (Ap _)) (Cy (Ak LW XE (AL kT (hr.mono (by decide)) rfl (AA (AM (AN AH Ac (dv 2) AD)) (AA (AM (dv 8)) (AA (AM (AN AH Ac (dv 2) AD)) (AA (AM (dv 10)) AO))))) CG (Ap _))))) (AK (Ad CG)) Ar)
 (AE (Am (i:=11) kJ.nd rfl (be rfl) (Bc (AJ (A7 BY B6 (AN AH Ac (dv 7) AD) (AN AH Ac (AN AH Ac (dv 3) AD) AD)) (AJ (A7 BY B6 (AN AH Ac (dv 7) AD) (AN AH Ac (AN AH Ac (dv 3) AD) AD)) Ag))))
 (AE (CM (i:=12) kJ.nd rfl (be rfl) (Cd (AJ (AL kQ (hr.mono (by decide)) rfl (AA (AM (AN AH Ac (dv 2) AD)) (AA (AM (AN AH Ac (dv 2) AD)) (AA (AM (AN AH Ac (dv 2) AD)) (AA (AM (dv 9)) (AA (AM (AN AH Ac (dv 5) AD)) AO)))))) Ag)))
 (AE (Fp 12 PySem.F.plainAttrs_list PySem.F.slot_list_append PySem.F.type_list_append Bu IP (pv 12) (AJ (AL kQ (hr.mono (by decide)) rfl (AA (AM (AN AH Ac (dv 2) AD)) (AA (AM (AN AH Ac (dv 2) AD)) (AA (AM (AN AH Ac (dv 2) AD)) (AA (AM (AN AH Ac (dv 5) AD)) (AA (AM (dv 10)) AO)))))) Ag))
 (AE (V_ cI rfl (pv 12) (AX (i:=13) kJ.nd rfl (be rfl)) (AK (BI (Cb (B4 (AL kO (hr.mono (by decide)) rfl (AA (AM (AN AH Ac (dv 2) AD)) (AA (AM (dv 11)) (AA (AM (AN AH Ac (dv 2) AD)) (AA (AM (dv 13)) AO))))))) (AK (Ad CG)) Ar)))
 (AE (B5 cI rfl (Hz (dv 3)) (AX (i:=4) kJ.nd rfl (be rfl)) (AK (BI (DTW.dt (Hy (B4 (AL kR (hr.mono (by decide)) rfl (AA (AM (dv 4)) (AA (AM (AN AH Ac (dv 3) AD)) AO)))) (G1 (Cb (B4 (AL kP (hr.mono (by decide)) rfl (AA (AM (AN AH Ac (dv 2) AD)) (AA (AM (dv 4)) (AA (AM (AN AH Ac (dv 2) AD)) AO))))))))) (AK (Ad CG)) Ar)))
 (AK (Ad (FC Fk LG (As (FX hr) ND rfl T.n_repr boot_repr (AS (Bc (AJ (dv 2) (AJ (dv 5) Ag))) Ae)) (dv 6) (Ap _))))))))))))))))))))))) PD
end
theorem GJ{β:Type}{n:Nat}(g k:List Ev->β)(us:List Ev)(h:us.length=n+1)(c:∀(a:Ev) (r:List Ev),r.length=n->g (a::r)=k (a::r)):g us=k us:=by
 cases us with
 | nil=>cases h
 | cons a r=>exact c a r (jR h)
theorem len0{β:Type}(g k:List Ev->β)(us:List Ev)(h:us.length=0)(c:g []=k []):g us=k us:=by
 cases us with
 | nil=>exact c
 | cons a r=>cases h
theorem XB{d:bo}{ps:List Str}(c:∀a0:Ev,bindArgs d ⟨[a0],[]⟩=pure (ps.zip [a0]))(us:List Ev)(h:us.length=1):bindArgs d ⟨us,[]⟩=pure (ps.zip us):=GJ (λr=>bindArgs d ⟨r,[]⟩) (λr=>pure (ps.zip (r))) us h λa0 r h=>len0 (λr=>bindArgs d ⟨a0::r,[]⟩) (λr=>pure (ps.zip (a0::r))) r h (c a0)
theorem Oi{d:bo}{ps:List Str}(c:∀a0 a1:Ev,bindArgs d ⟨[a0,a1],[]⟩=pure (ps.zip [a0,a1]))(us:List Ev)(h:us.length=2):bindArgs d ⟨us,[]⟩=pure (ps.zip us):=GJ (λr=>bindArgs d ⟨r,[]⟩) (λr=>pure (ps.zip (r))) us h λa0 r h=>GJ (λr=>bindArgs d ⟨a0::r,[]⟩) (λr=>pure (ps.zip (a0::r))) r h λa1 r h=>len0 (λr=>bindArgs d ⟨a0::a1::r,[]⟩) (λr=>pure (ps.zip (a0::a1::r))) r h (c a0 a1)
theorem WN{d:bo}{ps:List Str}(c:∀a0 a1 a2:Ev,bindArgs d ⟨[a0,a1,a2],[]⟩=pure (ps.zip [a0,a1,a2]))(us:List Ev)(h:us.length=3):bindArgs d ⟨us,[]⟩=pure (ps.zip us):=GJ (λr=>bindArgs d ⟨r,[]⟩) (λr=>pure (ps.zip (r))) us h λa0 r h=>GJ (λr=>bindArgs d ⟨a0::r,[]⟩) (λr=>pure (ps.zip (a0::r))) r h λa1 r h=>GJ (λr=>bindArgs d ⟨a0::a1::r,[]⟩) (λr=>pure (ps.zip (a0::a1::r))) r h λa2 r h=>len0 (λr=>bindArgs d ⟨a0::a1::a2::r,[]⟩) (λr=>pure (ps.zip (a0::a1::a2::r))) r h (c a0 a1 a2)
theorem aH{d:bo}{ps:List Str}(c:∀a0 a1 a2 a3:Ev,bindArgs d ⟨[a0,a1,a2,a3],[]⟩=pure (ps.zip [a0,a1,a2,a3]))(us:List Ev)(h:us.length=4):bindArgs d ⟨us,[]⟩=pure (ps.zip us):=GJ (λr=>bindArgs d ⟨r,[]⟩) (λr=>pure (ps.zip (r))) us h λa0 r h=>GJ (λr=>bindArgs d ⟨a0::r,[]⟩) (λr=>pure (ps.zip (a0::r))) r h λa1 r h=>GJ (λr=>bindArgs d ⟨a0::a1::r,[]⟩) (λr=>pure (ps.zip (a0::a1::r))) r h λa2 r h=>GJ (λr=>bindArgs d ⟨a0::a1::a2::r,[]⟩) (λr=>pure (ps.zip (a0::a1::a2::r))) r h λa3 r h=>len0 (λr=>bindArgs d ⟨a0::a1::a2::a3::r,[]⟩) (λr=>pure (ps.zip (a0::a1::a2::a3::r))) r h (c a0 a1 a2 a3)
theorem bX{d:bo}{ps:List Str}(c:∀a0 a1 a2 a3 a4:Ev,bindArgs d ⟨[a0,a1,a2,a3,a4],[]⟩=pure (ps.zip [a0,a1,a2,a3,a4]))(us:List Ev)(h:us.length=5):bindArgs d ⟨us,[]⟩=pure (ps.zip us):=GJ (λr=>bindArgs d ⟨r,[]⟩) (λr=>pure (ps.zip (r))) us h λa0 r h=>GJ (λr=>bindArgs d ⟨a0::r,[]⟩) (λr=>pure (ps.zip (a0::r))) r h λa1 r h=>GJ (λr=>bindArgs d ⟨a0::a1::r,[]⟩) (λr=>pure (ps.zip (a0::a1::r))) r h λa2 r h=>GJ (λr=>bindArgs d ⟨a0::a1::a2::r,[]⟩) (λr=>pure (ps.zip (a0::a1::a2::r))) r h λa3 r h=>GJ (λr=>bindArgs d ⟨a0::a1::a2::a3::r,[]⟩) (λr=>pure (ps.zip (a0::a1::a2::a3::r))) r h λa4 r h=>len0 (λr=>bindArgs d ⟨a0::a1::a2::a3::a4::r,[]⟩) (λr=>pure (ps.zip (a0::a1::a2::a3::a4::r))) r h (c a0 a1 a2 a3 a4)
def Ht(K:Frag)(x:Str)(st:cS):Prop:=∃(f:Db) (oc:Ev) (od an:Option Db) (sl:Array (Option Ev)) (kV dc pm cd ct:Ev),nsIn K mainGlobals x=some (some (.ref f))/\K.lookup f=some ⟨oc,od,.func (fnOf x x (Df st) (CO st) (AR st) .none kV dc pm an cd ct),sl⟩/\codeIn K cd x=true/\keepIn K (.ref f)=true
def Hn(K:Frag)(x:Str):Prop:=nsIn K mainGlobals x=some none
theorem Ht.mk{K:Frag}{x:Str}{st:cS}{f:Db}{oc:Ev}{od an:Option Db}{sl:Array (Option Ev)}{kV dc pm cd ct:Ev}(a:nsIn K mainGlobals x=some (some (.ref f)))(l:K.lookup f=some ⟨oc,od,.func (fnOf x x (Df st) (CO st) (AR st) .none kV dc pm an cd ct),sl⟩)(c:codeIn K cd x=true)(k:keepIn K (.ref f)=true):Ht K x st:=⟨f,oc,od,an,sl,kV,dc,pm,cd,ct,a,l,c,k⟩
theorem Hn.mk{K:Frag}{x:Str}(a:nsIn K mainGlobals x=some none):Hn K x:=a
section
variable {P:Program}{w:World}{K:Frag}{mg:Str->Option Value}{h base:Heap}{x:Str}{st:Stmt}
theorem Ht.fn(X:K.In h)(G:h.Ns mainGlobals mg)(H:Ht K x st):∃f fd,mg x=some (.ref f)/\Fun K x x st f fd:=by
 obtain⟨f,oc,od,an,sl,kV,dc,pm,cd,ct,a,l,c,k⟩:=H;exact⟨f,_,mg_of X G a,UP (st:=st) l c k⟩
theorem Ht.got{k:Nat}{ps:List Str}{κ:Kd}{W:W2}(X:K.In h)(G:h.Ns mainGlobals mg)(H:Ht K x st)(hW:∀ss n P,W ss n P->ss.length=ps.length)
  (hb:∀(kV doc pm:Ev) (an:Option Db) (cdv ct:Ev) (us:List Ev),us.length=ps.length->bindArgs (fnOf x x (Df st) (CO st) (AR st) .none kV doc pm an cdv ct) ⟨us,[]⟩=pure (ps.zip us))
  (ok:∀{f:Db} {fd:bo},Fun K x x st f fd->mg x=some (.ref f)->Binds K fd ps []->BG P w K mg base CP k f fd ps (DY K κ W ps.length)):Got P w K mg base x k ps κ W:=by
 obtain⟨f,fd,m,F⟩:=H.fn X G;have b:=F.binds hb;exact YG F m b hW (ok F m b)
end
theorem all_mk{l:PySem.W.OpenLaw}{w:cQ}{K:Frag}{h:b9}{mg:Str->Option Ev}{fa:Db}(X:K.In h)(G:h.Ns mainGlobals mg)(hfa:mg "law"=some (.ref fa))
  (h0:Ht K "is_whole" GB) (h1:Ht K "is_tuple_of" Dk) (h2:Ht K "is_rising" Ew) (h3:Ht K "rank_of" Hd) (h4:Ht K "order_of" F9) (h5:Ht K "steps_of" F8) (h6:Ht K "only" O9) (h7:Ht K "is_tie_of" Eu) (h8:Ht K "is_thin" Hf) (h9:Ht K "left_out" GA) (h10:Ht K "length_of" Es) (h11:Ht K "length_between" CQ) (h12:Ht K "ties_over" Ep) (h13:Ht K "nearest_of" EH) (h14:Ht K "least_ways" EI) (h15:Ht K "way_of" Jg) (h16:Ht K "product" He) (h17:Ht K "is_no_stricter" CS) (h18:Ht K "ways_by_tie" Di) (h19:Ht K "way_taken" En) (h20:Ht K "composed" GC) (h21:Ht K "is_within" Et) (h22:Ht K "near_way" F_) (h23:Ht K "thinned" Hc) (h24:Ht K "ways_paper" EG) (h25:Ht K "way_fault" Eo) (h26:Ht K "lets_ways" Er) (h27:Ht K "_law_feed" Ey) (h28:Ht K "_law_next" Dc) (h29:Ht K "_law_places" Do) (h30:Ht K "_law_length" Dq) (h31:Ht K "_law_net" GD) (h32:Ht K "_law_in_order" Cu) (h33:Ht K "_law_least" EJ) (h34:Ht K "_law_within" Dl) (h35:Ht K "_law_walked" Dn) (h36:Ht K "_law_small_times" CC) (h37:Ht K "_law_more" Ex) (h38:Ht K "_law_ways_right" CJ) (h39:Ht K "law" Jh)
  (z0:Hn K "all") (z1:Hn K "bool") (z2:Hn K "dict") (z3:Hn K "enumerate") (z4:Hn K "int") (z5:Hn K "isinstance") (z6:Hn K "len") (z7:Hn K "list") (z8:Hn K "max") (z9:Hn K "min") (z10:Hn K "range") (z11:Hn K "repr") (z12:Hn K "reversed") (z13:Hn K "sorted") (z14:Hn K "str") (z15:Hn K "tuple") (z16:Hn K "zip") 
  : ∃fd:bo,(∀(s:Op) (v:Ev),iV s fd ⟨[v],[]⟩ [("_law_script",v)])/\∀base:b9,K.In base->base.Ns mainGlobals mg->BG l.prog w K mg base CP 8 fa fd ["_law_script"] (Nd K):=by
 have T:Txt K mg:=⟨mg_none_of X G z0,mg_none_of X G z1,mg_none_of X G z2,mg_none_of X G z3,mg_none_of X G z4,mg_none_of X G z5,mg_none_of X G z6,mg_none_of X G z7,mg_none_of X G z8,mg_none_of X G z9,mg_none_of X G z10,mg_none_of X G z11,mg_none_of X G z12,mg_none_of X G z13,mg_none_of X G z14,mg_none_of X G z15,mg_none_of X G z16⟩;obtain⟨ff,ffd,mf,Ff⟩:=h27.fn X G;have bf:=Ff.binds (ps:=["_law_script"]) λ_ _ _ _ _ _=>XB λ_=>rfl;obtain⟨f,oc,od,an,sl,kV,dc,pm,cd,ct,a,l',c,k⟩:=h39;have e:=hfa.symm.trans (mg_of X G a);cases e;refine⟨fnOf "law" "law" (Df Jh) (CO Jh) (AR Jh) .none kV dc pm an cd ct,λs v=>.of_eq rfl,λbase _ _=>?_⟩;have jX:Kq l.prog w K mg base:=h0.got X G (λ_ _ _ h=>RP h) (λ_ _ _ _ _ _=>XB λ_=>rfl) λF m b=>N4 T  F;have ja:Dv l.prog w K mg base:=h1.got X G (λ_ _ _ h=>by obtain⟨_,_,e,_⟩:=h; rw [e]; rfl) (λ_ _ _ _ _ _=>Oi λ_ _=>rfl) λF m b=>Jw T  F;have jY:IV l.prog w K mg base:=h2.got X G (λ_ _ _ h=>by obtain⟨_,_,e,_⟩:=h; rw [e]; rfl) (λ_ _ _ _ _ _=>XB λ_=>rfl) λF m b=>MY T  F;have jV:Lw l.prog w K mg base:=h3.got X G (λ_ _ _ h=>by obtain⟨_,_,_,e,_⟩:=h; rw [e]; rfl) (λ_ _ _ _ _ _=>XB λ_=>rfl) λF m b=>PU T  F;have jb:GR l.prog w K mg base:=h4.got X G (λ_ _ _ h=>by obtain⟨_,_,e,_⟩:=h; rw [e]; rfl) (λ_ _ _ _ _ _=>XB λ_=>rfl) λF m b=>N0 T jV F;have jd:ES l.prog w K mg base:=h5.got X G (λ_ _ _ h=>by obtain⟨_,e,_⟩:=h; rw [e]; rfl) (λ_ _ _ _ _ _=>XB λ_=>rfl) λF m b=>Nz F;have jx:U0 l.prog w K mg base:=h6.got X G (λ_ _ _ h=>by obtain⟨_,_,_,e,_⟩:=h; rw [e]; rfl) (λ_ _ _ _ _ _=>Oi λ_ _=>rfl) λF m b=>Vi T  F;have jZ:IU l.prog w K mg base:=h7.got X G (λ_ _ _ h=>by obtain⟨_,_,e,_⟩:=h; rw [e]; rfl) (λ_ _ _ _ _ _=>Oi λ_ _=>rfl) λF m b=>MX T jX F;have j3:Ly l.prog w K mg base:=h8.got X G (λ_ _ _ h=>by obtain⟨_,_,e,_⟩:=h; rw [e]; rfl) (λ_ _ _ _ _ _=>Oi λ_ _=>rfl) λF m b=>PX T jY jZ ja F;have jl:DP l.prog w K mg base:=h9.got X G (λ_ _ _ h=>by obtain⟨_,_,e,_⟩:=h; rw [e]; rfl) (λ_ _ _ _ _ _=>Oi λ_ _=>rfl) λF m b=>N3 T jb F;have jf:FI l.prog w K mg base:=h10.got X G (λ_ _ _ h=>by obtain⟨_,_,e,_⟩:=h; rw [e]; rfl) (λ_ _ _ _ _ _=>Oi λ_ _=>rfl) λF m b=>MV T jd F;have j1:D_ l.prog w K mg base:=h11.got X G (λ_ _ _ h=>by obtain⟨_,_,_,_,_,e,_⟩:=h; rw [e]; rfl) (λ_ _ _ _ _ _=>aH λ_ _ _ _=>rfl) λF m b=>Gn T jf F;have jn:IS l.prog w K mg base:=h12.got X G (λ_ _ _ h=>by obtain⟨_,_,_,e,_⟩:=h; rw [e]; rfl) (λ_ _ _ _ _ _=>Oi λ_ _=>rfl) λF m b=>MT T jd F;have ji:HE l.prog w K mg base:=h13.got X G (λ_ _ _ h=>by obtain⟨_,_,_,_,e,_⟩:=h; rw [e]; rfl) (λ_ _ _ _ _ _=>Oi λ_ _=>rfl) λF m b=>K8 T  F;have jk:HF l.prog w K mg base:=h14.got X G (λ_ _ _ h=>by obtain⟨_,_,e,_⟩:=h; rw [e]; rfl) (λ_ _ _ _ _ _=>Oi λ_ _=>rfl) λF m b=>K9 T ji jd F;have ju:Ov l.prog w K mg base:=h15.got X G (λ_ _ _ h=>by obtain⟨_,_,_,e,_⟩:=h; rw [e]; rfl) (λ_ _ _ _ _ _=>WN λ_ _ _=>rfl) λF m b=>Rb T jk F;have kU:Lx l.prog w K mg base:=h16.got X G (λ_ _ _ h=>by obtain⟨_,_,_,_,e,_⟩:=h; rw [e]; rfl) (λ_ _ _ _ _ _=>Oi λ_ _=>rfl) λF m b=>PV T  F;have kR:EA l.prog w K mg base:=h17.got X G (λ_ _ _ h=>by obtain⟨_,_,_,_,e,_⟩:=h; rw [e]; rfl) (λ_ _ _ _ _ _=>Oi λ_ _=>rfl) λF m b=>Gp T  F;have jq:F2 l.prog w K mg base:=h18.got X G (λ_ _ _ h=>by obtain⟨_,_,_,e,_⟩:=h; rw [e]; rfl) (λ_ _ _ _ _ _=>WN λ_ _ _=>rfl) λF m b=>Jv T jl F;have jp:IQ l.prog w K mg base:=h19.got X G (λ_ _ _ h=>by obtain⟨_,_,_,_,_,e,_⟩:=h; rw [e]; rfl) (λ_ _ _ _ _ _=>WN λ_ _ _=>rfl) λF m b=>MR T jn F;have kQ:Kr l.prog w K mg base:=h20.got X G (λ_ _ _ h=>by obtain⟨_,_,_,_,_,e,_⟩:=h; rw [e]; rfl) (λ_ _ _ _ _ _=>bX λ_ _ _ _ _=>rfl) λF m b=>N5 T jl jp jq F;have jt:FJ l.prog w K mg base:=h21.got X G (λ_ _ _ h=>by obtain⟨_,_,_,_,e,_⟩:=h; rw [e]; rfl) (λ_ _ _ _ _ _=>WN λ_ _ _=>rfl) λF m b=>MW T  F;have jw:GS l.prog w K mg base:=h22.got X G (λ_ _ _ h=>by obtain⟨_,_,_,_,e,_⟩:=h; rw [e]; rfl) (λ_ _ _ _ _ _=>WN λ_ _ _=>rfl) λF m b=>N2 T jt jf ju F;have kW:Lv l.prog w K mg base:=h23.got X G (λ_ _ _ h=>by obtain⟨_,_,_,e,_⟩:=h; rw [e]; rfl) (λ_ _ _ _ _ _=>Oi λ_ _=>rfl) λF m b=>PR T jw jx jb F;have kX:HD l.prog w K mg base:=h24.got X G (λ_ _ _ h=>by obtain⟨_,_,_,_,e,_⟩:=h; rw [e]; rfl) (λ_ _ _ _ _ _=>WN λ_ _ _=>rfl) λF m b=>K7 T jl jw F;have j4:IR l.prog w K mg base:=h25.got X G (λ_ _ _ h=>by obtain⟨_,_,_,_,_,_,e,_⟩:=h; rw [e]; rfl) (λ_ _ _ _ _ _=>aH λ_ _ _ _=>rfl) λF m b=>MS T jt j1 F;have kT:IT l.prog w K mg base:=h26.got X G (λ_ _ _ h=>by obtain⟨_,_,_,_,_,e,_⟩:=h; rw [e]; rfl) (λ_ _ _ _ _ _=>aH λ_ _ _ _=>rfl) λF m b=>MU T j3 ja jl j4 F;have Gf:=Ma (P:=l.prog) (w:=w) (base:=base) T Ff;have j6:CH l.prog w K mg base:=h28.got X G (λ_ _ _ h=>by obtain⟨_,e,_⟩:=h; rw [e]; rfl) (λ_ _ _ _ _ _=>Oi λ_ _=>rfl) λF m b=>Vj F T.n_len;have j9:F5 l.prog w K mg base:=h29.got X G (λ_ _ _ h=>by obtain⟨_,e,_⟩:=h; rw [e]; rfl) (λ_ _ _ _ _ _=>Oi λ_ _=>rfl) λF m b=>Jz T j6 F;have j8:F6 l.prog w K mg base:=h30.got X G (λ_ _ _ h=>by obtain⟨_,e,_⟩:=h; rw [e]; rfl) (λ_ _ _ _ _ _=>Oi λ_ _=>rfl) λF m b=>J0 T j6 F;have kM:Ks l.prog w K mg base:=h31.got X G (λ_ _ _ h=>by obtain⟨_,_,e,_⟩:=h; rw [e]; rfl) (λ_ _ _ _ _ _=>WN λ_ _ _=>rfl) λF m b=>N6 T j8 j6 j9 F;have kH:Ec l.prog w K mg base:=h32.got X G (λ_ _ _ h=>by obtain⟨_,_,e,_⟩:=h; rw [e]; rfl) (λ_ _ _ _ _ _=>XB λ_=>rfl) λF m b=>Hk T  F;have kB:HG l.prog w K mg base:=h33.got X G (λ_ _ _ h=>by obtain⟨_,_,_,_,e,_⟩:=h; rw [e]; rfl) (λ_ _ _ _ _ _=>Oi λ_ _=>rfl) λF m b=>K_ T  F;have kP:F3 l.prog w K mg base:=h34.got X G (λ_ _ _ h=>by obtain⟨_,_,_,_,e,_⟩:=h; rw [e]; rfl) (λ_ _ _ _ _ _=>WN λ_ _ _=>rfl) λF m b=>Jx T kB F;have kI:F4 l.prog w K mg base:=h35.got X G (λ_ _ _ h=>by obtain⟨_,_,e,_⟩:=h; rw [e]; rfl) (λ_ _ _ _ _ _=>Oi λ_ _=>rfl) λF m b=>Jy T  F;have kN:DQ l.prog w K mg base:=h36.got X G (λ_ _ _ h=>by obtain⟨e,_⟩:=h; rw [e]; rfl) (λ_ _ _ _ _ _=>XB λ_=>rfl) λF m b=>Fe T j6 F;have kL:IW l.prog w K mg base:=h37.got X G (λ_ _ _ h=>by obtain⟨_,_,e,_⟩:=h; rw [e]; rfl) (λ_ _ _ _ _ _=>WN λ_ _ _=>rfl) λF m b=>MZ T j6 F;have kO:Dg l.prog w K mg base:=h38.got X G (λ_ _ _ h=>by obtain⟨_,_,_,_,_,e,_⟩:=h; rw [e]; rfl) (λ_ _ _ _ _ _=>aH λ_ _ _ _=>rfl) λF m b=>GH T kH kI F;exact X1 T Gf mf Ff.kp bf kL kM kN kO kP kQ kR kT kU kW kX (UP (st:=Jh) l' c k)
theorem walk{l:PySem.W.OpenLaw}{q:cL}{loose:List Str}{XP:(Str->Option Ev)->b9->Prop}{YP:cQ->b9->Prop}{d:DefRec}{K:Params->Frag}(hn:l.most=some 63)(hdf:d.params.defaults=[])
  (hY:∀(w:cQ) (h:b9),YP w h->(K w.params).In h)
  (F:∀(w:cQ) (mg:Str->Option Ev) (fa:Db) (h:b9),(K w.params).In h->h.Ns mainGlobals mg->mg d.name=some (.ref fa) ->
   ∃fd:bo,(∀(s:Op) (u:Ev),iV s fd ⟨[u],[]⟩ [("_law_script",u)])/\∀base:b9,(K w.params).In base->base.Ns mainGlobals mg->BG l.prog w (K w.params) mg base CP 8 fa fd ["_law_script"] (Nd (K w.params))) :
  PySem.W.WalkO q loose XP YP l.row.toRowW d [] (λf vs=>PySem.call f vs) :=
 L2.P0 (n:=63) (k:=8) (x := "_law_script") (CX:=λ_=>CP) (sp:=λw=>Nd (K w.params)) hn (by decide) hdf ⟨rfl,by decide,by decide,rfl⟩ hY F (λ_ _ a ns hl _ hS=>⟨a,ns,rfl,⟨hl,hS⟩,λ_=>rfl⟩) λ_ _ _ _ _ z=>z
end K91
end _p
namespace PySem.W.Fast
theorem tw13453894772379074592:True:=⟨⟩
theorem tw1785431035161441370:True:=⟨⟩
theorem tw14701032861704257708:True:=⟨⟩
theorem tw2645055169942534963:True:=⟨⟩
theorem tw13319500288531574018:True:=⟨⟩
theorem tw2437833612142269422:True:=⟨⟩
theorem tw1378182935093362334:True:=⟨⟩
theorem tw3486300874437898457:True:=⟨⟩
theorem tw42919491219026965:True:=⟨⟩
theorem tw7330959812717473581:True:=⟨⟩
theorem tw4474552525655430551:True:=⟨⟩
theorem tw14983601858412710440:True:=⟨⟩
theorem tw10593360226421742240:True:=⟨⟩
theorem tw16810018490797339605:True:=⟨⟩
theorem tw7187740615520265798:True:=⟨⟩
theorem tw9356878926032639892:True:=⟨⟩
theorem tw10843827352842721305:True:=⟨⟩
theorem tw6409916348112111180:True:=⟨⟩
end PySem.W.Fast
open _p
open PySem PySem.W PyProof.Rows
set_option maxRecDepth 100000 in
set_option maxHeartbeats 0 in
theorem PySem.Challenge.cw_thinnet_k91_whole_thinned_again_and_agai_holds : PySem.Challenge.rw_thinnet_k91_whole_thinned_again_and_agai.Holds := by
 w_on; o_law; k_head; (case hw=>w_witness2)
 k_fill
 refine K91.walk (l:=PySem.Challenge.rw_thinnet_k91_whole_thinned_again_and_agai) rfl rfl (λw h Y=>PySem.W.kIn_of Y) ?F
 case F =>
  intro w mg fa h KX G hmg
  refine' K91.all_mk KX G hmg ?_ ?_ ?_ ?_ ?_ ?_ ?_ ?_ ?_ ?_ ?_ ?_ ?_ ?_ ?_ ?_ ?_ ?_ ?_ ?_ ?_ ?_ ?_ ?_ ?_ ?_ ?_ ?_ ?_ ?_ ?_ ?_ ?_ ?_ ?_ ?_ ?_ ?_ ?_ ?_ ?_ ?_ ?_ ?_ ?_ ?_ ?_ ?_ ?_ ?_ ?_ ?_ ?_ ?_ ?_ ?_ ?_
  all_goals first
   | (refine' K91.Ht.mk ?a ?l ?c ?k; (case a=>k_is); (case l=>k_is); (case c=>k_is); (case k=>k_is))
   | (refine' K91.Hi.mk ?a; (case a=>k_is))
   | (refine' K91.Hn.mk ?a; (case a=>k_is))
#print axioms PySem.Challenge.cw_thinnet_k91_whole_thinned_again_and_agai_holds

import PyProof.Rows.All
import Wide.All
import OpenK.AllK
import Wide.FinOn
import Lean
import PyProof.EqAt
import PyProof.EqKinds
import PyProof.TupleCall
import PyProof.StationsW
import PyProof.PassesOwn
import PyProof.RulesAs
import PyProof.ExcClass3
import PyProof.Rows.CatchOwn
import OpenK.KMake
import OpenK.KWalk
import PyProof.InstStoreFacts
import PyProof.ExcBaseAll.ValueError
import PyProof.RangeIter
import OpenK.KRaise
import PyProof.NsDelKeeps
import KE.KIsAll
import PyProof.P3In
import PyProof.NeData
import PyProof.ExcArgs
import KE.KSortTup
import PyProof.CompUse
import KE.KRevIter
import PyProof.TupleOfGen
import PyProof.CollectIter
import PyProof.ListMulRoad
import PyProof.Draws
import PyProof.EnumMake
import PyProof.ListNew
import PyProof.AttrMissHeap
import PyProof.FactsAll.dict
import KE.KEqDict
import PyProof.FactsAll.zip
import PyProof.StrBlockH
import PyProof.MeetsStr2
import KE.KIntText
import PyProof.Rows.FStr
import PyProof.ReprLen
import PyProof.SumAny
import PyProof.Rows.SeqCalls
import PySem.Challenge.RW_thinnet_k14_papers_of_ways_bent
open PySem.W (Frag nsIn keepIn fnOf codeIn mg_of mg_none_of)
set_option Elab.async false
set_option linter.all false
set_option maxRecDepth 100000
open Array renaming length_toList->eT,mem_toList_iff->jk
open Array.Perm renaming refl->jX
open Bool renaming and_eq_true->cq,false_ne_true->c8,eq_false_iff->d7,eq_iff_iff->e_,true_and->fM,false_eq_true->fX,false_and->gP,and_false->iZ
open Classical renaming byContradiction->gi,propDecidable->gv
open False renaming elim->dh
open ForInStep renaming yield->gD
open Int renaming toNat_natCast->gH,mul_le_mul_of_nonneg_left->iT,eq_ofNat_of_zero_le->jV
open List renaming length_map->Go,getElem?_eq_getElem->No,mem_cons_self->Op,mem_cons_of_mem->Re,mem_map->Rs,mem_singleton->Tk,mem_cons->T0,replicate->Uf,length_append->XV,length_cons->ZB,getElem?_eq_some_iff->cr,mem_append->cu,nil_append->cy,not_mem_nil->c6,size_toArray->c9,length_singleton->dB,range->dD,map_cons->dG,mem_append_right->dH,toArray->dI,nodup_cons->dM,Nodup->dQ,getElem?_map->dR,append_nil->dS,getD_eq_getElem?_getD->dW,getElem_mem->dX,map_append->de,mem_of_getElem?->dj,pairwise_cons->dm,mem_range->d8,all_eq_true->d9,getElem?_append_right->eB,length_nil->eE,drop_eq_getElem_cons->eI,length_filter_le->eM,append_assoc->eR,mem_filter->eU,length_take->eg,any_eq_true->em,mem_append_left->eo,nodup_nil->e6,map_map->fA,all_cons->fB,length_range->fJ,pairwise_map->fK,nodup_append->fL,lookup_cons->fP,lookup->fR,length_set->fb,getElem?_append_left->fk,length->fo,length_drop->fu,drop_length->fz,mem_flatMap->f6,cons_append->f7,filterMap_cons->f8,length_eq_zero_iff->f_,reverse_cons->gI,lt_irrefl->gN,take_append_drop->gO,cons_ne_nil->gR,mem_of_mem_drop->gS,mem_reverse->gU,length_reverse->gg,of_mem_zip->gh,zip_cons_cons->gl,zipWith->gn,getElem?_replicate->gs,pairwise_singleton->gu,filter_cons_of_neg->gw,flatMap_cons->g0,range_succ_eq_map->g9,map_id->g_,take_length->hZ,mem_iff_getElem?->iB,getElem?_set_ne->iE,forIn_cons->iJ,mem_of_mem_take->iR,getLast?_eq_some_getLast->iU,map_congr_left->iW,mem_filterMap->ig,filterMap_map->ii,perm_ext_iff_of_nodup->i4,getElem?_set->i9,pairwise_iff_getElem->jC,mem_of_find?_eq_some->jE,all_map->jO,map_nil->jP,any_map->jQ,sublist_append_left->jT,getElem?_cons_succ->jU,filter_cons_of_pos->jW,getElem?_set_self->jY,take_of_length_le->jc,find?_cons_of_pos->jd,find?_cons_of_neg->je,length_replicate->jf,getElem?_zipWith->jg,drop_zero->jh,singleton_append->jj,sum_cons->jm
open List.Pairwise renaming imp_of_mem->jS,nil->jz
open List.Sublist renaming refl->g7
open List.cons renaming inj->eQ
open Nat renaming le_refl->On,zero_le->TM,le_trans->cx,ne_of_lt->c7,lt_of_lt_of_le->dA,le_succ->dq,lt_irrefl->eK,lt_of_le_of_lt->fD,lt_succ_of_lt->fI,ne_of_gt->fV,succ_le_succ->fw,min_eq_left->gj,lt_trans->iI,not_lt->iK,mod_lt->jD,le_of_lt->jG,le_of_eq->jK,lt_succ_self->jM
open Nat.succ renaming inj->jy
open Ne renaming symm->eF
open Option renaming map_eq_some_iff->fS,some_beq_some->gX,isSome_map->i8
open Option.some renaming inj->cv
open Or renaming inl->TW,inr->dZ
open PyProof.Rows renaming slot_tuple_getitem->dN,callWith_type1->e9,listUpdate_at->fg,get?_update_seq->gF,AllBare->gK,boot_all->gQ,boot_tuple->gY,boot_repr->gp,listItems_at->iQ,entry_tuple_getitem->iV,seqEpoch_at->ia,boot_sorted->ie,args_tuple_getitem->ij,lt_int->jZ
open PyProof.Rows.KeyOrd renaming kle_refl->eZ,kle_of_klt->gz,kle_trans->h_,kle_antisymm->jq
open PySem renaming Addr->Ch,Value->Cn,wpAny_bind->Db,Shared->FM,wpAny_pure->Sc,Heap->cw,Program->cz,Expr->c_,World->dC,Stmt->dE,Around->dL,wpAny_mono->dP,FuncData->dU,wpAny_field->da,wpAny_loadPart_at->dg,sizeLine_eq->di,wpAny_holding->dw,wpAny_isSubtype_exc->eA,wpAny_Call_Name_kw->eN,wpAny_callSpecial?_slot->eO,wpAny_pyIter_tuple->ef,IsPair->eh,wpAny_truthy_bool->e7,wpAny_pyIter_list->e8,Scope->fF,wpAny_loadPart'->fG,NameKind->fN,wpAny_call_entry->fO,wpAny_seqItems->fQ,tupleKind_room_in1->fW,wpAny_setField_rec->fY,wpAny_passesOwn->fZ,wpAny_newObj_type->fh,wpAny_call->fj,codeAny_mono->ft,wpAny_getItem_str_slice->f9,wpAny_execs_nil->gB,IsZip->gJ,Keyword->gL,ExceptHandler->gc,Builtin->gf,wpAny_setField->gq,wpAny_standAt->hG,wpAny_onRaise->hV,wpAny_attempt->hX,PassesOwn->iA,plainObj_wpAny_Assign_Attribute->iC,IsPart->iF,wpAny_typeOf->iG,codeAny_call_builtin->iL,post_val_or_str->iN,wpAny_updateSeq_pair->iO,BindsTo->iX,PyData->im,wpAny_newFunctionEnv_cells->ir,wpAny_newList->iy,wpAny_sequenceKey->i5,slot_list_getitem->i6,wpAny_rule->jB,wpAny_execs_cons->jH,noFill_tuple_add->jI,call_meetsIn->jL,wpAny_madeBy_exc->jN,wpAny_letGo->ja
open PySem.Around renaming frames_deeper->jl
open PySem.Builtin.List renaming listExtendWith->ip
open PySem.Builtin.ObjectAttr renaming storeInDict->iM
open PySem.Builtin.Slice renaming slicePlaces->eV,sliceAdjust->fm,sliceApplied->iu
open PySem.Builtin.SmallTypes renaming nextOf->eJ,ownedTupleIsFree->ez,ownedTupleHandOut->gm
open PySem.Builtin.Str renaming occurrences->d6,reprChar->iS
open PySem.Builtin.Tuple renaming tupleItemsOf->gZ,tupleIsExact->iw,tupleExact->jJ
open PySem.Calls renaming spliced_cons->gC,spliced_nil->gy,callWith_builtin->g8,evalArgs_plain->iH,Name_function_global->iq
open PySem.Code renaming quiet_builtin->gE
open PySem.EntryCells renaming newEntry->jn
open PySem.F renaming slot_tuple_iterator_next->fe,slot_zip_next->iP,args_tuple_iterator_next_1->iY,entry_tuple_iterator_next->io
open PySem.Heap renaming get?_push_of_some->Ev,lt_size->UF,get?_push_size->cj,get?_update_other->dJ,size_push->eq,get?_update_self->fC,SameBut->fq,IsTuple->jR,IsList->jb
open PySem.Heap.IsSliceOf renaming new->jw
open PySem.Heap.SameBut renaming update->jp
open PySem.Heap.UpToSlots renaming refl->jo
open PySem.NameKind renaming free->df,cell->hU
open PySem.Obj renaming mapSeq->d_,mapFields->fc,data_mapFields->gk
open PySem.PassesOwn renaming never->dY
open PySem.PyData renaming eqv->eW,depthAll->eY,canLayAll0->fi,hasDict->gM,eqvAll->iz,hasDictAll->jA,leavesShortAll->ji,shown->jx
open PySem.SeqAt.EqAt renaming int_str->ju,str_int->jv
open PySem.Shared renaming heap->gG
open PySem.Str renaming ofString->dk,length_append->i_
open PySem.Value renaming ref->cm,none->dO,type->fE,builtin->gA,bool->iD,int->jr,str->jt
open Sum renaming inr->fH,inl->jF
open Sum.inr renaming inj->fT
open True renaming intro->eP
open PySem PySem.Spec PyProof.Rows
local macro_rules | `(tactic| walk_at "s")=>`(tactic| (constructor <;> first | rfl | decide +kernel))
namespace _p
namespace L2
abbrev Key:=Sum Int Str
def Lf:Key->Cn->Bool
 | .inl k,v=>Value.isInt k v
 | .inr x,v=>Value.isStrOf x v
def bW(w:dC):Key->Int
 | .inl k=>hashInt k
 | .inr x=>hashStr w x
theorem BZ:∀{k:Key} {v:Cn},Lf k v=true->(∃i t,k=jF i/\v=jr i t)\/(∃x t,k=fH x/\v=jt x t)
 | .inl i,v,h=>by
  obtain⟨t,e⟩:=Value.isInt_shape h;exact .inl ⟨i,t,rfl,e⟩
 | .inr x,v,h=>by
  obtain⟨t,e⟩:=Value.isStrOf_shape h;exact .inr ⟨x,t,rfl,e⟩
theorem SV(i:Int)(t:Tok):Lf (.inl i) (.int i t)=true:=by simp [Lf,Value.isInt]
theorem SU(x:Str)(t:Tok):Lf (.inr x) (.str x t)=true:=by simp [Lf,Value.isStrOf]
theorem YY(a b:Int):decide ((jF a:Key)=jF b)=(a==b):=by
 grind
theorem YV(a b:Str):decide ((fH a:Key)=fH b)=decide (a=b):=by
 grind
theorem YX(a:Int)(b:Str):decide ((jF a:Key)=fH b)=false:=decide_eq_false (λq=>nomatch q)
theorem YW(a:Str)(b:Int):decide ((fH a:Key)=jF b)=false:=decide_eq_false (λq=>nomatch q)
def BV(prog:cz)(w:dC):PySem.KeyKind prog w Key where
 is:=Lf
 hash:=bW w
 inj:=λv a b ha c=>by
  rcases BZ ha with ⟨i,t,rfl,rfl⟩ | ⟨x,t,rfl,rfl⟩
  ·rcases BZ c with ⟨j,u,rfl,e⟩ | ⟨y,u,rfl,e⟩
   ·injection e with e1 _; rw [e1]
   ·exact nomatch e
  ·rcases BZ c with ⟨j,u,rfl,e⟩ | ⟨y,u,rfl,e⟩
   ·exact nomatch e
   ·injection e with e1 _; rw [e1]
 byValue:=λk v h=>by
  rcases BZ h with ⟨i,t,rfl,rfl⟩ | ⟨x,t,rfl,rfl⟩ <;> rfl
 pyHash:=λhv h=>by
  rcases BZ hv with ⟨i,t,rfl,rfl⟩ | ⟨x,t,rfl,rfl⟩
  ·exact wpAny_pyHash_int h
  ·exact wpAny_pyHash_str h
 eqBool:=λhu hv h=>by
  rcases BZ hu with ⟨i,t,rfl,rfl⟩ | ⟨x,t,rfl,rfl⟩
  ·rcases BZ hv with ⟨j,u,rfl,rfl⟩ | ⟨y,u,rfl,rfl⟩
   ·rw [YY] at h; exact wpAny_eqBool_int h
   ·rw [YX] at h; exact ju i t y u _ _ _ _ h
  ·rcases BZ hv with ⟨j,u,rfl,rfl⟩ | ⟨y,u,rfl,rfl⟩
   ·rw [YW] at h; exact jv x t j u _ _ _ _ h
   ·rw [YV] at h; exact wpAny_eqBool_str h
 «strs»:=λk x t v h=>by
  rcases BZ h with ⟨i,u,rfl,e⟩ | ⟨y,u,rfl,e⟩
  ·exact nomatch e
  ·injection e with e1 _
   subst e1
   cases v <;> rfl
theorem OM(prog:cz)(w:dC)(i:Int)(t:Tok):(BV prog w).is (.inl i) (.int i t)=true:=SV i t
theorem OL(prog:cz)(w:dC)(x:Str)(t:Tok):(BV prog w).is (.inr x) (.str x t)=true:=SU x t
inductive V where
 | non | bl (b:Bool) | int (i:Int) | str (x:Str) | byt (b:Array UInt8) | flt (b:UInt64) | ref (a:Ch) | ty (n:String)
 deriving DecidableEq
def RelV:V->Cn->Prop
 | .non,u=>u=dO
 | .bl b,u=>u=iD b
 | .int i,u=>∃t,u=jr i t
 | .str x,u=>∃t,u=jt x t
 | .byt b,u=>∃t,u=Value.bytes b t
 | .flt b,u=>∃t,u=Value.float b t
 | .ref a,u=>u=cm a
 | .ty n,u=>u=fE n
abbrev Vals:List V->List Cn->Prop:=Paired RelV
theorem Vals.length{xs:List V}{us:List Cn}(r:Vals xs us):xs.length=us.length:=Paired.length r
theorem Vals.get:∀{xs:List V} {us:List Cn} {i:Nat} {x:V},Vals xs us->xs[i]?=some x->∃u,us[i]?=some u/\RelV x u
 | _,_,_,_,.nil,e=>by simp at e
 | _,_,0,_,.cons r _,e=>by simp_all
 | _,_,i+1,x,.cons _ t,e=>by
  obtain⟨u,h1,h2⟩:=Vals.get t (by simpa using e)
  simp_all
theorem Vals.set{x:V}{u:Cn}(r:RelV x u):∀{xs:List V} {us:List Cn} (i:Nat),Vals xs us->Vals (xs.set i x) (us.set i u)
 | _,_,_,.nil=>.nil
 | _,_,0,.cons _ t=>.cons r t
 | _,_,i+1,.cons q t=>.cons q (Vals.set r i t)
theorem Vals.append:∀{xs ys:List V} {us ws:List Cn},Vals xs us->Vals ys ws->Vals (xs++ys) (us++ws)
 | _,_,_,_,.nil,s=>s
 | _,_,_,_,.cons r t,s=>.cons r (Vals.append t s)
theorem Vals.take:∀{xs:List V} {us:List Cn} (n:Nat),Vals xs us->Vals (xs.take n) (us.take n)
 | _,_,0,_=>.nil
 | _,_,_+1,.nil=>.nil
 | _,_,n+1,.cons r t=>.cons r (Vals.take n t)
theorem Vals.drop:∀{xs:List V} {us:List Cn} (n:Nat),Vals xs us->Vals (xs.drop n) (us.drop n)
 | _,_,0,r=>r
 | _,_,_+1,.nil=>.nil
 | _,_,n+1,.cons _ t=>Vals.drop n t
def RelO:Option V->Option Cn->Prop
 | some v,some u=>RelV v u
 | none,none=>True
 | _,_=>False
def KV{κ:Type}:List (κ×V)->List (κ×Cn)->Prop:=Paired fun(p:κ×V) (q:κ×Cn)=>p.1=q.1/\RelV p.2 q.2
def kV:Key->V
 | .inl i=>.int i
 | .inr x=>.str x
inductive HO where
 | lst (xs:List V)
 | tup (xs:List V)
 | dK (kvs:List (Key×V)) | dT (kvs:List (List Key×V))
 | set (S:Int->Bool) (n:Nat)
 | ins (C dx:Ch) (fs:List (Str×V))
 | own (x:Ch)
 | xd (fs:List (Str×V))
 | met (f x:Ch)
 | rng (lo hi:Int)
 | frz (o:Obj) (u:HO)
 | tbl (ps:Array Cn)
 | ext (φ:cw->Prop)
abbrev Hp:=Ch->Option HO
def A4(H:Hp)(a:Ch)(o:HO):Hp:=λb=>if b=a then some o else H b
theorem AX{H:Hp}{a:Ch}{o:HO}:A4 H a o a=some o:=by unfold A4; grind
theorem AQ{H:Hp}{a b:Ch}{o:HO}(h:b≠a):A4 H a o b=H b:=by unfold A4; rw [if_neg h]
theorem Z5{H:Hp}{a b:Ch}{o u:HO}(h:H a=some o)(h':H b=some u)(d:o≠u):a≠b:=by
 grind
theorem A0{H:Hp}{a b:Ch}{o:HO}(h:H a=some o)(h':H b=none):a≠b:=by
 grind
def IsTupN(h:cw)(a:Ch)(items:Array Cn):Prop:=∃o,h.get? a=some o/\o.cls=.type "tuple"/\∃n,o.data=.seq items n/\o.dict=none/\o.slots=#[]
theorem IsTupN.tup{h:cw}{a:Ch}{items:Array Cn}(x:IsTupN h a items):IsTup h a items:=let ⟨o,h1,h2,n,h3,_⟩:=x; ⟨o,h1,h2,n,h3⟩
theorem IsTupN.new(h:cw)(items:Array Cn):IsTupN (h.push { cls:=.type "tuple",data:=.seq items }) h.objs.size items:=⟨_,cj _ rfl,rfl,_,rfl,rfl,rfl⟩
section
variable (P:Program)(w:World)
def ObjOk(H:Hp)(h:cw)(a:Ch):HO->Prop
 | .lst xs=>xs.length<=sizeLine/\∃(b:List Cn) (n:Nat),Vals xs b/\h.get? a=some { cls:=.type "list",data:=.seq b.toArray n }
 | .tup xs=>xs.length<=sizeLine/\∃b:List Cn,Vals xs b/\IsTupN h a b.toArray
 | .dK c=>c.length<=sizeLine/\(a==sysModules)=false/\∃vs,KV c vs/\h.DictOf (BV P w) a vs
 | .dT c=>c.length<=sizeLine/\(a==sysModules)=false/\∃xs:List (List Key×Ch×Cn),
   Paired (fun(p:List Key×V) (q:List Key×Ch×Cn)=>p.1=q.1/\H q.2.1=some (.tup (p.1.map kV))/\RelV p.2 q.2.2) c xs /\
   ∃o es ep,h.get? a=some o/\o.ExactDict/\o.data=.dict es ep/\es.toList=xs.map (entryOfKey (tupleKind (BV P w)))/\(xs.map (·.1)).Nodup
 | .set S n=>h.SetOf (intKind P w) a S n
 | .ins C dx fs=>H dx=some (.own a)/\fs.length<=1000/\dx≠a/\h.get? a=some (PySem.W.instObj C dx) /\
   ∃mA,h.Ns1 dx mA/\(∀f,RelO (fs.lookup f) (mA f))/\PySem.Within mA (fs.map (·.1))
 | .own _=>∃o,h.get? a=some o
 | .xd fs=>∃mA,h.Ns1 a mA/\∀f,RelO (fs.lookup f) (mA f)
 | .rng lo hi=>∃t u v,h.get? a=some { cls:=.type "range",data:=.fields #[.int lo t,.int hi u,.int 1 v] }
 | .frz o u=>h.get? a=some o/\ObjOk H h a u
 | .tbl ps=>h.get? a=some { cls:=.none,data:=.fields ps }
 | .met f x=>h.get? a=some (PySem.W.methodObj (.ref f) (.ref x))
 | .ext φ=>φ h/\(∃o,h.get? a=some o)/\∀h1 h2:cw,φ h1->(∀o,h1.get? a=some o->h2.get? a=some o)->φ h2
def HOk(H:Hp)(h:cw):Prop:=∀a o,H a=some o->ObjOk P w H h a o
end
section
variable {P:Program}{w:World}{H H':Hp}{h h':Heap}{a:Addr}{o:HO}
theorem ObjOk.lt(x:ObjOk P w H h a o):a<h.objs.size:=by
 cases o with
 | lst xs=>obtain⟨_,_,_,_,e⟩:=x; exact UF e
 | tup xs=>obtain⟨_,_,_,p⟩:=x; exact p.tup.lt
 | dK b=>obtain⟨_,_,_,_,o,_,_,e,_⟩:=x; exact UF e
 | dT b=>obtain⟨_,_,_,_,o,_,_,e,_⟩:=x; exact UF e
 | set S n=>obtain⟨o,_,_,_,e,_⟩:=x; exact UF e
 | ins C dx fs=>obtain⟨_,_,_,e,_⟩:=x; exact UF e
 | own y=>obtain⟨_,e⟩:=x; exact UF e
 | xd fs=>obtain⟨_,⟨_,_,_,e,_⟩,_⟩:=x; exact UF e
 | rng lo hi=>obtain⟨_,_,_,e⟩:=x; exact UF e
 | frz ob u=>obtain⟨e,_⟩:=x; exact UF e
 | tbl ps=>exact UF (show h.get? a=some _ from x)
 | met f y=>exact UF (show h.get? a=some _ from x)
 | ext φ=>obtain⟨_,⟨_,e⟩,_⟩:=x; exact UF e
theorem Paired.mapP{α β:Type}{F G:α->β->Prop}:∀{l₁:List α} {l₂:List β},Paired F l₁ l₂->(∀a b,F a b->G a b)->Paired G l₁ l₂
 | _,_,.nil,_=>.nil
 | _,_,.cons r t,f=>.cons (f _ _ r) (Paired.mapP t f)
theorem ObjOk.stay(x:ObjOk P w H h a o)(k:∀b u,(b=a\/H b=some (.own a))->h.get? b=some u->h'.get? b=some u)
  (ho:∀b,H b=some (.own a)->H' b=some (.own a)) (ht:∀b xs,H b=some (.tup xs)->H' b=some (.tup xs)):ObjOk P w H' h' a o:=by
 induction o with
 | lst xs=>obtain⟨z,g,n,r,e⟩:=x; exact⟨z,g,n,r,k _ _ (.inl rfl) e⟩
 | tup xs=>obtain⟨z,g,r,ob,e,c⟩:=x; exact⟨z,g,r,ob,k _ _ (.inl rfl) e,c⟩
 | dK i=>obtain⟨z,y,vs,r,ob,es,ep,e,c⟩:=x; exact⟨z,y,vs,r,ob,es,ep,k _ _ (.inl rfl) e,c⟩
 | dT i =>
  obtain⟨z,y,xs,r,ob,es,ep,e,c⟩:=x;exact⟨z,y,xs,Paired.mapP r λp q z=>⟨z.1,ht _ _ z.2.1,z.2.2⟩,ob,es,ep,k _ _ (.inl rfl) e,c⟩
 | set S n=>obtain⟨ob,es,ep,t,e,c⟩:=x; exact⟨ob,es,ep,t,k _ _ (.inl rfl) e,c⟩
 | ins C dx fs =>
  obtain⟨d,z,ne,e,mA,⟨od,es,ep,e2,c⟩,r⟩:=x;exact⟨ho _ d,z,ne,k _ _ (.inl rfl) e,mA,⟨od,es,ep,k _ _ (.inr d) e2,c⟩,r⟩
 | own y=>obtain⟨ob,e⟩:=x; exact⟨ob,k _ _ (.inl rfl) e⟩
 | xd fs=>obtain⟨mA,⟨od,es,ep,e,c⟩,r⟩:=x; exact⟨mA,⟨od,es,ep,k _ _ (.inl rfl) e,c⟩,r⟩
 | rng lo hi=>obtain⟨t,u,v,e⟩:=x; exact⟨t,u,v,k _ _ (.inl rfl) e⟩
 | frz ob u ih=>obtain⟨e,q⟩:=x; exact⟨k _ _ (.inl rfl) e,ih q⟩
 | tbl ps =>
  have e:h.get? a=some { cls:=.none,data:=.fields ps }:=x;show h'.get? a=some { cls:=.none,data:=.fields ps };exact k a _ (.inl rfl) e
 | met f y =>
  have e:h.get? a=some (PySem.W.methodObj (.ref f) (.ref y)):=x;show h'.get? a=some (PySem.W.methodObj (.ref f) (.ref y));exact k a _ (.inl rfl) e
 | ext φ=>obtain⟨p,⟨o,e⟩,st⟩:=x; exact⟨st _ _ p λo q=>k _ _ (.inl rfl) q,⟨o,k _ _ (.inl rfl) e⟩,st⟩
theorem HOk.lt(x:HOk P w H h)(e:H a=some o):a<h.objs.size:=(x a o e).lt
theorem HOk.fresh(x:HOk P w H h)(e:h.objs.size<=a):H a=none:=by
 cases q:H a with
 | none=>rfl
 | some u=>exact absurd (dA (x.lt q) e) (eK _)
theorem HOk.kept(x:HOk P w H h)(k:∀b u,h.get? b=some u->h'.get? b=some u):HOk P w H h':=λa o e =>
 (x a o e).stay (λb u _ q=>k b u q) (λ_ q=>q) λ_ _ q=>q
theorem HOk.laid(x:HOk P w H h)(k:∀b u,h.get? b=some u->h'.get? b=some u)(hp:h.objs.size<=a)(new:ObjOk P w (A4 H a o) h' a o):HOk P w (A4 H a o) h':=λb u e=>by
 have hn:=x.fresh hp
 by_cases d:b=a
 ·subst d; rw [AX] at e; grind
 ·rw [AQ d] at e
  exact(x b u e).stay (λc v _ q=>k c v q) (λc q=>by rw [AQ (A0 q hn)]; exact q) λc xs q=>by rw [AQ (A0 q hn)]; exact q
end
def Rd(H:Hp)(a:Ch)(u:HO):Prop:=H a=some u\/∃o,H a=some (.frz o u)
theorem Rd.ok{P:cz}{w:dC}{H:Hp}{h:cw}{a:Ch}{u:HO}(r:Rd H a u)(x:HOk P w H h):ObjOk P w H h a u:=by
 rcases r with r | ⟨o,r⟩
 ·exact x a u r
 ·obtain⟨_,q⟩:=x a _ r
  exact q
def aZ:Option HO->Prop
 | some (.lst _)=>True
 | some (.dK _)=>True
 | some (.dT _)=>True
 | some (.set _ _)=>True
 | some (.ins _ _ _)=>True
 | some (.ext _)=>True
 | _=>False
section
variable {P:Program}{w:World}{H:Hp}{h h':Heap}{x e:Addr}{o':HO}
theorem HOk.write(ok:HOk P w H h)(mu:aZ (H x))(he:e=x\/H e=some (.own x))(k:∀b u,b≠e->h.get? b=some u->h'.get? b=some u)(f:∃u,h'.get? e=some u)
  (new:ObjOk P w (A4 H x o') h' x o'):HOk P w (A4 H x o') h':=λb u q=>by
 have a:∀c y,H c=some (.own y)->c≠x:=λc y r z=>by subst z; rw [r] at mu; exact mu
 have d:∀c xs,H c=some (.tup xs)->c≠x:=λc xs r z=>by subst z; rw [r] at mu; exact mu
 by_cases i:b=x
 ·subst i; rw [AX] at q; cases q; exact new
 ·rw [AQ i] at q
  by_cases g:b=e
  ·have q':H b=some (.own x):=by
    grind
   rw [q] at q'; cases q'
   obtain⟨v,hv⟩:=f;exact⟨v,by rw [g]; exact hv⟩
  ·refine(ok b u q).stay (λc v j r=>k c v ?_ r) (λc r=>by rw [AQ (a c b r)]; exact r) λc xs r=>by rw [AQ (d c xs r)]; exact r
   grind
end
structure Un (fs ex:List Ch) (H H':Hp) (h h':cw):Prop where
 keep:∀b o,h.get? b=some o->H b=none->b∉fs->b∉ex->h'.get? b=some o
 slot:∀b o,h.get? b=some o->H b=none->b∈fs->b∉ex->∃sl,h'.get? b=some { o with slots:=sl }
 free:∀b o,h.get? b=some o->H b=none->b∉ex->H' b=none
 there:∀b o,h.get? b=some o->b∉ex->∃o',h'.get? b=some o'
 tups:∀b xs,H b=some (.tup xs)->H' b=some (.tup xs)
 frzs:∀b o u,H b=some (.frz o u)->H' b=some (.frz o u)
 tbls:∀b ps,H b=some (.tbl ps)->∃more,H' b=some (.tbl (ps++more))
section
variable {fs ex:List Addr}{H H1 H2:Hp}{h h1 h2 h':Heap}{a x e:Addr}{o:HO}
theorem Un.any(u:Un fs ex H H1 h h1){b:Ch}{ob:Obj}(q:h.get? b=some ob)(n:H b=none)(a:b∉ex):∃sl,h1.get? b=some { ob with slots:=sl }:=by
 by_cases c:b∈fs
 ·exact u.slot b ob q n c a
 ·exact⟨_,u.keep b ob q n c a⟩
theorem Un.trans(a:Un fs ex H H1 h h1)(b:Un fs ex H1 H2 h1 h2):Un fs ex H H2 h h2 where
 keep:=λc ob q n e d=>b.keep c ob (a.keep c ob q n e d) (a.free c ob q n d) e d
 slot:=λc ob q n e d=>by
  obtain⟨sl,e1⟩:=a.slot c ob q n e d;obtain⟨f,e2⟩:=b.slot c _ e1 (a.free c ob q n d) e d;exact⟨_,e2⟩
 free:=λc ob q n d=>by
  obtain⟨o',e1⟩:=a.there c ob q d;exact b.free c o' e1 (a.free c ob q n d) d
 there:=λc ob q d=>by
  obtain⟨o',e1⟩:=a.there c ob q d;exact b.there c o' e1 d
 tups:=λc xs q=>b.tups c xs (a.tups c xs q)
 frzs:=λc ob xs q=>b.frzs c ob xs (a.frzs c ob xs q)
 tbls:=λc ps q=>by
  obtain⟨m1,e1⟩:=a.tbls c ps q;obtain⟨m2,e2⟩:=b.tbls c _ e1
  grind
theorem Un.kept(k:∀b u,h.get? b=some u->h'.get? b=some u):Un fs ex H H h h' :=
 ⟨λb ob q _ _ _=>k b ob q,λb ob q _ _ _=>⟨_,k b ob q⟩,λ_ _ _ n _=>n,λb ob q _=>⟨ob,k b ob q⟩,λ_ _ q=>q,λ_ _ _ q=>q,λ_ ps q=>⟨#[],by rw [q]; simp⟩⟩
theorem Un.refl:Un fs ex H H h h:=Un.kept λ_ _ q=>q
theorem Un.laid(k:∀b u,h.get? b=some u->h'.get? b=some u)(hp:h.objs.size<=a)(hn:H a=none):Un fs ex H (A4 H a o) h h' where
 keep:=λb u q _ _ _=>k b u q
 slot:=λb u q _ _ _=>⟨_,k b u q⟩
 free:=λb u q n _=>by rw [AQ (c7 (dA (UF q) hp))]; exact n
 there:=λb u q _=>⟨u,k b u q⟩
 tups:=λb xs q=>by rw [AQ (A0 q hn)]; exact q
 frzs:=λb u xs q=>by rw [AQ (A0 q hn)]; exact q
 tbls:=λb ps q=>⟨#[],by rw [AQ (A0 q hn),q]; simp⟩
theorem Un.write(mu:aZ (H x))(he:e=x\/H e=some (.own x))(k:∀b u,b≠e->h.get? b=some u->h'.get? b=some u)(d:∃u,h'.get? e=some u):Un fs ex H (A4 H x o) h h':=by
 have f:∀b,H b=none->b≠x:=λb n z=>by subst z; rw [n] at mu; exact mu
 have c:∀b,H b=none->b≠e:=λb n z=>by
  grind
 have hm:∀b u,H b=some u->¬aZ (some u)->b≠x:=λb u q nm z=>by grind
 refine⟨λb u q n _ _=>k b u (c b n) q,λb u q n _ _=>⟨u.slots,k b u (c b n) q⟩,λb u q n _=>by rw [AQ (f b n)]; exact n,λb u q _=>?_,
  λb xs q=>by rw [AQ (hm b _ q λz=>z)]; exact q,λb u xs q=>by rw [AQ (hm b _ q λz=>z)]; exact q,λb ps q=>⟨#[],by rw [AQ (hm b _ q λz=>z),q]; simp⟩⟩
 by_cases a:b=e
 ·simp_all
 ·exact⟨u,k b u a q⟩
end
def cL(h:cw)(H:Hp):List Ch:=(dD h.objs.size).filter λa=>(H a).isSome
def Mw(h:cw)(H:Hp):cw:=PySem.W.hideAll h (cL h H)
theorem Sa(h:cw)(H:Hp):(Mw h H).objs.size=h.objs.size:=PySem.W.hideAll_size _ _
theorem Uu{h:cw}{H:Hp}{b:Ch}{o:Obj}(e:h.get? b=some o)(n:H b=none):(Mw h H).get? b=some o :=
 PySem.W.hideAll_get _ e λhm=>by
  have q:=(eU.mp hm).2
  grind
theorem V0{h:cw}{H:Hp}{b:Ch}{o:Obj}(e:(Mw h H).get? b=some o):h.get? b=some o/\H b=none:=by
 have e':=PySem.W.of_hideAll _ e;refine⟨e',?_⟩;cases q:H b with
 | none=>rfl
 | some x =>
  have z:(Mw h H).get? b=none:=PySem.W.hideAll_none _ (eU.mpr ⟨d8.mpr (UF e'),by simp [q]⟩)
  grind
structure Mod (K:Frag) (mg:Str->Option Cn) (base:cw):Prop where
 kin:K.In base
 glob:base.Ns mainGlobals mg
 blt:∃mb,base.Ns builtinsNs mb/\∀x:Str,x ≠ "__name__"->mb x=bootBuiltins x
 nolimit:base.NoLimit
/-- the context: a def's body (or a comprehension's block) running. base: fixed through the whole law; s₀, H₀: the entry; outer: the frames whose slots others may change (a def's callers); stack: all frames that run;
   ex: iterators that were made ahead of the entry and are walked here (a comprehension's); fn: the names whose cells were made at the entry (a def: all; a comprehension's block: its own); calm: not within an except suite; pn: zG that every state bears; xe: what is wanted of an exception that leaves the code -/
structure Cx where
 prog:cz
 w:dC
 K:Frag
 mg:Str->Option Cn
 base:cw
 A:dL
 N:List Str
 s₀:FM
 H₀:Hp
 env:Env
 outer:List Env
 stack:List Env
 ex:List Ch
 fn:Str->Bool
 calm:Bool
 pn:List (Ch×Obj)
 xe:Cn->FM->Prop
def Lj(l:List Env):List Ch:=l.filterMap (·.frame)
abbrev Cx.fs(X:Cx):List Ch:=Lj X.outer
def Sw(sc:fF)(x:Str):Prop:=sc.names.lookup x=some .local\/sc.names.lookup x=some .cell\/sc.names.lookup x=some .free
def Loc(sc:fF)(x:Str):Prop:=sc.names.lookup x=some .local\/sc.names.lookup x=some .cell
def Look(env:Env)(h:cw)(m:Str->Option Cn)(x:Str)(u:Cn):Prop :=
 (env.kindOf x=some .local/\m x=some u)\/((env.kindOf x=some .cell\/env.kindOf x=some .free)/\∃c,env.cells.lookup x=some c/\h.IsCell c (some u))
structure Cx.Ok (X:Cx):Prop where
 mod:Mod X.K X.mg X.base
 kind:X.env.scope.kind=.function
 glob:X.env.globals=mainGlobals
 blt:X.env.builtins=builtinsNs
 above:X.s₀.heap.objs.size<=X.env.locals
 inj:∀x y c,X.env.cells.lookup x=some c->X.env.cells.lookup y=some c->x=y
 has:∀x,(X.env.kindOf x=some .cell\/X.env.kindOf x=some .free)->∃c,X.env.cells.lookup x=some c
 cab:∀x c,X.fn x=true->X.env.cells.lookup x=some c->X.s₀.heap.objs.size<=c
 hd:X.calm=true->X.A.handled=none
 frames:X.A.frames=some X.stack
 stk:X.stack=X.outer\/(X.stack=X.env::X.outer/\X.env.frame=some X.env.locals)
 exf:∀b∈X.ex,b≠X.env.locals/\∀x c,X.env.cells.lookup x=some c->c≠b
 bs:∀b o,X.base.get? b=some o->X.s₀.heap.get? b=some o/\X.H₀ b=none
 bsz:X.base.objs.size<=X.s₀.heap.objs.size
 noex:∀b o,X.base.get? b=some o->b∉X.ex
 exfs:∀b∈X.ex,b∉X.fs
 funs:X.s₀.heap.FunFrames X.base X.outer
 frf:∀b∈X.fs,X.H₀ b=none
structure Inv (X:Cx) (zG:List (Ch×Obj)) (σ:List (Option V)) (H:Hp) (s:FM):Prop where
 ok:X.Ok
 os:s.os=X.s₀.os
 bare:gK s.gens
 base:Un X.fs X.ex X.H₀ H X.s₀.heap s.heap
 loc:∃m,s.heap.Ns X.env.locals m/\∀(i:Nat) (x:Str) (v:V),X.N[i]?=some x->σ[i]?=some (some v)->Sw X.env.scope x->∃u,RelV v u/\Look X.env s.heap m x u
 cell:∀x c,X.env.cells.lookup x=some c->∃v,s.heap.IsCell c v
 free:H X.env.locals=none
 freeC:∀x c,X.env.cells.lookup x=some c->H c=none
 pin:∀p∈X.pn++zG,s.heap.get? p.1=some p.2/\H p.1=none/\p.1≠X.env.locals/\p.1∉X.fs/\∀v,p.2.data≠.cell v
 hok:HOk X.prog X.w H s.heap
 len:σ.length=X.N.length
section
variable {X:Cx}{zG:List (Addr×Obj)}{σ:List (Option V)}{H H':Hp}{s:Shared}{h':Heap}
theorem Cx.Ok.nofr(ok:X.Ok){b:Ch}{o:Obj}(e:X.base.get? b=some o):b∉X.fs:=λa=>by
 have:=(ok.funs.mem a).1
 grind
theorem Inv.bs(I:Inv X zG σ H s):∀b o,X.base.get? b=some o->s.heap.get? b=some o/\H b=none:=λb o e =>
 ⟨I.base.keep b o (I.ok.bs b o e).1 (I.ok.bs b o e).2 (I.ok.nofr e) (I.ok.noex b o e),I.base.free b o (I.ok.bs b o e).1 (I.ok.bs b o e).2 (I.ok.noex b o e)⟩
theorem Inv.bk(I:Inv X zG σ H s):∀b o,X.base.get? b=some o->s.heap.get? b=some o:=λb o e=>(I.bs b o e).1
theorem Inv.mod(I:Inv X zG σ H s):Mod X.K X.mg X.base:=I.ok.mod
theorem Inv.kIn(I:Inv X zG σ H s):X.K.In s.heap:=I.ok.mod.kin.keeps I.bk
theorem Inv.lt(I:Inv X zG σ H s):X.env.locals<s.heap.objs.size:=let ⟨_,hn,_⟩:=I.loc; hn.lt
theorem Inv.sz(I:Inv X zG σ H s):X.s₀.heap.objs.size<=s.heap.objs.size:=cx I.ok.above (jG I.lt)
theorem Inv.nofs(I:Inv X zG σ H s){a:Ch}(h:s.heap.objs.size<=a):a∉X.fs:=λb=>by
 obtain⟨_,o,ho,_⟩:=I.ok.funs.mem b;exact absurd (dA (UF ho) (cx I.sz h)) (eK _)
theorem Inv.cne(I:Inv X zG σ H s):∀x c,X.env.cells.lookup x=some c->c≠X.env.locals:=λx c e z=>by
 obtain⟨v,o,ho,hd⟩:=I.cell x c e;obtain⟨m,⟨o',es,ep,a,b,_⟩,_⟩:=I.loc
 grind
theorem Inv.funs(I:Inv X zG σ H s):s.heap.FunFrames X.base X.outer:=by
 have all:∀(l:List _),(∀b∈Lj l,b∈X.fs)->X.s₀.heap.FunFrames X.base l->s.heap.FunFrames X.base l:=by
  intro l
  induction l with
  | nil=>intro _ _; trivial
  | cons env r ih =>
   intro c d;obtain⟨f,⟨L,o,hf,hn,ho,hd⟩,hr⟩:=d;have hL:=c L (by unfold Lj; simp_all);obtain⟨sl,e⟩:=I.base.slot L o ho (I.ok.frf L hL) hL λz=>I.ok.exfs L z hL;exact⟨f,⟨L,_,hf,hn,e,hd⟩,ih (λb a=>c b (by unfold Lj; rw [f8,hf]; exact Re _ a)) hr⟩
 exact all _ (λ_ a=>a) I.ok.funs
theorem Inv.stack(I:Inv X zG σ H s):s.heap.FunFrames X.base X.stack:=by
 rcases I.ok.stk with e | ⟨e,hf⟩
 ·rw [e]; exact I.funs
 ·rw [e]
  obtain⟨m,hn,_⟩:=I.loc;exact .cons (by rw [I.ok.kind]; decide) hf hn (Heap.get?_none_of_le (cx I.ok.bsz I.ok.above)) I.funs
theorem Inv.stkSub(I:Inv X zG σ H s):∀b∈Lj X.stack,b∈X.env.locals::X.fs:=λb a=>by
 rcases I.ok.stk with e | ⟨e,hf⟩
 ·grind
 ·rw [e] at a
  unfold Lj at a;rw [f8,hf] at a;exact a
theorem Inv.stkFree(I:Inv X zG σ H s):∀b∈Lj X.stack,H b=none:=λb a=>by
 rcases T0.mp (I.stkSub b a) with e | a
 ·rw [e]; exact I.free
 ·obtain⟨_,o,ho,_⟩:=I.ok.funs.mem a
  exact I.base.free b o ho (I.ok.frf b a) λz=>I.ok.exfs b z a
theorem Inv.step{g':Array GenState}{t':Nat}{d':Drawn}{ch:List Ch}(I:Inv X zG σ H s)
  (f:∀b∈ch,(b∈X.ex\/X.s₀.heap.objs.size<=b)/\b≠X.env.locals/\(∀x c,X.env.cells.lookup x=some c->c≠b)/\∀p∈X.pn++zG,p.1≠b)
  (keep:∀b o,b≠X.env.locals->b∉X.fs->b∉ch->s.heap.get? b=some o->H b=none->h'.get? b=some o)
  (slot:∀b o,b≠X.env.locals->b∈X.fs->b∉ch->s.heap.get? b=some o->H b=none->∃sl,h'.get? b=some { o with slots:=sl }) (free:∀b o,b∉ch->s.heap.get? b=some o->H b=none->H' b=none)
  (there:∀b o,b∉ch->s.heap.get? b=some o->∃o',h'.get? b=some o')
  (tups:∀b xs,H b=some (.tup xs)->H' b=some (.tup xs)) (j:∀b o u,H b=some (.frz o u)->H' b=some (.frz o u)) (t:∀b ps,H b=some (.tbl ps)->∃more,H' b=some (.tbl (ps++more)))
  (ns:∀m,s.heap.Ns X.env.locals m->h'.Ns X.env.locals m) (y:HOk X.prog X.w H' h') (hg:gK g') :
  Inv X zG σ H' { s with heap:=h',gens:=g',drawn:=d',toks:=t' }:=by
 have neL:∀b o,X.s₀.heap.get? b=some o->b≠X.env.locals:=λb o e=>c7 (dA (UF e) I.ok.above)
 have neC:∀b o,X.s₀.heap.get? b=some o->b∉X.ex->b∉ch:=λb o e a h=>by
  rcases (f b h).1 with z | z
  ·exact a z
  ·exact absurd (dA (UF e) z) (eK _)
 have cellK:∀x c,X.env.cells.lookup x=some c->∀v,s.heap.IsCell c v->h'.IsCell c v:=λx c e v ⟨o,ho,hd⟩=>by
  have g:c∉ch:=λz=>(f c z).2.2.1 x c e rfl
  by_cases B:c∈X.fs
  ·obtain⟨sl,q⟩:=slot c o (I.cne x c e) B g ho (I.freeC x c e)
   exact⟨_,q,hd⟩
  ·exact⟨o,keep c o (I.cne x c e) B g ho (I.freeC x c e),hd⟩
 refine⟨I.ok,I.os,hg,⟨λb o e n h a=>?_,λb o e n h a=>?_,λb o e n a=>?_,λb o e a=>?_,λb xs e=>tups b xs (I.base.tups b xs e),λb o xs e=>j b o xs (I.base.frzs b o xs e),λb ps e=>?_⟩,?_,λx c e=>?_,?_,λx c e=>?_,λp hp=>?_,y,I.len⟩
 ·exact keep b o (neL b o e) h (neC b o e a) (I.base.keep b o e n h a) (I.base.free b o e n a)
 ·obtain⟨sl,e1⟩:=I.base.slot b o e n h a
  obtain⟨A,e2⟩:=slot b _ (neL b o e) h (neC b o e a) e1 (I.base.free b o e n a);exact⟨A,e2⟩
 ·obtain⟨o',e1⟩:=I.base.there b o e a
  exact free b o' (neC b o e a) e1 (I.base.free b o e n a)
 ·obtain⟨o',e1⟩:=I.base.there b o e a
  exact there b o' (neC b o e a) e1
 ·obtain⟨m1,e1⟩:=I.base.tbls b ps e
  obtain⟨m2,e2⟩:=t b _ e1;exact⟨m1++m2,by rw [e2,Array.append_assoc]⟩
 ·obtain⟨m,hn,C⟩:=I.loc
  refine⟨m,ns m hn,λi x v e1 e2 e3=>?_⟩;obtain⟨u,r,l⟩:=C i x v e1 e2 e3;refine⟨u,r,?_⟩
  rcases l with l | ⟨k,c,e,z⟩
  ·exact .inl l
  ·exact .inr ⟨k,c,e,cellK x c e _ z⟩
 ·obtain⟨v,z⟩:=I.cell x c e
  exact⟨v,cellK x c e v z⟩
 ·obtain⟨m,⟨o,_,_,ho,_⟩,_⟩:=I.loc
  exact free _ o (λz=>(f _ z).2.1 rfl) ho I.free
 ·obtain⟨v,o,ho,hd⟩:=I.cell x c e
  exact free c o (λz=>(f c z).2.2.1 x c e rfl) ho (I.freeC x c e)
 ·obtain⟨e,n,ne,nf,d⟩:=I.pin p hp
  have g:p.1∉ch:=λz=>(f p.1 z).2.2.2 p hp rfl;exact⟨keep p.1 p.2 ne nf g e n,free p.1 p.2 g e n,ne,nf,d⟩
theorem Inv.un{t':Nat}(I:Inv X zG σ H s)(u:Un X.fs [] H H' s.heap h')(c:HOk X.prog X.w H' h'):Inv X zG σ H' { s with heap:=h',toks:=t' }:=by
 obtain⟨m,⟨o,es,ep,ho,r⟩,_⟩:=id I.loc;obtain⟨sl,hL⟩:=u.any ho I.free (by simp)
 exact I.step (ch:=[]) (λ_ z=>nomatch z) (λb o _ d _ e n=>u.keep b o e n d (by simp)) (λb o _ d _ e n=>u.slot b o e n d (by simp)) (λb o _ e n=>u.free b o e n (by simp)) (λb o _ e=>u.there b o e (by simp)) u.tups u.frzs u.tbls (λm' hm=>by
  obtain⟨o',f,g,a,r'⟩:=hm;rw [ho] at a; cases a
  exact⟨_,_,_,hL,r'⟩) c I.bare
theorem Inv.call{g':Array GenState}{t':Nat}{d':Drawn}{ch:List Ch}(I:Inv X zG σ H s)(u:Un (Lj X.stack) ch H H' s.heap h')(g:HOk X.prog X.w H' h')(hg:gK g')
  (d:∀b∈ch,(b∈X.ex\/X.s₀.heap.objs.size<=b)/\b≠X.env.locals/\(∀x c,X.env.cells.lookup x=some c->c≠b)/\∀p∈X.pn++zG,p.1≠b) :
  Inv X zG σ H' { s with heap:=h',gens:=g',drawn:=d',toks:=t' }:=by
 obtain⟨m,⟨o,es,ep,ho,r⟩,_⟩:=id I.loc;obtain⟨sl,hL⟩:=u.any ho I.free λz=>(d _ z).2.1 rfl
 exact I.step d (λb o hL h a e n=>u.keep b o e n (λz=>(T0.mp (I.stkSub b z)).elim hL h) a) (λb o _ _ a e n=>u.any e n a) (λb o a e n=>u.free b o e n a) (λb o a e=>u.there b o e a) u.tups u.frzs u.tbls (λm' hm=>by
  obtain⟨o',i,j,f,r'⟩:=hm;rw [ho] at f; cases f
  exact⟨_,_,_,hL,r'⟩) g hg
theorem Inv.turned{t':Nat}{it:Ch}(I:Inv X zG σ H s)(k:∀b o,b≠it->s.heap.get? b=some o->h'.get? b=some o)(hn:H it=none)(hL:it≠X.env.locals)
  (h1:it∈X.ex\/X.s₀.heap.objs.size<=it) (h2:∀x c,X.env.cells.lookup x=some c->c≠it) (h3:∀p∈X.pn++zG,p.1≠it):Inv X zG σ H { s with heap:=h',toks:=t' }:=by
 have d:∀b u,H b=some u->b≠it:=λb u e z=>by grind
 refine I.step (g':=s.gens) (d':=s.drawn) (ch:=[it]) (λb f=>?_) (λb o _ _ a e _=>k b o (λz=>a (by simp [z])) e) (λb o _ _ a e _=>⟨o.slots,k b o (λz=>a (by simp [z])) e⟩) (λ_ _ _ _ n=>n)
  (λb o a e=>⟨o,k b o (λz=>a (by simp [z])) e⟩) (λ_ _ e=>e) (λ_ _ _ e=>e) (λb ps e=>⟨#[],by rw [e]; simp⟩) (λm hm=>?_) (λb u e=>?_) I.bare
 ·have e:b=it:=by simpa using f
  subst e;exact⟨h1,hL,h2,h3⟩
 ·obtain⟨o,es,ep,ho,r⟩:=hm
  exact⟨o,es,ep,k _ o (eF hL) ho,r⟩
 ·refine(I.hok b u e).stay (λc v a q=>k c v ?_ q) (λ_ q=>q) λ_ _ q=>q
  grind
theorem Inv.tok(I:Inv X zG σ H s)(t:Nat):Inv X zG σ H { s with toks:=t }:=I.un Un.refl I.hok
theorem Inv.kept{t':Nat}(I:Inv X zG σ H s)(k:∀b u,s.heap.get? b=some u->h'.get? b=some u):Inv X zG σ H { s with heap:=h',toks:=t' }:=I.un (Un.kept k) (I.hok.kept k)
theorem Inv.laid{a:Ch}{o:HO}{t':Nat}(I:Inv X zG σ H s)(k:∀b u,s.heap.get? b=some u->h'.get? b=some u)(hp:s.heap.objs.size<=a)(new:ObjOk X.prog X.w (A4 H a o) h' a o) :
  Inv X zG σ (A4 H a o) { s with heap:=h',toks:=t' }:=I.un (Un.laid k hp (I.hok.fresh hp)) (I.hok.laid k hp new)
theorem Inv.write{x e:Ch}{o:HO}{t':Nat}(I:Inv X zG σ H s)(mu:aZ (H x))(he:e=x\/H e=some (.own x))(k:∀b u,b≠e->s.heap.get? b=some u->h'.get? b=some u)(a:∃u,h'.get? e=some u)
  (new:ObjOk X.prog X.w (A4 H x o) h' x o):Inv X zG σ (A4 H x o) { s with heap:=h',toks:=t' }:=I.un (Un.write mu he k a) (I.hok.write mu he k a new)
theorem Inv.pins_of{a:List (Ch×Obj)}(I:Inv X zG σ H s)(h:∀p∈a,s.heap.get? p.1=some p.2/\H p.1=none/\p.1≠X.env.locals/\p.1∉X.fs/\∀v,p.2.data≠.cell v):Inv X a σ H s :=
 ⟨I.ok,I.os,I.bare,I.base,I.loc,I.cell,I.free,I.freeC,λp hp=>(cu.mp hp).elim (λz=>I.pin p (eo _ z)) (h p),I.hok,I.len⟩
theorem Jt{N:List Str}(hN:N.Nodup){i j:Nat}{x:Str}(a:N[i]?=some x)(b:N[j]?=some x):i=j:=by
 obtain⟨h1,e1⟩:=cr.mp a;obtain⟨h2,e2⟩:=cr.mp b;exact(List.getElem_inj hN).mp (e1.trans e2.symm)
theorem LP{M:Model}{A:dL}{E:Cn->FM->Prop}{i:Nat}{x:Str}{v:V}{u:Cn}{Q:Unit->FM->Prop}(I:Inv X zG σ H s)(hN:X.N.Nodup)(hi:X.N[i]?=some x)(l:Loc X.env.scope x)(r:RelV v u)
  (h:∀s',Inv X zG (σ.set i (some v)) H s'->(∃a,fq a s.heap s'.heap/\(a=X.env.locals\/X.env.cells.lookup x=some a))->Q () s') (hf:X.fn x=true\/X.env.scope.names.lookup x=some .local:=by first | exact .inl rfl | exact .inr rfl | assumption):wpAny M A (storeName X.env x u) Q E s:=by
 obtain⟨m,hn,R⟩:=id I.loc;have G:(X.env.scope.kind==.class||(X.env.scope.kind==.module&&X.env.locals != X.env.globals))=false:=by rw [I.ok.kind]; rfl
 have B:i<σ.length:=by rw [I.len]; exact(cr.mp hi).1
 have cne:=I.cne
 have tracked:∀{a:Ch} {h':cw},(∃o,s.heap.get? a=some o/\H a=none)->fq a s.heap h'->HOk X.prog X.w H h':=λ{a h'} ha f b ob e=>by
  obtain⟨_,_,t⟩:=ha;refine(I.hok b ob e).stay (λc w' g q=>(f.2 c ?_).trans q) (λ_ q=>q) λ_ _ q=>q;rintro rfl
  rcases g with rfl | g
  ·rw [t] at e; cases e
  ·rw [t] at g; cases g
 rcases l with C | C
 ·refine wpAny_storeName_local C hn (λh' P f=>?_) G
  obtain⟨oL,_,_,hoL,_⟩:=id hn;refine h _ ⟨I.ok,I.os,I.bare,⟨λb o e n D l=>?_,λb o e n D l=>?_,I.base.free,λb o e l=>?_,I.base.tups,I.base.frzs,I.base.tbls⟩,⟨_,P,λj y v' e1 e2 e3=>?_⟩,λy c e=>?_,I.free,I.freeC,λp hp=>?_,tracked ⟨oL,hoL,I.free⟩ f,by simpa using I.len⟩ ⟨_,f,.inl rfl⟩
  ·exact(f.2 b (c7 (dA (UF e) I.ok.above))).trans (I.base.keep b o e n D l)
  ·obtain⟨sl,e1⟩:=I.base.slot b o e n D l
   exact⟨sl,(f.2 b (c7 (dA (UF e) I.ok.above))).trans e1⟩
  ·obtain⟨o',e1⟩:=I.base.there b o e l
   exact⟨o',(f.2 b (c7 (dA (UF e) I.ok.above))).trans e1⟩
  ·by_cases hj:j=i
   ·subst hj
    rw [hi] at e1; cases e1
    rw [jY B] at e2;cases e2;exact⟨u,r,.inl ⟨C,by simp⟩⟩
   ·rw [iE (eF hj)] at e2
    obtain⟨u',r',q⟩:=R j y v' e1 e2 e3;refine⟨u',r',?_⟩
    rcases q with ⟨k,e⟩ | ⟨k,c,e,z⟩
    ·refine .inl ⟨k,?_⟩
     have:y≠x:=λe=>hj (Jt hN e1 (e▸hi))
     simp [this,e]
    ·exact .inr ⟨k,c,e,z.sameBut f (cne y c e)⟩
  ·obtain⟨w',z⟩:=I.cell y c e
   exact⟨w',z.sameBut f (cne y c e)⟩
  ·obtain⟨e,n,ne,nf,d⟩:=I.pin p hp
   exact⟨(f.2 p.1 ne).trans e,n,ne,nf,d⟩
 ·have F:X.fn x=true:=by
   rcases hf with z | z
   ·exact z
   ·rw [z] at C; cases C
  obtain⟨c,g⟩:=I.ok.has x (.inl C);obtain⟨w',z⟩:=I.cell x c g;refine wpAny_storeName_cell I.ok.kind C g z (λh' J f=>?_);obtain⟨oc,K,L⟩:=id z;refine h { s with heap:=h' } ⟨I.ok,I.os,I.bare,⟨λb o e n D l=>?_,λb o e n D l=>?_,I.base.free,λb o e l=>?_,I.base.tups,I.base.frzs,I.base.tbls⟩,⟨m,hn.sameBut f (eF (cne x c g)),λj y v' e1 e2 e3=>?_⟩,λy c' e=>?_,I.free,I.freeC,λp hp=>?_,tracked ⟨oc,K,I.freeC x c g⟩ f,by simpa using I.len⟩ ⟨c,f,.inr g⟩
  ·exact(f.2 b (c7 (dA (UF e) (I.ok.cab x c F g)))).trans (I.base.keep b o e n D l)
  ·obtain⟨sl,e1⟩:=I.base.slot b o e n D l
   exact⟨sl,(f.2 b (c7 (dA (UF e) (I.ok.cab x c F g)))).trans e1⟩
  ·obtain⟨o',e1⟩:=I.base.there b o e l
   exact⟨o',(f.2 b (c7 (dA (UF e) (I.ok.cab x c F g)))).trans e1⟩
  ·by_cases hj:j=i
   ·subst hj
    rw [hi] at e1; cases e1
    rw [jY B] at e2;cases e2;exact⟨u,r,.inr ⟨.inl C,c,g,J⟩⟩
   ·rw [iE (eF hj)] at e2
    obtain⟨u',r',q⟩:=R j y v' e1 e2 e3;refine⟨u',r',?_⟩
    rcases q with q | ⟨k,c',e,z'⟩
    ·exact .inl q
    ·refine .inr ⟨k,c',e,z'.sameBut f ?_⟩
     rintro rfl;exact hj (Jt hN e1 (I.ok.inj _ _ _ e g▸hi))
  ·by_cases O:c'=c
   ·subst O; exact⟨_,J⟩
   ·obtain⟨w2,z2⟩:=I.cell y c' e
    exact⟨w2,z2.sameBut f O⟩
  ·obtain⟨e,n,ne,nf,d⟩:=I.pin p hp
   refine⟨(f.2 p.1 ?_).trans e,n,ne,nf,d⟩;intro q;rw [q,K] at e;have q':oc=p.2:=cv e;exact d w' (by rw [← q']; exact L)
theorem FC{M:Model}{A:dL}{E:Cn->FM->Prop}{i:Nat}{x:Str}{v:V}{u:Cn}{Q:Unit->FM->Prop}(I:Inv X zG σ H s)(hN:X.N.Nodup)(hi:X.N[i]?=some x)(a:Loc X.env.scope x)(r:RelV v u)
  (h:∀s',Inv X zG (σ.set i (some v)) H s'->Q () s') (hf:X.fn x=true\/X.env.scope.names.lookup x=some .local:=by first | exact .inl rfl | exact .inr rfl | assumption):wpAny M A (storeName X.env x u) Q E s :=
 LP I hN hi a r (λs' I' _=>h s' I') hf
theorem Inv.call'{s':FM}{ch:List Ch}(I:Inv X zG σ H s)(ho:s'.os=s.os)(u:Un (Lj X.stack) ch H H' s.heap s'.heap)(a:HOk X.prog X.w H' s'.heap)(hg:gK s'.gens)
  (d:∀b∈ch,(b∈X.ex\/X.s₀.heap.objs.size<=b)/\b≠X.env.locals/\(∀x c,X.env.cells.lookup x=some c->c≠b)/\∀p∈X.pn++zG,p.1≠b):Inv X zG σ H' s':=by
 obtain⟨h',g',d',t',o'⟩:=s';subst ho;exact I.call u a hg d
end
abbrev XK:=Cn->Option Ch->Hp->Prop
abbrev St:=List (Option V)
abbrev VK:=V->Hp->Prop
abbrev TE:=St->Hp->VK->Prop
abbrev TT:=St->Hp->(Bool->Hp->Prop)->Prop
abbrev TA:=St->Hp->(List V->Hp->Prop)->Prop
structure Ends where
 nx:St->Hp->Prop
 rt:VK
 bk:St->Hp->Prop:=λ_ _=>False
 ct:St->Hp->Prop:=λ_ _=>False
abbrev TS:=Ends->St->Hp->Prop
def EP(X:Cx)(zG:List (Ch×Obj))(σ:St)(Q:VK)(u:Cn)(s':FM):Prop:=∃v H',Inv X zG σ H' s'/\RelV v u/\Q v H'
def TP(X:Cx)(zG:List (Ch×Obj))(σ:St)(Q:Bool->Hp->Prop)(b:Bool)(s':FM):Prop:=∃H',Inv X zG σ H' s'/\Q b H'
def AP(X:Cx)(zG:List (Ch×Obj))(σ:St)(Q:List V->Hp->Prop)(us:List Cn)(s':FM):Prop:=∃vs H',Inv X zG σ H' s'/\Vals vs us/\Q vs H'
def SP(X:Cx)(zG:List (Ch×Obj))(D:Ends)(f:Flow)(s':FM):Prop :=
 match f with
 | .next=>∃zZ H',Inv X zG zZ H' s'/\D.nx zZ H'
 | .brk=>∃zZ H',Inv X zG zZ H' s'/\D.bk zZ H'
 | .cont=>∃zZ H',Inv X zG zZ H' s'/\D.ct zZ H'
 | .ret u=>∃v zZ H',Inv X zG zZ H' s'/\RelV v u/\D.rt v H'
def PE(X:Cx)(e:c_)(t:TE):Prop :=
 ∀(zG:List (Ch×Obj)) (s:FM) (σ:St) (H:Hp) (Q:VK),Inv X zG σ H s->t σ H Q->wpAny (model X.prog X.w) X.A (eval e X.env) (EP X zG σ Q) X.xe s
def PT(X:Cx)(e:c_)(t:TT):Prop :=
 ∀(zG:List (Ch×Obj)) (s:FM) (σ:St) (H:Hp) (Q:Bool->Hp->Prop),Inv X zG σ H s->t σ H Q->wpAny (model X.prog X.w) X.A (isTrue e X.env (eval e X.env)) (TP X zG σ Q) X.xe s
def PW(X:Cx)(e:c_)(t:TT):Prop :=
 ∀(whole:Sem Cn) (zG:List (Ch×Obj)) (s:FM) (σ:St) (H:Hp) (Q:Bool->Hp->Prop),Inv X zG σ H s->t σ H Q->wpAny (model X.prog X.w) X.A (isTrue e X.env whole) (TP X zG σ Q) X.xe s
theorem PW.pt{X:Cx}{e:c_}{t:TT}(h:PW X e t):PT X e t:=h _
def PA(X:Cx)(es:List c_)(t:TA):Prop :=
 ∀(pos:Pos) (zG:List (Ch×Obj)) (s:FM) (σ:St) (H:Hp) (Q:List V->Hp->Prop),Inv X zG σ H s->t σ H Q->wpAny (model X.prog X.w) X.A (spliced (backTo pos (starEach es X.env))) (AP X zG σ Q) X.xe s
def PS(X:Cx)(st:dE)(t:TS):Prop :=
 ∀(zG:List (Ch×Obj)) (s:FM) (σ:St) (H:Hp) (D:Ends),Inv X zG σ H s->t D σ H->wpAny (model X.prog X.w) X.A (exec st X.env) (SP X zG D) X.xe s
def PSs(X:Cx)(st:List dE)(t:TS):Prop :=
 ∀(zG:List (Ch×Obj)) (s:FM) (σ:St) (H:Hp) (D:Ends),Inv X zG σ H s->t D σ H->wpAny (model X.prog X.w) X.A (execs st X.env) (SP X zG D) X.xe s
theorem thn{α:Type}{t:Sem α}{Q Q':α->FM->Prop}{M:Model}{A:dL}{E:Cn->FM->Prop}{s:FM}(h:wpAny M A t Q E s)(hQ:∀a s,Q a s->Q' a s):wpAny M A t Q' E s:=dP h hQ λ_ _ x=>x
section
variable {X:Cx}
def CH(i:Nat):TE:=λσ H Q=>∃v,σ[i]?=some (some v)/\Q v H
def tC(v:V):TE:=λ_ H Q=>Q v H
theorem Em{i:Nat}{x:Str}{pos:Pos}(hN:X.N[i]?=some x)(hv:Sw X.env.scope x)(hd:(x==("__debug__":Str))=false:=by decide)(d:(x==("__classdict__":Str))=false:=by decide):PE X (.Name x pos) (CH i):=by
 intro zG s σ H Q I h;obtain⟨v,e,h⟩:=h;obtain⟨m,hn,g⟩:=I.loc;obtain⟨u,r,l⟩:=g i x v hN e hv;have fin:EP X _ σ Q u s:=⟨v,H,I,r,h⟩
 rcases l with ⟨b,hm⟩ | ⟨b,c,f,a⟩
 ·exact wpAny_Name (wpAny_loadName_local I.ok.kind b hn hm fin) hd
 ·rcases b with b | b
  ·exact wpAny_Name (wpAny_loadName_cell I.ok.kind b f a fin) hd
  ·exact wpAny_Name (wpAny_loadName_free I.ok.kind b f a fin d) hd
theorem A_{i j pos}:PE X (.Constant (.int i) j pos) (tC (.int i)):=λ_ _ _ H _ I h=>wpAny_Constant_int ⟨.int i,H,I.tok _,⟨_,rfl⟩,h⟩
theorem Z1{b j pos}:PE X (.Constant (.bool b) j pos) (tC (.bl b)):=λ_ _ _ H _ I h=>Constant_bool ⟨.bl b,H,I,rfl,h⟩
theorem YK{j pos}:PE X (.Constant .none j pos) (tC .non):=λ_ _ _ H _ I h=>Constant_none ⟨.non,H,I,rfl,h⟩
theorem YH{x j pos}:PE X (.Constant (.str x) j pos) (tC (.str x)):=λ_ _ _ H _ I h=>Calls.Constant_str ⟨.str x,H,I.tok _,⟨_,rfl⟩,h⟩
def Gl(X:Cx)(x:Str):Prop:=X.env.kindOf x=some .globalImplicit
theorem Dq{E:Cn->FM->Prop}{zG:List (Ch×Obj)}{s:FM}{σ:St}{H:Hp}{x:Str}{u:Cn}{pos:Pos}{Q:Cn->FM->Prop}(I:Inv X zG σ H s)(hg:Gl X x)(hm:X.mg x=some u)(h:Q u s)
  (hd:(x==("__debug__":Str))=false:=by decide):wpAny (model X.prog X.w) X.A (eval (.Name x pos) X.env) Q E s :=
 iq I.ok.kind hg (Calls.loadGlobal_global (by rw [I.ok.glob]; exact I.mod.glob.keeps I.bk) hm h) hd
theorem FT{E:Cn->FM->Prop}{zG:List (Ch×Obj)}{s:FM}{σ:St}{H:Hp}{x:Str}{u:Cn}{pos:Pos}{Q:Cn->FM->Prop}(I:Inv X zG σ H s)(hg:Gl X x)(hm:X.mg x=none)(hv:bootBuiltins x=some u)(h:Q u s)
  (hn:x ≠ "__name__":=by decide) (hd:(x==("__debug__":Str))=false:=by decide):wpAny (model X.prog X.w) X.A (eval (.Name x pos) X.env) Q E s:=by
 obtain⟨mb,h1,h2⟩:=I.mod.blt;exact iq I.ok.kind hg (Calls.loadGlobal_builtin (by rw [I.ok.glob]; exact I.mod.glob.keeps I.bk) hm (by rw [I.ok.blt]; exact h1.keeps I.bk) ((h2 x hn).trans hv) h) hd
theorem Qq{x:Str}{v:V}{u:Cn}{pos:Pos}(hg:Gl X x)(hm:X.mg x=some u)(r:RelV v u)(hd:(x==("__debug__":Str))=false:=by decide):PE X (.Name x pos) (tC v) :=
 λ_ _ _ H _ I h=>Dq I hg hm ⟨v,H,I,r,h⟩ hd
theorem Iv{x:Str}{v:V}{u:Cn}{pos:Pos}(hg:Gl X x)(hm:X.mg x=none)(hv:bootBuiltins x=some u)(r:RelV v u)(hn:x ≠ "__name__":=by decide)(hd:(x==("__debug__":Str))=false:=by decide):PE X (.Name x pos) (tC v) :=
 λ_ _ _ H _ I h=>FT I hg hm hv ⟨v,H,I,r,h⟩ hn hd
variable {a b:Expr}{ta tb:TE}{pos:Pos}
def tB(t:TE):TT:=λσ H Q=>t σ H λx H1=>∃c,x=.bl c/\Q c H1
theorem YB{e:c_}{t:TE}(h:PE X e t)(he:∀whole,isTrue e X.env whole=(do let v ← whole; standAt e.pos; holding [v] (truthy v)):=by intro _; rfl):PT X e (tB t):=by
 intro zG s σ H Q I hw;refine isTrue_plain (thn (h _ s σ H _ I hw) λv s1 ⟨x,H1,I1,r1,q1⟩=>?_) (he _);obtain⟨d,rfl,q⟩:=q1;cases r1;exact e7 ⟨H1,I1,q⟩
variable {tA tB':TT}{rest:List Expr}
def Ze(t u:TT):TT:=λσ H Q=>t σ H λc H1=>if c=true then u σ H1 Q else Q false H1
def cP(t u:TT):TT:=λσ H Q=>t σ H λc H1=>if c=true then Q true H1 else u σ H1 Q
def bM(t:TT):TT:=λσ H Q=>t σ H λc H1=>Q (!c) H1
theorem Qh(ha:PT X a tA):PW X (.BoolOp .And [a] pos) tA:=by
 intro wh zG s σ H Q I h;refine isTrue_and (thn (ha _ s σ H Q I h) λc s1 e=>?_);cases c with
 | true=>exact isTrue_and_nil e
 | false=>exact e
theorem YA(ha:PT X a tA):PW X (.BoolOp .Or [a] pos) tA:=by
 intro wh zG s σ H Q I h;refine isTrue_or (thn (ha _ s σ H Q I h) λc s1 e=>?_);cases c with
 | false=>exact isTrue_or_nil e
 | true=>exact e
theorem T_(ha:PT X a tA)(d:PW X (.BoolOp .And (b::rest) pos) tB'):PW X (.BoolOp .And (a::b::rest) pos) (Ze tA tB'):=by
 intro wh zG s σ H Q I h;refine isTrue_and (thn (ha _ s σ H _ I h) λc s1 ⟨H1,I1,q1⟩=>?_);cases c with
 | true=>exact d wh _ s1 σ H1 Q I1 q1
 | false=>assumption
theorem Zy(ha:PT X a tA)(d:PW X (.BoolOp .Or (b::rest) pos) tB'):PW X (.BoolOp .Or (a::b::rest) pos) (cP tA tB'):=by
 intro wh zG s σ H Q I h;refine isTrue_or (thn (ha _ s σ H _ I h) λc s1 ⟨H1,I1,q1⟩=>?_);cases c with
 | true=>assumption
 | false=>exact d wh _ s1 σ H1 Q I1 q1
theorem YC(ha:PT X a tA):PT X (.UnaryOp .Not a pos) (bM tA):=λzG s σ H Q I h=>isTrue_not (ha _ s σ H _ I h)
def Zd(ta tb:TE):TE:=λσ H Q=>ta σ H λx H1=>∃c,x=.bl c/\if c=true then tb σ H1 Q else Q (.bl false) H1
def ZX(ta:TE):TE:=λσ H Q=>ta σ H λx H1=>∃c,x=.bl c/\Q (.bl (!c)) H1
theorem YL(ha:PE X a ta)(d:PE X (.BoolOp .And (b::rest) pos) tb):PE X (.BoolOp .And (a::b::rest) pos) (Zd ta tb):=by
 intro zG s σ H Q I h;refine BoolOp_and (thn (ha _ s σ H _ I h) λv s1 ⟨x,H1,I1,r1,q1⟩=>?_);obtain⟨c,rfl,q1⟩:=q1;cases r1;refine e7 ?_;cases c with
 | true=>exact d _ s1 σ H1 Q I1 q1
 | false=>exact⟨.bl _,H1,I1,rfl,q1⟩
theorem YJ(ha:PE X a ta):PE X (.UnaryOp .Not a pos) (ZX ta):=by
 intro zG s σ H Q I h;refine UnaryOp_ (thn (ha _ s σ H _ I h) λv s1 ⟨x,H1,I1,r1,q1⟩=>?_);obtain⟨c,rfl,q1⟩:=q1;cases r1;exact not_of (e7 ⟨.bl _,H1,I1,rfl,q1⟩)
def cQ(t:TT)(ta tb:TE):TE:=λσ H Q=>t σ H λc H1=>if c=true then ta σ H1 Q else tb σ H1 Q
theorem N6{c:c_}(e:PT X c tA)(ha:PE X a ta)(f:PE X b tb):PE X (.IfExp c a b pos) (cQ tA ta tb):=by
 intro zG s σ H Q I h;refine wpAny_IfExp (thn (e _ s σ H _ I h) λd s1 ⟨H1,I1,q1⟩=>?_);cases d with
 | true=>exact ha _ s1 σ H1 Q I1 q1
 | false=>exact f _ s1 σ H1 Q I1 q1
end
def SqL(K:Frag)(H:Hp)(a:Ch)(xs:List V):Prop :=
 Rd H a (.lst xs) \/
  ∃(o:Obj) (b:Array Cn) (n:Nat),K.lookup a=some o/\o.cls=.type "list"/\o.dict=none/\o.data=.seq b n/\b.size<=sizeLine/\Vals xs b.toList
def SqT(K:Frag)(H:Hp)(a:Ch)(xs:List V):Prop :=
 Rd H a (.tup xs) \/
  ∃(o:Obj) (b:Array Cn) (n:Nat),K.lookup a=some o/\o.cls=.type "tuple"/\o.data=.seq b n/\b.size<=sizeLine/\Vals xs b.toList
def bo:Cn->Option V
 | .none=>some .non
 | .bool b=>some (.bl b)
 | .int i _=>some (.int i)
 | .str x _=>some (.str x)
 | .bytes b _=>some (.byt b)
 | .float b _=>some (.flt b)
 | .ref a=>some (.ref a)
 | .type n=>some (.ty n)
 | _=>none
theorem RelV.abs{x:V}{u:Cn}(r:RelV x u):bo u=some x:=by
 cases x with
 | non=>cases r; rfl
 | bl _=>cases r; rfl
 | int _=>obtain⟨t,rfl⟩:=r; rfl
 | str _=>obtain⟨t,rfl⟩:=r; rfl
 | byt _=>obtain⟨t,rfl⟩:=r; rfl
 | flt _=>obtain⟨t,rfl⟩:=r; rfl
 | ref _=>cases r; rfl
 | ty _=>cases r; rfl
theorem RelV.inj{x y:V}{u:Cn}(r:RelV x u)(q:RelV y u):x=y:=cv (r.abs.symm.trans q.abs)
theorem Vals.inj:∀{xs ys:List V} {us:List Cn},Vals xs us->Vals ys us->xs=ys
 | _,_,_,.nil,.nil=>rfl
 | _,_,_,.cons r t,.cons r' t'=>by rw [r.inj r',Vals.inj t t']
section
variable {X:Cx}{zG:List (Addr×Obj)}{σ:St}{H:Hp}{s:Shared}{a:Addr}{xs ys:List V}
theorem SqL.of{K:Frag}(h:H a=some (.lst xs)):SqL K H a xs:=.inl (.inl h)
theorem SqT.of{K:Frag}(h:H a=some (.tup xs)):SqT K H a xs:=.inl (.inl h)
theorem Inv.list(I:Inv X zG σ H s)(h:SqL X.K H a xs):∃b:List Cn,Vals xs b/\PlainL s.heap a b.toArray/\xs.length<=sizeLine:=by
 rcases h with h | ⟨o,b,n,c,d,hd,f,g,r⟩
 ·obtain⟨z,b,n,r,e⟩:=h.ok I.hok
  exact⟨_,r,⟨_,n,e,rfl,rfl,rfl⟩,z⟩
 ·refine⟨_,r,⟨o,n,I.kIn a o c,d,hd,by omega⟩,?_⟩
  have e:=r.length
  grind
theorem Inv.tuple(I:Inv X zG σ H s)(h:SqT X.K H a xs):∃b:List Cn,Vals xs b/\IsTup s.heap a b.toArray/\xs.length<=sizeLine:=by
 rcases h with h | ⟨o,b,n,c,d,f,g,r⟩
 ·obtain⟨z,b,r,p⟩:=h.ok I.hok
  exact⟨_,r,p.tup,z⟩
 ·refine⟨_,r,⟨o,I.kIn a o c,d,n,by omega⟩,?_⟩
  have e:=r.length
  grind
theorem Inv.list_inj(I:Inv X zG σ H s)(h:SqL X.K H a xs)(h':SqL X.K H a ys):xs=ys:=by
 obtain⟨c,r,⟨o,n,e,_,_,d⟩,_⟩:=I.list h;obtain⟨b,r',⟨o',n',e',_,_,d'⟩,_⟩:=I.list h'
 have:c=b:=by grind
 subst this;exact r.inj r'
theorem Inv.tuple_inj(I:Inv X zG σ H s)(h:SqT X.K H a xs)(h':SqT X.K H a ys):xs=ys:=by
 obtain⟨c,r,⟨o,e,_,n,d⟩,_⟩:=I.tuple h;obtain⟨b,r',⟨o',e',_,n',d'⟩,_⟩:=I.tuple h'
 have:c=b:=by grind
 subst this;exact r.inj r'
end
abbrev Cx.wish(X:Cx)(E:Cn->FM->Prop):Cx:={ X with xe:=E }
abbrev Cx.nox(X:Cx):Cx:=X.wish λ_ _=>False
theorem Cx.Ok.wish{X:Cx}(ok:X.Ok)(E:Cn->FM->Prop):(X.wish E).Ok :=
 ⟨ok.mod,ok.kind,ok.glob,ok.blt,ok.above,ok.inj,ok.has,ok.cab,ok.hd,ok.frames,ok.stk,ok.exf,ok.bs,ok.bsz,ok.noex,ok.exfs,ok.funs,ok.frf⟩
theorem Cx.Ok.unwish{X:Cx}{E:Cn->FM->Prop}(ok:(X.wish E).Ok):X.Ok :=
 ⟨ok.mod,ok.kind,ok.glob,ok.blt,ok.above,ok.inj,ok.has,ok.cab,ok.hd,ok.frames,ok.stk,ok.exf,ok.bs,ok.bsz,ok.noex,ok.exfs,ok.funs,ok.frf⟩
section
variable {X:Cx}{zG:List (Addr×Obj)}{σ:St}{H:Hp}{s:Shared}{E:Value->Shared->Prop}
theorem Inv.wish(I:Inv X zG σ H s)(E:Cn->FM->Prop):Inv (X.wish E) zG σ H s:=⟨I.ok.wish E,I.os,I.bare,I.base,I.loc,I.cell,I.free,I.freeC,I.pin,I.hok,I.len⟩
theorem Inv.unwish(I:Inv (X.wish E) zG σ H s):Inv X zG σ H s:=⟨I.ok.unwish,I.os,I.bare,I.base,I.loc,I.cell,I.free,I.freeC,I.pin,I.hok,I.len⟩
theorem SP.unwish{D:Ends}{f:Flow}{s':FM}(h:SP (X.wish E) zG D f s'):SP X zG D f s':=by
 cases f with
 | next=>obtain⟨zZ,H',I,q⟩:=h; exact⟨_,H',I.unwish,q⟩
 | brk=>obtain⟨zZ,H',I,q⟩:=h; exact⟨_,H',I.unwish,q⟩
 | cont=>obtain⟨zZ,H',I,q⟩:=h; exact⟨_,H',I.unwish,q⟩
 | ret u=>obtain⟨v,zZ,H',I,r,q⟩:=h; exact⟨v,_,H',I.unwish,r,q⟩
theorem PSs.nox{st:List dE}{t:TS}(h:PSs X.nox st t):PSs X st t:=λzG s σ H D I hw =>
 dP (h _ s σ H D (I.wish _) hw) (λ_ _ q=>q.unwish) λ_ _ z=>dh z
end
section
variable {X:Cx}{st:Stmt}{rest:List Stmt}{t u:TS}{e:Expr}{te:TE}{pos:Pos}
def Wx:TS:=λD σ H=>D.nx σ H
def Rl(t u:TS):TS:=λD σ H=>t { D with nx:=u D } σ H
theorem MV:PSs X [] Wx:=λ_ _ σ H _ I h=>gB ⟨σ,H,I,h⟩
theorem BL(h1:PS X st t)(h2:PSs X rest u):PSs X (st::rest) (Rl t u):=by
 intro zG s σ H D I h;refine jH (thn (h1 _ s σ H _ I h) λf s1 q=>?_);cases f with
 | next =>
  obtain⟨zZ,H',I',q⟩:=q;exact h2 _ s1 _ H' D I' q
 | ret v=>exact q
 | brk=>exact q
 | cont=>exact q
theorem Cb(h1:PS X st t):PSs X [st] t:=by
 intro zG s σ H D I h;refine jH (thn (h1 _ s σ H D I h) λf s1 q=>?_);cases f with
 | next=>exact gB q
 | ret v=>exact q
 | brk=>exact q
 | cont=>exact q
theorem Inv.quiet{zG:List (Ch×Obj)}{σ:St}{H:Hp}{s:FM}(I:Inv X zG σ H s):interactive X.env=false:=by simp [interactive,I.ok.kind]
def Za(te:TE):TS:=λD σ H=>te σ H λ_ H1=>D.nx σ H1
theorem Qm(he:PE X e te)(a:swapsWith e none pos.line X.env=pure false:=by rfl):PS X (.Expr e pos) (Za te):=λzG s σ H D I h=>wpAny_Expr_any (thn (he _ s σ H _ I h) λv s1 ⟨x,H1,I1,r1,q1⟩=>⟨σ,H1,I1,q1⟩) I.quiet a
def Va(te:TE):TS:=λD σ H=>te σ H D.rt
theorem GV(he:PE X e te):PS X (.Return (some e) pos) (Va te):=λzG s σ H D I h=>wpAny_Return_some (thn (he _ s σ H _ I h) λv s1 ⟨x,H1,I1,r1,q1⟩=>⟨x,σ,H1,I1,r1,q1⟩)
def ZY(c:TT)(t u:TS):TS:=λD σ H=>c σ H λb H1=>if b=true then t D σ H1 else u D σ H1
theorem Ql{c:c_}{a b:List dE}{tc:TT}(e:PT X c tc)(ha:PSs X a t)(f:PSs X b u):PS X (.If c a b pos) (ZY tc t u):=by
 intro zG s σ H D I h;refine wpAny_If (thn (e _ s σ H _ I h) λd s1 ⟨H1,I1,q1⟩=>?_);cases d with
 | true=>exact ha _ s1 σ H1 D I1 q1
 | false=>exact f _ s1 σ H1 D I1 q1
end
abbrev TG:=V->St->Hp->(St->Hp->Prop)->Prop
abbrev Y4:=List V->St->Hp->(St->Hp->Prop)->Prop
def PG(X:Cx)(target:c_)(t:TG):Prop :=
 ∀(zG:List (Ch×Obj)) (s:FM) (σ:St) (H:Hp) (v:V) (u:Cn) (Q:St->Hp->Prop),Inv X zG σ H s->RelV v u->t v σ H Q ->
  wpAny (model X.prog X.w) X.A (assign target X.env u) (λ_ s'=>∃zZ H',Inv X zG zZ H' s'/\Q zZ H') X.xe s
def aW(X:Cx)(ts:List c_)(t:Y4):Prop :=
 ∀(zG:List (Ch×Obj)) (s:FM) (σ:St) (H:Hp) (vs:List V) (us:List Cn) (Q:St->Hp->Prop),Inv X zG σ H s->Vals vs us->t vs σ H Q ->
  wpAny (model X.prog X.w) X.A (assignInOrder ((assignEach ts X.env).map (·.2)) us) (λ_ s'=>∃zZ H',Inv X zG zZ H' s'/\Q zZ H') X.xe s
abbrev Y3:=V->V->V->Hp->(Hp->Prop)->Prop
def aU(X:Cx)(t:Y3):Prop :=
 ∀(zG:List (Ch×Obj)) (s:FM) (σ:St) (H:Hp) (o i v:V) (ov iv u:Cn) (Q:Hp->Prop),Inv X zG σ H s->RelV o ov->RelV i iv->RelV v u->t o i v H Q ->
  wpAny (model X.prog X.w) X.A (setItem ov iv u) (λ_ s'=>∃H',Inv X zG σ H' s'/\Q H') X.xe s
abbrev ay:=V->V->Hp->VK->Prop
def cF(X:Cx)(op:Operator)(t:ay):Prop :=
 ∀(zG:List (Ch×Obj)) (s:FM) (σ:St) (H:Hp) (x y:V) (v u:Cn) (Q:VK),Inv X zG σ H s->RelV x v->RelV y u->t x y H Q ->
  wpAny (model X.prog X.w) X.A (inplaceOp op v u) (EP X zG σ Q) X.xe s
section
variable {X:Cx}{pos:Pos}
def IB(i:Nat):TG:=λv σ H Q=>Q (σ.set i (some v)) H
theorem Gx{i:Nat}{x:Str}(hN:X.N.Nodup)(hi:X.N[i]?=some x)(a:Loc X.env.scope x)(hf:X.fn x=true\/X.env.scope.names.lookup x=some .local:=by first | exact .inl rfl | exact .inr rfl | assumption):PG X (.Name x pos) (IB i):=λzG s σ H v u Q I r h=>wpAny_assign_Name (FC I hN hi a r (λs' I'=>⟨_,H,I',h⟩) hf)
def bc:Y4:=λvs σ H Q=>vs=[]/\Q σ H
def aE(t:TG)(u:Y4):Y4:=λvs σ H Q=>∃v r,vs=v::r/\t v σ H λzZ H'=>u r zZ H' Q
theorem Qp:aW X [] bc:=by
 intro zG s σ H vs us Q I r h;obtain⟨e,h⟩:=h;exact assignInOrder_nil ⟨σ,H,I,h⟩
theorem Gw{e:c_}{es:List c_}{t:TG}{u:Y4}(h1:PG X e t)(h2:aW X es u)
  (a:(assignEach (e::es) X.env).map (·.2)=assign e X.env::(assignEach es X.env).map (·.2):=by rfl):aW X (e::es) (aE t u):=by
 intro zG s σ H vs us Q I r h;obtain⟨v,vr,e1,h⟩:=h;subst e1;cases r with
 | cons r rr =>
  rw [a];exact assignInOrder_cons (thn (h1 _ s σ H _ _ _ I r h) λ_ s1 ⟨_,H1,I1,q1⟩=>h2 _ s1 _ H1 _ _ Q I1 rr q1)
def bb(K:Frag)(n:Nat)(t:Y4):TG:=λv σ H Q=>∃a xs,v=.ref a/\SqT K H a xs/\xs.length=n/\t xs σ H Q
theorem UK{es:List c_}{k:Nat}{t:Y4}{n:Nat}(d:X.calm=true)(h:aW X es t)
  (hn:(assignEach es X.env).length=n:=by rfl) (c:(assignEach es X.env).findIdx? (·.1)=none:=by rfl):PG X (.Tuple es k pos) (bb X.K n t):=by
 intro zG s σ H v u Q I r hw;obtain⟨a,xs,e1,hq,f,hw⟩:=hw;subst e1;cases r;obtain⟨g,rv,ht,j⟩:=I.tuple hq;exact assign_Tuple_tuple (I.ok.hd d) ht (by simp [hn,← f,rv.length]) c λh' i=>h _ _ σ H xs _ Q (I.kept λb o e=>i b o (c7 (UF e)) e) (by omega) hw
def aD(to ti:TE)(t:Y3):TG:=λv σ H Q=>to σ H λo H1=>ti σ H1 λi H2=>t o i v H2 λH3=>Q σ H3
theorem Ps{o i:c_}{to ti:TE}{t:Y3}(ho:PE X o to)(hi:PE X i ti)(a:aU X t)
  (ha:∀v,assign (.Subscript o i pos) X.env v=(do
   let ov ← holding [v] (eval o X.env)
   let iv ← holding [v,ov] (eval i X.env)
   standAt pos
   holding [v,ov,iv] (setItem ov iv v)
   release [v,ov,iv] []):=by intro _; rfl):PG X (.Subscript o i pos) (aD to ti t):=λzG s σ H v u Q I r h=>Db (dw (thn (ho _ s σ H _ I h) λov s1 ⟨x,H1,I1,r1,q1⟩=>Db (dw (thn (hi _ s1 σ H1 _ I1 q1) λiv s2 ⟨y,H2,I2,r2,q2⟩=>Db (hG (Db (dw (thn (a _ s2 σ H2 x y v ov iv u _ I2 r1 r2 r q2) λ_ s3 ⟨H3,I3,q3⟩=>wpAny_release ⟨σ,H3,I3,q3⟩))))))))
def Nj(te:TE)(g:TG):TS:=λD σ H=>te σ H λx H1=>g x σ H1 D.nx
theorem MW{tg e:c_}{te:TE}{g:TG}(he:PE X e te)(hg:PG X tg g)(a:swapsWithSole [tg] e pos.line X.env=pure false:=by rfl)(hw:swappedStores [tg] e X.env=pure none:=by rfl)
  (h1:(assignEach [tg] X.env).map (·.2)=[assign tg X.env]:=by rfl):PS X (.Assign [tg] e pos) (Nj te g):=by
 intro zG s σ H D I h;refine wpAny_Assign_stores (thn (he _ s σ H _ I h) λv s1 ⟨x,H1,I1,r1,q1⟩=>?_) a hw;rw [h1];exact thn (hg _ s1 σ H1 x v _ I1 r1 q1) λ_ s2 q=>q
theorem FO{i:Nat}{x:Str}{e:c_}{te:TE}{a:Pos}(hN:X.N.Nodup)(hi:X.N[i]?=some x)(b:Loc X.env.scope x)(he:PE X e te)(c:swapsWith e (some (.Name x a)) pos.line X.env=pure false:=by rfl)(hf:X.fn x=true\/X.env.scope.names.lookup x=some .local:=by first | exact .inl rfl | exact .inr rfl | assumption) :
  PS X (.Assign [.Name x a] e pos) (Nj te (IB i)):=λzG s σ H D I h=>wpAny_Assign_Name (thn (he _ s σ H _ I h) λv s1 ⟨y,H1,I1,r1,q1⟩=>FC I1 hN hi b r1 (λs2 I2=>⟨_,H1,I2,q1⟩) hf) c
def bQ(i:Nat)(te:TE)(ti:ay):TS:=λD σ H=>∃x,σ[i]?=some (some x)/\te σ H λy H1=>ti x y H1 λz H2=>D.nx (σ.set i (some z)) H2
theorem YE{i:Nat}{x:Str}{e:c_}{te:TE}{op:Operator}{ti:ay}{d:Pos}(hN:X.N.Nodup)(hi:X.N[i]?=some x)(f:Loc X.env.scope x)(he:PE X e te)(ho:cF X op ti)(hf:X.fn x=true\/X.env.scope.names.lookup x=some .local:=by first | exact .inl rfl | exact .inr rfl | assumption) :
  PS X (.AugAssign (.Name x d) op e pos) (bQ i te ti):=by
 intro zG s σ H D I h;obtain⟨v,e1,h⟩:=h;obtain⟨m,hn,j⟩:=I.loc;have g:Sw X.env.scope x:=by rcases f with k | k; exact .inl k; exact .inr (.inl k)
 obtain⟨u,r,l⟩:=j i x v hi e1 g;refine wpAny_AugAssign_Name ?_
 have go:wpAny (model X.prog X.w) X.A (eval e X.env) (λw s₂=>wpAny (model X.prog X.w) X.A (inplaceOp op u w) (λr s₃=>wpAny (model X.prog X.w) X.A (storeName X.env x r) (λ_=>SP X zG D .next) X.xe s₃) X.xe s₂) X.xe s:=by
  refine thn (he zG s σ H _ I h) λw s1 ⟨y,H1,I1,r1,q1⟩=>?_;refine thn (ho zG s1 σ H1 v y u w _ I1 r r1 q1) λz s2 ⟨zv,H2,I2,r2,q2⟩=>?_;exact FC I2 hN hi f r2 (λs3 I3=>⟨_,H2,I3,q2⟩) hf
 rcases l with ⟨a,hm⟩ | ⟨a,c,n,b⟩
 ·exact wpAny_loadName_local I.ok.kind a hn hm go
 ·rcases a with a | a
  ·exact wpAny_loadName_cell I.ok.kind a n b go
  ·rcases f with k | k
   ·have:X.env.scope.names.lookup x=some .free:=a
    rw [k] at this; cases this
   ·have:X.env.scope.names.lookup x=some .free:=a
    rw [k] at this; cases this
def cU(f:Int->Int->Int):ay:=λx y H Q=>∃i j,x=.int i/\y=.int j/\Q (.int (f i j)) H
theorem Ye:cF X .Add (cU λi j=>i+j):=by
 intro zG s σ H x y v u Q I r1 r2 h;obtain⟨i,j,e1,e2,q⟩:=h;subst e1; subst e2
 obtain⟨t,rfl⟩:=r1;obtain⟨t',rfl⟩:=r2;exact iadd_int ⟨.int _,H,I.tok _,⟨_,rfl⟩,q⟩
end
section
variable {X:Cx}{pos:Pos}
def Xs(c:TT)(tb:TS):TS:=λD σ H=>∃W:Nat->St->Hp->Prop,(∃m,W m σ H)/\∀m σ H,W m σ H ->
 c σ H λb H1=>if b=true then ∃N:St->Hp->Prop,(∀zZ H',N zZ H'->∃m',m'<m/\W m' zZ H')/\tb { D with nx:=N,ct:=N,bk:=D.nx } σ H1 else D.nx σ H1
theorem UE{c:c_}{body:List dE}{tc:TT}{tb:TS}(hp:iA (model X.prog X.w) X.A X.env X.xe)(a:PT X c tc)(d:PSs X body tb):PS X (.While c body [] pos) (Xs tc tb):=by
 intro zG s σ H D I h;obtain⟨W,⟨m0,w0⟩,turn⟩:=h;refine wpAny_While (codeAny_whileLoop (λn s'=>∃zZ H',Inv X zG zZ H' s'/\W n zZ H') ?_ m0 ⟨σ,H,I,w0⟩);rintro n s1 ⟨zK,H1,I1,w1⟩;refine fZ hp (thn (a zG s1 zK H1 _ I1 (turn n zK H1 w1)) λb s2 ⟨H2,I2,q2⟩=>?_);cases b with
 | true =>
  obtain⟨N,hN,q2⟩:=q2;rw [if_pos rfl];refine fZ hp (thn (d zG s2 zK H2 _ I2 q2) λf s3 q3=>?_);cases f with
  | next =>
   obtain⟨zV,H3,I3,n3⟩:=q3;obtain⟨m',hm,w3⟩:=hN zV H3 n3;exact⟨m',hm,zV,H3,I3,w3⟩
  | cont =>
   obtain⟨zV,H3,I3,n3⟩:=q3;obtain⟨m',hm,w3⟩:=hN zV H3 n3;exact⟨m',hm,zV,H3,I3,w3⟩
  | brk=>exact q3
  | ret v=>exact q3
 | false =>
  rw [if_neg c8];exact gB ⟨zK,H2,I2,q2⟩
end
structure It where
 go:Nat->Hp->Prop
 yld:Nat->Hp->V->Hp->Prop
 stop:Nat->Hp->Prop
def Gh(X:Cx)(zG:List (Ch×Obj))(H:Hp)(b:Ch):Prop :=
 H b=none/\b≠X.env.locals/\b∉X.fs/\(b∈X.ex\/X.s₀.heap.objs.size<=b)/\(∀x c,X.env.cells.lookup x=some c->c≠b)/\∀p∈X.pn++zG,p.1≠b
theorem Inv.fpOk{X:Cx}{zG:List (Ch×Obj)}{σ:St}{H H':Hp}{s:FM}{b:Ch}(I:Inv X zG σ H s)(a:s.heap.objs.size<=b)(hn:H' b=none):Gh X zG H' b:=by
 refine⟨hn,fV (dA I.lt a),I.nofs a,.inr (cx I.sz a),λx c e z=>?_,λp hp z=>absurd (dA (UF (I.pin p hp).1) (by simp_all)) (eK _)⟩
 ·obtain⟨v,q⟩:=I.cell x c e
  exact absurd (dA q.lt (by simp_all)) (eK _)
structure Turn (P:cz) (w:dC) (K:Frag) (tg:c_) (J:It) (fp:List Ch) (it:Ch) (tn:Nat->cw->Prop):Prop where
 mem:it∈fp
 obj:∀i h,tn i h->∀b∈fp,∃o,h.get? b=some o/\∀v,o.data≠.cell v
 keep:∀i h h',tn i h->(∀b∈fp,∀o,h.get? b=some o->h'.get? b=some o)->tn i h'
 item:∀(X:Cx),X.prog=P->X.w=w->X.K=K->X.calm=true->∀(i:Nat) (zG:List (Ch×Obj)) (s:FM) (σ:St) (H:Hp) (E:Cn->FM->Prop),Inv X zG σ H s->(∀b∈fp,Gh X zG H b)->tn i s.heap->J.go i H ->
  wpAny (model P w) X.A (pyNext (.ref it)) (λr s1=>∃u,r=some u /\
   wpAny (model P w) X.A (letOwnedTupleGo tg (.ref it) u) (λ_ s2=>∃x H',Inv X zG σ H' s2/\RelV x u/\J.yld i H x H'/\tn (i+1) s2.heap/\∀b∈fp,H' b=none) E s1) E s
 done:∀(X:Cx),X.prog=P->X.w=w->X.K=K->X.calm=true->∀(i:Nat) (zG:List (Ch×Obj)) (s:FM) (σ:St) (H:Hp) (E:Cn->FM->Prop),Inv X zG σ H s->(∀b∈fp,Gh X zG H b)->tn i s.heap->J.stop i H ->
  wpAny (model P w) X.A (pyNext (.ref it)) (λr s1=>r=none/\Inv X zG σ H s1) E s
 self:∀(A:dL) (i:Nat) (s:FM) (Q:Cn->FM->Prop) (E:Cn->FM->Prop),tn i s.heap->Q (.ref it) s->wpAny (model P w) A (pyIter (.ref it)) Q E s
abbrev TI:=St->Hp->(It->Hp->Prop)->Prop
def cG(X:Cx)(zG:List (Ch×Obj))(σ:St)(tg:c_)(R:It->Hp->Prop)(a:Cn)(s2:FM):Prop :=
 ∃(it:Ch) (fp:List Ch) (tn:Nat->cw->Prop) (J:It) (H':Hp),a=.ref it/\Inv X zG σ H' s2/\Turn X.prog X.w X.K tg J fp it tn/\tn 0 s2.heap/\(∀b∈fp,Gh X zG H' b)/\R J H'
def PI(X:Cx)(tg iter:c_)(wi:TI):Prop :=
 ∀(zG:List (Ch×Obj)) (s:FM) (σ:St) (H:Hp) (R:It->Hp->Prop),Inv X zG σ H s->wi σ H R ->
  wpAny (model X.prog X.w) X.A (eval iter X.env) (λv s1=>wpAny (model X.prog X.w) X.A (pyIter v) (cG X zG σ tg R) X.xe s1) X.xe s
theorem Oe {M : Model} {A : dL} {E : Cn → FM → Prop} {s : FM} {tg : c_} {it : Ch} {u : Cn} {o : Obj} {n : String} {vs : Array Cn} {Q : Unit → FM → Prop} (ho : s.heap.get? it = some o) (a : o.cls = .type n) (hd : o.data = .fields vs)
    (hn : ["enumerate", "zip", "dict_itemiterator", "dict_reverseitemiterator", "odict_iterator", "itertools.zip_longest", "itertools.pairwise"].contains n = false) (hQ : Q () s) : wpAny M A (letOwnedTupleGo tg (.ref it) u) Q E s := by
  unfold letOwnedTupleGo
  cases tg <;> first
    | exact Sc hQ
    | (cases u <;> first
        | exact Sc hQ
        | (refine Db (wpAny_load ho ?_)
           rw [a, hd];show wpAny M A (if (["enumerate", "zip", "dict_itemiterator", "dict_reverseitemiterator", "odict_iterator", "itertools.zip_longest", "itertools.pairwise"].contains n && vs[0]? == some (rawInt _)) = true then _ else _) Q E s;rw [if_neg (by grind)];exact Sc hQ))
def bw(K:Frag)(a:Ch):It :=
 ⟨λi H=>∃xs x,SqL K H a xs/\xs[i]?=some x,λi H x H'=>H'=H/\∀xs,SqL K H a xs->xs[i]?=some x,λi H=>∃xs,SqL K H a xs/\xs.length<=i⟩
def Y_(K:Frag)(a:Ch):It :=
 ⟨λi H=>∃xs x,SqT K H a xs/\xs[i]?=some x,λi H x H'=>H'=H/\∀xs,SqT K H a xs->xs[i]?=some x,λi H=>∃xs,SqT K H a xs/\xs.length<=i⟩
def ac(lo:Int)(n:Nat):It:=⟨λi _=>i<n,λi H x H'=>H'=H/\x=.int (lo+i),λi _=>n<=i⟩
theorem Rf{P:cz}{w:dC}{K:Frag}{tg:c_}(a it:Ch):Turn P w K tg (bw K a) [it] it (λi h=>h.IsListIter it a i) where
 mem:=by simp
 obj:=λi h st b f=>by
  have e:b=it:=by simpa using f
  subst e;obtain⟨o,e,c,d⟩:=st;exact⟨o,e,λv z=>by rw [d] at z; cases z⟩
 keep:=λi h h' st k=>st.at λo e=>k it (by simp) o e
 item:=by
  intro X hP hw hK m i zG s σ H E I hf st hg;subst hP hw hK;obtain⟨xs,x,hq,j⟩:=hg;obtain⟨l,rv,p,n⟩:=I.list hq;obtain⟨u,hu,ru⟩:=rv.get j;obtain⟨f0,f1,f2,f3,f4,f5⟩:=hf it (by simp);refine wpAny_pyNext_list_item st p.isList (x:=u) (by simpa using hu) λh' g sb=>?_;have I1:Inv X zG σ H { s with heap:=h' }:=I.turned (t':=s.toks) (λb o f e=>(sb.2 b f).trans e) f0 f1 f3 f4 f5;obtain⟨o,e,c,d⟩:=id g;exact⟨u,rfl,Oe (s:={ s with heap:=h' }) e c d (by decide) ⟨x,H,I1,ru,⟨rfl,λys hy=>by rw [I.list_inj hy hq]; exact j⟩,g,λb f=>(hf b f).1⟩⟩
 done:=by
  intro X hP hw hK m i zG s σ H E I hf st hg;subst hP hw hK;obtain⟨xs,hq,j⟩:=hg;obtain⟨l,rv,p,n⟩:=I.list hq;obtain⟨f0,f1,f2,f3,f4,f5⟩:=hf it (by simp);have q:=rv.length;exact wpAny_pyNext_list_end (I.ok.hd m) st p.isList (by simp; omega) λh' eb=>⟨rfl,I.turned (t':=s.toks) (λb o f e=>eb b o f e) f0 f1 f3 f4 f5⟩
 self:=λ_ _ _ _ _ st h=>wpAny_pyIter_listiter st h
theorem JP{P:cz}{w:dC}{K:Frag}{tg:c_}(a it:Ch):Turn P w K tg (Y_ K a) [it] it (λi h=>h.IsTupleIter it a i) where
 mem:=by simp
 obj:=λi h st b f=>by
  have e:b=it:=by simpa using f
  subst e;obtain⟨o,e,c,d⟩:=st;exact⟨o,e,λv z=>by rw [d] at z; cases z⟩
 keep:=λi h h' st k=>st.at λo e=>k it (by simp) o e
 item:=by
  intro X hP hw hK m i zG s σ H E I hf st hg;subst hP hw hK;obtain⟨xs,x,hq,l⟩:=hg;obtain⟨g,rv,p,n⟩:=I.tuple hq;obtain⟨u,hu,ru⟩:=rv.get l;obtain⟨f0,f1,f2,f3,f4,f5⟩:=hf it (by simp);refine wpAny_pyNext_tuple_item st (show s.heap.IsTuple a g.toArray from p) (x:=u) (by simpa using hu) λh' j sb=>?_;have I1:Inv X zG σ H { s with heap:=h' }:=I.turned (t':=s.toks) (λb o f e=>(sb.2 b f).trans e) f0 f1 f3 f4 f5;obtain⟨o,e,c,d⟩:=id j;exact⟨u,rfl,Oe (s:={ s with heap:=h' }) e c d (by decide) ⟨x,H,I1,ru,⟨rfl,λys hy=>by rw [I.tuple_inj hy hq]; exact l⟩,j,λb f=>(hf b f).1⟩⟩
 done:=by
  intro X hP hw hK m i zG s σ H E I hf st hg;subst hP hw hK;obtain⟨xs,hq,l⟩:=hg;obtain⟨g,rv,p,n⟩:=I.tuple hq;obtain⟨f0,f1,f2,f3,f4,f5⟩:=hf it (by simp);have q:=rv.length;exact wpAny_pyNext_tuple_end (I.ok.hd m) st (show s.heap.IsTuple a g.toArray from p) (by simp; omega) λh' eb=>⟨rfl,I.turned (t':=s.toks) (λb o f e=>eb b o f e) f0 f1 f3 f4 f5⟩
 self:=λ_ _ _ _ _ st h=>wpAny_pyIter_tupleiter st h
theorem PM{P:cz}{w:dC}{K:Frag}{tg:c_}(it:Ch)(lo:Int)(n:Nat):Turn P w K tg (ac lo n) [it] it (λi h=>IsRangeIter h it (lo+(i:Nat)*1) ((n:Int) - (i:Nat)) 1) where
 mem:=by simp
 obj:=λi h st b a=>by
  simp_all
 keep:=λi h h' st k=>k it (by simp) _ st
 item:=by
  intro X hP hw hK d i zG s σ H E I hf st hg;subst hP hw hK;obtain⟨f0,f1,f2,f3,f4,f5⟩:=hf it (by simp);have W:=Walks.range (prog:=X.prog) (w:=X.w) (I.ok.hd d) it lo 1 n;refine W.item i s _ _ hg st λv h' tk hv c kk=>?_;obtain⟨t,rfl⟩:=hv;have I1:Inv X zG σ H { s with heap:=h',toks:=tk }:=I.turned (λb o a e=>kk b o (by simpa using a) e) f0 f1 f3 f4 f5;refine⟨_,rfl,Oe (s:={ s with heap:=h',toks:=tk }) (n := "range_iterator") c rfl rfl (by decide) ⟨.int (lo+i),H,I1,⟨t,?_⟩,⟨rfl,rfl⟩,c,λb a=>(hf b a).1⟩⟩;rw [Int.mul_one]
 done:=by
  intro X hP hw hK d i zG s σ H E I hf st hg;subst hP hw hK;obtain⟨f0,f1,f2,f3,f4,f5⟩:=hf it (by simp);exact wpAny_pyNext_range_end (I.ok.hd d) st (by have:n<=i:=hg; omega) λh' eb=>⟨rfl,I.turned (t':=s.toks) (λb o a e=>eb b o a e) f0 f1 f3 f4 f5⟩
 self:=λ_ _ _ _ _ st h=>wpAny_pyIter_rangeiter st h
section
variable {X:Cx}{tg:Expr}
def bZ(K:Frag)(tl:TE):TI:=λσ H R=>tl σ H λx H1=>∃a,x=.ref a/\(∃xs,SqT K H1 a xs)/\R (Y_ K a) H1
theorem UJ{l:c_}{tl:TE}(c:PE X l tl):PI X tg l (bZ X.K tl):=by
 intro zG s σ H R I h;refine thn (c _ s σ H _ I h) λv s1 ⟨x,H1,I1,r1,q1⟩=>?_;obtain⟨a,e,⟨xs,hq⟩,q⟩:=q1;subst e;cases r1;obtain⟨d,rv,p,f⟩:=I1.tuple hq;refine ef (p) ?_;refine⟨_,_,_,_,H1,rfl,I1.kept λb o e=>Ev _ e,JP a _,⟨_,cj _ rfl,rfl,rfl⟩,λb g=>?_,q⟩;have e:b=s1.heap.objs.size:=by grind
 subst e;exact I1.fpOk (On _) (I1.hok.fresh (On _))
theorem N4{zG:List (Ch×Obj)}{σ:St}{H:Hp}{s:FM}{R:It->Hp->Prop}{E:Cn->FM->Prop}{lo hi:Int}{t u v:Tok}{tk:Nat}(I:Inv X zG σ H s)(h1:-(2 ^ 62)<=lo)(h2:lo<2 ^ 62)(h3:-(2 ^ 62)<=hi)(h4:hi<2 ^ 62)
  (q:R (ac lo (hi - lo).toNat) H):wpAny (model X.prog X.w) X.A (pyIter (.ref s.heap.objs.size)) (cG X zG σ tg R) E { s with heap:=s.heap.push { cls:=.type "range",data:=.fields #[.int lo t,.int hi u,.int 1 v] },toks:=tk }:=by
 refine wpAny_pyIter_range (IsRange.new ..) (small_one h1 h2 h3 h4) ?_;have I1:Inv X zG σ H { s with heap:=s.heap.push { cls:=.type "range",data:=.fields #[.int lo t,.int hi u,.int 1 v] },toks:=tk }:=I.kept λb o e=>Ev _ e
 refine⟨(s.heap.push { cls:=.type "range",data:=.fields #[.int lo t,.int hi u,.int 1 v] }).objs.size,[(s.heap.push { cls:=.type "range",data:=.fields #[.int lo t,.int hi u,.int 1 v] }).objs.size],_,_,H,rfl,
  I1.kept (t':=tk) λb o e=>Ev _ e,PM _ lo (hi - lo).toNat,?_,λb a=>?_,q⟩
 ·have e1:lo+((0:Nat):Int)*1=lo:=by simp
  have e2:(((hi - lo).toNat:Nat):Int) - ((0:Nat):Int)=Builtin.Range.rangeSize lo hi 1:=by rw [rangeSize_one]; grind
  show IsRangeIter _ _ (lo+((0:Nat):Int)*1) ((((hi - lo).toNat:Nat):Int) - ((0:Nat):Int)) 1;rw [e1,e2];exact cj _ rfl
 ·have e:b=(s.heap.push { cls:=.type "range",data:=.fields #[.int lo t,.int hi u,.int 1 v] }).objs.size:=by simpa using a
  subst e;exact I1.fpOk (On _) (I1.hok.fresh (On _))
def aA(ta:TA):TI:=λσ H R=>ta σ H λvs H1=>∃j:Int,vs=[.int j]/\-(2 ^ 62)<=j/\j<2 ^ 62/\R (ac 0 j.toNat) H1
def Z_(ta:TA):TI:=λσ H R=>ta σ H λvs H1=>∃i j:Int,vs=[.int i,.int j]/\(-(2 ^ 62)<=i/\i<2 ^ 62/\-(2 ^ 62)<=j/\j<2 ^ 62)/\R (ac i (j - i).toNat) H1
theorem R0{a:c_}{ta:TA}{p pos:Pos}(hg:Gl X "range")(hm:X.mg "range"=none)(ha:PA X [a] ta)(b:starEach [a] X.env=[(false,eval a X.env)]:=by rfl):PI X tg (.Call (.Name "range" p) [a] [] pos) (aA ta):=by
 intro zG s σ H R I h;refine Call_ (FT I hg hm boot_range (e9 (thn (ha _ _ s σ H _ I h) λus s1 ⟨vs,H1,I1,r1,q1⟩=>?_) b rfl));obtain⟨j,e,q1,q2,q⟩:=q1;subst e;cases r1 with
 | cons r rr =>
  cases rr;obtain⟨t,rfl⟩:=r;exact call_range_1 (N4 I1 (by omega) (by omega) q1 q2 (by simpa using q))
theorem Rz{a b:c_}{ta:TA}{p pos:Pos}(hg:Gl X "range")(hm:X.mg "range"=none)(ha:PA X [a,b] ta)(d:starEach [a,b] X.env=[(false,eval a X.env),(false,eval b X.env)]:=by rfl)(c:starEach [b] X.env=[(false,eval b X.env)]:=by rfl) :
  PI X tg (.Call (.Name "range" p) [a,b] [] pos) (Z_ ta):=by
 intro zG s σ H R I h;refine Call_ (FT I hg hm boot_range (e9 (thn (ha _ _ s σ H _ I h) λus s1 ⟨vs,H1,I1,r1,q1⟩=>?_) (by rw [d,c]) (by rw [c]; rfl)));obtain⟨i,j,e,⟨q1,q2,q3,q4⟩,q⟩:=q1;subst e;cases r1 with
 | cons r rr =>
  cases rr with
  | cons r' rr =>
   cases rr;obtain⟨t,rfl⟩:=r;obtain⟨t',rfl⟩:=r';exact call_range_2 (N4 I1 q1 q2 q3 q4 q)
def bP(wi:TI)(g:TG)(tb:TS):TS:=λD σ H=>wi σ H λJ H1=>∃W:Nat->Nat->St->Hp->Prop,(∃m,W 0 m σ H1)/\∀i m σ H,W i m σ H ->
 (J.stop i H/\D.nx σ H)\/(J.go i H/\∃N:St->Hp->Prop,(∀zZ H',N zZ H'->∃m',m'<m/\W (i+1) m' zZ H')/\∀x H',J.yld i H x H'->g x σ H' λzO H2=>tb { D with nx:=N,ct:=N,bk:=D.nx } zO H2)
def Jj(fp:List Ch)(h:cw):List (Ch×Obj):=fp.filterMap λb=>(h.get? b).map λo=>(b,o)
theorem Ep{fp:List Ch}{h:cw}{b:Ch}{o:Obj}(a:b∈fp)(e:h.get? b=some o):(b,o)∈Jj fp h:=ig.mpr ⟨b,a,by rw [e]; rfl⟩
theorem SD{fp:List Ch}{h:cw}{p:Ch×Obj}(hp:p∈Jj fp h):p.1∈fp/\h.get? p.1=some p.2:=by
 obtain⟨b,a,e⟩:=ig.mp hp;cases q:h.get? b with
 | none=>grind
 | some o =>
  rw [q] at e;have e':=cv e;subst e'
  simp_all
theorem Inv.pinned{zG:List (Ch×Obj)}{σ:St}{H:Hp}{s:FM}{fp:List Ch}(I:Inv X zG σ H s)(hf:∀b∈fp,Gh X zG H b)(ho:∀b∈fp,∃o,s.heap.get? b=some o/\∀v,o.data≠.cell v):Inv X (zG++Jj fp s.heap) σ H s :=
 I.pins_of λp hp=>(cu.mp hp).elim (λz=>I.pin p (dH _ z)) λz=>by
  obtain⟨a,e⟩:=SD z;obtain⟨f0,f1,f2,_⟩:=hf _ a;obtain⟨o,e',d⟩:=ho _ a
  grind
theorem Inv.unpinned{zG pl:List (Ch×Obj)}{σ:St}{H:Hp}{s:FM}(I:Inv X (zG++pl) σ H s):Inv X zG σ H s:=I.pins_of λp hp=>I.pin p (dH _ (eo _ hp))
theorem Jh{iter:c_}{body:List dE}{wi:TI}{g:TG}{tb:TS}{pos:Pos}(hp:iA (model X.prog X.w) X.A X.env X.xe)(t:X.calm=true)(hi:PI X tg iter wi)(hg:PG X tg g)(a:PSs X body tb)
  (y:∀x,foldedSetIterable iter X.env x=pure x:=by intro _; rfl):PS X (.For tg iter body [] pos) (bP wi g tb):=by
 intro zG s σ H D I h;refine wpAny_For (thn (hi zG s σ H _ I h) λv s1 h1=>thn h1 λz s2 h2=>?_) y;obtain⟨it,fp,tn,J,H2,e,I2,T,p,f2,W,⟨m0,w0⟩,turn⟩:=h2;subst e;have c:∀{H':Hp},(∀b∈fp,H' b=none)->∀b∈fp,Gh X zG H' b:=λhn b a=>⟨hn b a,(f2 b a).2⟩;refine codeAny_forLoop_any (λn s'=>∃i zZ H',Inv X zG zZ H' s'/\tn i s'.heap/\(∀b∈fp,H' b=none)/\W i n zZ H') ?_ m0 ⟨0,σ,H2,I2,p,λb a=>(f2 b a).1,w0⟩;rintro n s3 ⟨i,zV,H3,I3,k,l,w3⟩
 rcases turn i n zV H3 w3 with ⟨stop,qn⟩ | ⟨go,N,hN,step⟩
 ·refine fZ hp (thn (T.done X rfl rfl rfl t i zG s3 zV H3 X.xe I3 (c l) k stop) λr s4 ⟨hr,I4⟩=>?_)
  subst hr;exact gB ⟨zV,H3,I4,qn⟩
 ·refine fZ hp (thn (T.item X rfl rfl rfl t i zG s3 zV H3 X.xe I3 (c l) k go) λr s4 ⟨u,hr,h4⟩=>?_)
  subst hr;refine fZ hp (thn h4 λ_ s5 ⟨x,H5,I5,r5,y5,j,q⟩=>?_);have I5':=I5.pinned (c q) (T.obj _ _ j);refine fZ hp (thn (hg _ s5 zV H5 x u _ I5' r5 (step x H5 y5)) λ_ s6 ⟨σ6,H6,I6,q6⟩=>?_);refine fZ hp (thn (a _ s6 σ6 H6 _ I6 q6) λf s7 q7=>?_)
  have again:∀{zL:St} {H7:Hp},Inv X (zG++Jj fp s5.heap) zL H7 s7->N zL H7->∃m,m<n/\∃i zZ H',Inv X zG zZ H' s7/\tn i s7.heap/\(∀b∈fp,H' b=none)/\W i m zZ H':=λ{zL H7} I7 n7=>by
   obtain⟨m',hm,w7⟩:=hN zL H7 n7;refine⟨m',hm,i+1,zL,H7,I7.unpinned,T.keep _ _ _ j λb a o e=>(I7.pin (b,o) (dH _ (dH _ (Ep a e)))).1,λb a=>?_,w7⟩;obtain⟨o,e,d⟩:=T.obj _ _ j b a;exact(I7.pin (b,o) (dH _ (dH _ (Ep a e)))).2.1
  cases f with
  | next=>obtain⟨zL,H7,I7,n7⟩:=q7; exact again I7 n7
  | cont=>obtain⟨zL,H7,I7,n7⟩:=q7; exact again I7 n7
  | brk=>obtain⟨zL,H7,I7,q7⟩:=q7; exact⟨zL,H7,I7.unpinned,q7⟩
  | ret v=>obtain⟨x7,zL,H7,I7,r7,q7⟩:=q7; exact⟨x7,zL,H7,I7.unpinned,r7,q7⟩
end
theorem Q2{K:Frag}{a:Ch}{xs:List V}{g:TG}{tb:TS}{D:Ends}{σ:St}{H:Hp}(Pv:Nat->St->Hp->Prop)(h0:Pv 0 σ H)(c:∀i σ H,i<=xs.length->Pv i σ H->SqT K H a xs)
  (d:∀i x σ H,xs[i]?=some x->Pv i σ H->g x σ H λzO H2=>tb { D with nx:=Pv (i+1),ct:=Pv (i+1),bk:=D.nx } zO H2) (hd:∀σ H,Pv xs.length σ H->D.nx σ H) :
  ∃W:Nat->Nat->St->Hp->Prop,(∃m,W 0 m σ H)/\∀i m σ H,W i m σ H ->
   ((Y_ K a).stop i H/\D.nx σ H)\/((Y_ K a).go i H/\∃N:St->Hp->Prop,(∀zZ H',N zZ H'->∃m',m'<m/\W (i+1) m' zZ H')/\∀x H',(Y_ K a).yld i H x H'->g x σ H' λzO H2=>tb { D with nx:=N,ct:=N,bk:=D.nx } zO H2):=by
 refine⟨λi m σ H=>m=xs.length - i/\i<=xs.length/\Pv i σ H,⟨xs.length,by simp,TM _,h0⟩,?_⟩;rintro i m σ H ⟨rfl,hi,p⟩;have q:=c i σ H hi p
 by_cases b:i<xs.length
 ·refine .inr ⟨⟨xs,xs[i],q,by simp⟩,_,λzZ H' p'=>⟨_,by omega,rfl,b,p'⟩,λx H' y=>?_⟩
  obtain⟨e,y⟩:=y;subst e;exact d i x σ _ (y xs q) p
 ·have e:i=xs.length:=by omega
  subst e;exact .inl ⟨⟨xs,q,On _⟩,hd σ H p⟩
abbrev R2:=V->V->Hp->VK->Prop
def OpR(X:Cx)(f:Cn->Cn->Sem Cn)(r:R2):Prop :=
 ∀(zG:List (Ch×Obj)) (s:FM) (σ:St) (H:Hp) (x y:V) (v u:Cn) (Q:VK),Inv X zG σ H s->RelV x v->RelV y u->r x y H Q ->
  wpAny (model X.prog X.w) X.A (f v u) (EP X zG σ Q) X.xe s
def bp(X:Cx)(f:Cn->Sem Cn)(r:V->Hp->VK->Prop):Prop :=
 ∀(zG:List (Ch×Obj)) (s:FM) (σ:St) (H:Hp) (x:V) (v:Cn) (Q:VK),Inv X zG σ H s->RelV x v->r x H Q ->
  wpAny (model X.prog X.w) X.A (f v) (EP X zG σ Q) X.xe s
def C2(X:Cx)(f:Cn)(r:List V->Hp->VK->Prop):Prop :=
 ∀(zG:List (Ch×Obj)) (s:FM) (σ:St) (H:Hp) (xs:List V) (us:List Cn) (Q:VK),Inv X zG σ H s->Vals xs us->r xs H Q ->
  wpAny (model X.prog X.w) X.A (call f us) (EP X zG σ Q) X.xe s
def EK(r:R2)(ta tb:TE):TE:=λσ H Q=>ta σ H λx H1=>tb σ H1 λy H2=>r x y H2 Q
def cN(r:V->Hp->VK->Prop)(ta:TE):TE:=λσ H Q=>ta σ H λx H1=>r x H1 Q
def rI(C:Int->Int->Prop)(g:Int->Int->V):R2:=λx y H Q=>∃i j,x=.int i/\y=.int j/\C i j/\Q (g i j) H
def IY(g:Int->Int->V):R2:=λx y H Q=>∃i j,x=.int i/\y=.int j/\Q (g i j) H
def rU(g:Int->V):V->Hp->VK->Prop:=λx H Q=>∃i,x=.int i/\Q (g i) H
section
variable {X:Cx}{a b:Expr}{ta tb:TE}{pos:Pos}
theorem Yx(ha:PE X a ta)(c:PE X b tb){zG:List (Ch×Obj)}{s:FM}{σ:St}{H:Hp}{R:V->V->Hp->Prop}(I:Inv X zG σ H s)
  (h:ta σ H λx H1=>tb σ H1 λy H2=>R x y H2) {Q:Cn->FM->Prop} {f:Cn->Cn->Sem Cn}
  (hf:∀v u s2 x y H2,Inv X zG σ H2 s2->RelV x v->RelV y u->R x y H2->wpAny (model X.prog X.w) X.A (f v u) Q X.xe s2) :
  wpAny (model X.prog X.w) X.A (eval a X.env) (λv s₁=>wpAny (model X.prog X.w) X.A (eval b X.env) (λu s₂=>wpAny (model X.prog X.w) X.A (f v u) Q X.xe s₂) X.xe s₁) X.xe s:=thn (ha _ s σ H _ I h) λv s1 ⟨x,H1,I1,r1,q1⟩=>thn (c _ s1 σ H1 _ I1 q1) λu s2 ⟨y,H2,I2,r2,q2⟩=>hf v u s2 x y H2 I2 r1 r2 q2
theorem CA{op:Operator}{r:R2}(ho:OpR X (binaryOp op) r)(ha:PE X a ta)(c:PE X b tb):PE X (.BinOp a op b pos) (EK r ta tb):=λzG s σ H Q I h=>wpAny_BinOp (Yx ha c I h λv u s2 x y H2 I2 rx ry q=>ho _ s2 σ H2 x y v u Q I2 rx ry q)
theorem Z0{op:UnaryOp}{r:V->Hp->VK->Prop}(ho:bp X (unaryOp op) r)(ha:PE X a ta):PE X (.UnaryOp op a pos) (cN r ta):=λzG s σ H Q I h=>UnaryOp_ (thn (ha _ s σ H _ I h) λv s1 ⟨x,H1,I1,r1,q1⟩=>ho _ s1 σ H1 x v Q I1 r1 q1)
theorem aq{f:Cn->Cn->Sem Cn}{C:Int->Int->Prop}{g:Int->Int->Int}
  (rule:∀(i j:Int) (t u:Tok) (s:FM) (Q:Cn->FM->Prop) (E:Cn->FM->Prop),C i j->Q (.int (g i j) s.toks) { s with toks:=s.toks+1 }->wpAny (model X.prog X.w) X.A (f (.int i t) (.int j u)) Q E s) :
  OpR X f (rI C λi j=>.int (g i j)):=by
 intro zG s σ H x y v u Q I rx ry h;obtain⟨i,j,rfl,rfl,a,q⟩:=h;obtain⟨t,rfl⟩:=rx;obtain⟨t',rfl⟩:=ry;exact rule i j t t' s _ _ a ⟨.int _,H,I.tok _,⟨_,rfl⟩,q⟩
theorem Z3{f:Cn->Cn->Sem Cn}{g:Int->Int->Int}
  (rule:∀(i j:Int) (t u:Tok) (s:FM) (Q:Cn->FM->Prop) (E:Cn->FM->Prop),Q (.int (g i j) s.toks) { s with toks:=s.toks+1 }->wpAny (model X.prog X.w) X.A (f (.int i t) (.int j u)) Q E s) :
  OpR X f (IY λi j=>.int (g i j)):=by
 intro zG s σ H x y v u Q I rx ry h;obtain⟨i,j,rfl,rfl,q⟩:=h;obtain⟨t,rfl⟩:=rx;obtain⟨t',rfl⟩:=ry;exact rule i j t t' s _ _ ⟨.int _,H,I.tok _,⟨_,rfl⟩,q⟩
theorem Vy{f:Cn->Cn->Sem Cn}{g:Int->Int->Bool}
  (rule:∀(i j:Int) (t u:Tok) (s:FM) (Q:Cn->FM->Prop) (E:Cn->FM->Prop),Q (.bool (g i j)) s->wpAny (model X.prog X.w) X.A (f (.int i t) (.int j u)) Q E s) :
  OpR X f (IY λi j=>.bl (g i j)):=by
 intro zG s σ H x y v u Q I rx ry h;obtain⟨i,j,rfl,rfl,q⟩:=h;obtain⟨t,rfl⟩:=rx;obtain⟨t',rfl⟩:=ry;exact rule i j t t' s _ _ ⟨.bl _,H,I,rfl,q⟩
def Wn(i j:Int):Prop:=0<j/\j<1073741824
def Ik(i j:Int):Prop:=0<=j/\j<=1000000/\i.natAbs<2 ^ 64
def CMul(i j:Int):Prop:=(-(2 ^ 64)<i/\i<2 ^ 64)\/(-(2 ^ 64)<j/\j<2 ^ 64)
theorem CMul.ok{i j:Int}(h:CMul i j):IntMulOk i j:=by
 rcases h with ⟨h1,h2⟩ | ⟨h1,h2⟩
 ·exact .of_left (intBits_le_64 h1 h2)
 ·exact .of_right (intBits_le_64 h1 h2)
theorem op_add:OpR X (binaryOp .Add) (IY λi j=>.int (i+j)):=Z3 λ_ _ _ _ _ _ _ q=>add_int q
theorem op_sub:OpR X (binaryOp .Sub) (IY λi j=>.int (i - j)):=Z3 λ_ _ _ _ _ _ _ q=>sub_int q
theorem op_mul:OpR X (binaryOp .Mult) (rI CMul λi j=>.int (i*j)):=aq λ_ _ _ _ _ _ _ a q=>mul_int q a.ok
theorem Ma:OpR X (binaryOp .FloorDiv) (rI Wn λi j=>.int (i / j)):=aq λi j _ _ _ _ _ a q=>by
 have h1:=a.1;have h2:=a.2;exact floordiv_int (by omega) (by grind) (.inl (PyProof.noPylong_small (by omega)))
theorem D5:OpR X (binaryOp .Mod) (rI (λ_ j=>0<j) λi j=>.int (i % j)):=aq λi j _ _ _ _ _ a q=>mod_int' (by omega) (by rw [Int.fmod_eq_emod_of_nonneg i (by omega)]; exact q)
theorem Eo:OpR X (binaryOp .Pow) (rI Ik λi j=>.int (i ^ j.toNat)):=aq λ_ _ _ _ _ _ _ a q=>pow_int_small a.1 a.2.1 a.2.2 q
theorem cK{f:Cn->Sem Cn}{g:Int->Int}
  (rule:∀(i:Int) (t:Tok) (s:FM) (Q:Cn->FM->Prop) (E:Cn->FM->Prop),Q (.int (g i) s.toks) { s with toks:=s.toks+1 }->wpAny (model X.prog X.w) X.A (f (.int i t)) Q E s) :
  bp X f (rU λi=>.int (g i)):=by
 intro zG s σ H x v Q I rx h;obtain⟨i,rfl,q⟩:=h;obtain⟨t,rfl⟩:=rx;exact rule i t s _ _ ⟨.int _,H,I.tok _,⟨_,rfl⟩,q⟩
theorem Xo:bp X (unaryOp .USub) (rU λi=>.int (-i)):=cK λ_ _ _ _ _ q=>neg_int q
end
def Zf:V->V->Bool
 | .non,.non=>true | .non,.int _=>true | .int _,.non=>true | .non,.bl _=>true | .bl _,.non=>true | .non,.str _=>true | .str _,.non=>true
 | .int _,.int _=>true | .bl _,.bl _=>true | .str _,.str _=>true | .byt _,.byt _=>true
 | .int _,.str _=>true | .str _,.int _=>true | .bl _,.str _=>true | .str _,.bl _=>true
 | _,_=>false
def b_:R2:=λx y H Q=>Zf x y=true/\Q (.bl (decide (x=y))) H
def b7:R2:=λx y H Q=>Zf x y=true/\Q (.bl (!decide (x=y))) H
theorem JC{i j:Int}:decide (V.int i=V.int j)=(i==j):=by
 rw [e_];simp
theorem NB{i j:Bool}:decide (V.bl i=V.bl j)=(i==j):=by
 rw [e_];simp
theorem JB{i j:Str}:decide (V.str i=V.str j)=(i==j):=by
 rw [e_];simp
theorem RB{i j:Array UInt8}:decide (V.byt i=V.byt j)=(i.toList==j.toList):=by
 rw [e_]
 simp_all
section
variable {X:Cx}{a b c:Expr}{ta tb tc:TE}{pos:Pos}
theorem A7{zG:List (Ch×Obj)}{σ:St}{H:Hp}{s:FM}{Q:VK}{k k':Bool}(I:Inv X zG σ H s)(q:Q (.bl k) H)(e:k=k'):EP X zG σ Q (.bool k') s:=by
 subst e;exact⟨.bl k,H,I,rfl,q⟩
theorem CB:OpR X (compareOp .Eq) b_:=by
 intro zG s σ H x y v u Q I rx ry h;obtain⟨a,q⟩:=h;cases x with
 | non =>
  cases rx;cases y with
  | non=>cases ry; exact PySem.EqNone.eq_none_none (A7 I q (by simp))
  | bl j=>cases ry; exact PySem.EqNone.eq_none_bool (A7 I q (by simp))
  | int j=>obtain⟨t',rfl⟩:=ry; exact PySem.EqNone.eq_none_int (A7 I q (by simp))
  | str j=>obtain⟨t',rfl⟩:=ry; exact PySem.EqNone.eq_none_str (A7 I q (by simp))
  | _=>exact absurd (show false=true from a) c8
 | bl i =>
  cases rx;cases y with
  | non=>cases ry; exact PySem.EqNone.eq_bool_none (A7 I q (by simp))
  | bl j=>cases ry; exact eq_bool (A7 I q NB)
  | str j=>obtain⟨t',rfl⟩:=ry; exact PySem.EqMixed.eq_bool_str (A7 I q (by simp))
  | _=>exact absurd (show false=true from a) c8
 | int i =>
  obtain⟨t,rfl⟩:=rx;cases y with
  | non=>cases ry; exact PySem.EqNone.eq_int_none (A7 I q (by simp))
  | int j=>obtain⟨t',rfl⟩:=ry; exact eq_int (A7 I q JC)
  | str j=>obtain⟨t',rfl⟩:=ry; exact PySem.EqMixed.eq_int_str (A7 I q (by simp))
  | _=>exact absurd (show false=true from a) c8
 | str i =>
  obtain⟨t,rfl⟩:=rx;cases y with
  | non=>cases ry; exact PySem.EqNone.eq_str_none (A7 I q (by simp))
  | bl j=>cases ry; exact PySem.EqMixed.eq_str_bool (A7 I q (by simp))
  | int j=>obtain⟨t',rfl⟩:=ry; exact PySem.EqMixed.eq_str_int (A7 I q (by simp))
  | str j=>obtain⟨t',rfl⟩:=ry; exact eq_str (A7 I q JB)
  | _=>exact absurd (show false=true from a) c8
 | byt i =>
  obtain⟨t,rfl⟩:=rx;cases y with
  | byt j=>obtain⟨t',rfl⟩:=ry; exact PySem.W.eq_bytes (A7 I q RB)
  | _=>exact absurd (show false=true from a) c8
 | _=>cases y <;> exact absurd (show false=true from a) c8
theorem F7:OpR X (compareOp .NotEq) b7:=by
 intro zG s σ H x y v u Q I rx ry h;obtain⟨a,q⟩:=h;cases x with
 | non =>
  cases rx;cases y with
  | non=>cases ry; exact PySem.EqNone.ne_none_none (A7 I q (by simp))
  | bl j=>cases ry; exact PySem.EqNone.ne_none_bool (A7 I q (by simp))
  | int j=>obtain⟨t',rfl⟩:=ry; exact PySem.EqNone.ne_none_int (A7 I q (by simp))
  | str j=>obtain⟨t',rfl⟩:=ry; exact PySem.EqNone.ne_none_str (A7 I q (by simp))
  | _=>exact absurd (show false=true from a) c8
 | bl i =>
  cases rx;cases y with
  | non=>cases ry; exact PySem.EqNone.ne_bool_none (A7 I q (by simp))
  | bl j=>cases ry; exact ne_bool (A7 I q (congrArg not NB))
  | str j=>obtain⟨t',rfl⟩:=ry; exact PySem.EqMixed.ne_bool_str (A7 I q (by simp))
  | _=>exact absurd (show false=true from a) c8
 | int i =>
  obtain⟨t,rfl⟩:=rx;cases y with
  | non=>cases ry; exact PySem.EqNone.ne_int_none (A7 I q (by simp))
  | int j=>obtain⟨t',rfl⟩:=ry; exact ne_int (A7 I q (congrArg not JC))
  | str j=>obtain⟨t',rfl⟩:=ry; exact PySem.EqMixed.ne_int_str (A7 I q (by simp))
  | _=>exact absurd (show false=true from a) c8
 | str i =>
  obtain⟨t,rfl⟩:=rx;cases y with
  | non=>cases ry; exact PySem.EqNone.ne_str_none (A7 I q (by simp))
  | bl j=>cases ry; exact PySem.EqMixed.ne_str_bool (A7 I q (by simp))
  | int j=>obtain⟨t',rfl⟩:=ry; exact PySem.EqMixed.ne_str_int (A7 I q (by simp))
  | str j=>obtain⟨t',rfl⟩:=ry; exact ne_str (A7 I q (congrArg not JB))
  | _=>exact absurd (show false=true from a) c8
 | byt i =>
  obtain⟨t,rfl⟩:=rx;cases y with
  | byt j=>obtain⟨t',rfl⟩:=ry; exact PySem.W.ne_bytes (A7 I q (congrArg not RB))
  | _=>exact absurd (show false=true from a) c8
 | _=>cases y <;> exact absurd (show false=true from a) c8
theorem op_lt:OpR X (compareOp .Lt) (IY λi j=>.bl (decide (i<j))):=Vy λ_ _ _ _ _ _ _ q=>jZ q
theorem op_le:OpR X (compareOp .LtE) (IY λi j=>.bl (decide (i<=j))):=Vy λ_ _ _ _ _ _ _ q=>le_int q
theorem XD:OpR X (compareOp .Gt) (IY λi j=>.bl (decide (j<i))):=Vy λ_ _ _ _ _ _ _ q=>gt_int q
theorem Z2:OpR X (compareOp .GtE) (IY λi j=>.bl (decide (j<=i))):=Vy λ_ _ _ _ _ _ _ q=>ge_int q
theorem R9:OpR X (compareOp .Lt) (λx y H Q=>∃i j,x=.str i/\y=.str j/\Q (.bl (decide (i.cps.toList<j.cps.toList))) H):=by
 intro zG s σ H x y v u Q I rx ry h;obtain⟨i,j,rfl,rfl,q⟩:=h;obtain⟨t,rfl⟩:=rx;obtain⟨t',rfl⟩:=ry;exact lt_str (A7 I q rfl)
theorem SA:OpR X (compareOp .In) (λx y H Q=>∃i j,x=.str i/\y=.str j/\Q (.bl (!(d6 j i 0 j.length 1).isEmpty)) H):=by
 intro zG s σ H x y v u Q I rx ry h;obtain⟨i,j,rfl,rfl,q⟩:=h;obtain⟨t,rfl⟩:=rx;obtain⟨t',rfl⟩:=ry;exact in_str (A7 I q rfl)
theorem Jk:OpR X (compareOp .Is) (λx y H Q=>y=.non/\Q (.bl (decide (x=.non))) H):=by
 intro zG s σ H x y v u Q I rx ry h;obtain⟨rfl,q⟩:=h;cases ry;refine is_none_gen (A7 I q ?_)
 cases x <;> first
  | omega
  | (obtain⟨t,rfl⟩:=rx; rfl)
theorem Qu:OpR X (compareOp .IsNot) (λx y H Q=>y=.non/\Q (.bl (!decide (x=.non))) H):=by
 intro zG s σ H x y v u Q I rx ry h;obtain⟨rfl,q⟩:=h;cases ry;refine isnot_none_gen (A7 I q ?_)
 cases x <;> first
  | omega
  | (obtain⟨t,rfl⟩:=rx; rfl)
theorem OpR.or{f:Cn->Cn->Sem Cn}{r r':R2}(h:OpR X f r)(h':OpR X f r'):OpR X f (λx y H Q=>r x y H Q\/r' x y H Q):=by
 intro zG s σ H x y v u Q I rx ry q
 rcases q with q | q
 ·exact h _ s σ H x y v u Q I rx ry q
 ·exact h' _ s σ H x y v u Q I rx ry q
theorem Ag(b:c_){op:CmpOp}(h:op≠.In:=by decide)(h2:op≠.NotIn:=by decide):behindInMarks op b=false:=by
 have e1:(op==CmpOp.In)=false:=by grind
 have e2:(op==CmpOp.NotIn)=false:=by grind
 cases b <;> simp [behindInMarks,e1,e2]
theorem Vu{op:CmpOp}{r:R2}(ho:OpR X (compareOp op) r)(ha:PE X a ta)(c:PE X b tb)(hm:behindInMarks op b=false):PE X (.Compare a [op] [b] pos) (EK r ta tb):=λzG s σ H Q I h=>wpAny_Compare1 (Yx ha c I h λv u s2 x y H2 I2 rx ry q=>ho _ s2 σ H2 x y v u Q I2 rx ry q) hm
def Qb(t:TE):TT:=λσ H Q=>t σ H λx H'=>∃k,x=.bl k/\Q k H'
theorem Gv{op:CmpOp}{r:R2}(ho:OpR X (compareOp op) r)(ha:PE X a ta)(d:PE X b tb)(hm:behindInMarks op b=false):PT X (.Compare a [op] [b] pos) (Qb (EK r ta tb)):=by
 intro zG s σ H Q I h
 refine wpAny_isTrue_Compare1 (thn (ha _ s σ H _ I h) λv s1 ⟨x,H1,I1,r1,q1⟩=>thn (d _ s1 σ H1 _ I1 q1) λu s2 ⟨y,H2,I2,r2,q2⟩ =>
  thn (ho _ s2 σ H2 x y v u _ I2 r1 r2 q2) λc s3 ⟨z,H3,I3,r3,k,e,q3⟩=>?_) hm
 subst e;cases r3;exact e7 ⟨H3,I3,q3⟩
def PR(r r':R2)(ta tb tc:TE):TE:=λσ H Q=>ta σ H λx H1=>tb σ H1 λy H2=>r x y H2 λz H3=>∃k,z=.bl k /\
 (if k=true then tc σ H3 λw' H4=>r' y w' H4 Q else Q (.bl false) H3)
theorem UR{op f:CmpOp}{r r':R2}(ho:OpR X (compareOp op) r)(g:OpR X (compareOp f) r')(ha:PE X a ta)(i:PE X b tb)(j:PE X c tc)
  (hm:lastMarks [op,f] [b,c]=false:=by with_unfolding_all rfl):PE X (.Compare a [op,f] [b,c] pos) (PR r r' ta tb tc):=by
 intro zG s σ H Q I h
 refine Compare_chain (thn (ha _ s σ H _ I h) λv s1 ⟨x,H1,I1,r1,q1⟩=>chain_link (thn (i _ s1 σ H1 _ I1 q1) λu s2 ⟨y,H2,I2,r2,q2⟩ =>
  thn (ho _ s2 σ H2 x y v u _ I2 r1 r2 q2) λd s3 ⟨z,H3,I3,r3,k,e,q3⟩=>?_)) hm
 subst e;cases r3;refine e7 ?_;cases k with
 | false=>exact ite_ff ⟨.bl _,H3,I3,rfl,q3⟩
 | true=>exact ite_tt (chain_last (thn (j _ s3 σ H3 _ I3 q3) λw' s4 ⟨z',H4,I4,r4,q4⟩=>g _ s4 σ H4 y z' u w' Q I4 r2 r4 q4))
theorem UC{op f:CmpOp}{r r':R2}(ho:OpR X (compareOp op) r)(g:OpR X (compareOp f) r')(ha:PE X a ta)(i:PE X b tb)(j:PE X c tc)
  (hm:lastMarks [op,f] [b,c]=false:=by with_unfolding_all rfl):PT X (.Compare a [op,f] [b,c] pos) (Qb (PR r r' ta tb tc)):=by
 intro zG s σ H Q I h
 refine isTrue_chain (thn (ha _ s σ H _ I h) λv s1 ⟨x,H1,I1,r1,q1⟩=>test_link (thn (i _ s1 σ H1 _ I1 q1) λu s2 ⟨y,H2,I2,r2,q2⟩ =>
  thn (ho _ s2 σ H2 x y v u _ I2 r1 r2 q2) λd s3 ⟨z,H3,I3,r3,k,e,q3⟩=>?_)) hm
 subst e;cases r3;refine e7 ?_;cases k with
 | false =>
  obtain⟨k',e',q'⟩:=q3;cases e';exact ite_ff ⟨H3,I3,q'⟩
 | true =>
  refine ite_tt (test_last (thn (j _ s3 σ H3 _ I3 q3) λw' s4 ⟨z',H4,I4,r4,q4⟩=>thn (g _ s4 σ H4 y z' u w' _ I4 r2 r4 q4) λd' s5 ⟨z2,H5,I5,r5,k2,e2,q5⟩=>?_));subst e2;cases r5;exact e7 ⟨H5,I5,q5⟩
theorem Jx:(sizeLine:Nat)<2 ^ 63:=by decide
theorem Pw:OpR X (binaryOp .Add) (λx y H Q=>∃i j,x=.str i/\y=.str j/\i.length+j.length<=sizeLine/\Q (.str (i++j)) H):=by
 intro zG s σ H x y v u Q I rx ry h;obtain⟨i,j,rfl,rfl,a,q⟩:=h;obtain⟨t,rfl⟩:=rx;obtain⟨t',rfl⟩:=ry;exact add_str (λt' tk=>⟨.str _,H,I.tok _,⟨_,rfl⟩,q⟩) a
theorem vals1{x:V}{us:List Cn}(r:Vals [x] us):∃u,us=[u]/\RelV x u:=by
 cases r with
 | cons r1 r2=>cases r2; grind
theorem vals2{x y:V}{us:List Cn}(r:Vals [x,y] us):∃u w',us=[u,w']/\RelV x u/\RelV y w':=by
 cases r with
 | cons r1 r2 =>
  cases r2 with
  | cons r3 r4=>cases r4; exact⟨_,_,rfl,r1,r3⟩
theorem NJ:C2 X (.type "str") (λxs H Q=>∃i,xs=[.int i]/\i.natAbs.log2<1920/\Q (.str (toString i)) H):=by
 intro zG s σ H xs us Q I r h;obtain⟨i,rfl,a,q⟩:=h;obtain⟨u,rfl,t,rfl⟩:=vals1 r;exact PySem.P.str_of_int a ⟨.str _,H,I.tok _,⟨_,rfl⟩,q⟩
def Y9(K:Frag)(x:V)(H:Hp)(n:Nat):Prop :=
 match x with
 | .str y=>y.length<=sizeLine/\n=y.length
 | .byt y=>y.size<=sizeLine/\n=y.size
 | .ref p=>(∃xs,SqL K H p xs/\n=xs.length)\/∃xs,SqT K H p xs/\n=xs.length
 | _=>False
theorem As:C2 X (.builtin "len") (λxs H Q=>∃x n,xs=[x]/\Y9 X.K x H n/\Q (.int n) H):=by
 intro zG s σ H xs us Q I r h;obtain⟨x,n,rfl,e,q⟩:=h;obtain⟨u,rfl,rx⟩:=vals1 r;have f:=Jx;have g:sizeLine=16777216:=di;cases x with
 | str y =>
  obtain⟨t,rfl⟩:=rx;obtain⟨hy,e'⟩:y.length<=sizeLine/\n=y.length:=e;subst e';exact len_str (by omega) ⟨.int _,H,I.tok _,⟨_,rfl⟩,q⟩
 | byt y =>
  obtain⟨t,rfl⟩:=rx;obtain⟨hy,e'⟩:y.size<=sizeLine/\n=y.size:=e;subst e';exact PySem.W.len_bytes (by omega) ⟨.int _,H,I.tok _,⟨_,rfl⟩,q⟩
 | ref p =>
  cases rx;have e':(∃xs,SqL X.K H p xs/\n=xs.length)\/∃xs,SqT X.K H p xs/\n=xs.length:=e
  rcases e' with ⟨xs,b,e'⟩ | ⟨xs,b,e'⟩
  ·subst e'
   obtain⟨c,r',pl,d⟩:=I.list b;have a:=r'.length;exact Calls.call_len_list pl.isList (by simp only [c9]; omega) ⟨.int xs.length,H,I.tok _,⟨_,by simp only [c9]; rw [a]⟩,q⟩
  ·subst e'
   obtain⟨c,r',pl,d⟩:=I.tuple b;have a:=r'.length;exact len_tuple pl (by simp only [c9]; omega) ⟨.int xs.length,H,I.tok _,⟨_,by simp only [c9]; rw [a]⟩,q⟩
 | _=>exact(show False from e).elim
end
structure ObjM (h:cw) (x dx C:Ch) (mA:Str->Option Cn):Prop where
 obj:h.get? x=some (PySem.W.instObj C dx)
 ns:h.Ns1 dx mA
 ne:dx≠x
theorem LZ{h:cw}{dx:Ch}{mA:Str->Option Cn}(n:h.Ns1 dx mA):∃od,h.get? dx=some od/\∀name,PySem.W.lookIn name od=some (mA name):=by
 obtain⟨o,es,ep,ho,hd,c,_,hm⟩:=n;refine⟨o,ho,λname=>?_⟩;have e:=hm name;unfold nsFind findBy at e;unfold PySem.W.lookIn;rw [hd]
 dsimp only
 split
 ·simp_all
 ·have a:es.toList.any (·.refKey)=false:=by
   rw [List.any_eq_false];intro y hy;obtain⟨z,t,b⟩:=c y (jk.mp hy);simp [DictEntry.refKey,b]
  grind
theorem ObjM.look{h:cw}{x dx C:Ch}{mA:Str->Option Cn}(I:ObjM h x dx C mA):∃od,PySem.W.InstAt h x (PySem.W.instObj C dx) C (some od)/\∀name,PySem.W.lookIn name od=some (mA name) :=
 let ⟨od,ho,a⟩:=LZ I.ns
 ⟨od,⟨I.obj,rfl,rfl,ho⟩,a⟩
def EM(f:Str)(v:V):List (Str×V)->List (Str×V)
 | []=>[(f,v)]
 | (g,x)::r=>if g=f then (g,v)::r else (g,x)::EM f v r
theorem Hx(f g:Str)(v:V):∀fs:List (Str×V),(EM f v fs).lookup g=if g=f then some v else fs.lookup g
 | []=>by
  show fR g [(f,v)]=_
  by_cases h:g=f
  ·simp_all
  simp_all
 | (k,x)::r=>by
  have ih:=Hx f g v r;rw [show EM f v ((k,x)::r)=(if k=f then (k,v)::r else (k,x)::EM f v r) from rfl]
  by_cases a:k=f
  ·rw [if_pos a]
   by_cases h:g=k
   ·simp_all
   ·have b:(g==k)=false:=beq_eq_false_iff_ne.mpr h
    simp only [fR,b,if_neg (λe:g=f=>h (e.trans a.symm))]
  ·rw [if_neg a]
   by_cases h:g=k
   ·simp_all
   ·have b:(g==k)=false:=beq_eq_false_iff_ne.mpr h
    simp only [fR,b];exact ih
theorem Hg(f:Str)(v:V):∀fs:List (Str×V),f∈(EM f v fs).map (·.1)/\∀g,g∈fs.map (·.1)->g∈(EM f v fs).map (·.1)
 | []=>⟨by simp [EM],λg h=>by simp at h⟩
 | (k,x)::r=>by
  obtain⟨i1,i2⟩:=Hg f v r;rw [show EM f v _=(if k=f then (k,v)::r else (k,x)::EM f v r) from rfl]
  grind
theorem Hy(f:Str)(v:V):∀fs:List (Str×V),(EM f v fs).length<=fs.length+1
 | []=>by simp [EM]
 | (k,x)::r=>by
  have ih:=Hy f v r;rw [show EM f v _=(if k=f then (k,v)::r else (k,x)::EM f v r) from rfl]
  grind
theorem RelO.some_of{v:V}{o:Option Cn}(r:RelO (some v) o):∃u,o=some u/\RelV v u:=by
 cases o with
 | none=>exact(r).elim
 | some u=>exact⟨u,rfl,r⟩
theorem Sb{v:V}{u:Cn}(r:RelV v u):PySem.W.handedIn u=true:=by
 cases v with
 | non=>cases (r); rfl
 | bl b=>cases (r); rfl
 | int i=>obtain⟨t,e⟩:=(r); cases e; rfl
 | str x=>obtain⟨t,e⟩:=(r); cases e; rfl
 | byt b=>obtain⟨t,e⟩:=(r); cases e; rfl
 | flt b=>obtain⟨t,e⟩:=(r); cases e; rfl
 | ref a=>cases (r); rfl
 | ty n=>cases (r); rfl
section
variable {P:Program}{w:World}{H:Hp}{h:Heap}{a C dx:Addr}{fs:List (Str×V)}
theorem WA(b:HOk P w H h)(e:H a=some (.ins C dx fs)):∃mA,ObjM h a dx C mA/\(∀f,RelO (fs.lookup f) (mA f))/\PySem.Within mA (fs.map (·.1))/\fs.length<=1000/\H dx=some (.own a):=by
 obtain⟨d,z,ne,ob,mA,n,r,q⟩:=(b a _ e);exact⟨mA,⟨ob,n,ne⟩,r,q,z,d⟩
end
structure Cls (K:Frag) (C:Ch):Prop where
 pg:PySem.W.plainGet K C Str.empty=true
 hd:PySem.W.hasDictIn K C=true
 po:PySem.W.plainOver K C=true
 sa:PySem.W.findIn K (.ref C) "__setattr__"=some (some (.builtin "object.__setattr__"))
theorem Cls.get{K:Frag}{C:Ch}(c:Cls K C)(f:Str):PySem.W.plainGet K C f=true:=c.pg
def Gg(K:Frag)(C:Ch)(f:Str):Prop:=PySem.W.findIn K (.ref C) f=some none
structure cf (K:Frag) (C:Ch) (f:Str) (v:V) (u:Cn):Prop where
 at_:PySem.W.findIn K (.ref C) f=some (some u)
 rel:RelV v u
 get:PySem.W.specialIn K u "__get__"=some none
 cp:PySem.W.copiedNames.contains f=false
structure cZ (K:Frag) (C:Ch) (m:Str) (f:Ch):Prop where
 at_:PySem.W.findIn K (.ref C) m=some (some (.ref f))
 fn:PySem.W.isFn K (.ref f)=true
 kp:keepIn K (.ref f)=true
section
variable {s:Shared}{f:Str}{A:Around}{E:Value->Shared->Prop}
theorem Wg{prog:cz}{w:dC}{env:Env}{e:c_}{f:Str}{pos:Pos}{s:FM}{Q:Cn->FM->Prop}(a:attributeBase e f env (eval e env)=eval e env)
  (h:wpAny (model prog w) A (eval e env) (λo s₁=>wpAny (model prog w) A (getAttr o f true) Q E s₁) E s):wpAny (model prog w) A (eval (.Attribute e f pos) env) Q E s :=
 Attribute_any_ h (by rw [arm_eval_Attribute,a])
end
section
variable {X:Cx}{zG:List (Addr×Obj)}{σ:St}{H:Hp}{s:Shared}{A:Around}{E:Value->Shared->Prop}{Q:Value->Shared->Prop}{c:Value}{b:Bool}
inductive F4 (K:Frag) (H:Hp):V->Cn->Prop where
 | non:F4 K H .non (.type "NoneType")
 | bl (x:Bool):F4 K H (.bl x) (.type "bool")
 | int (i:Int):F4 K H (.int i) (.type "int")
 | str (x:Str):F4 K H (.str x) (.type "str")
 | flt (x:UInt64):F4 K H (.flt x) (.type "float")
 | lst {a:Ch} {xs:List V} (e:H a=some (.lst xs)):F4 K H (.ref a) (.type "list")
 | frz {a:Ch} {o:Obj} {xs:List V} (e:H a=some (.frz o (.lst xs))):F4 K H (.ref a) (.type "list")
 | tup {a:Ch} {xs:List V} (e:H a=some (.tup xs)):F4 K H (.ref a) (.type "tuple")
 | dF {a:Ch} {o:Obj} {kvs:List (Key×V)} (e:H a=some (.frz o (.dK kvs))):F4 K H (.ref a) (.type "dict")
 | dK {a:Ch} {kvs:List (Key×V)} (e:H a=some (.dK kvs)):F4 K H (.ref a) (.type "dict")
 | dT {a:Ch} {kvs:List (List Key×V)} (e:H a=some (.dT kvs)):F4 K H (.ref a) (.type "dict")
 | ins {a C dx:Ch} {fs:List (Str×V)} (e:H a=some (.ins C dx fs)) (cl:Cls K C) (ha:PySem.W.findIn K (.ref C) "__class__"=some (some (.builtin "object.__class__")))
   (hn:PySem.W.specialIn K (.builtin "object.__class__") "__get__"=some (some (.builtin "getset_descriptor.__get__"))) (htk:PySem.W.takesIn K (.builtin "object.__class__")=some true)
   (hm:PySem.W.mroIn K C (.type "object")=some true):F4 K H (.ref a) (.ref C)
theorem SW{x:V}{u t:Cn}(I:Inv X zG σ H s)(rx:RelV x u)(ty:F4 X.K H x t)(e:PySem.W.kitOne X.K t c=some b)(h:∀tk,Q (.bool b) { s with toks:=tk }) :
  wpAny (model X.prog X.w) A (call (.builtin "isinstance") [u,c]) Q E s:=by
 cases ty with
 | non=>cases (show u=dO from rx); exact PySem.W.kia_one PySem.W.kitx_none I.kIn eP e (λz=>nomatch z) h
 | bl y=>cases (show u=iD y from rx); exact PySem.W.kia_one PySem.W.kitx_bool I.kIn eP e (λz=>nomatch z) h
 | int i=>obtain⟨t,q⟩:=(show ∃t,u=jr i t from rx); cases q; exact PySem.W.kia_one PySem.W.kitx_int I.kIn eP e (λz=>nomatch z) h
 | str y=>obtain⟨t,q⟩:=(show ∃t,u=jt y t from rx); cases q; exact PySem.W.kia_one PySem.W.kitx_str I.kIn eP e (λz=>nomatch z) h
 | flt y=>obtain⟨t,q⟩:=(show ∃t,u=Value.float y t from rx); cases q; exact PySem.W.kia_one PySem.W.kitx_float I.kIn eP e (λz=>nomatch z) h
 | @lst a xs ea =>
  cases (show u=cm a from rx);obtain⟨_,_,n,_,h1⟩:=(show ObjOk X.prog X.w H s.heap a (.lst xs) from I.hok a _ ea);exact PySem.W.kia_one PySem.W.kitx_list I.kIn ⟨_,h1,rfl⟩ e (λz=>nomatch z) h
 | @frz a ob xs ea =>
  cases (show u=cm a from rx);obtain⟨_,_,_,n,_,h1⟩:=(show ObjOk X.prog X.w H s.heap a (.frz ob (.lst xs)) from I.hok a _ ea);exact PySem.W.kia_one PySem.W.kitx_list I.kIn ⟨_,h1,rfl⟩ e (λz=>nomatch z) h
 | @tup a xs ea =>
  cases (show u=cm a from rx);obtain⟨_,_,_,p⟩:=(show ObjOk X.prog X.w H s.heap a (.tup xs) from I.hok a _ ea);obtain⟨o,h1,h2,_⟩:=p;exact PySem.W.kia_one PySem.W.kitx_tuple I.kIn ⟨o,h1,h2⟩ e (λz=>nomatch z) h
 | @dF a ob d ea =>
  cases (show u=cm a from rx);obtain⟨_,_,_,vs,_,p⟩:=(show ObjOk X.prog X.w H s.heap a (.frz ob (.dK d)) from I.hok a _ ea);obtain⟨o,es,ep,h1,h2,_⟩:=p;exact PySem.W.kia_one PySem.W.kitx_dict I.kIn ⟨o,h1,h2.1⟩ e (λz=>nomatch z) h
 | @dK a d ea =>
  cases (show u=cm a from rx);obtain⟨_,_,vs,_,p⟩:=(show ObjOk X.prog X.w H s.heap a (.dK d) from I.hok a _ ea);obtain⟨o,es,ep,h1,h2,_⟩:=p;exact PySem.W.kia_one PySem.W.kitx_dict I.kIn ⟨o,h1,h2.1⟩ e (λz=>nomatch z) h
 | @dT a d ea =>
  cases (show u=cm a from rx);obtain⟨_,_,xs,_,o,es,ep,h1,h2,_⟩:=(show ObjOk X.prog X.w H s.heap a (.dT d) from I.hok a _ ea);exact PySem.W.kia_one PySem.W.kitx_dict I.kIn ⟨o,h1,h2.1⟩ e (λz=>nomatch z) h
 | @ins a C dx fs ea cl ha hn f hm =>
  cases (show u=cm a from rx);obtain⟨mA,O,_⟩:=WA I.hok ea;obtain⟨od,J,_⟩:=O.look;exact PySem.W.kia_one (PySem.W.kitx_own (cl.get _) cl.hd ha hn f hm) I.kIn J e (λz=>nomatch z) h
end
structure Room (k:Nat) (A:dL):Prop where
 hd:A.handled=none
 dp:A.depth+3*k+5<recursionLimit
 un:A.units+16*k+200<cLine
 gd:A.guards=some []
theorem Room.mono{j k:Nat}{A:dL}(r:Room k A)(h:j<=k):Room j A:=⟨r.hd,by have:=r.dp; omega,by have:=r.un; omega,by first | exact r.gd | grind | grind⟩
theorem Room.deeper{k:Nat}{A:dL}(r:Room (k+1) A)(env:Env):Room k (A.deeper env) :=
 ⟨r.hd,by have:=r.dp; show A.depth+1+3*k+5<_; omega,by have:=r.un; show A.units+3+16*k+200<_; omega,by first | exact r.gd | omega | grind⟩
theorem Room.in1{k:Nat}{A:dL}(r:Room (k+1) A):Room k A.in1 :=
 ⟨r.hd,by have:=r.dp; grind,by have:=r.un; grind,by first | exact r.gd | omega | grind⟩
theorem P7{A:dL}{C:Ch}{us:List Cn}{kw:List (Str×Cn)}:(A.under (.builtin "type.__call__" ⟨.ref C::us,kw⟩)).depth=A.depth+1:=by
 first | rfl | omega
theorem P6{A:dL}{C:Ch}{us:List Cn}{kw:List (Str×Cn)}:(A.under (.builtin "type.__call__" ⟨.ref C::us,kw⟩)).units=A.units+1:=by
 first | rfl | omega
theorem Room.make{k:Nat}{A:dL}(r:Room (k+1) A)(C:Ch)(us:List Cn)(kw:List (Str×Cn)):Room k (A.under (.builtin "type.__call__" ⟨.ref C::us,kw⟩)) :=
 ⟨r.hd,by have:=r.dp; rw [P7]; omega,by have:=r.un; rw [P6]; omega,by first | exact r.gd | omega | grind⟩
theorem Room.depth{k:Nat}{A:dL}(r:Room k A):A.depth<recursionLimit:=by have:=r.dp; omega
theorem Room.units{k:Nat}{A:dL}(r:Room k A):A.units+64<cLine:=by have:=r.un; omega
theorem Room.units0{k:Nat}{A:dL}(r:Room k A):A.units<cLine:=by have:=r.un; omega
def Ve:TA:=λ_ H Q=>Q [] H
def Qc(ta:TE)(tr:TA):TA:=λσ H Q=>ta σ H λx H1=>tr σ H1 λxs H2=>Q (x::xs) H2
section
variable {X:Cx}{e:Expr}{es:List Expr}{te:TE}{t:TA}{pos:Pos}
theorem B0:PA X [] Ve:=λ_ _ _ _ H Q I h=>gy ⟨[],H,I,.nil,h⟩
theorem BB(ha:PE X e te)(hr:PA X es t)(a:starEach (e::es) X.env=(false,eval e X.env)::starEach es X.env:=by rfl):PA X (e::es) (Qc te t):=by
 intro pos zG s σ H Q I h;rw [a];exact gC (thn (ha _ s σ H _ I h) λu s1 ⟨x,H1,I1,r1,q1⟩=>thn (hr _ _ s1 σ H1 _ I1 q1) λus s2 ⟨xs,H2,I2,r2,q2⟩=>⟨_,H2,I2,.cons r1 r2,q2⟩)
def bJ(t:TA):TE:=λσ H Q=>t σ H λxs H1=>xs.length<=sizeLine/\∀p,H1 p=none->Q (.ref p) (A4 H1 p (.tup xs))
def bN(t:TA):TE:=λσ H Q=>t σ H λxs H1=>xs.length<=sizeLine/\∀p,H1 p=none->Q (.ref p) (A4 H1 p (.lst xs))
theorem Pt{x1}(h:PA X es t):PE X (.Tuple es x1 pos) (bJ t):=by
 intro zG s σ H Q I hq;refine wpAny_Tuple_spliced (thn (h _ _ s σ H _ I hq) λus s1 ⟨xs,H1,I1,r,z,q⟩=>⟨by rw [← r.length]; exact z,?_⟩);refine⟨.ref _,_,I1.laid (λb u e=>Ev _ e) (On _) ?_,rfl,q _ (I1.hok.fresh (On _))⟩;exact⟨z,us,r,IsTupN.new _ _⟩
theorem Pu(h:PA X es t):PE X (.List es pos) (bN t):=by
 intro zG s σ H Q I hq;refine wpAny_List_spliced (thn (h _ _ s σ H _ I hq) λus s1 ⟨xs,H1,I1,r,z,q⟩=>⟨by rw [← r.length]; exact z,?_⟩);refine⟨.ref _,_,I1.laid (λb u e=>Ev _ e) (On _) ?_,rfl,q _ (I1.hok.fresh (On _))⟩;exact⟨z,us,0,r,cj _ rfl⟩
end
abbrev Sp:=List V->Hp->VK->XK->Prop
abbrev S2:=List Env->Hp->FM->XK->Cn->FM->Prop
structure Env0 (P:cz) (w:dC) (K:Frag) (mg:Str->Option Cn) (base:cw) (A:dL) (outer:List Env) (s:FM) (H:Hp):Prop where
 frames:A.frames=some outer
 mod:Mod K mg base
 bs:∀b o,base.get? b=some o->s.heap.get? b=some o/\H b=none
 bsz:base.objs.size<=s.heap.objs.size
 funs:s.heap.FunFrames base outer
 frf:∀b∈Lj outer,H b=none
 hok:HOk P w H s.heap
 bare:gK s.gens
def CE(outer:List Env)(P:cz)(w:dC)(H:Hp)(s:FM)(Q:VK)(u:Cn)(s':FM):Prop :=
 ∃v H',s'.os=s.os/\gK s'.gens/\Un (Lj outer) [] H H' s.heap s'.heap/\HOk P w H' s'.heap/\RelV v u/\Q v H'
def CR(CX:S2)(outer:List Env)(P:cz)(w:dC)(H:Hp)(s:FM)(Q:VK)(E:XK)(r:Result)(s':FM):Prop :=
 match r with
 | .ok (.ret u)=>CE outer P w H s Q u s'
 | .ok _=>False
 | .error e=>CX outer H s E e s'
structure BD (P:cz) (w:dC) (K:Frag) (mg:Str->Option Cn) (base:cw) (CX:S2) (k:Nat) (f:Ch) (fd:dU) (ps:List Str) (sp:Sp):Prop where
 len:∀vs H Q E,sp vs H Q E->vs.length=ps.length
 run:∀(A:dL) (outer:List Env) (s:FM) (H:Hp) (args:Args) (us:List Cn) (vs:List V) (Q:VK) (E:XK),Room k A->Env0 P w K mg base A outer s H->iX s fd args (ps.zip us)->Vals vs us->sp vs H Q E ->
  codeAny (model P w) A (.call (.ref f) args) (CR CX outer P w H s Q E) s
theorem Env0.make{P:cz}{w:dC}{K:Frag}{mg:Str->Option Cn}{base:cw}{A:dL}{outer:List Env}{s:FM}{H:Hp}(e:Env0 P w K mg base A outer s H)(C:Ch)(us:List Cn)(kw:List (Str×Cn)) :
  Env0 P w K mg base (A.under (.builtin "type.__call__" ⟨.ref C::us,kw⟩)) outer s H:=⟨by first | exact e.frames | grind,e.mod,e.bs,e.bsz,e.funs,e.frf,e.hok,e.bare⟩
theorem Env0.in1{P:cz}{w:dC}{K:Frag}{mg:Str->Option Cn}{base:cw}{A:dL}{outer:List Env}{s:FM}{H:Hp}(e:Env0 P w K mg base A outer s H) :
  Env0 P w K mg base A.in1 outer s H:=⟨e.frames,e.mod,e.bs,e.bsz,e.funs,e.frf,e.hok,e.bare⟩
section
variable {X:Cx}{zG:List (Addr×Obj)}{σ:St}{H:Hp}{s s':Shared}
theorem Inv.env0(I:Inv X zG σ H s):Env0 X.prog X.w X.K X.mg X.base X.A X.stack s H :=
 ⟨I.ok.frames,I.ok.mod,I.bs,cx I.ok.bsz I.sz,I.stack,I.stkFree,I.hok,I.bare⟩
theorem Inv.after{Q:VK}{u:Cn}(I:Inv X zG σ H s)(h:CE X.stack X.prog X.w H s Q u s'):EP X zG σ Q u s':=by
 obtain⟨v,H',os,bare,un,a,r,q⟩:=h;obtain⟨hh,g,d,t,c⟩:=s';obtain rfl:c=s.os:=os;exact⟨v,H',I.call un a bare (λb z=>absurd z (by simp)),r,q⟩
end
def Th(sp:Sp)(a:List V)(E:XK)(t:TA):TE:=λσ H Q=>t σ H λvs H1=>sp (vs++a) H1 Q E
def Binds(K:Frag)(fd:dU)(ps:List Str)(ds:List Cn):Prop :=
 ∀(s:FM) (us:List Cn),K.In s.heap->(us++ds).length=ps.length->iX s fd ⟨us,[]⟩ (ps.zip (us++ds))
theorem Binds.all{K:Frag}{fd:dU}{ps:List Str}(h:∀us:List Cn,us.length=ps.length->bindArgs fd ⟨us,[]⟩=pure (ps.zip us)):Binds K fd ps []:=λs us _ a=>by
 rw [dS] at a ⊢;exact .of_eq (h us a)
def Hr(CX:S2)(X:Cx)(E:XK):Prop:=∀(zG:List (Ch×Obj)) (σ:St) (H:Hp) (s:FM) (e:Cn) (s':FM),Inv X zG σ H s->CX X.stack H s E e s'->X.xe e s'
section
variable {X:Cx}{CX:S2}{k:Nat}{f C:Addr}{fd:FuncData}{ps:List Str}{sp:Sp}{dvs:List V}{ds:List Value}{E:XK}{x:Str}{p pos:Pos}{e:Expr}{es:List Expr}{t:TA}
theorem X3{zG:List (Ch×Obj)}{σ:St}{H:Hp}{s:FM}{Q:VK}{us:List Cn}{vs:List V}(F:BD X.prog X.w X.K X.mg X.base CX k f fd ps sp)(hr:Room k X.A)(a:Binds X.K fd ps ds)(hd:Vals dvs ds)(b:Hr CX X E)
  (I:Inv X zG σ H s) (r:Vals vs us) (h:sp (vs++dvs) H Q E):wpAny (model X.prog X.w) X.A (call (.ref f) us) (EP X zG σ Q) X.xe s:=by
 have r2:=r.append hd;refine fj (ft (F.run _ _ s H _ _ _ Q E hr I.env0 (a s us I.kIn (by rw [← r2.length]; exact F.len _ _ _ _ h)) r2 h) λr s' hq=>?_);cases r with
 | error e=>exact b _ σ H s e s' I hq
 | ok fl =>
  cases fl with
  | ret u=>exact I.after hq
  | next=>assumption
  | brk=>assumption
  | cont=>assumption
theorem Qr(F:BD X.prog X.w X.K X.mg X.base CX k f fd ps sp)(hr:Room k X.A)(hg:Gl X x)(hm:X.mg x=some (.ref f))(c:keepIn X.K (.ref f)=true)(d:Binds X.K fd ps ds)(hd:Vals dvs ds)(g:Hr CX X E)
  (ha:PA X (e::es) t) (a:(x==("__debug__":Str))=false:=by decide) (he:starEach (e::es) X.env=(false,eval e X.env)::starEach es X.env:=by rfl) (b:(backTo pos (starEach es X.env)).any (·.1)=false:=by rfl) :
  PE X (.Call (.Name x p) (e::es) [] pos) (Th sp dvs E t):=λzG s σ H Q I h=>eN (Dq I hg hm (PySem.W.callWith_K I.ok.mod.kin c (thn (ha _ _ s σ H _ I h) λus s1 ⟨vs,H1,I1,r,q⟩=>⟨I1.kIn,X3 F hr d hd g I1 r q⟩) he b) a)
structure Mk (K:Frag) (C f:Ch):Prop where
 makes:PySem.W.makesIn K C=true
 init:PySem.W.findIn K (.ref C) "__init__"=some (some (.ref f))
 fn:PySem.W.isFn K (.ref f)=true
 kp:keepIn K (.ref C)=true
end
section
variable {fd:FuncData}{ps ks:List Str}
structure bu (K:Frag) (fd:dU) (ps ks:List Str) (g:List Cn->List Cn->List Cn) (gV:List V->List V->List V):Prop where
 to:∀(s:FM) (us ws:List Cn),K.In s.heap->(g us ws).length=ps.length->iX s fd ⟨us,ks.zip ws⟩ (ps.zip (g us ws))
 rel:∀{vs:List V} {us:List Cn} {zs:List V} {ws:List Cn},Vals vs us->Vals zs ws->Vals (gV vs zs) (g us ws)
end
structure Ai (N P:List Str) (sc:fF):Prop where
 kind:sc.kind=.function
 co:sc.isCoroutine=false
 gen:sc.isGenerator=false
 nd:N.Nodup
 pre:N.take P.length=P
 par:∀x∈P,sc.names.lookup x=some .local\/sc.names.lookup x=some .cell
 nofree:∀y∈sc.names,y.2≠.free
theorem Lu{kindOf:Str->Option fN}{x:Str}:∀{binds:List (Str×Cn)} {m:Str->Option Cn},(∀v,(x,v)∉binds)->bindL kindOf binds m x=m x
 | [],_,_=>rfl
 | (n,v)::r,m,h=>by
  unfold bindL;rw [Lu λw hw=>h w (Re _ hw)]
  split
  ·grind
  ·rfl
theorem Lw{kindOf:Str->Option fN}{x:Str}:∀{binds:List (Str×Cn)} {m:Str->Option Cn},(∀v,(x,v)∉binds)->bindC kindOf binds m x=m x
 | [],_,_=>rfl
 | (n,v)::r,m,h=>by
  unfold bindC;rw [Lw λw hw=>h w (Re _ hw)]
  split
  ·rfl
  grind
theorem Lv{kindOf:Str->Option fN}{x:Str}{v:Cn}:∀{P:List Str} {vs:List Cn} {i:Nat} {m:Str->Option Cn},P.Nodup->P[i]?=some x->vs[i]?=some v->kindOf x=some .local ->
  bindL kindOf (P.zip vs) m x=some v
 | [],_,_,_,_,h,_,_=>by simp at h
 | _::_,[],_,_,_,_,h,_=>by simp at h
 | p::P,w::vs,0,m,nd,h1,h2,a=>by
  simp at h1 h2; subst h1; subst h2
  show bindL kindOf ((p,w)::P.zip vs) m p=_;unfold bindL;rw [Lu λv hv=>(dM.mp nd).1 (gh hv).1,if_pos a];simp
 | p::P,w::vs,i+1,m,nd,h1,h2,a=>by
  unfold bindL;exact Lv (i:=i) (dM.mp nd).2 (by simp_all) (by simp_all) a
theorem Lx{kindOf:Str->Option fN}{x:Str}{v:Cn}:∀{P:List Str} {vs:List Cn} {i:Nat} {m:Str->Option Cn},P.Nodup->P[i]?=some x->vs[i]?=some v->kindOf x≠some .local ->
  bindC kindOf (P.zip vs) m x=some v
 | [],_,_,_,_,h,_,_=>by simp at h
 | _::_,[],_,_,_,_,h,_=>by simp at h
 | p::P,w::vs,0,m,nd,h1,h2,a=>by
  simp at h1 h2; subst h1; subst h2
  show bindC kindOf ((p,w)::P.zip vs) m p=_;unfold bindC;rw [Lw λv hv=>(dM.mp nd).1 (gh hv).1,if_neg a];simp
 | p::P,w::vs,i+1,m,nd,h1,h2,a=>by
  unfold bindC;exact Lx (i:=i) (dM.mp nd).2 (by simp_all) (by simp_all) a
def start(N:List Str)(vs:List V):St:=vs.map some++Uf (N.length - vs.length) none
def EX(CX:S2)(P:cz)(w:dC)(K:Frag)(mg:Str->Option Cn)(base:cw)(N:List Str)(qual:Str)(scope:fF)(f:Ch)(cd:Cn)(A:dL)(outer:List Env)(s:FM)(H:Hp)(E:XK):Cx where
 prog:=P
 w:=w
 K:=K
 mg:=mg
 base:=base
 A:=A.deeper (envOfC qual scope s.heap.objs.size f cd)
 N:=N
 s₀:=s
 H₀:=H
 env:=envOfC qual scope s.heap.objs.size f cd
 outer:=outer
 stack:=envOfC qual scope s.heap.objs.size f cd::outer
 ex:=[]
 calm:=true
 fn:=λ_=>true
 pn:=[]
 xe:=λe s'=>wpAny (model P w) (A.deeper (envOfC qual scope s.heap.objs.size f cd)) (leaving (envOfC qual scope s.heap.objs.size f cd) e) (λ_ a=>CX outer H s E e a) (λe' a=>CX outer H s E e' a) s'
theorem Oz{sc:fF}{n:Nat}{x:Str}(h:sc.names.lookup x=some .cell):∃c,(cellsFrom n sc.names []).lookup x=some c:=Option.isSome_iff_exists.mp (PySem.W.cellsFrom_some _ n [] (.inl h))
theorem Lh{CX:S2}{P:cz}{w:dC}{K:Frag}{mg:Str->Option Cn}{base:cw}{N ps:List Str}{qual:Str}{scope:fF}{f:Ch}{cd:Cn}{A:dL}{outer:List Env}{s s1:FM}{H:Hp}{E:XK}{us:List Cn}{vs:List V}
  (S:Ai N ps scope) (hd:A.handled=none) (e0:Env0 P w K mg base A outer s H) (j:vs.length=ps.length) (r:Vals vs us)
  (x:InCallC s s.heap.objs.size (bindL (envOfC qual scope s.heap.objs.size f cd).kindOf (ps.zip us) λ_=>none) (cellsFrom (s.heap.objs.size+1) scope.names []) (bindC (envOfC qual scope s.heap.objs.size f cd).kindOf (ps.zip us) λ_=>none) s1) :
  Inv (EX CX P w K mg base N qual scope f cd A outer s H E) [] (start N vs) H s1:=by
 have g:ps.length<=N.length:=by have:=congrArg fo S.pre; rw [eg] at this; omega
 obtain⟨h1,tk,rfl,d⟩:=x.done;have noA:∀b:Ch,b∉(EX CX P w K mg base N qual scope f cd A outer s H E).ex:=λb z=>absurd (show b∈([]:List Ch) from z) (by simp)
 refine⟨⟨e0.mod,S.kind,rfl,rfl,On _,λy z c h1 h2=>?_,λy hy=>?_,λy c _ h=>?_,λ_=>hd,jl e0.frames,.inr ⟨rfl,rfl⟩,λb z=>absurd z (noA b),e0.bs,e0.bsz,λb _ _=>noA b,λb z=>absurd z (noA b),e0.funs,e0.frf⟩,
  rfl,e0.bare,Un.kept d,⟨_,x.toInCall.ns,λi y v h1 h2 h3=>?_⟩,λy c h=>⟨_,x.cell y c h⟩,e0.hok.fresh (On _),λy c h=>?_,λp hp=>absurd (show p∈([]:List (Ch×Obj)) from hp) (by simp),e0.hok.kept d,?_⟩
 ·exact name_of_addr x.apart (PySem.mem_of_lookup h1) (PySem.mem_of_lookup h2)
 ·have hy:scope.names.lookup y=some .cell\/scope.names.lookup y=some .free:=hy
  rcases hy with hy | hy
  ·exact Oz hy
  ·exact absurd rfl (S.nofree _ (PySem.mem_of_lookup hy))
 ·exact jG (x.above y c (PySem.mem_of_lookup h))
 ·have hi:i<vs.length:=by
   unfold start at h2
   by_cases hi:i<vs.length
   ·exact hi
   ·rw [eB (by simpa using hi)] at h2
    rw [gs] at h2
    split at h2 <;> cases h2
  have ha:vs[i]?=some v:=by
   unfold start at h2;rw [fk (by simpa using hi),dR] at h2;cases e:vs[i]? with
   | none=>rw [e] at h2; cases h2
   | some a=>rw [e] at h2; cases h2; rfl
  obtain⟨u,hu,rv⟩:=r.get ha
  have hp:ps[i]?=some y:=by
   rw [← S.pre,List.getElem?_take_of_lt (by omega)]; exact h1
  have ndP:ps.Nodup:=by rw [← S.pre]; exact S.nd.sublist (List.take_sublist _ _)
  refine⟨u,rv,?_⟩
  rcases S.par y (dj hp) with k | k
  ·exact .inl ⟨k,Lv ndP hp hu k⟩
  ·obtain⟨c,e⟩:=Oz (n:=s.heap.objs.size+1) k
   refine .inr ⟨.inl k,c,e,?_⟩;have q:=x.cell y c e;rw [Lx ndP hp hu (by show scope.names.lookup y≠_; rw [k]; decide)] at q;exact q
 ·exact e0.hok.fresh (jG (x.above y c (PySem.mem_of_lookup h)))
 ·unfold start
  show _=N.length;rw [XV,Go,jf];omega
theorem XI{CX:S2}{P:cz}{w:dC}{K:Frag}{mg:Str->Option Cn}{base:cw}{k:Nat}{f:Ch}{name qual:Str}{params:Arguments}{body:List dE}{scope:fF}{dV kV doc pm a ct oc:Cn}{an od:Option Ch}
  {i:Array (Option Cn)} {N ps:List Str} {sp:Sp} (lk:K.lookup f=some ⟨oc,od,.func (fnOf name qual params body scope dV kV doc pm an a ct),i⟩) (j:codeIn K a qual=true) (S:Ai N ps scope)
  (len:∀vs H Q E,sp vs H Q E->vs.length=ps.length)
  (c:∀(A:dL) (outer:List Env) (s:FM) (H:Hp) (vs:List V) (Q:VK) (E:XK),Room k (A.deeper (envOfC qual scope s.heap.objs.size f a))->sp vs H Q E ->
   ∃t,PSs (EX CX P w K mg base N qual scope f a A outer s H E) body t/\t { nx:=λ_ H'=>Q .non H',rt:=Q } (start N vs) H) :
  BD P w K mg base CX (k+1) f (fnOf name qual params body scope dV kV doc pm an a ct) ps sp:=by
 refine⟨len,λA outer s H args us vs Q E hr e0 l r h=>?_⟩;have m:=len _ _ _ _ h;have KX:K.In s.heap:=e0.mod.kin.keeps λb o e=>(e0.bs b o e).1;have lim:s.heap.NoLimit:=e0.mod.nolimit.keeps λb o e=>(e0.bs b o e).1
 have d:∀y∈ps.zip us,scope.names.lookup y.1=some .local\/(scope.names.lookup y.1=some .cell/\((cellsFrom (s.heap.objs.size+1) scope.names []).lookup y.1).isSome=true):=fun⟨n,v⟩ hy=>by
  rcases S.par n (gh hy).1 with q | q
  ·exact .inl q
  ·exact .inr ⟨q,PySem.W.cellsFrom_some _ _ _ (.inl q)⟩
 refine codeAny_call_function hr.depth (KX _ _ lk) rfl S.co S.gen rfl (PySem.W.codeRec_of KX j) (l _ _ _ _ ?_);refine ir S.kind d λenv he s1 x=>?_;subst he;refine⟨lim.keeps x.toInCall.keep,codeAny_func ?_⟩;obtain⟨t,ht,hq⟩:=c A outer s H vs Q E (hr.deeper _) h;have I:Inv (EX CX P w K mg base N qual scope f a A outer s H E) [] (start N vs) H s1:=Lh S hr.hd e0 m r x;refine dP (ht [] s1 (start N vs) H _ I hq) (λfl s' g=>?_) λe s' g=>g
 have fin:∀{zZ:St} {H':Hp} {v:V} {u:Cn},Inv (EX CX P w K mg base N qual scope f a A outer s H E) [] zZ H' s'->RelV v u->Q v H'->CE outer P w H s Q u s' :=
  λ{zZ H' v u} J rv q=>⟨v,H',J.os,J.bare,J.base,J.hok,rv,q⟩
 cases fl with
 | ret u =>
  obtain⟨v,zZ,H',J,rv,q⟩:=g;exact fin J rv q
 | next =>
  obtain⟨zZ,H',J,q⟩:=g;exact fin (v:=V.non) (u:=dO) J rfl q
 | brk =>
  obtain⟨_,_,_,q⟩:=g;exact dh q
 | cont =>
  obtain⟨_,_,_,q⟩:=g;exact dh q
section
variable {X:Cx}{x:Str}{p pos:Pos}{e:Expr}{es:List Expr}{t:TA}{id T:String}{r:List V->Hp->VK->Prop}
def al(r:List V->Hp->VK->Prop)(t:TA):TE:=λσ H Q=>t σ H λvs H1=>r vs H1 Q
theorem Cv(c:C2 X (.builtin id) r)(hg:Gl X x)(hm:X.mg x=none)(hv:bootBuiltins x=some (.builtin id))(ha:PA X (e::es) t)(hn:x ≠ "__name__":=by decide)(a:(x==("__debug__":Str))=false:=by decide)
  (he:starEach (e::es) X.env=(false,eval e X.env)::starEach es X.env:=by rfl) (b:(backTo pos (starEach es X.env)).any (·.1)=false:=by rfl):PE X (.Call (.Name x p) (e::es) [] pos) (al r t):=λzG s σ H Q I h=>eN (FT I hg hm hv (PyProof.Rows.callWith_builtin1 (thn (ha _ _ s σ H _ I h) λus s1 ⟨vs,H1,I1,r1,q1⟩=>c _ s1 σ H1 vs us Q I1 r1 q1) he b) hn a)
theorem LU(c:C2 X (.type T) r)(hg:Gl X x)(hm:X.mg x=none)(hv:bootBuiltins x=some (.type T))(ha:PA X (e::es) t)(hn:x ≠ "__name__":=by decide)(a:(x==("__debug__":Str))=false:=by decide)
  (he:starEach (e::es) X.env=(false,eval e X.env)::starEach es X.env:=by rfl) (b:(backTo pos (starEach es X.env)).any (·.1)=false:=by rfl):PE X (.Call (.Name x p) (e::es) [] pos) (al r t):=λzG s σ H Q I h=>eN (FT I hg hm hv (e9 (thn (ha _ _ s σ H _ I h) λus s1 ⟨vs,H1,I1,r1,q1⟩=>c _ s1 σ H1 vs us Q I1 r1 q1) he b) hn a)
end
end L2
namespace HT
section
variable {prog:Program}{w:World}{A:Around}{E:Value->Shared->Prop}{s:Shared}
theorem cat_tup{t b:Ch}{vs ws:List Cn}{Q:Cn->FM->Prop}(ht:IsTup s.heap t vs.toArray)(h:IsTup s.heap b ws.toArray)(hv:vs≠[])
  (h1:ws=[]->Q (.ref t) s) (h2:ws≠[]->Q (.ref s.heap.objs.size) { s with heap:=s.heap.push { cls:=.type "tuple",data:=.seq (vs++ws).toArray } })
  (i:vs.length+ws.length<=sizeLine):wpAny (model prog w) A (binaryOp .Add (.ref t) (.ref b)) Q E s:=by
 obtain⟨⟨cls,dd,data,sl⟩,ho,f,n,hd⟩:=id ht;obtain⟨⟨g,c,data2,d⟩,a,e,n2,hd2⟩:=id h;simp only at f hd e hd2;subst f hd e hd2
 by_cases hw:ws=[]
 ·exact concat_meets ⟨_,ho,rfl⟩ ⟨_,a,rfl⟩ jI seq_tuple_add PySem.F.slot_tuple_add PySem.F.entry_tuple_add (PySem.F.args_tuple_add_2 _ _)
   (tuple_addW1 t b vs.toArray ws.toArray n n2 dd c sl d (by simp_all) (by simp [hw])) ⟨ho,a,h1 hw⟩
 ·refine concat_meets ⟨_,ho,rfl⟩ ⟨_,a,rfl⟩ jI seq_tuple_add PySem.F.slot_tuple_add PySem.F.entry_tuple_add (PySem.F.args_tuple_add_2 _ _)
   (tuple_addW2 t b vs.toArray ws.toArray n n2 dd c sl d (by grind) (by grind) (by omega)) ⟨ho,a,?_⟩
  simp_all
def sIx(n d:Nat):Option Int->Nat
 | none=>d
 | some v=>if v<0 then (v+(n:Int)).toNat else min v.toNat n
theorem sIx_none(n d:Nat):sIx n d none=d:=rfl
theorem sIx_nat(n d k:Nat):sIx n d (some (k:Int))=min k n:=by
 show (if k<0 then ((k:Int)+n).toNat else min _ n)=min k n;rw [if_neg (by omega),gH]
theorem X2(n d:Nat)(hd:d<=n)(o:Option Int):sIx n d o<=n:=by
 cases o with
 | none=>exact hd
 | some v =>
  show (if v<0 then (v+n).toNat else min _ n)<=n
  grind
theorem RD(v:Int)(n d:Nat):(if v<0 then max (v+(n:Int)) 0 else min v (n:Int))=((sIx n d (some v):Nat):Int):=by
 show (if v<0 then max _ 0 else min v _)=(if v<0 then (v+n).toNat else min _ n)
 grind
theorem QN(lo hi:Option Int)(n:Nat):fm lo hi 1 (n:Int)=(((sIx n 0 lo:Nat):Int),((sIx n n hi:Nat):Int)):=by
 refine Prod.ext ?_ ?_
 ·cases lo with
  | none=>rfl
  | some v=>exact RD v n 0
 ·cases hi with
  | none=>rfl
  | some v=>exact RD v n n
theorem Pp(i j:Nat):eV (i:Int) (j:Int) 1=j - i:=by
 unfold eV
 grind
theorem slicePart_{v:Cn}{o:Option Int}{Q:Option Int->FM->Prop}(p:iF v o)(h:Q o s):wpAny (model prog w) A (Builtin.Slice.slicePartIndex v) Q E s:=by
 cases p with
 | none=>exact slicePart_none h
 | int i t=>exact slicePart_int h
theorem sliceApplied_gen{sl:Ch}{vl vu:Cn}{lo hi:Option Int}{n:Nat}{Q:Int×Int×Nat->FM->Prop}(c:s.heap.IsSliceOf sl vl vu .none)(pl:iF vl lo)(pu:iF vu hi)
  (h:Q (((sIx n 0 lo:Nat):Int),1,sIx n n hi - sIx n 0 lo) s):wpAny (model prog w) A (iu (.ref sl) (pure (n:Int))) Q E s:=by
 obtain⟨os,a,d,b⟩:=id c;refine Db (Db (da a b (x:=vl) rfl (Db (da a b (x:=vu) rfl (Db (da a b (x:=.none) rfl (Sc ?_)))))));refine Db (slicePart_none ?_);refine Db (slicePart_ pl (Db (slicePart_ pu (Db (Sc ?_)))));show wpAny _ _ (match fm lo hi 1 (n:Int) with | (lo,hi)=>pure (lo,(1:Int),eV lo hi 1)) _ _ s;rw [QN lo hi n];show wpAny _ _ (pure _) _ _ s;rw [Pp];exact Sc h
theorem UH(xs:Array Cn)(i k:Nat):((dD k).filterMap fun(m:Nat)=>xs[((i:Int)+(m:Int)*1).toNat]?).toArray=((xs.toList.drop i).take k).toArray:=by
 have e:(fun(m:Nat)=>xs[((i:Int)+(m:Int)*1).toNat]?)=λm=>xs[i+m]?:=by
  grind
 rw [e]
 have:=pick_run xs i k
 rw [ii] at this;have e2:((λx=>xs[x]?)∘λx=>i+x)=λm=>xs[i+m]?:=rfl
 grind
theorem getItem_tuple_cut{t sl:Ch}{items:Array Cn}{vl vu:Cn}{lo hi:Option Int}{Q:Cn->FM->Prop}(ht:IsTup s.heap t items)(e:s.heap.IsSliceOf sl vl vu .none)(pl:iF vl lo)(pu:iF vu hi)
  (hw:¬(sIx items.size 0 lo=0/\sIx items.size items.size hi=items.size))
  (h:Q (.ref s.heap.objs.size) { s with heap:=s.heap.push { cls:=.type "tuple",data:=.seq ((items.toList.drop (sIx items.size 0 lo)).take (sIx items.size items.size hi - sIx items.size 0 lo)).toArray } })
  (f:items.size<=sizeLine):wpAny (model prog w) A (getItem (.ref t) (.ref sl)) Q E s:=by
 have a:sizeOk (.seq ((items.toList.drop (sIx items.size 0 lo)).take (sIx items.size items.size hi - sIx items.size 0 lo)).toArray):=by
  show ((items.toList.drop (sIx items.size 0 lo)).take (sIx items.size items.size hi - sIx items.size 0 lo)).toArray.size<=sizeLine;rw [c9,eg,fu,eT];omega
 have hj:sIx items.size items.size hi<=items.size:=X2 _ _ (On _) hi;obtain⟨os,b,c,g⟩:=id e;have hTs:s.TypeIs (.ref sl) "slice":=⟨os,b,c⟩;unfold getItem
 try with_reducible refine dw ?_
 first | refine Db (Sc ?_) | skip
 refine Db (i5 ht.typeIs (by decide) ?_)
 refine Db (eO (name:=dk "__getitem__") ht.typeIs dN
  (fO dN ht.typeIs iV ?_ (ij _ _)))
 show wpAny _ _ (gZ (.ref t) >>= _) _ _ s;refine Db (tupleItemsOf_ ht ?_);refine Db (iG hTs ?_);rw [if_pos (by decide)];refine Db (sliceApplied_gen e pl pu ?_)
 have d:¬((((sIx items.size 0 lo:Nat):Int)==0&&(1:Int)==1&&(sIx items.size items.size hi - sIx items.size 0 lo)==items.size)=true):=by
  grind
 show wpAny _ _ (if (((sIx items.size 0 lo:Nat):Int)==0&&(1:Int)==1&&(sIx items.size items.size hi - sIx items.size 0 lo)==items.size)=true then _ else _) _ _ s;rw [if_neg d,UH]
 first
  | exact Db (m:=jJ _) (fh (Sc ⟨_,rfl,Sc h⟩) a)
  | grind
  | grind
  | grind
end
end HT
namespace L2
abbrev TO:=St->Hp->(Option Int->Hp->Prop)->Prop
def PO(X:Cx)(e:Option c_)(t:TO):Prop :=
 ∀(zG:List (Ch×Obj)) (s:FM) (σ:St) (H:Hp) (Q:Option Int->Hp->Prop),Inv X zG σ H s->t σ H Q ->
  wpAny (model X.prog X.w) X.A (evalPart e X.env) (λu s'=>∃o H',Inv X zG σ H' s'/\iF u o/\Q o H') X.xe s
def Vd:TO:=λ_ H Q=>Q none H
def ZW(t:TE):TO:=λσ H Q=>t σ H λx H1=>∃i,x=.int i/\Q (some i) H1
section
variable {X:Cx}{e:Expr}{te:TE}{lo hi:Option Expr}{tl th:TO}{pos p2:Pos}
theorem Qo:PO X none Vd:=λzG s σ H Q I h=>Sc ⟨_,H,I,.none,h⟩
theorem Qn(h:PE X e te):PO X (some e) (ZW te):=by
 intro zG s σ H Q I hw;refine thn (h _ s σ H _ I hw) λu s1 ⟨x,H1,I1,r1,q1⟩=>?_;obtain⟨i,rfl,q⟩:=q1;obtain⟨t,rfl⟩:=r1;exact⟨_,H1,I1,.int i t,q⟩
def SlR(X:Cx)(r:V->Option Int->Option Int->Hp->VK->Prop):Prop :=
 ∀(zG:List (Ch×Obj)) (s:FM) (σ:St) (H:Hp) (x:V) (v vl vu:Cn) (lo hi:Option Int) (sl:Ch) (Q:VK),Inv X zG σ H s->RelV x v->s.heap.IsSliceOf sl vl vu .none->iF vl lo->iF vu hi->r x lo hi H Q ->
  ∃T id,typeLookup (.type T) "__getitem__"=pure (some (.builtin id))/\s.TypeIs v T/\wpAny (model X.prog X.w) X.A (getItem v (.ref sl)) (EP X zG σ Q) X.xe s
theorem SlR.or{r r':V->Option Int->Option Int->Hp->VK->Prop}(h:SlR X r)(h':SlR X r'):SlR X (λx lo hi H Q=>r x lo hi H Q\/r' x lo hi H Q):=by
 intro zG s σ H x v vl vu lo hi sl Q I rx a pl pu q
 rcases q with q | q
 ·exact h _ s σ H x v vl vu lo hi sl Q I rx a pl pu q
 ·exact h' _ s σ H x v vl vu lo hi sl Q I rx a pl pu q
def cO(r:V->Option Int->Option Int->Hp->VK->Prop)(te:TE)(tl th:TO):TE:=λσ H Q=>te σ H λx H1=>tl σ H1 λl H2=>th σ H2 λu H3=>r x l u H3 Q
theorem N5{r:V->Option Int->Option Int->Hp->VK->Prop}(hr:SlR X r)(he:PE X e te)(a:PO X lo tl)(hu:PO X hi th):PE X (.Subscript e (.Slice lo hi none p2) pos) (cO r te tl th):=by
 intro zG s σ H Q I h;refine Subscript_ (thn (he _ s σ H _ I h) λv s1 ⟨x,H1,I1,r1,q1⟩=>?_);refine wpAny_Slice (thn (a _ s1 σ H1 _ I1 q1) λvl s2 ⟨l,H2,I2,pl,q2⟩=>thn (hu _ s2 σ H2 _ I2 q2) λvu s3 ⟨u,H3,I3,pu,q3⟩=>?_);refine Sc ?_;obtain⟨T,id,hT,ht,hg⟩:=hr _ _ σ H3 x v vl vu l u _ Q (I3.kept λb ob q=>Ev _ q) r1 (jw ..) pl pu q3;exact tail_any ht hT hg (by with_unfolding_all rfl)
def Ot(xs:List V)(lo hi:Option Int):List V:=(xs.drop (HT.sIx xs.length 0 lo)).take (HT.sIx xs.length xs.length hi - HT.sIx xs.length 0 lo)
theorem IG(xs:List V)(lo hi:Option Int):(Ot xs lo hi).length<=xs.length:=by
 unfold Ot
 grind
def Zi(K:Frag):V->Option Int->Option Int->Hp->VK->Prop:=λx lo hi H Q=>∃a xs,x=.ref a/\SqT K H a xs /\
 ¬(HT.sIx xs.length 0 lo=0/\HT.sIx xs.length xs.length hi=xs.length)/\∀p,H p=none->Q (.ref p) (A4 H p (.tup (Ot xs lo hi)))
theorem sl_tup:SlR X (Zi X.K):=by
 intro zG s σ H x v vl vu lo hi sl Q I rx e pl pu h;obtain⟨a,xs,rfl,f,hw,q⟩:=h;cases rx;obtain⟨d,r,ht,g⟩:=I.tuple f;have c:d.toArray.size=xs.length:=by exact r.length.symm
 refine⟨_,_,dN.lookup,ht.typeIs,?_⟩;refine HT.getItem_tuple_cut ht e pl pu (by grind) ?_ (by simp_all);rw [c];refine⟨.ref _,_,I.laid (λb ob q=>Ev _ q) (On _) ?_,rfl,q _ (I.hok.fresh (On _))⟩;exact⟨cx (IG xs lo hi) g,_,(r.drop _).take _,IsTupN.new _ _⟩
def T8(K:Frag):R2:=λx y H Q=>∃a b xs ys,x=.ref a/\y=.ref b/\SqT K H a xs/\SqT K H b ys/\xs≠[]/\xs.length+ys.length<=sizeLine /\
 (ys=[]->Q (.ref a) H)/\(ys≠[]->∀p,H p=none->Q (.ref p) (A4 H p (.tup (xs++ys))))
theorem Vals.nil_iff{xs:List V}{us:List Cn}(r:Vals xs us):us=[]↔xs=[]:=by
 cases r with
 | nil=>simp
 | cons _ _=>simp
theorem op_catT:OpR X (binaryOp .Add) (T8 X.K):=by
 intro zG s σ H x y v u Q I rx ry h;obtain⟨a,b,xs,ys,rfl,rfl,ha,d,e,f,q1,q2⟩:=h;cases rx;cases ry;obtain⟨g,r1,p1,_⟩:=I.tuple ha;obtain⟨c,r2,p2,_⟩:=I.tuple d;refine HT.cat_tup p1 p2 (λz=>e (r1.nil_iff.mp z)) (λz=>⟨.ref a,H,I,rfl,q1 (r2.nil_iff.mp z)⟩) (λz=>?_) (by rw [← r1.length,← r2.length]; exact f);refine⟨.ref _,_,I.laid (λb ob q=>Ev _ q) (On _) ?_,rfl,q2 (λw=>z (r2.nil_iff.mpr w)) _ (I.hok.fresh (On _))⟩;exact⟨by simp_all,_,r1.append r2,IsTupN.new _ _⟩
end
def S0(n:Nat)(i:Int):Option Nat:=if 0<=i then (if i<n then some i.toNat else none) else if -(n:Int)<=i then some (i+n).toNat else none
def atI{α:Type}(xs:List α)(i:Int):Option α:=(S0 xs.length i).bind λj=>xs[j]?
theorem Mv{n:Nat}{i:Int}{j:Nat}(h:S0 n i=some j):seqIndex? i n=some j/\j<n/\-(n:Int)<=i/\i<n:=by
 unfold S0 at h
 by_cases h0:0<=i
 ·rw [if_pos h0] at h
  by_cases h1:i<n
  ·rw [if_pos h1] at h
   have e:i.toNat=j:=cv h;exact⟨by rw [seqIndex_of h0 h1,e],by omega,by omega,h1⟩
  grind
 ·rw [if_neg h0] at h
  by_cases h1:-(n:Int)<=i
  ·rw [if_pos h1] at h
   have e:(i+n).toNat=j:=cv h;exact⟨by rw [seqIndex_neg (by omega) h1,e],by omega,h1,by omega⟩
  grind
theorem NO{α:Type}{xs:List α}{i:Int}{v:α}(h:atI xs i=some v):∃j,seqIndex? i xs.length=some j/\xs[j]?=some v/\j<xs.length/\-(xs.length:Int)<=i/\i<xs.length:=by
 unfold atI at h;cases e:S0 xs.length i with
 | none=>simp_all
 | some j =>
  obtain⟨h1,h2,h3,h4⟩:=Mv e
  simp_all
theorem AO{α:Type}{xs:List α}{j:Nat}{v:α}(h:xs[j]?=some v):atI xs (j:Int)=some v:=by
 have hj:=(cr.mp h).1
 have e:S0 xs.length j=some j:=by
  unfold S0
  simp_all
 unfold atI; grind
theorem VN{α:Type}(xs:List α)(v:α):atI (xs++[v]) (-1)=some v:=by
 have e:S0 (xs++[v]).length (-1)=some xs.length:=by
  unfold S0
  grind
 unfold atI
 grind
def RW(b:c_):Prop:=∀o i,subscripted b false o i=operate [o,i] (getItem o i)
def IxR(X:Cx)(r:R2):Prop :=
 ∀(value slice:c_) (zG:List (Ch×Obj)) (s:FM) (σ:St) (H:Hp) (x y:V) (v u:Cn) (Q:VK),Inv X zG σ H s->RelV x v->RelV y u->r x y H Q ->
  subscripted slice false v u=operate [v,u] (getItem v u)->wpAny (model X.prog X.w) X.A (subscriptTail value slice v u) (EP X zG σ Q) X.xe s
def a9(X:Cx)(id:String)(r:V->List V->Hp->VK->Prop):Prop :=
 ∀(zG:List (Ch×Obj)) (s:FM) (σ:St) (H:Hp) (x:V) (xs:List V) (v:Cn) (us:List Cn) (Q:VK),Inv X zG σ H s->RelV x v->Vals xs us->r x xs H Q ->
  wpAny (model X.prog X.w) X.A (call (.builtin id) (v::us)) (EP X zG σ Q) X.xe s
section
variable {X:Cx}{a b:Expr}{ta tb:TE}{pos:Pos}
theorem IxR.or{r r':R2}(h:IxR X r)(h':IxR X r'):IxR X (λx y H Q=>r x y H Q\/r' x y H Q):=by
 intro value slice zG s σ H x y v u Q I rx ry q a
 rcases q with q | q
 ·exact h _ _ _ s σ H x y v u Q I rx ry q a
 ·exact h' _ _ _ s σ H x y v u Q I rx ry q a
theorem Eu{r:R2}(hr:IxR X r)(ha:PE X a ta)(c:PE X b tb)(d:RW b):PE X (.Subscript a b pos) (EK r ta tb):=λzG s σ H Q I h=>Subscript_ (Yx ha c I h λv u s2 x y H2 I2 rx ry q=>hr a b _ s2 σ H2 x y v u Q I2 rx ry q (d _ _))
def X9(K:Frag):R2:=λx y H Q=>∃p xs i v,x=.ref p/\y=.int i/\SqL K H p xs/\atI xs i=some v/\Q v H
def Zp(K:Frag):R2:=λx y H Q=>∃p xs i v,x=.ref p/\y=.int i/\SqT K H p xs/\atI xs i=some v/\Q v H
def Zq:R2:=λx y H Q=>∃z i c,x=.str z/\y=.int i/\z.length<=sizeLine/\atI z.cps.toList i=some c/\Q (.str ⟨#[c]⟩) H
theorem ix_list:IxR X (X9 X.K):=by
 intro value slice zG s σ H x y v u Q I rx ry h c;obtain⟨p,xs,i,z,rfl,rfl,hq,he,q⟩:=h;cases rx;obtain⟨t,rfl⟩:=ry;obtain⟨a,r,pl,d⟩:=I.list hq;obtain⟨j,h1,h2,h3,h4,h5⟩:=NO he;obtain⟨w,ew,b⟩:=r.get h2;have e:=r.length;have hn:=Jx;have fin:EP X zG σ Q w s:=⟨z,H,I,b,q⟩
 by_cases h0:0<=i
 ·have hj:i.toNat=j:=by
   rw [seqIndex_of h0 h5] at h1
   grind
  exact item_listR pl.isList h0 (by omega) (by rw [hj]; simpa using ew) fin c
 ·have hj:(i+(a.toArray.size:Int)).toNat=j:=by
   rw [seqIndex_neg (by omega) h4] at h1
   grind
  exact subscriptTail_builtinR (x:=w) pl.isList.typeIs i6.lookup
   (wpAny_getItem_list_neg (Q:=λr s'=>r=w/\EP X zG σ Q r s') pl.isList (by omega) (by grind) (by omega) (by grind) ⟨rfl,fin⟩) c
theorem ix_tup:IxR X (Zp X.K):=by
 intro value slice zG s σ H x y v u Q I rx ry h b;obtain⟨p,xs,i,z,rfl,rfl,hq,he,q⟩:=h;cases rx;obtain⟨t,rfl⟩:=ry;obtain⟨c,r,pl,d⟩:=I.tuple hq;obtain⟨j,h1,h2,h3,h4,h5⟩:=NO he;obtain⟨w,ew,a⟩:=r.get h2;have e:=r.length;have hn:=Jx
 exact subscriptTail_builtinR pl.typeIs dN.lookup
  (getItem_tuple (j:=j) pl (by omega) (by omega) (by grind) (by grind) ⟨rfl,⟨z,H,I,a,q⟩⟩) b
theorem Yb:IxR X Zq:=by
 intro value slice zG s σ H x y v u Q I rx ry h a;obtain⟨z,i,c,rfl,rfl,b,he,q⟩:=h;obtain⟨t,rfl⟩:=rx;obtain⟨t',rfl⟩:=ry;obtain⟨j,h1,h2,h3,h4,h5⟩:=NO he;have d:z.cps.toList.length=z.length:=by simp [Str.length]
 have hn:=Jx
 exact tail_any (typeIs_str s z t) slot_str_getitem.lookup (getItem_str (by
  grind) (by grind) ⟨.str _,H,I.tok _,⟨_,rfl⟩,q⟩) a
def b8(K:Frag):R2:=λx y H Q=>X9 K x y H Q\/Zp K x y H Q\/Zq x y H Q
theorem AL:IxR X (b8 X.K):=ix_list.or (ix_tup.or Yb)
theorem P5(a:List Cn)(n j:Nat)(u:Cn):d_ (·.setIfInBounds j u) { cls:=.type "list",data:=.seq a.toArray n }={ cls:=.type "list",data:=.seq (a.set j u).toArray n }:=by
 simp [d_]
theorem Inv.lst{zG:List (Ch×Obj)}{σ:St}{H:Hp}{s:FM}{p:Ch}{xs:List V}(I:Inv X zG σ H s)(h:H p=some (.lst xs)) :
  ∃(a:List Cn) (n:Nat),Vals xs a/\s.heap.get? p=some { cls:=.type "list",data:=.seq a.toArray n }/\xs.length<=sizeLine:=by
 obtain⟨z,a,n,r,e⟩:=I.hok p _ h;exact⟨_,n,r,e,z⟩
theorem Inv.lstUpd{zG:List (Ch×Obj)}{σ:St}{H:Hp}{s:FM}{p:Ch}{xs ys:List V}{c a:List Cn}{n n':Nat}{f:Obj->Obj}(I:Inv X zG σ H s)(h:H p=some (.lst xs))
  (ho:s.heap.get? p=some { cls:=.type "list",data:=.seq c.toArray n }) (hf:f { cls:=.type "list",data:=.seq c.toArray n }={ cls:=.type "list",data:=.seq a.toArray n' }) (r:Vals ys a) (d:ys.length<=sizeLine) (t:Nat) :
  Inv X zG σ (A4 H p (.lst ys)) { s with heap:=s.heap.update p f,toks:=t }:=by
 have e:(s.heap.update p f).get? p=some { cls:=.type "list",data:=.seq a.toArray n' }:=by
  rw [fC f ho (by rw [hf] <;> rfl),hf]
 exact I.write (by rw [h]; trivial) (.inl rfl) (λb u g q=>(dJ _ _ (eF g)).trans q) ⟨_,e⟩ ⟨d,_,n',r,e⟩
def W3:V->V->V->Hp->(Hp->Prop)->Prop:=λo i v H Q=>∃p xs k j,o=.ref p/\i=.int k/\H p=some (.lst xs)/\S0 xs.length k=some j/\Q (A4 H p (.lst (xs.set j v)))
theorem set_list:aU X W3:=by
 intro zG s σ H o i v ov iv u Q I ro ri rv h;obtain⟨p,xs,k,j,rfl,rfl,hp,hj,q⟩:=h;cases ro;obtain⟨t,rfl⟩:=ri;obtain⟨a,n,r,ho,c⟩:=I.lst hp;obtain⟨h1,h2,h3,h4⟩:=Mv hj;have d:=r.length;have hn:=Jx
 have I':Inv X zG σ (A4 H p (.lst (xs.set j v))) { s with heap:=s.heap.update p (d_ (·.setIfInBounds j u)) } :=
  I.lstUpd hp ho (P5 a n j u) (r.set rv j) (by simp_all) s.toks
 by_cases h0:0<=k
 ·have b:k.toNat=j:=by
   rw [seqIndex_of h0 h4] at h1
   grind
  exact PySem.W.ki_setAt ho h0 (by omega) (by grind) (by rw [b]; exact⟨_,I',q⟩)
 ·have b:(k+(a.toArray.size:Int)).toNat=j:=by
   rw [seqIndex_neg (by omega) h3] at h1
   grind
  exact PySem.W.ki_setBack ho (by omega) (by grind) (by omega) (by rw [b]; exact⟨_,I',q⟩)
theorem MF(lo hi:Option Int)(n:Nat):(sliceBounds lo hi none n).1=((HT.sIx n 0 lo:Nat):Int)/\(sliceBounds lo hi none n).2.1=((HT.sIx n n hi:Nat):Int)/\(sliceBounds lo hi none n).2.2=1:=by
 refine⟨?_,?_,rfl⟩
 ·cases lo with
  | none=>simp [sliceBounds,HT.sIx]
  | some i =>
   simp only [sliceBounds,HT.sIx,Option.getD_none,show (1:Int) > 0 by decide,if_true]
   by_cases h:i<0
   ·grind
   ·simp only [h,if_false] <;> omega
 ·cases hi with
  | none=>simp [sliceBounds,HT.sIx]
  | some i =>
   simp only [sliceBounds,HT.sIx,Option.getD_none,show (1:Int) > 0 by decide,if_true]
   by_cases h:i<0
   ·grind
   ·simp only [h,if_false] <;> omega
theorem Ku(a:List Cn)(lo hi:Option Int):slicePick a.toArray lo hi none=((a.drop (HT.sIx a.length 0 lo)).take (HT.sIx a.length a.length hi - HT.sIx a.length 0 lo)).toArray:=by
 obtain⟨h1,h2,h3⟩:=MF lo hi _;unfold slicePick;rw [h1,h2,h3];simp only [sliceRange_one,pick_run] <;> rfl
def Zj(K:Frag):V->Option Int->Option Int->Hp->VK->Prop:=λx lo hi H Q=>∃a xs,x=.ref a/\SqL K H a xs/\∀p,H p=none->Q (.ref p) (A4 H p (.lst (Ot xs lo hi)))
theorem sl_list:SlR X (Zj X.K):=by
 intro zG s σ H x v vl vu lo hi sl Q I rx d pl pu h;obtain⟨a,xs,rfl,e,q⟩:=h;cases rx;obtain⟨f,r,ht,g⟩:=I.list e;have c:=r.length;refine⟨_,_,i6.lookup,ht.isList.typeIs,?_⟩;refine wpAny_getItem_list_slice ht.isList d pl pu .none (by simp) ?_ (by grind);rw [Ku,← c];refine⟨.ref _,_,I.laid (λb ob q=>Ev _ q) (On _) ?_,rfl,q _ (I.hok.fresh (On _))⟩;exact⟨cx (IG xs lo hi) g,_,0,(r.drop _).take _,cj _ rfl⟩
def XJ:V->Bool
 | .non=>true
 | .bl _=>true
 | .int _=>true
 | .str _=>true
 | _=>false
def aJ:V->V->Bool
 | .non,.non=>true
 | .bl a,.bl b=>a==b
 | .bl a,.int b=>(if a then 1 else 0)==b
 | .int a,.bl b=>a==(if b then 1 else 0)
 | .int a,.int b=>a==b
 | .str a,.str b=>a==b
 | _,_=>false
theorem M9{A:dL}{s:FM}{y x:V}{u v:Cn}(ry:RelV y u)(rx:RelV x v)(fy:XJ y=true)(fx:XJ x=true):SeqAt.EqAt A s u v (aJ y x):=by
 cases y with
 | non =>
  cases ry;cases x with
  | non=>cases rx; exact SeqAt.EqAt.same _
  | bl b=>cases rx; exact SeqAt.EqAt.none_bool b
  | int b=>obtain⟨t,rfl⟩:=rx; exact SeqAt.EqAt.none_int b t
  | str b=>obtain⟨t,rfl⟩:=rx; exact SeqAt.EqAt.none_str b t
  | _=>exact absurd (show false=true from fx) c8
 | bl a =>
  cases ry;cases x with
  | non=>cases rx; exact SeqAt.EqAt.bool_none a
  | bl b=>cases rx; exact SeqAt.EqAt.bool_bool a b
  | int b=>obtain⟨t,rfl⟩:=rx; exact SeqAt.EqAt.bool_int a b t
  | str b=>obtain⟨t,rfl⟩:=rx; exact SeqAt.EqAt.bool_str a b t
  | _=>exact absurd (show false=true from fx) c8
 | int a =>
  obtain⟨t',rfl⟩:=ry;cases x with
  | non=>cases rx; exact SeqAt.EqAt.int_none a t'
  | bl b=>cases rx; exact SeqAt.EqAt.int_bool a t' b
  | int b=>obtain⟨t,rfl⟩:=rx; exact SeqAt.EqAt.int_int a t' b t
  | str b=>obtain⟨t,rfl⟩:=rx; exact ju a t' b t
  | _=>exact absurd (show false=true from fx) c8
 | str a =>
  obtain⟨t',rfl⟩:=ry;cases x with
  | non=>cases rx; exact SeqAt.EqAt.str_none a t'
  | bl b=>cases rx; exact SeqAt.EqAt.str_bool a t' b
  | int b=>obtain⟨t,rfl⟩:=rx; exact jv a t' b t
  | str b=>obtain⟨t,rfl⟩:=rx; exact SeqAt.EqAt.str_str a t' b t
  | _=>exact absurd (show false=true from fx) c8
 | _=>exact absurd (show false=true from fy) c8
theorem Es:C2 X (.type "list") (λxs H Q=>∃p ys,xs=[.ref p]/\(SqL X.K H p ys\/SqT X.K H p ys)/\∀l,H l=none->Q (.ref l) (A4 H l (.lst ys))):=by
 intro zG s σ H xs us Q I r h;obtain⟨p,ys,rfl,hq,q⟩:=h;obtain⟨u,rfl,rx⟩:=vals1 r;cases rx
 have fin:∀(a:List Cn),Vals ys a->ys.length<=sizeLine->∀(h':cw) (c':Nat),(∀b o',s.heap.get? b=some o'->h'.get? b=some o') ->
   h'.get? s.heap.objs.size=some _->EP X zG σ Q (.ref s.heap.objs.size) { s with heap:=h' }:=λa r' c h' c' kp e =>
  ⟨.ref s.heap.objs.size,_,I.laid (t':=s.toks) kp (On _) (show ObjOk X.prog X.w _ h' _ (.lst ys) from⟨c,a,c',r',e⟩),rfl,q _ (I.hok.fresh (On _))⟩
 rcases hq with hq | hq
 ·obtain⟨a,r',pl,c⟩:=I.list hq
  have d:=r'.length;obtain⟨o,ho,f,n,hd⟩:=pl.isList;exact call_list_seq p (.inl rfl) ho f hd (λh' c' kp e=>fin a r' c h' c' kp e) (by grind)
 ·obtain⟨a,r',pl,c⟩:=I.tuple hq
  have d:=r'.length;obtain⟨o,ho,f,n,hd⟩:=pl;exact call_list_seq p (.inr rfl) ho f hd (λh' c' kp e=>fin a r' c h' c' kp e) (by grind)
theorem Bb:C2 X (.type "tuple") (λxs H Q=>∃p ys,xs=[.ref p]/\((SqL X.K H p ys/\∀l,H l=none->Q (.ref l) (A4 H l (.tup ys)))\/(SqT X.K H p ys/\Q (.ref p) H))):=by
 intro zG s σ H xs us Q I r h;obtain⟨p,ys,rfl,h⟩:=h;obtain⟨u,rfl,rx⟩:=vals1 r;cases rx
 rcases h with ⟨hq,q⟩ | ⟨hq,q⟩
 ·obtain⟨a,r',pl,c⟩:=I.list hq
  have d:=r'.length;refine call_tuple_list pl.isList (λh' kp=>?_) (by grind);have I1:=I.kept (t':=s.toks) kp;exact⟨.ref _,_,I1.laid (t':=s.toks) (λb o e=>Ev _ e) (On _) (show ObjOk _ _ _ _ _ (.tup ys) from⟨c,_,r',IsTupN.new _ _⟩),rfl,q _ (I1.hok.fresh (On _))⟩
 ·obtain⟨a,r',pl,c⟩:=I.tuple hq
  exact call_tuple_same pl ⟨.ref p,H,I,rfl,q⟩
def bE(K:Frag)(T:String)(x:V)(H:Hp):Prop:=match x with
 | .str _=>T = "str"
 | .int _=>T = "int"
 | .ref p=>(T = "list"/\∃xs,SqL K H p xs)\/(T = "tuple"/\∃o,K.lookup p=some o/\o.cls=.type "tuple"/\o.dict=none) \/
   (T = "dict"/\((∃a,H p=some (.dK a))\/∃a,H p=some (.dT a)))\/(T = "set"/\∃S n,H p=some (.set S n))
 | _=>False
theorem Xp{zG:List (Ch×Obj)}{σ:St}{H:Hp}{s:FM}{T:String}{x:V}{v:Cn}(I:Inv X zG σ H s)(r:RelV x v)(ty:bE X.K T x H) :
  s.TypeIs v T/\∀a,v=.ref a->∃ob,s.heap.get? a=some ob/\ob.dict=none:=by
 cases x with
 | str z =>
  obtain⟨t,rfl⟩:=r;cases (show T = "str" from ty);exact⟨typeIs_str s z t,λ_ e=>nomatch e⟩
 | int i =>
  obtain⟨t,rfl⟩:=r;cases (show T = "int" from ty);exact⟨typeIs_int s i t,λ_ e=>nomatch e⟩
 | ref p =>
  cases r
  rcases ty with ⟨rfl,xs,hq⟩ | ⟨rfl,o,b,f,hd⟩ | ⟨rfl,b⟩ | ⟨rfl,S,n,b⟩
  ·obtain⟨g,_,pl,_⟩:=I.list hq
   refine⟨pl.isList.typeIs,λa e=>?_⟩;cases e;obtain⟨o,n,e,c,hd,_⟩:=pl;exact⟨o,e,hd⟩
  ·refine⟨⟨o,I.kIn p o b,f⟩,λa e=>?_⟩
   cases e;exact⟨o,I.kIn _ o b,hd⟩
  ·have z:∃o,s.heap.get? p=some o/\o.ExactDict:=by
    rcases b with ⟨d,b⟩ | ⟨d,b⟩
    ·obtain⟨_,_,_,_,o,_,_,e,ex,_⟩:=I.hok p _ b
     exact⟨o,e,ex⟩
    ·obtain⟨_,_,_,_,o,_,_,e,ex,_⟩:=I.hok p _ b
     exact⟨o,e,ex⟩
   obtain⟨o,e,ex⟩:=z;refine⟨⟨o,e,ex.1⟩,λa e2=>?_⟩;cases e2;exact⟨o,e,ex.2.1⟩
  ·obtain⟨o,_,_,_,e,ex,_⟩:=I.hok p _ b
   refine⟨⟨o,e,ex.1⟩,λa e2=>?_⟩;cases e2;exact⟨o,e,ex.2.1⟩
 | _=>exact dh ty
def cR(K:Frag)(T:String)(r:V->List V->Hp->VK->Prop)(to:TE)(t:TA):TE:=λσ H Q=>to σ H λx H1=>bE K T x H1/\t σ H1 λxs H2=>r x xs H2 Q
variable {o e:Expr}{es:List Expr}{to:TE}{t:TA}{name:Str}{apos cpos:Pos}{T id:String}{r:V->List V->Hp->VK->Prop}
theorem UT(pa:PlainAttrs T)(slot:Slot T name id)(f:typeOf (.builtin id)=pure (.type "method_descriptor"))(hm:a9 X id r)(ho:PE X o to)(ha:PA X (e::es) t)
  (a:attributeBase o name X.env (eval o X.env)=eval o X.env:=by rfl)
  (c:((backTo cpos (starEach (e::es) X.env)).all (λx=>!x.1)&&(backToKw cpos (keywordEach [] X.env)).all (λx=>x.1.isSome)
   && decide ((e::es).length+([]:List gL).length+(if ([]:List gL).isEmpty then 0 else 1)<30))=true:=by rfl)
  (b:(apos.endLine==cpos.line)=true:=by rfl) (g:starEach (e::es) X.env=(false,eval e X.env)::starEach es X.env:=by rfl) (d:(backTo cpos (starEach es X.env)).any (·.1)=false:=by rfl) :
  PE X (.Call (.Attribute o name apos) (e::es) [] cpos) (cR X.K T r to t):=by
 intro zG s σ H Q I h;refine wpAny_Call_method_late a c b rfl (thn (ho _ s σ H _ I h) λv s1 ⟨x,H1,I1,r1,ty,q1⟩=>?_);obtain⟨h1,h2⟩:=Xp I1 r1 ty;refine⟨T,id,pa,slot,f,h1,h2,?_⟩;have hA:=ha cpos _ s1 σ H1 _ I1 q1;rw [g] at hA ⊢;refine g8 (by simp_all) (iH ?_);exact thn hA λus s2 ⟨vs,H2,I2,r2,q2⟩=>hm _ s2 σ H2 x vs v us Q I2 r1 r2 q2
end
def cH(X:Cx)(id:String)(r:V->List V->Hp->VK->Prop):Prop :=
 ∀(zG:List (Ch×Obj)) (s:FM) (σ:St) (H:Hp) (x:V) (xs:List V) (v:Cn) (us:List Cn) (Q:VK),Inv X zG σ H s->RelV x v->Vals xs us->r x xs H Q ->
  wpAny (model X.prog X.w) X.A (call (.builtin id) (v::us)) (EP X zG σ Q) X.xe s
theorem Vals.one:∀{x:V} {us:List Cn},Vals [x] us->∃u,us=[u]/\RelV x u
 | _,_,.cons r .nil=>⟨_,rfl,r⟩
theorem Vals.eraseIdx:∀{xs:List V} {us:List Cn} (i:Nat),Vals xs us->Vals (xs.eraseIdx i) (us.eraseIdx i)
 | _,_,_,.nil=>.nil
 | _,_,0,.cons _ t=>t
 | _,_,i+1,.cons r t=>.cons r (Vals.eraseIdx i t)
theorem Vals.reverse{xs:List V}{us:List Cn}(h:Vals xs us):Vals xs.reverse us.reverse:=by
 induction h with
 | nil=>exact .nil
 | cons r t ih=>rw [gI,gI]; exact Vals.append ih (.cons r .nil)
theorem Lc{α:Type}:∀(l:List α) (i:Nat),(l.eraseIdx i).length<=l.length
 | [],_=>On _
 | _::_,0=>dq _
 | _::r,i+1=>fw (Lc r i)
section
variable {X:Cx}{zG:List (Addr×Obj)}{σ:St}{H:Hp}{s:Shared}{l:Addr}{xs ys:List V}
theorem Inv.lset{a its':List Cn}{n:Nat}{f:Array Cn->Array Cn}{t':Nat}(I:Inv X zG σ H s)(hH:H l=some (.lst xs))
  (e:s.heap.get? l=some { cls:=.type "list",data:=.seq a.toArray n }) (hf:f a.toArray=its'.toArray) (hv:Vals ys its') (b:ys.length<=sizeLine) :
  Inv X zG σ (A4 H l (.lst ys)) { s with heap:=s.heap.update l (d_ f),toks:=t' }:=by
 have q:=PySem.IsL.update e f;rw [hf] at q;exact I.write (by rw [hH]; exact trivial) (.inl rfl) (λb' u c hu=>(dJ _ _ (eF c)).trans hu) ⟨_,q⟩ ⟨b,_,_,hv,q⟩
theorem Inv.lnew{a:List Cn}{t':Nat}(I:Inv X zG σ H s)(hv:Vals ys a)(b:ys.length<=sizeLine) :
  Inv X zG σ (A4 H s.heap.objs.size (.lst ys)) { s with heap:=s.heap.push { cls:=.type "list",data:=.seq a.toArray },toks:=t' } :=
 I.laid (λ_ _ q=>Ev _ q) (On _) ⟨b,_,0,hv,cj _ rfl⟩
theorem Inv.fresh(I:Inv X zG σ H s):H s.heap.objs.size=none:=I.hok.fresh (On _)
theorem Inv.lstM(I:Inv X zG σ H s)(hH:H l=some (.lst xs)):xs.length<=sizeLine/\∃(a:List Cn) (n:Nat),Vals xs a/\xs.length=a.length/\s.heap.get? l=some { cls:=.type "list",data:=.seq a.toArray n }:=by
 obtain⟨z,a,n,r,e⟩:=I.hok l _ hH;exact⟨z,_,n,r,r.length,e⟩
end
section
variable {X:Cx}
def Qg:V->List V->Hp->VK->Prop:=λx vs H Q=>∃l xs y,x=.ref l/\vs=[y]/\H l=some (.lst xs)/\xs.length<sizeLine/\Q .non (A4 H l (.lst (xs++[y])))
theorem DC:cH X "list.append" Qg:=by
 intro zG s σ H x vs v us Q I rx rv h;obtain⟨l,xs,y,rfl,rfl,hH,b,q⟩:=h;cases rx;obtain⟨u,rfl,ru⟩:=rv.one;obtain⟨z,a,n,r,c,e⟩:=I.lstM hH;refine call_meets F.slot_list_append ⟨_,e,rfl⟩ F.entry_list_append (F.args_list_append_2 _ _) (PySem.list_append l _ n u (by grind)) ⟨e,?_⟩;refine⟨.non,_,I.lset hH e (by simp) (r.append (.cons ru .nil)) ?_,rfl,q⟩
 grind
def X7:V->List V->Hp->VK->Prop:=λx vs H Q=>∃l xs i k y,x=.ref l/\vs=[.int i]/\H l=some (.lst xs)/\-(2 ^ 63)<=i/\i<2 ^ 63/\seqIndex? i xs.length=some k/\xs[k]?=some y/\Q y (A4 H l (.lst (xs.eraseIdx k)))
theorem Ue:cH X "list.pop" X7:=by
 intro zG s σ H x vs v us Q I rx rv h;obtain⟨l,xs,i,k,y,rfl,rfl,hH,h1,h2,c,hy,q⟩:=h;cases rx;obtain⟨u,rfl,ru⟩:=rv.one;obtain⟨t,rfl⟩:=ru;obtain⟨z,a,n,r,d,e⟩:=I.lstM hH;obtain⟨w,hw,b⟩:=r.get hy
 refine call_meets F.slot_list_pop ⟨_,e,rfl⟩ F.entry_list_pop (F.args_list_pop_2 _ _)
  (MeetsSeq.list_pop_at l a.toArray n i t k w (fitsIndex_both h1 h2) (by simp_all) (by simp_all) (by grind)) ⟨e,?_⟩
 refine⟨y,_,I.lset (its':=a.eraseIdx k) hH e ?_ (r.eraseIdx k) ?_,b,q⟩
 ·simp_all
 ·have:=Lc xs k
  omega
end
end L2
namespace Att
open PySem.W PySem.Calls
theorem Ii{P:Params}{h:cw}:∀(ns:List Int) (vs:List Cn),WellAll P h vs (ns.map WData.int)->IntsAre vs ns:=by
 intro ns
 induction ns with
 | nil =>
  intro vs w;cases w;exact .nil
 | cons n ns ih =>
  intro vs w;cases w with
  | cons a b =>
   cases a;exact .cons _ _ (ih _ b)
theorem Rt{l:OpenLaw}{n:Nat}(hn:l.most=some n){P:Params}{h:cw}{args:List WData}{vals:List Cn}
  (b:l.row.toRowW.claim.pre args=true) (f:WellAll P h vals args) :
  ∃a vs ns,vals=[cm a]/\args=[WData.list (ns.map WData.int)]/\h.get? a=some { cls:=.type "list",data:=.seq vs.toArray }/\IntsAre vs ns/\ns.length<=n:=by
 have g:WShape.hasAll [] args [.list .int]=true:=(pre_splitW b).1;have i:l.pre.holds [] { args:=args }=true:=(pre_splitW b).2;obtain⟨d,r,rfl,h1,h2⟩:=hasAllW_cons g;obtain rfl:=hasAllW_nil h2;obtain⟨xs,rfl,h3⟩:=hasW_list h1;obtain⟨ns,rfl⟩:=items_int h3
 have c:ns.length<=n:=by
  unfold OpenLaw.pre at i
  have h4:(WTm.not (.lt (.lit (.int (n:Int))) (.len (.arg 0)))).holds [] { args:=[.list (ns.map .int)] }=true:=by
   have h4:=(holds_andW i).1
   grind
  have h5:=condW_of h4 (w_not (w_lt w_lit (w_len_list (w_arg rfl))))
  grind
 cases f with
 | cons w1 w2 =>
  cases w2;cases w1 with
  | list ho e=>exact⟨_,_,ns,rfl,rfl,ho,Ii ns _ e,c⟩
theorem Ry(l:OpenLaw)(args:List WData):l.row.toRowW.claim.post args (.bool true) args=true :=
 postW_of
  (show WShape.has [] _ _=true by first | rfl | decide | omega)
  (w_eq_bool (w_res rfl) w_lit) rfl
theorem attach_call{l:OpenLaw}{n:Nat}{q:cz}{loose:List Str}{XP:(Str->Option Cn)->cw->Prop}{YP:dC->cw->Prop}{d:DefRec}
  (hn:l.most=some n) (h:d.params.defaults=[])
  (call:∀(w:dC) (s₀ s₁:FM) (mg mb:Str->Option Cn) (fa:Ch) (o:Obj) (pm cd doc:Cn) (a:Ch) (vs:List Cn) (ns:List Int),
   Ground q loose [] XP w s₀ mg mb s₁.heap->YP w s₁.heap ->
   s₁.heap.get? fa=some o->o.data=.func (docDef d.name d.params d.body d.scope pm cd doc)->s₁.heap.CodeRec cd d.name->mg d.name=some (.ref fa) ->
   s₁.heap.get? a=some { cls:=.type "list",data:=.seq vs.toArray }->IntsAre vs ns->ns.length<=n->s₁.gens=#[] ->
   codeAny (model l.prog w) callerA (.call (.ref fa) ⟨[.ref a],[]⟩) (λr s'=>r=.ok (.ret (.bool true))/\OldK s₁.heap s'.heap/\s'.os=s₁.os/\gK s'.gens) s₁) :
  WalkO q loose XP YP l.row.toRowW d [] (λf vs=>PySem.call f vs):=by
 intro w s₀ s₁ mg mb G Y fa o pm cd doc dV kV ho hd i hD j hg args vals as c m p k s;obtain rfl:dV=.none:=Dflts.none hD h;obtain rfl:kV=.none:=Dflts.noKw hD;obtain⟨a,vs,ns,rfl,rfl,e,b,g⟩:=Rt hn c k;refine enter_call (ft (call w s₀ s₁ mg mb fa o pm cd doc a vs ns G Y ho (fd_plain hd) i j e b g hg) λr s' hq=>?_);obtain⟨rfl,h2,h3,h4⟩:=hq;exact⟨.inl ⟨.bool true,.bool true,[],rfl,λ_=>rfl,.bool true,Ry l _,λ_=>⟨jz,λ_ hm=>(nomatch hm)⟩⟩,h2,h3,h4⟩
end Att
namespace L2
theorem LJ:∀{vs:List Cn} {ns:List Int},IntsAre vs ns->Vals (ns.map V.int) vs
 | _,_,.nil=>.nil
 | _,_,.cons n t h=>.cons ⟨t,rfl⟩ (LJ h)
def Y7(H:Hp):Prop:=∀b,H b=none\/∃o xs,H b=some (.frz o (.lst xs))
theorem Um{P:cz}{w:dC}{K:Frag}{mg mb:Str->Option Cn}{CX:S2}{k:Nat}{fa a:Ch}{fd:dU}{x:Str}{sp:Sp}{s₁:FM}{vs:List Cn}{ns:List Int}
  (KX:K.In s₁.heap) (i:s₁.heap.Ns mainGlobals mg) (f:s₁.heap.Ns builtinsNs mb) (t:∀x:Str,x ≠ "__name__"->mb x=bootBuiltins x) (j:s₁.heap.NoLimit) (hg:s₁.gens=#[])
  (ha:s₁.heap.get? a=some { cls:=.type "list",data:=.seq vs.toArray }) (hi:IntsAre vs ns) (B:ns.length<=sizeLine) (hr:Room k callerA)
  (F:∀base:cw,K.In base->base.Ns mainGlobals mg->BD P w K mg base CX k fa fd [x] sp) (g:∀(s:FM) (u:Cn),iX s fd ⟨[u],[]⟩ [(x,u)])
  (y:∀H:Hp,Y7 H->SqL K H a (ns.map V.int)->sp [.ref a] H (λv _=>v=.bl true) λ_ _ _=>False)
  (hCX:∀H e s',CX [] H s₁ (λ_ _ _=>False) e s'->False) :
  codeAny (model P w) callerA (.call (.ref fa) ⟨[.ref a],[]⟩) (λr s'=>r=.ok (.ret (.bool true))/\OldK s₁.heap s'.heap/\s'.os=s₁.os/\gK s'.gens) s₁:=by
 have rv:=LJ hi;have lenV:=hi.length
 have core:∀H:Hp,Y7 H->SqL K H a (ns.map V.int)->HOk P w H s₁.heap->(∀b,H b≠none->b=a)->(H a≠none->K.lookup a=none) ->
   codeAny (model P w) callerA (.call (.ref fa) ⟨[.ref a],[]⟩) (λr s'=>r=.ok (.ret (.bool true))/\OldK s₁.heap s'.heap/\s'.os=s₁.os/\gK s'.gens) s₁:=by
  intro H hO hS l hA hK;have c:∀{b:Ch} {o:Obj},s₁.heap.get? b=some o->H b=none->(Mw s₁.heap H).get? b=some o:=λe n=>Uu e n
  have noA:∀{b:Ch} {o:Obj} {es:Array DictEntry} {ep:Nat},s₁.heap.get? b=some o->o.data=.dict es ep->H b=none:=λ{b o es ep} e d=>by
   cases q:H b with
   | none=>rfl
   | some u =>
    have e':b=a:=hA b (by rw [q]; simp);subst e';rw [ha] at e; cases e
    have d':Data.seq vs.toArray _=Data.dict es ep:=d;cases d'
  have nsK:∀{b:Ch} {m:Str->Option Cn},s₁.heap.Ns b m->(Mw s₁.heap H).Ns b m:=λ{b m} ⟨o,es,ep,e,d,r⟩=>⟨o,es,ep,c e (noA e d),d,r⟩
  have hKb:K.In (Mw s₁.heap H):=λb o e=>c (KX b o e) (by
   cases q:H b with
   | none=>rfl
   | some u =>
    have e':b=a:=hA b (by rw [q]; simp);subst e';rw [hK (by rw [q]; simp)] at e; cases e)
  have hM:Mod K mg (Mw s₁.heap H):=⟨hKb,nsK i,⟨mb,nsK f,t⟩,let ⟨mc,h1,h2⟩:=j; ⟨mc,nsK h1,h2⟩⟩;have e0:Env0 P w K mg (Mw s₁.heap H) callerA [] s₁ H:=⟨rfl,hM,λb o e=>V0 e,jK (Sa _ _),trivial,λb f=>absurd (show b∈([]:List Ch) from f) (by simp),l,.of_eq hg⟩;refine ft ((F _ hKb (nsK i)).run callerA [] s₁ H ⟨[.ref a],[]⟩ [.ref a] [.ref a] _ _ hr e0 (g s₁ (.ref a)) (.cons rfl .nil) (y H hO hS)) λr s' h=>?_;cases r with
  | error e=>exact(hCX H e s' h).elim
  | ok fl =>
   cases fl with
   | next=>exact dh h
   | brk=>exact dh h
   | cont=>exact dh h
   | ret u =>
    obtain⟨v,H',os,bare,un,p,r',q⟩:=h;have q':v=.bl true:=q;subst q';obtain rfl:u=iD true:=r';refine⟨rfl,OldK.of_keep λb o e=>?_,os,bare⟩;cases q:H b with
    | none=>exact un.keep b o e q (by intro z; exact absurd (show b∈([]:List Ch) from z) (by simp)) (by simp)
    | some u =>
     rcases hO b with z | ⟨ob,xs,z⟩
     ·rw [q] at z; cases z
     ·have z2:=un.frzs b ob _ z
      obtain⟨e1,_⟩:=l b _ z;obtain⟨e2,_⟩:=p b _ z2;rw [e] at e1; cases e1
      exact e2
 cases A:K.lookup a with
 | some o =>
  have e:=KX a o A;rw [ha] at e;cases e;refine core (λ_=>none) (λ_=>.inl rfl) (.inr ⟨_,vs.toArray,_,A,rfl,rfl,rfl,by rw [c9,lenV]; exact B,by simpa using rv⟩) (λb u z=>by have z':(none:Option HO)=some u:=z; cases z') (λb z=>absurd rfl z) λz=>absurd rfl z
 | none =>
  refine core (λb=>if b=a then some (.frz { cls:=.type "list",data:=.seq vs.toArray } (.lst (ns.map V.int))) else none) (λb=>?_) (.inl (.inr ⟨{ cls:=.type "list",data:=.seq vs.toArray },if_pos rfl⟩)) (λb u z=>?_) (λb z=>?_) λ_=>A
  ·by_cases f:b=a
   ·exact .inr ⟨_,_,if_pos f⟩
   ·exact .inl (if_neg f)
  ·by_cases f:b=a
   ·have z':=(if_pos f).symm.trans z
    cases z';subst f;exact⟨ha,by rw [Go]; exact B,vs,_,rv,ha⟩
   ·have z':=(if_neg f).symm.trans z
    cases z'
  ·by_cases f:b=a
   ·exact f
   ·exact absurd (if_neg f) z
theorem QS{l:PySem.W.OpenLaw}{n k:Nat}{q:cz}{loose:List Str}{XP:(Str->Option Cn)->cw->Prop}{YP:dC->cw->Prop}{d:DefRec}{K:Params->Frag}{CX:dC->S2}{sp:dC->Sp}{x:Str}
  (hn:l.most=some n) (m:n<=sizeLine) (p:d.params.defaults=[]) (hr:Room k callerA)
  (hY:∀(w:dC) (h:cw),YP w h->(K w.params).In h)
  (F:∀(w:dC) (mg:Str->Option Cn) (fa:Ch) (h:cw),(K w.params).In h->h.Ns mainGlobals mg->mg d.name=some (.ref fa) ->
   ∃fd:dU,(∀(s:FM) (u:Cn),iX s fd ⟨[u],[]⟩ [(x,u)]) /\
    ∀base:cw,(K w.params).In base->base.Ns mainGlobals mg->BD l.prog w (K w.params) mg base (CX w) k fa fd [x] (sp w))
  (r:∀(w:dC) (H:Hp) (a:Ch) (ns:List Int),ns.length<=n->Y7 H->SqL (K w.params) H a (ns.map V.int)->sp w [.ref a] H (λv _=>v=.bl true) λ_ _ _=>False)
  (hCX:∀(w:dC) (H:Hp) (s:FM) (e:Cn) (s':FM),CX w [] H s (λ_ _ _=>False) e s'->False) :
  PySem.W.WalkO q loose XP YP l.row.toRowW d [] (λf vs=>PySem.call f vs):=by
 refine Att.attach_call hn p λw s₀ s₁ mg mb fa o pm cd doc a vs ns G Y ho hd y t j i c hg=>?_;have KX:=hY w _ Y;obtain⟨fd,z,hF⟩:=F w mg fa _ KX G.T.g t;exact Um KX G.T.g G.T.b G.T.builtins G.T.nolimit hg j i (cx c m) hr hF z (λH hO hS=>r w H a ns c hO hS) λH e s'=>hCX w H _ e s'
end L2
/- THE LAST THEOREM (shape; LID, My.* are yours):
   My.Adr: a structure of the addresses that your layer names (classes, functions); My.Txt K t: a structure (Prop) of the equations over K;
   My.txt_mk : {K} {implicit addresses ..} (e1 : nsIn K mainGlobals "law" = some (some (.ref f))) (e2 : K.lookup f = some ⟨oc, od, .func (fnOf "law" "law" params body scope dV kV doc pm an cdv ct), sl⟩) (e3 : codeIn K cdv "law" = true) .. : ∃ t, My.Txt K t
set_option maxRecDepth 100000 in
set_option maxHeartbeats 0 in
theorem PySem.Challenge.cw_LID_holds : PySem.Challenge.rw_LID.Holds := by
 w_on; o_law; k_head; (case hw=>w_witness2)
 k_fill
 refine L2.QS (l:=PySem.Challenge.rw_LID) (n:=63) (k:=40) (x := "script") (CX:=λw=>..) (sp:=λ_=>My.sp_law) rfl (by decide) rfl ⟨rfl,by decide,by decide⟩ (λw h Y=>PySem.W.kIn_of Y) ?F ?S ?C
 case F =>
  intro w mg fa h KX G hmg
  have T:∃t,My.Txt (L2.KOf KX) t:=by
   dsimp only [L2.KOf]                          -- K must stand as «<heap const> w.params» for k_is
   refine' My.txt_mk ?e1 ?e2 ?e3 ..
   (case e1=>PySem.W.k_is)                    -- in the order: a name -> its address -> its object -> its parts
   (case e2=>PySem.W.k_is)
   ..
  obtain⟨t,T⟩:=T;have e0:=hmg.symm.trans (mg_of KX G T.law);cases e0                                       -- fa is the law's own address;exact⟨_,λs u=>.of_eq rfl,λbase kb nb=>My.law_fn T kb nb⟩     -- if «.of_eq rfl» comes too early: refine' ⟨_,?b,λbase kb nb=>My.law_fn T kb nb⟩; exact λs u=>.of_eq rfl
 case S=>exact λw H a ns hl hO hS=>..
 case C=>exact ..
(the tactic k_is has no namespace: write k_is) -/
namespace L2
def CP(s:dE):Arguments:=match s with
 | .FunctionDef _ a _ _ _ _ _ _ _ _=>a
 | _=>{ posonlyargs:=[],args:=[],vararg:=none,kwonlyargs:=[],kw_defaults:=[],kwarg:=none,defaults:=[] }
def BX(s:dE):List dE:=match s with
 | .FunctionDef _ _ b _ _ _ _ _ _ _=>b
 | _=>[]
def AH(s:dE):fF:=match s with
 | .FunctionDef _ _ _ _ _ _ sc _ _ _=>sc
 | _=>{ kind:=.function,names:=[],isGenerator:=false,isCoroutine:=false }
abbrev CL:S2:=λ_ _ _ _ _ _=>False
abbrev E0:XK:=λ_ _ _=>False
theorem XB{X:Cx}:Hr CL X E0:=λ_ _ _ _ _ _ _ h=>h.elim
structure Fun (K:Frag) (x qual:Str) (st:dE) (f:Ch) (fd:dU):Prop where
 ex:∃(oc:Cn) (od:Option Ch) (kV doc pm:Cn) (an:Option Ch) (cdv ct:Cn) (osl:Array (Option Cn)),
  fd=fnOf x qual (CP st) (BX st) (AH st) .none kV doc pm an cdv ct/\K.lookup f=some ⟨oc,od,.func fd,osl⟩/\codeIn K cdv qual=true
 kp:keepIn K (.ref f)=true
section
variable {P:Program}{w:World}{K:Frag}{mg:Str->Option Value}{base:Heap}
theorem Fun.ok{x qual:Str}{st:dE}{f:Ch}{fd:dU}{N ps:List Str}{k:Nat}{sp:Sp}(F:Fun K x qual st f fd)(S:Ai N ps (AH st))(len:∀vs H Q E,sp vs H Q E->vs.length=ps.length)
  (a:∀(b:Cn) (A:dL) (outer:List Env) (s:FM) (H:Hp) (vs:List V) (Q:VK) (E:XK),Room k (A.deeper (envOfC qual (AH st) s.heap.objs.size f b))->sp vs H Q E ->
   ∃t,PSs (EX CL P w K mg base N qual (AH st) f b A outer s H E).nox (BX st) t/\t { nx:=λ_ H'=>Q .non H',rt:=Q } (start N vs) H):BD P w K mg base CL (k+1) f fd ps sp:=by
 obtain⟨oc,od,kV,doc,pm,an,b,ct,e,rfl,lk,c⟩:=F.ex;refine XI lk c S len λA outer s H vs Q E hr d=>?_;obtain⟨t,h,q⟩:=a _ A _ s H vs Q E hr d;exact⟨t,h.nox,q⟩
theorem Fun.binds{x qual:Str}{st:dE}{f:Ch}{fd:dU}{ps:List Str}(F:Fun K x qual st f fd)
  (h:∀(kV doc pm:Cn) (an:Option Ch) (a ct:Cn) (us:List Cn),us.length=ps.length->bindArgs (fnOf x qual (CP st) (BX st) (AH st) .none kV doc pm an a ct) ⟨us,[]⟩=pure (ps.zip us)):Binds K fd ps []:=by
 obtain⟨oc,od,kV,doc,pm,an,a,ct,b,rfl,lk,c⟩:=F.ex;exact .all (h kV _ pm an _ ct)
theorem Mx{x qual:Str}{st:dE}{f:Ch}{oc:Cn}{od an:Option Ch}{b:Array (Option Cn)}{kV doc pm a ct:Cn}(l:K.lookup f=some ⟨oc,od,.func (fnOf x qual (CP st) (BX st) (AH st) .none kV doc pm an a ct),b⟩)
  (c:codeIn K a qual=true) (k:keepIn K (.ref f)=true):Fun K x qual st f (fnOf x qual (CP st) (BX st) (AH st) .none kV doc pm an a ct):=⟨⟨oc,od,kV,_,pm,an,_,ct,_,rfl,l,c⟩,k⟩
end
theorem J9{A:dL}{k:Nat}(hr:Room k A):A.units+1<cLine:=fD (Nat.add_le_add_left (by decide) _) hr.units
section
variable {X:Cx}
theorem pv(i:Nat){x:Str}{pos:Pos}(hN:X.N[i]?=some x:=by rfl)(hv:Sw X.env.scope x:=by first | exact TW rfl | exact dZ (TW rfl) | exact dZ (dZ rfl))(hd:(x==("__debug__":Str))=false:=by decide)
  (a:(x==("__classdict__":Str))=false:=by decide):PE X (.Name x pos) (CH i):=Em hN hv hd a
end
theorem BQ{A B:Prop}(h:B):if false=true then A else B:=by
 grind
theorem Bi{A B:Prop}(h:A):if true=true then A else B:=by
 grind
theorem B3{c A B:Prop}[Decidable c](h1:c->A)(h2:¬c->B):if c then A else B:=by
 grind
section
variable {κ:Type}[DecidableEq κ]
def E7(a:List (κ×V))(k:κ):Option V:=(a.find? λkv=>decide (kv.1=k)).map (·.2)
def putK(a:List (κ×V))(k:κ)(v:V):List (κ×V) :=
 if (a.any λkv=>decide (kv.1=k))=true then a.map (λkv=>if kv.1=k then (kv.1,v) else kv) else a++[(k,v)]
theorem E_{p:κ×V}{r:List (κ×V)}{k:κ}(e:p.1=k):E7 (p::r) k=some p.2:=by simp [E7,e]
theorem FA{p:κ×V}{r:List (κ×V)}{k:κ}(e:¬p.1=k):E7 (p::r) k=E7 r k:=by simp [E7,e]
theorem Nb(k:κ):∀a:List (κ×V),(a.any λkv=>decide (kv.1=k))=(E7 a k).isSome
 | []=>rfl
 | p::r=>by
  rw [List.any_cons]
  by_cases e:p.1=k
  ·simp [E_ e,decide_eq_true e,Bool.true_or]
  ·rw [FA e,decide_eq_false e]; exact Nb k r
theorem FR(a:List (κ×V))(k:κ)(v:V):(putK a k v).length<=a.length+1:=by
 unfold putK
 grind
theorem RelO.isSome_eq{o:Option V}{u:Option Cn}(r:RelO o u):o.isSome=u.isSome:=by
 cases o with
 | none=>cases u with
  | none=>rfl
  | some _=>exact(r).elim
 | some _=>cases u with
  | none=>exact(r).elim
  | some _=>rfl
theorem RelO.getD{o:Option V}{u:Option Cn}{d:V}{d':Cn}(r:RelO o u)(rd:RelV d d'):RelV (o.getD d) (u.getD d'):=by
 cases o with
 | none=>cases u with
  | none=>exact rd
  | some _=>exact(r).elim
 | some _=>cases u with
  | none=>exact(r).elim
  | some _=>exact r
theorem KV.val{a:List (κ×V)}{vs:List (κ×Cn)}(r:KV a vs)(k:κ):RelO (E7 a k) (valueAt vs k):=by
 induction r with
 | nil=>exact eP
 | @cons p q ps qs h t ih =>
  obtain⟨h1,h2⟩:=h
  by_cases e:p.1=k
  ·have e':=h1.symm.trans e
   have b:valueAt (q::qs) k=some q.2:=by simp [valueAt,e']
   rw [E_ e,b]; exact h2
  ·have e':¬q.1=k:=λz=>e (h1.trans z)
   have b:valueAt (q::qs) k=valueAt qs k:=by simp [valueAt,e']
   rw [FA e,b]; exact ih
theorem KV.any{a:List (κ×V)}{vs:List (κ×Cn)}(r:KV a vs)(k:κ):(a.any λkv=>decide (kv.1=k))=vs.any λkv=>decide (kv.1=k):=by
 induction r with
 | nil=>rfl
 | cons h t ih=>simp_all
theorem KV.repl{a:List (κ×V)}{vs:List (κ×Cn)}(r:KV a vs)(k:κ){y:V}{u:Cn}(ry:RelV y u) :
  KV (a.map λkv=>if kv.1=k then (kv.1,y) else kv) (vs.map λkv=>if kv.1=k then (kv.1,u) else kv):=by
 induction r with
 | nil=>exact .nil
 | @cons p q ps qs h t ih =>
  refine .cons ?_ ih
  by_cases e:p.1=k
  ·simp_all
  simp_all
theorem KV.put{kvs:List (κ×V)}{vs:List (κ×Cn)}(r:KV kvs vs)(k:κ){y:V}{u:Cn}(ry:RelV y u):KV (putK kvs k y) (stored vs k u):=by
 unfold putK stored;rw [r.any k]
 by_cases e:(vs.any λkv=>decide (kv.1=k))=true
 ·rw [if_pos e,if_pos e]; exact r.repl k ry
 ·rw [if_neg e,if_neg e]; exact Paired.snoc r ⟨rfl,ry⟩
theorem KV.length{a:List (κ×V)}{vs:List (κ×Cn)}(r:KV a vs):a.length=vs.length:=Paired.length r
end
theorem H_{P:cz}{w:dC}{k:Key}{u:Cn}(r:RelV (kV k) u):(BV P w).is k u=true:=by
 cases k with
 | inl i=>obtain⟨t,e⟩:=(r); subst e; exact OM P w i t
 | inr x=>obtain⟨t,e⟩:=(r); subst e; exact OL P w x t
theorem Lg{P:cz}{w:dC}:∀{ks:List Key} {us:List Cn},Vals (ks.map kV) us->ItemsAre (BV P w) ks us
 | [],_,r=>by cases r; exact .nil
 | k::ks,_,r=>by
  cases r with
  | cons h t=>exact .cons (H_ h) (Lg t)
abbrev KT(H:Hp):List (List Key×V)->List (List Key×Ch×Cn)->Prop:=Paired λp q=>p.1=q.1/\H q.2.1=some (.tup (p.1.map kV))/\RelV p.2 q.2.2
theorem KT.val{H:Hp}{a:List (List Key×V)}{xs:List (List Key×Ch×Cn)}(r:KT H a xs)(k:List Key):RelO (E7 a k) ((atKey xs k).map (·.2)):=by
 induction r with
 | nil=>exact eP
 | @cons p q ps qs h t ih =>
  obtain⟨h1,_,h2⟩:=h
  by_cases e:p.1=k
  ·have e':=h1.symm.trans e
   have b:atKey (q::qs) k=some q.2:=by simp [atKey,e']
   rw [E_ e,b]; exact h2
  ·have e':¬q.1=k:=λz=>e (h1.trans z)
   have b:atKey (q::qs) k=atKey qs k:=by simp [atKey,e']
   rw [FA e,b]; exact ih
theorem KT.repl{H:Hp}{a:List (List Key×V)}{xs:List (List Key×Ch×Cn)}(r:KT H a xs)(k:List Key){y:V}{u:Cn}(ry:RelV y u) :
  KT H (a.map λkv=>if kv.1=k then (kv.1,y) else kv) (xs.map (putAt k u)):=by
 induction r with
 | nil=>exact .nil
 | @cons p q ps qs h t ih =>
  refine .cons ?_ ih;unfold putAt
  by_cases e:p.1=k
  ·simp_all
  simp_all
theorem KT.put{H:Hp}{kvs:List (List Key×V)}{xs:List (List Key×Ch×Cn)}(r:KT H kvs xs)(k:List Key){b:Ch}{y:V}{u:Cn}(a:H b=some (.tup (k.map kV)))(ry:RelV y u) :
  KT H (putK kvs k y) (storedH xs k b u):=by
 have e:(kvs.any λkv=>decide (kv.1=k))=(atKey xs k).isSome:=by
  rw [Nb,(r.val k).isSome_eq,i8]
 unfold putK storedH;rw [e]
 by_cases q:(atKey xs k).isSome=true
 ·rw [if_pos q,if_pos q]; exact r.repl k ry
 ·rw [if_neg q,if_neg q]; exact Paired.snoc r ⟨rfl,a,ry⟩
theorem KT.keeps{H H':Hp}{a:List (List Key×V)}{xs:List (List Key×Ch×Cn)}(r:KT H a xs)(ht:∀b ys,H b=some (.tup ys)->H' b=some (.tup ys)):KT H' a xs :=
 Paired.mapP r λ_ _ z=>⟨z.1,ht _ _ z.2.1,z.2.2⟩
section
variable {P:Program}{w:World}{H:Hp}{h:Heap}{a:Addr}
theorem Wy{u:HO}(ok:HOk P w H h)(e:Rd H a u):ObjOk P w H h a u:=e.ok ok
theorem G7{b:List (Key×V)}(ok:HOk P w H h)(e:Rd H a (.dK b)):b.length<=sizeLine/\(a==sysModules)=false/\∃vs,KV b vs/\h.DictOf (BV P w) a vs :=
 Wy ok e
theorem XR{b:List (Key×V)}(ok:HOk P w H h)(e:H a=some (.dK b)):b.length<=sizeLine/\(a==sysModules)=false/\∃vs,KV b vs/\h.DictOf (BV P w) a vs:=G7 ok (.inl e)
theorem GZ{ks:List Key}(ok:HOk P w H h)(e:H a=some (.tup (ks.map kV))):(tupleKind (BV P w)).is h ks a:=by
 obtain⟨_,b,r,o,h1,h2,n,h3,_⟩:=(ok a _ e);exact⟨o,_,n,h1,h2,h3,by simpa using Lg r⟩
theorem IE{b:List (List Key×V)}(ok:HOk P w H h)(e:Rd H a (.dT b)):b.length<=sizeLine/\(a==sysModules)=false /\
  ∃xs,KT H b xs/\h.DictOfH (tupleKind (BV P w)) a xs:=by
 obtain⟨z,y,xs,r,o,es,ep,h1,h2,h3,h4,h5⟩:=(Wy ok e);refine⟨z,y,xs,r,o,es,ep,h1,h2,h3,h4,λx c=>?_,h5⟩
 have all:∀{l:List _} {m:List _},KT H l m->∀x∈m,(tupleKind (BV P w)).is h x.1 x.2.1:=by
  intro l m q
  induction q with
  | nil=>grind
  | @cons p q ps qs hq t ih =>
   intro x c
   rcases T0.mp c with e | c
   ·exact GZ ok (by grind)
   ·exact ih x c
 exact all r x c
theorem aL{b:List (List Key×V)}(ok:HOk P w H h)(e:H a=some (.dT b)):b.length<=sizeLine/\(a==sysModules)=false /\
  ∃xs,KT H b xs/\h.DictOfH (tupleKind (BV P w)) a xs:=IE ok (.inl e)
end
def DGet(H:Hp)(a:Ch)(y:V)(r:Option V):Prop :=
 (∃c k,Rd H a (.dK c)/\y=kV k/\r=E7 c k)\/∃c k b,Rd H a (.dT c)/\y=.ref b/\H b=some (.tup (k.map kV))/\r=E7 c k
def DPut(H:Hp)(a:Ch)(y v:V)(H':Hp):Prop :=
 (∃c k,H a=some (.dK c)/\y=kV k/\c.length<sizeLine/\H'=A4 H a (.dK (putK c k v))) \/
 ∃c k b,H a=some (.dT c)/\y=.ref b/\H b=some (.tup (k.map kV))/\c.length<sizeLine/\H'=A4 H a (.dT (putK c k v))
theorem DGet.k{H:Hp}{a:Ch}{b:List (Key×V)}{k:Key}(e:H a=some (.dK b)):DGet H a (kV k) (E7 b k):=.inl ⟨_,k,.inl e,rfl,rfl⟩
theorem DPut.k{H:Hp}{a:Ch}{b:List (Key×V)}{k:Key}{v:V}(e:H a=some (.dK b))(c:b.length<sizeLine):DPut H a (kV k) v (A4 H a (.dK (putK b k v))):=.inl ⟨_,k,e,rfl,c,rfl⟩
section
variable {X:Cx}{zG:List (Addr×Obj)}{σ:St}{H:Hp}{s:Shared}{a:Addr}{y v:V}{u r:Value}{o:Option V}{A:Around}{E:Value->Shared->Prop}
theorem Inv.big(I:Inv X zG σ H s):sysModules<s.heap.objs.size:=iI (by decide) (I.mod.glob.keeps I.bk).lt
theorem Sn{Q:Cn->FM->Prop}(hu:A.units+1<cLine)(I:Inv X zG σ H s)(g:DGet H a y (some v))(ry:RelV y u)(h:∀w' s',Inv X zG σ H s'->RelV v w'->Q w' s') :
  wpAny (model X.prog X.w) A (getItem (.ref a) u) Q E s:=by
 rcases g with ⟨d,k,e,ey,l⟩ | ⟨d,k,b,e,ey,eb,l⟩
 ·subst ey
  obtain⟨z,hd,vs,rel,dd⟩:=G7 I.hok e;obtain⟨w',hw,c⟩:=RelO.some_of (v:=v) (o:=valueAt vs k) (by rw [l]; exact rel.val k);exact wpAny_getItem_of (H_ ry) dd.mapOf hw (h w' _ (I.tok _) c)
 ·subst ey
  cases (show u=cm b from ry);obtain⟨z,hd,xs,rel,dd⟩:=IE I.hok e;obtain⟨w',hw,c⟩:=RelO.some_of (v:=v) (o:=(atKey xs k).map (·.2)) (by rw [l]; exact rel.val k);obtain⟨p,hp,f⟩:=fS.mp hw;refine wpAny_getItem_heap (fW hu) (GZ I.hok eb) dd hp ?_;rw [f];exact h w' _ (I.tok _) c
theorem bi{Q:Cn->FM->Prop}(hu:A.units+1<cLine)(I:Inv X zG σ H s)(g:DGet H a y o)(ry:RelV y u)(h:∀s',Inv X zG σ H s'->Q (.bool o.isSome) s') :
  wpAny (model X.prog X.w) A (compareOp .In u (.ref a)) Q E s:=by
 rcases g with ⟨c,k,e,ey,l⟩ | ⟨c,k,b,e,ey,eb,l⟩
 ·subst ey
  obtain⟨z,hd,vs,rel,dd⟩:=G7 I.hok e;refine wpAny_in_of (H_ ry) hd dd.mapOf ?_;rw [← (rel.val k).isSome_eq,← l];exact h _ (I.tok _)
 ·subst ey
  cases (show u=cm b from ry);obtain⟨z,hd,xs,rel,dd⟩:=IE I.hok e;refine wpAny_in_heap (fW hu) (GZ I.hok eb) hd dd ?_;have q:=(rel.val k).isSome_eq;rw [i8] at q;rw [← q,← l];exact h _ (I.tok _)
theorem We{Q:Cn->FM->Prop}(hu:A.units+1<cLine)(I:Inv X zG σ H s)(g:DGet H a y o)(ry:RelV y u)(h:∀s',Inv X zG σ H s'->Q (.bool (!o.isSome)) s') :
  wpAny (model X.prog X.w) A (compareOp .NotIn u (.ref a)) Q E s:=by
 rcases g with ⟨c,k,e,ey,l⟩ | ⟨c,k,b,e,ey,eb,l⟩
 ·subst ey
  obtain⟨z,hd,vs,rel,dd⟩:=G7 I.hok e;refine wpAny_notIn_of (H_ ry) hd dd.mapOf ?_;rw [← (rel.val k).isSome_eq,← l];exact h _ (I.tok _)
 ·subst ey
  cases (show u=cm b from ry);obtain⟨z,hd,xs,rel,dd⟩:=IE I.hok e;refine wpAny_notIn_heap (fW hu) (GZ I.hok eb) hd dd ?_;have q:=(rel.val k).isSome_eq;rw [i8] at q;rw [← q,← l];exact h _ (I.tok _)
theorem NE{h':cw}{t':Nat}{ob:HO}(I:Inv X zG σ H s)(mu:aZ (H a))(c:fq a s.heap h')(he:∃q,h'.get? a=some q)(new:ObjOk X.prog X.w (A4 H a ob) h' a ob) :
  Inv X zG σ (A4 H a ob) { s with heap:=h',toks:=t' } :=
 I.write mu (.inl rfl) (λb q d z=>(c.2 b d).trans z) he new
theorem U8{P:cz}{w:dC}{H':Hp}{h':cw}{b:List (Key×V)}{vs:List (Key×Cn)}(z:b.length<=sizeLine)(hd:(a==sysModules)=false)(rel:KV b vs)(dd:h'.DictOf (BV P w) a vs) :
  ObjOk P w H' h' a (.dK b):=⟨z,hd,vs,rel,dd⟩
theorem Sm{H':Hp}{Q:Unit->FM->Prop}(hu:A.units+1<cLine)(I:Inv X zG σ H s)(g:DPut H a y v H')(ry:RelV y u)(rv:RelV v r)(h:∀s',Inv X zG σ H' s'->Q () s') :
  wpAny (model X.prog X.w) A (setItem (.ref a) u r) Q E s:=by
 rcases g with ⟨d,k,e,ey,l,eH⟩ | ⟨d,k,b,e,ey,eb,l,eH⟩
 ·subst ey eH
  obtain⟨z,hd,vs,rel,dd⟩:=XR I.hok e;have i:vs.length<=sizeLine:=by rw [← rel.length]; exact z
  have j:(putK d k v).length<=sizeLine:=by have:=FR d k v; omega
  refine wpAny_setItem_pairs (hsz:=i) (H_ ry) dd λh' f m=>h _ ?_;have he:∃q,h'.get? a=some q:=let ⟨q,_,_,hq,_⟩:=f; ⟨q,hq⟩
  exact NE I (by rw [e]; exact eP) m he (U8 j hd (rel.put k rv) f)
 ·subst ey eH
  cases (show u=cm b from ry);obtain⟨z,hd,xs,rel,dd⟩:=aL I.hok e;have i:xs.length<=sizeLine:=by rw [← Paired.length rel]; exact z
  have j:(putK d k v).length<=sizeLine:=by have:=FR d k v; omega
  refine wpAny_setItem_heap (hsz:=i) (fW hu) (GZ I.hok eb) dd λh' f m=>h _ ?_;obtain⟨q,es,ep,hq,h2,h3,h4,_,h5⟩:=f;refine NE I (by rw [e]; exact eP) m ⟨q,hq⟩ ⟨j,hd,_,(rel.put k eb rv).keeps λc ys ec=>?_,q,es,ep,hq,h2,h3,h4,h5⟩;rw [AQ (Z5 ec e (λz=>nomatch z))];exact ec
end
def Y8(i:c_):Prop:=∀ov iv,subscripted i false ov iv=operate [ov,iv] (getItem ov iv)
theorem Vf{prog:cz}{w:dC}{A:dL}{E:Cn->FM->Prop}{s:FM}{env:Env}{value slice:c_}{pos:Pos}{T id:String}{Q:Cn->FM->Prop}
  (a:typeLookup (.type T) "__getitem__"=pure (some (.builtin id))) (b:Y8 slice)
  (h:wpAny (model prog w) A (eval value env) (λo s₁=>wpAny (model prog w) A (eval slice env) (λi s₂=>s₂.TypeIs o T/\wpAny (model prog w) A (getItem o i) Q E s₂) E s₁) E s) :
  wpAny (model prog w) A (eval (.Subscript value slice pos) env) Q E s:=by
 refine Subscript_ (dP h (λo s₁ h₁=>dP h₁ (λi s₂ h₂=>?_) λ_ _ x=>x) λ_ _ x=>x);obtain⟨hT,h₂⟩:=h₂;refine Db ?_;refine Db (wpAny_specialOf hT a ?_)
 first
  | exact Sc (Db (by
  rw [b o i];exact wpAny_operating (dP h₂ (λr s₃ h₃=>Db (wpAny_letTemporaryGo (Sc h₃))) λ_ _ x=>x)))
  | grind
  | grind
theorem Oq{X:Cx}{zG:List (Ch×Obj)}{σ:St}{H:Hp}{s:FM}{a:Ch}{y:V}{o:Option V}(I:Inv X zG σ H s)(g:DGet H a y o):s.TypeIs (.ref a) "dict":=by
 rcases g with ⟨c,k,e,_,_⟩ | ⟨c,k,b,e,_,_,_⟩
 ·obtain⟨_,_,vs,_,dd⟩:=G7 I.hok e
  exact dd.typeIs
 ·obtain⟨_,_,xs,_,dd⟩:=IE I.hok e
  exact dd.typeIs
def Zc(td ty:TE):TE:=λσ H Q=>td σ H λx H1=>ty σ H1 λy H2=>∃a v,x=.ref a/\DGet H2 a y (some v)/\Q v H2
def Zg(td ty tv:TE):TS:=λD σ H=>tv σ H λv H1=>td σ H1 λx H2=>ty σ H2 λy H3=>∃a H4,x=.ref a/\DPut H3 a y v H4/\D.nx σ H4
section
variable {X:Cx}{o i value:Expr}{pos pos':Pos}{td ty tv:TE}
theorem MY(hu:X.A.units+1<cLine)(ho:PE X o td)(hi:PE X i ty)(c:Y8 i):PE X (.Subscript o i pos) (Zc td ty):=by
 intro zG s σ H Q I h;refine Vf PySem.F.slot_dict_getitem.lookup c (thn (ho _ s σ H _ I h) λu s1 ⟨x,H1,I1,rx,q1⟩=>thn (hi _ s1 σ H1 _ I1 q1) λiv s2 ⟨y,H2,I2,ry,a,v,ex,g,q2⟩=>?_);subst ex;obtain rfl:u=cm a:=rx;exact⟨Oq I2 g,Sn hu I2 g ry λw' s3 I3 b=>⟨v,H2,I3,b,q2⟩⟩
theorem Ir(hu:X.A.units+1<cLine)(ho:PE X o td)(hi:PE X i ty)(hv:PE X value tv)(b:swapsWith value (some (.Subscript o i pos')) pos.line X.env=pure false) :
  PS X (.Assign [.Subscript o i pos'] value pos) (Zg td ty tv):=by
 intro zG s σ H D I h;refine wpAny_Assign_Subscript (thn (hv _ s σ H _ I h) λr s1 ⟨v,H1,I1,rv,q1⟩=>thn (ho _ s1 σ H1 _ I1 q1) λu s2 ⟨x,H2,I2,rx,q2⟩=>thn (hi _ s2 σ H2 _ I2 q2) λiv s3 ⟨y,H3,I3,ry,a,H4,ex,g,q3⟩=>?_) b;subst ex;obtain rfl:u=cm a:=rx;exact Sm hu I3 g ry rv λs4 I4=>⟨σ,H4,I4,q3⟩
end
theorem Oo{P:cz}{w:dC}{H:Hp}(h:cw)(a:sysModules<h.objs.size):ObjOk P w H (h.push { cls:=.type "dict",data:=.dict #[] }) h.objs.size (.dK []) :=
 ⟨TM _,beq_eq_false_iff_ne.mpr (eF (c7 a)),[],.nil,Heap.DictOf.new h⟩
def Xv:TE:=λ_ H Q=>∀p,H p=none->Q (.ref p) (A4 H p (.dK []))
section
variable {X:Cx}{pos:Pos}
theorem N7:PE X (.Dict [] [] pos) Xv:=λzG s σ H Q I h =>
 wpAny_Dict_empty ⟨.ref _,_,I.laid (λ_ _ q=>Ev _ q) (On _) (Oo _ I.big),rfl,h _ (I.hok.fresh (On _))⟩
end
def PQ:List (TE×TE)->St->Hp->(List (V×V)->Hp->Prop)->Prop
 | [],_,H,Q=>Q [] H
 | (tk,tv)::r,σ,H,Q=>tk σ H λx H1=>tv σ H1 λy H2=>PQ r σ H2 λps H3=>Q ((x,y)::ps) H3
abbrev VV:List (V×V)->List (Cn×Cn)->Prop:=Paired λp q=>RelV p.1 q.1/\RelV p.2 q.2
def az(X:Cx)(pos:Pos)(keys:List (Option c_))(values:List c_)(a:List (TE×TE)):Prop :=
 ∀(zG:List (Ch×Obj)) (s:FM) (σ:St) (H:Hp) (Q:List (V×V)->Hp->Prop),Inv X zG σ H s->PQ a σ H Q ->
  wpAny (model X.prog X.w) X.A (evalPairs (pairTrees keys values X.env pos)) (λvs s'=>∃ps H',Inv X zG σ H' s'/\VV ps vs/\Q ps H') X.xe s
theorem Vm{X:Cx}{pos:Pos}:az X pos [] [] []:=λzG s σ H Q I h=>pairTrees_nil_walk ⟨[],H,I,.nil,h⟩
theorem UG{X:Cx}{pos:Pos}{k v:c_}{ks:List (Option c_)}{vs:List c_}{tk tv:TE}{a:List (TE×TE)}(b:PE X k tk)(hv:PE X v tv)(hr:az X pos ks vs a) :
  az X pos (some k::ks) (v::vs) ((tk,tv)::a):=λzG s σ H Q I h =>
 pairTrees_cons_walk (thn (b _ s σ H _ I h) λu s1 ⟨x,H1,I1,rx,q1⟩=>thn (hv _ s1 σ H1 _ I1 q1) λw2 s2 ⟨y,H2,I2,ry,q2⟩ =>
  thn (hr _ s2 σ H2 _ I2 q2) λws s3 ⟨ps,H3,I3,rel,q3⟩=>⟨_,H3,I3,.cons ⟨rx,ry⟩ rel,q3⟩)
def Jv(a more:List (Key×V)):List (Key×V):=more.foldl (λb kv=>putK b kv.1 kv.2) a
theorem KV.merge:∀{more:List (Key×V)} {rs:List (Key×Cn)} {a:List (Key×V)} {vs:List (Key×Cn)},KV more rs->KV a vs->KV (Jv a more) (merged vs rs):=by
 intro more rs a vs r
 induction r generalizing a vs with
 | nil=>intro q; exact q
 | @cons p q ps qs h t ih =>
  intro r0
  exact ih (by
   have:=r0.put p.1 h.2
   simp_all)
theorem F8:∀(more a:List (Key×V)),(Jv a more).length<=a.length+more.length
 | [],a=>by show a.length<=a.length+0; omega
 | p::r,a=>by
  have h1:=F8 r (putK a p.1 p.2);have h2:=FR a p.1 p.2;show (Jv _ r).length<=_
  grind
theorem KS{P:cz}{w:dC}:∀{d:List (Key×V)} {ws:List (Cn×Cn)},VV (d.map λkv=>(kV kv.1,kv.2)) ws->∃rs,Carries (BV P w) ws rs/\KV d rs
 | [],_,r=>by cases r; exact⟨[],eP,.nil⟩
 | p::d,_,r=>by
  cases r with
  | @cons a b as bs h t =>
   obtain⟨rs,c,q⟩:=KS t;obtain⟨b1,b2⟩:=b;exact⟨(p.1,b2)::rs,⟨H_ h.1,rfl,c⟩,.cons ⟨rfl,h.2⟩ q⟩
def Zb(b:List (TE×TE)):TE:=λσ H Q=>∀p,H p=none->PQ b σ (A4 H p (.dK [])) λps H2=>H2 p=some (.dK [])/\∃a:List (Key×V),ps=a.map (λkv=>(kV kv.1,kv.2))/\a.length<=15/\Q (.ref p) (A4 H2 p (.dK (Jv [] a)))
theorem Vs{X:Cx}{pos:Pos}{keys:List (Option c_)}{values:List c_}{b:List (TE×TE)}(h:az X pos keys values b)(d:keys.all (·.isSome)=true)(j:keys.length=values.length)(h0:keys≠[])
  (i:keys.length<=15):PE X (.Dict keys values pos) (Zb b):=by
 intro zG s σ H Q I q;have hn:=I.hok.fresh (On s.heap.objs.size);have I1:=I.laid (a:=s.heap.objs.size) (o:=.dK []) (h':=s.heap.push { cls:=.type "dict",data:=.dict #[] }) (t':=s.toks) (λ_ _ q=>Ev _ q) (On _) (Oo s.heap I.big);refine wpAny_Dict_walk (knd:=BV X.prog X.w) d j h0 i (thn (h zG _ σ _ _ I1 (q _ hn)) λws s2 ⟨ps,H2,I2,rel,e,f,ep,lk,q2⟩=>?_);subst ep;obtain⟨rs,c,rk⟩:=KS (P:=X.prog) (w:=X.w) rel;obtain⟨z,hd,k,r0,dd⟩:=XR I2.hok e;cases r0;refine⟨rs,c,dd,λh' g l=>⟨.ref s.heap.objs.size,_,?_,rfl,q2⟩⟩
 have m:(Jv [] f).length<=sizeLine:=by
  have h1:=F8 f [];rw [eE] at h1;rw [di]; omega
 have he:∃q,h'.get? s.heap.objs.size=some q:=let ⟨q,_,_,hq,_⟩:=g; ⟨q,hq⟩
 exact NE I2 (by rw [e]; exact eP) l he (U8 m hd (rk.merge .nil) g)
structure M1 (X:Cx) (o:c_) (m:Str) (apos:Pos) (e:c_) (cpos:Pos):Prop where
 base:attributeBase o m X.env (eval o X.env)=eval o X.env
 few:((backTo cpos (starEach [e] X.env)).all (λx=>!x.1)&&(backToKw cpos (keywordEach [] X.env)).all (λx=>x.1.isSome)
  && decide (([e]:List c_).length+([]:List gL).length+(if ([]:List gL).isEmpty then 0 else 1)<30))=true
 line:(apos.endLine==cpos.line)=true
 trees:backTo cpos (starEach [e] X.env)=[(false,eval e X.env)]
structure M2 (X:Cx) (o:c_) (m:Str) (apos:Pos) (e f:c_) (cpos:Pos):Prop where
 base:attributeBase o m X.env (eval o X.env)=eval o X.env
 few:((backTo cpos (starEach [e,f] X.env)).all (λx=>!x.1)&&(backToKw cpos (keywordEach [] X.env)).all (λx=>x.1.isSome)
  && decide (([e,f]:List c_).length+([]:List gL).length+(if ([]:List gL).isEmpty then 0 else 1)<30))=true
 line:(apos.endLine==cpos.line)=true
 trees:backTo cpos (starEach [e,f] X.env)=[(false,eval e X.env),(false,eval f X.env)]
def a_(H:Hp)(a:Ch):Prop:=(∃b,Rd H a (.dK b))\/∃b,Rd H a (.dT b)
theorem Ut{X:Cx}{zG:List (Ch×Obj)}{σ:St}{H:Hp}{s:FM}{a:Ch}(I:Inv X zG σ H s)(d:a_ H a) :
  s.TypeIs (.ref a) "dict"/\(∀b,cm a=.ref b->∃ob,s.heap.get? b=some ob/\ob.dict=none)/\(a==sysModules)=false:=by
 rcases d with ⟨c,e⟩ | ⟨c,e⟩
 ·obtain⟨_,hd,vs,_,dd⟩:=G7 I.hok e
  refine⟨dd.typeIs,λb q=>?_,hd⟩;cases q;obtain⟨ob,_,_,h1,h2,_⟩:=dd;exact⟨ob,h1,h2.2.1⟩
 ·obtain⟨_,hd,xs,_,dd⟩:=IE I.hok e
  refine⟨dd.typeIs,λb q=>?_,hd⟩;cases q;obtain⟨ob,_,_,h1,h2,_⟩:=dd;exact⟨ob,h1,h2.2.1⟩
section
variable {X:Cx}{zG:List (Addr×Obj)}{σ:St}{H:Hp}{s:Shared}{a:Addr}{y d:V}{u r:Value}{o:Option V}{A:Around}{E:Value->Shared->Prop}
theorem Yp{Q:Cn->FM->Prop}(hu:A.units+1<cLine)(I:Inv X zG σ H s)(g:DGet H a y o)(ry:RelV y u)(h:∀w' s',Inv X zG σ H s'->RelV (o.getD .non) w'->Q w' s') :
  wpAny (model X.prog X.w) A (call (.builtin "dict.get") [.ref a,u]) Q E s:=by
 rcases g with ⟨c,k,e,ey,l⟩ | ⟨c,k,b,e,ey,eb,l⟩
 ·subst ey
  obtain⟨z,hd,vs,rel,dd⟩:=G7 I.hok e;refine jL PySem.F.slot_dict_get dd.typeIs PySem.F.entry_dict_get (PySem.F.args_dict_get_2 _ _) (meets_dict_get (BV X.prog X.w) a (H_ ry) hd) ⟨_,dd.mapOf,h _ _ (I.tok _) ?_⟩;rw [l];exact(rel.val k).getD rfl
 ·subst ey
  cases (ry);obtain⟨z,hd,xs,rel,dd⟩:=IE I.hok e;refine jL PySem.F.slot_dict_get dd.typeIs PySem.F.entry_dict_get (PySem.F.args_dict_get_2 _ _) (meetsH_dict_get _ a b hd) ⟨fW hu,k,xs,GZ I.hok eb,dd,h _ _ (I.tok _) ?_⟩;rw [l];exact(rel.val k).getD rfl
theorem Yo{Q:Cn->FM->Prop}(hu:A.units+1<cLine)(I:Inv X zG σ H s)(g:DGet H a y o)(ry:RelV y u)(rd:RelV d r)(h:∀w' s',Inv X zG σ H s'->RelV (o.getD d) w'->Q w' s') :
  wpAny (model X.prog X.w) A (call (.builtin "dict.get") [.ref a,u,r]) Q E s:=by
 rcases g with ⟨c,k,e,ey,l⟩ | ⟨c,k,b,e,ey,eb,l⟩
 ·subst ey
  obtain⟨z,hd,vs,rel,dd⟩:=G7 I.hok e;refine jL PySem.F.slot_dict_get dd.typeIs PySem.F.entry_dict_get (PySem.F.args_dict_get_3 _ _ _) (meets_dict_get_default (BV X.prog X.w) a (H_ ry) hd r) ⟨_,dd.mapOf,h _ _ (I.tok _) ?_⟩;rw [l];exact(rel.val k).getD rd
 ·subst ey
  cases (ry);obtain⟨z,hd,xs,rel,dd⟩:=IE I.hok e;refine jL PySem.F.slot_dict_get dd.typeIs PySem.F.entry_dict_get (PySem.F.args_dict_get_3 _ _ _) (meetsH_dict_get_default _ a b hd r) ⟨fW hu,k,xs,GZ I.hok eb,dd,h _ _ (I.tok _) ?_⟩;rw [l];exact(rel.val k).getD rd
end
def Xx(td ty:TE):TE:=λσ H Q=>td σ H λx H1=>∃a,x=.ref a/\a_ H1 a/\ty σ H1 λy H2=>∃o,DGet H2 a y o/\Q (o.getD .non) H2
def Xw(td ty tx:TE):TE:=λσ H Q=>td σ H λx H1=>∃a,x=.ref a/\a_ H1 a/\ty σ H1 λy H2=>tx σ H2 λz H3=>∃o,DGet H3 a y o/\Q (o.getD z) H3
section
variable {X:Cx}{o e f:Expr}{apos cpos:Pos}{td ty tx:TE}
theorem UQ(hu:X.A.units+1<cLine)(ho:PE X o td)(he:PE X e ty)(m:M1 X o "get" apos e cpos):PE X (.Call (.Attribute o "get" apos) [e] [] cpos) (Xx td ty):=by
 intro zG s σ H Q I h;refine wpAny_Call_method m.base m.few m.line PySem.F.plainAttrs_dict PySem.F.slot_dict_get PySem.F.type_dict_get (thn (ho _ s σ H _ I h) λu s1 ⟨x,H1,I1,rx,a,ex,d,q1⟩=>?_);subst ex;obtain rfl:u=cm a:=rx;obtain⟨t1,t2,_⟩:=Ut I1 d;refine⟨t1,t2,?_⟩;rw [m.trees];exact g8 rfl (iH (gC (thn (he _ s1 σ H1 _ I1 q1) λiv s2 ⟨y,H2,I2,ry,ov,g,q2⟩=>gy (Yp hu I2 g ry λw' s3 I3 b=>⟨_,H2,I3,b,q2⟩))))
theorem UP(hu:X.A.units+1<cLine)(ho:PE X o td)(he:PE X e ty)(hf:PE X f tx)(m:M2 X o "get" apos e f cpos):PE X (.Call (.Attribute o "get" apos) [e,f] [] cpos) (Xw td ty tx):=by
 intro zG s σ H Q I h;refine wpAny_Call_method m.base m.few m.line PySem.F.plainAttrs_dict PySem.F.slot_dict_get PySem.F.type_dict_get (thn (ho _ s σ H _ I h) λu s1 ⟨x,H1,I1,rx,a,ex,d,q1⟩=>?_);subst ex;obtain rfl:u=cm a:=rx;obtain⟨t1,t2,_⟩:=Ut I1 d;refine⟨t1,t2,?_⟩;rw [m.trees]
 exact g8 rfl (iH (gC (thn (he _ s1 σ H1 _ I1 q1) λiv s2 ⟨y,H2,I2,ry,q2⟩ =>
  gC (thn (hf _ s2 σ H2 _ I2 q2) λfv s3 ⟨z,H3,I3,rz,ov,g,q3⟩=>gy (Yo hu I3 g ry rz λw' s4 I4 b=>⟨_,H3,I4,b,q3⟩)))))
end
end L2
set_option maxHeartbeats 4000000
namespace L2
section
theorem QH{env:Env}:∀(names:List (Str×fN)) (cs:List (Str×Ch)),(∀x,(x,df)∈names->∃c,env.cells.lookup x=some c)->(∀x c,cs.lookup x=some c->env.cells.lookup x=some c) ->
  ∃cl,(forIn names cs fun(x:Str×fN) (r:List (Str×Ch))=>(if (x.2==df)=true then do let a ← cellOf env x.1; pure (gD ((x.1,a)::r)) else pure (gD r):Sem (ForInStep (List (Str×Ch)))))=(pure cl:Sem _) /\
   (∀x c,cl.lookup x=some c->env.cells.lookup x=some c)/\(∀x,((x,df)∈names\/∃c,cs.lookup x=some c)->∃c,cl.lookup x=some c):=by
 intro names
 induction names with
 | nil =>
  intro cs _ h2;exact⟨cs,rfl,h2,λx d=>d.elim (λz=>absurd z (by simp)) λz=>z⟩
 | cons p r ih =>
  intro cs h1 h2;obtain⟨n,k⟩:=p
  by_cases h:k=df
  ·subst h
   obtain⟨c,m⟩:=h1 n Op;have f:cellOf env n=pure c:=by simp only [cellOf,m]
   obtain⟨cl,e,a,b⟩:=ih ((n,c)::cs) (λx d=>h1 x (Re _ d)) (λx c' d=>by
    rw [fP] at d;cases i:x==n with
    | true =>
     rw [i] at d;have j:some c=some c':=d;cases j
     have:x=n:=by simpa using i
     rw [this]; exact m
    | false=>rw [i] at d; exact h2 x c' d)
   refine⟨cl,?_,a,λx d=>b x ?_⟩
   ·rw [iJ]
    simp only [beq_self_eq_true,if_true,f,pure_bind];exact e
   ·by_cases g:x=n
    ·subst g
     exact .inr ⟨c,by simp [fP]⟩
    ·rcases d with d | ⟨c',d⟩
     ·rcases T0.mp d with d | d
      ·cases d; exact absurd rfl g
      ·exact .inl d
     ·refine .inr ⟨c',?_⟩
      have:(x==n)=false:=by simpa using g
      rw [fP,this];exact d
  ·have l:(k==df)=false:=by simpa using h
   obtain⟨cl,e,a,b⟩:=ih cs (λx d=>h1 x (Re _ d)) h2;refine⟨cl,?_,a,λx d=>b x ?_⟩
   ·rw [iJ]
    simp only [l,fX,if_false,pure_bind];exact e
   ·rcases d with d | d
    ·rcases T0.mp d with d | d
     ·cases d; exact absurd rfl h
     ·exact .inl d
    ·exact .inr d
theorem KR{scope:fF}{env:Env}(h:∀x,(x,df)∈scope.names->∃c,env.cells.lookup x=some c) :
  ∃cl,closureFor scope env=pure cl/\(∀x c,cl.lookup x=some c->env.cells.lookup x=some c)/\(∀x,(x,df)∈scope.names->∃c,cl.lookup x=some c):=by
 obtain⟨cl,e,a,b⟩:=QH _ [] h (λx c d=>by simp at d);refine⟨cl,?_,a,λx d=>b x (.inl d)⟩;simp [closureFor]
 simp_all
variable {prog:Program}{w:World}{A:Around}{R:Result->Shared->Prop}{s:Shared}
theorem NF{elt target iter:c_}{ifs:List c_}{scope:fF}{pos:Pos}{it d:Cn}{env:Env}(I:Nat->FM->Prop)
  (turn:∀n s,I n s->wpAny (model prog w) A (pyNext it) (λr s₁=>match r with
   | none=>R (.ok .next) s₁
   | some v=>wpAny (model prog w) A (letOwnedTupleGo target it v) (λ_ a=>wpAny (model prog w) A (assign target env v) (λ_ s₂ =>
     wpAny (model prog w) A (forIn ifs true λc r=>if r=true then do let ok ← isTrue c env (eval c env); pure (gD ok) else pure (gD r)) (λok s₃ =>
      if ok=true then wpAny (model prog w) A (eval elt env) (λx s₄ =>
       wpAny (model prog w) A (call (.builtin "list.append") [d,x]) (λ_ s₅=>∃m,m<n/\I m s₅) (λ_ _=>False) s₄) (λ_ _=>False) s₃
      else ∃m,m<n/\I m s₃) (λ_ _=>False) s₂) (λ_ _=>False) a) (λ_ _=>False) s₁) (λ_ _=>False) s)
  (n:Nat) (h:I n s) :
  codeAny (model prog w) A (.compLoop (.ListComp elt [⟨target,iter,ifs,0⟩] scope pos) 0 it d env) R s:=by
 refine codeAny_loop rfl I (λn s hI=>?_) n h;refine wpAny_noted ?_;refine Db (hG (Db (dP (turn n s hI) (λr s₁ h₁=>?_) λ_ _ h'=>h'.elim)));cases r with
 | none=>exact Sc h₁
 | some v =>
  refine Db (dP h₁ (λ_ a b=>?_) λ_ _ h'=>h'.elim);refine Db (dP b (λ_ s₂ h₂=>Db (dP h₂ (λok s₃ h₃=>?_) λ_ _ h'=>h'.elim)) λ_ _ h'=>h'.elim);cases ok with
  | false=>exact Sc ⟨rfl,h₃⟩
  | true =>
   exact Db (Db (dP h₃ (λx s₄ h₄=>Db (dP h₄ (λ_ s₅ h₅=>Sc (Sc ⟨rfl,h₅⟩)) λ_ _ h'=>h'.elim)) λ_ _ h'=>h'.elim))
end
def A3(X:Cx)(sc:fF)(N':List Str)(cl:List (Str×Ch))(C:Ch)(s:FM)(H:Hp)(ex:List Ch):Cx where
 prog:=X.prog
 w:=X.w
 K:=X.K
 mg:=X.mg
 base:=X.base
 A:=X.A
 N:=N'
 s₀:=s
 H₀:=H
 env:=compEnvC sc cl C X.env
 outer:=X.stack
 stack:=X.stack
 ex:=ex
 fn:=λ_=>false
 calm:=true
 pn:=[]
 xe:=λ_ _=>False
def Co(js:List (Option Nat))(σ:St):St:=js.map λo=>match o with
 | some i=>(σ[i]?).getD none
 | none=>none
def V9(o:Option fN):Bool:=match o with
 | some .cell=>true
 | some .free=>true
 | _=>false
theorem Q1{o:Option fN}(h:V9 o=true):o=some .cell\/o=some .free:=by
 unfold V9 at h
 split at h
 ·grind
 ·grind
 ·cases h
def isFree(o:Option fN):Bool:=match o with
 | some .free=>true
 | _=>false
theorem SX{o:Option fN}(h:isFree o=true):o=some .free:=by
 unfold isFree at h
 split at h
 ·rfl
 ·cases h
def Up(o:Option fN):Bool:=match o with
 | some .local=>true
 | _=>false
theorem Uo{o:Option fN}(h:Up o=true):o=some .local:=by
 unfold Up at h
 split at h
 ·rfl
 ·cases h
def Ur(k:ScopeKind):Bool:=match k with
 | .function=>true
 | _=>false
theorem Uq{k:ScopeKind}(h:Ur k=true):k=.function:=by
 unfold Ur at h
 split at h
 ·rfl
 ·cases h
def bU(sc a:fF)(p:Str×fN):Bool:=match p.2 with
 | .cell=>false
 | .free=>V9 (a.names.lookup p.1)
 | .local=>Up (sc.names.lookup p.1)
 | _=>true
def bh(x:Option Str)(y:Str):Bool:=match x with
 | some z=>z==y
 | none=>false
theorem Yg{x:Option Str}{y:Str}(h:bh x y=true):x=some y:=by
 unfold bh at h
 split at h
 ·grind
 ·cases h
def KU(sc a:fF)(N:List Str):List Str->List (Option Nat)->Bool
 | [],[]=>true
 | x::xs,some j::js=>isFree (sc.names.lookup x)&&bh (N[j]?) x&&V9 (a.names.lookup x)&&KU sc a N xs js
 | _::xs,none::js=>KU sc a N xs js
 | _,_=>false
def G9(sc a:fF)(N N':List Str)(js:List (Option Nat)):Bool:=Ur sc.kind&&sc.names.all (bU sc a)&&KU sc a N N' js
theorem Fb{sc a:fF}{N:List Str}:∀{N':List Str} {js:List (Option Nat)},KU sc a N N' js=true->js.length=N'.length
 | [],[],_=>rfl
 | x::xs,some j::js,h=>by
  unfold KU at h;rw [cq] at h;rw [ZB,ZB,Fb h.2]
 | x::xs,none::js,h=>by
  unfold KU at h;rw [ZB,ZB,Fb h]
 | [],some _::_,h=>by cases h
 | [],none::_,h=>by cases h
 | _::_,[],h=>by cases h
theorem NH{sc a:fF}{N:List Str}:∀{N':List Str} {js:List (Option Nat)},KU sc a N N' js=true->∀{k:Nat} {x:Str} {j:Nat},N'[k]?=some x->js[k]?=some (some j) ->
  sc.names.lookup x=some .free/\N[j]?=some x/\(a.names.lookup x=some .cell\/a.names.lookup x=some .free)
 | [],_,_,k,x,j,h1,_=>by simp at h1
 | _::_,[],h,_,_,_,_,_=>by unfold KU at h; cases h
 | y::ys,some i::js,h,k,x,j,h1,h2=>by
  unfold KU at h;rw [cq,cq,cq] at h;cases k with
  | zero =>
   simp at h1 h2;subst h1 h2;exact⟨SX h.1.1.1,Yg h.1.1.2,Q1 h.1.2⟩
  | succ k=>exact NH h.2 (k:=k) (by simpa using h1) (by simpa using h2)
 | y::ys,none::js,h,k,x,j,h1,h2=>by
  unfold KU at h;cases k with
  | zero=>simp at h2
  | succ k=>exact NH h (k:=k) (by simpa using h1) (by simpa using h2)
theorem SN{js:List (Option Nat)}{σ:St}{k:Nat}{v:V}(h:(Co js σ)[k]?=some (some v)):∃j,js[k]?=some (some j)/\σ[j]?=some (some v):=by
 unfold Co at h;rw [dR] at h;cases e:js[k]? with
 | none=>simp_all
 | some o =>
  rw [e] at h;cases o with
  | none=>cases h
  | some j =>
   cases q:σ[j]? with
   | none=>simp_all
   | some w=>simp_all
theorem C7{env:Env}:∀{names:List (Str×fN)} {x:Str},names.lookup x=some .free ->
  (names.map fun(n,k)=>if (k==df&&env.scope.kind==.function&&env.kindOf n==some .cell) then (n,hU) else (n,k)).lookup x=some .cell \/
  (names.map fun(n,k)=>if (k==df&&env.scope.kind==.function&&env.kindOf n==some .cell) then (n,hU) else (n,k)).lookup x=some .free
 | [],_,h=>by simp at h
 | (n,k)::r,x,h=>by
  have ih:=@C7 env r x;show fR x ((if (k==df&&env.scope.kind==.function&&env.kindOf n==some .cell)=true then (n,hU) else (n,k))::_)=_\/fR x ((if (k==df&&env.scope.kind==.function&&env.kindOf n==some .cell)=true then (n,hU) else (n,k))::_)=_
  by_cases b:(k==df&&env.scope.kind==.function&&env.kindOf n==some .cell)=true
  ·rw [if_pos b]
   cases a:x==n with
   | true=>exact .inl (by simp only [fP,a])
   | false =>
    simp only [fP,a] at h ⊢;exact ih h
  ·rw [if_neg b]
   cases a:x==n with
   | true =>
    simp_all
   | false =>
    simp only [fP,a] at h ⊢;exact ih h
theorem Pe{env:Env}{sc:fF}(b:∀y∈sc.names,y.2≠.cell){x:Str}(h:(relabel sc env).names.lookup x=some .cell\/(relabel sc env).names.lookup x=some .free):(x,df)∈sc.names:=by
 have hm:(x,hU)∈(relabel sc _).names\/(x,df)∈(relabel sc _).names:=h.elim (λz=>.inl (PySem.mem_of_lookup z)) λz=>.inr (PySem.mem_of_lookup z)
 have go:∀k,(k=.cell\/k=.free)->(x,k)∈(relabel sc env).names->(x,df)∈sc.names:=by
  intro k c a;unfold relabel at a
  grind
 exact hm.elim (go _ (.inl rfl)) (go _ (.inr rfl))
section
variable {X:Cx}{zG:List (Addr×Obj)}{σ:St}{H:Hp}{s:Shared}
structure CompOk (X:Cx) (sc:fF) (N':List Str) (js:List (Option Nat)):Prop where
 kind:sc.kind=.function
 cell:∀y∈sc.names,y.2≠.cell
 free:∀x,(x,df)∈sc.names->X.env.scope.names.lookup x=some .cell\/X.env.scope.names.lookup x=some .free
 names:∀y∈sc.names,y.2=.local->sc.names.lookup y.1=some .local
 cap:KU sc X.env.scope X.N N' js=true
theorem CompOk.of{sc:fF}{N':List Str}{js:List (Option Nat)}(h:G9 sc X.env.scope X.N N' js=true):CompOk X sc N' js:=by
 unfold G9 at h;rw [cq,cq,d9] at h;obtain⟨⟨h1,h2⟩,h3⟩:=h;refine⟨Uq h1,λy hy e=>?_,λx a=>?_,λy hy e=>?_,h3⟩
 ·have q:=h2 y hy
  unfold bU at q
  simp_all
 ·have q:=h2 _ a
  exact Q1 q
 ·have q:=h2 y hy
  unfold bU at q;rw [e] at q;exact Uo q
theorem Od{sc:fF}{N':List Str}{js:List (Option Nat)}{cl:List (Str×Ch)}{fp:List Ch}{h₁:cw}{tk:Nat}(I:Inv X zG σ H s)(D:X.calm=true)(O:CompOk X sc N' js)
  (d:∀x c,cl.lookup x=some c->X.env.cells.lookup x=some c) (g:∀x,(x,df)∈sc.names->∃c,cl.lookup x=some c)
  (hf:∀b∈fp,Gh X zG H b) (ho:∀b∈fp,∃o,s.heap.get? b=some o)
  (w:h₁.Ns (s.heap.objs.size+1) (λ_=>none)) (t:∀b o,s.heap.get? b=some o->h₁.get? b=some o) (hD:∃n,h₁.get? s.heap.objs.size=some { cls:=.type "list",data:=.seq #[] n }) :
  Inv (A3 X sc N' cl (s.heap.objs.size+1) s H fp) [] (Co js σ) (A4 H s.heap.objs.size (.lst [])) { s with heap:=h₁,toks:=tk }:=by
 have fr:∀a,s.heap.objs.size<=a->H a=none:=λa ha=>I.hok.fresh ha
 have cellLt:∀x c,cl.lookup x=some c->c<s.heap.objs.size:=λx c e=>by
  obtain⟨v,q⟩:=I.cell x c (d x c e);exact q.lt
 have ok:(A3 X sc N' cl (s.heap.objs.size+1) s H fp).Ok:=by
  refine⟨I.ok.mod,O.kind,I.ok.glob,I.ok.blt,dq _,λx y c h1 h2=>I.ok.inj x y c (d x c h1) (d y c h2),λx A=>?_,λx c A=>?_,λ_=>I.ok.hd D,I.ok.frames,.inl rfl,λb h=>⟨?_,λx c e=>?_⟩,I.bs,cx I.ok.bsz I.sz,λb o e h=>?_,λb h B=>?_,I.stack,I.stkFree⟩
  ·exact g x (Pe (env:=X.env) O.cell A)
  ·exact absurd (show false=true from A) c8
  ·obtain⟨o,e⟩:=ho b h
   exact c7 (fI (UF e))
  ·exact(hf b h).2.2.2.2.1 x c (d x c e)
  ·rcases (hf b h).2.2.2.1 with z | z
   ·exact I.ok.noex b o e z
   ·have h1:b<X.base.objs.size:=UF e
    exact absurd (dA h1 (cx I.ok.bsz z)) (eK _)
  ·rcases T0.mp (I.stkSub b B) with z | z
   ·exact(hf b h).2.1 z
   ·exact(hf b h).2.2.1 z
 refine⟨ok,rfl,I.bare,?_,⟨_,w,λi x v h1 h2 h3=>?_⟩,λx c e=>?_,?_,λx c e=>?_,λp hp=>absurd (show p∈([]:List (Ch×Obj)) from hp) (by simp),?_,?_⟩
 ·exact Un.laid t (On _) (fr _ (On _))
 ·obtain⟨j,e1,e2⟩:=SN h2
  obtain⟨c1,c2,c3⟩:=NH O.cap h1 e1;obtain⟨m,_,E⟩:=I.loc;obtain⟨u,r,l⟩:=E j x v c2 e2 (.inr c3);refine⟨u,r,.inr ⟨C7 c1,?_⟩⟩
  rcases l with ⟨l1,_⟩ | ⟨_,c,l2,l3⟩
  ·have C:X.env.scope.names.lookup x=some .local:=l1
   rcases c3 with c3 | c3 <;> (rw [C] at c3; cases c3)
  ·obtain⟨c',e'⟩:=g x (PySem.mem_of_lookup c1)
   have:c'=c:=cv ((d x c' e').symm.trans l2)
   subst this;obtain⟨oc,k,f⟩:=id l3;exact⟨c',e',oc,t _ _ k,f⟩
 ·obtain⟨v,oc,k,f⟩:=I.cell x c (d x c e)
  exact⟨v,oc,t _ _ k,f⟩
 ·show A4 H s.heap.objs.size (.lst []) (s.heap.objs.size+1)=none
  rw [AQ (Nat.succ_ne_self _)];exact fr _ (dq _)
 ·show A4 H s.heap.objs.size (.lst []) c=none
  rw [AQ (c7 (cellLt x c e))];exact I.freeC x c (d x c e)
 ·refine I.hok.laid t (On _) ?_
  obtain⟨n,e⟩:=hD;exact⟨TM _,[],n,.nil,e⟩
 ·unfold Co
  show (js.map _).length=N'.length;rw [Go];exact Fb O.cap
theorem Un.but{fs ex:List Ch}{H H1:Hp}{h h1 h':cw}{C:Ch}(u:Un fs ex H H1 h h1)(hC:h.get? C=none)(a:∀b,b≠C->h'.get? b=h1.get? b):Un fs ex H H1 h h':=by
 have ne:∀{b:Ch} {o:Obj},h.get? b=some o->b≠C:=λ{b o} e z=>by grind
 refine⟨λb o e n h1 h2=>(a b (ne e)).trans (u.keep b o e n h1 h2),λb o e n h1 h2=>?_,u.free,λb o e h1=>?_,u.tups,u.frzs,u.tbls⟩
 ·obtain⟨sl,q⟩:=u.slot b o e n h1 h2
  exact⟨sl,(a b (ne e)).trans q⟩
 ·obtain⟨o',q⟩:=u.there b o e h1
  simp_all
theorem J7{sc:fF}{N':List Str}{cl:List (Str×Ch)}{C:Ch}{fp:List Ch}{c:List (Ch×Obj)}{zZ:St}{H':Hp}{s':FM}{h':cw}(I:Inv X zG σ H s)(hf:∀b∈fp,Gh X zG H b)(hC:s.heap.objs.size<=C)
  (J:Inv (A3 X sc N' cl C s H fp) c zZ H' s') (d:∀b,b≠C->h'.get? b=s'.heap.get? b):Inv X zG σ H' { s' with heap:=h' }:=by
 have hC':H' C=none:=J.free
 refine I.call' J.os (Un.but J.base (by
  cases e:s.heap.get? C with
  | none=>rfl
  | some o=>exact absurd (UF e) (iK.mpr hC)) d) (λa o e=>(J.hok a o e).stay (λb u f q=>(d b (λz=>by
   grind)).trans q) (λ_ q=>q) λ_ _ q=>q) J.bare λb f=>?_
 ·obtain⟨f0,f1,f2,f3,f4,f5⟩:=hf b f
  exact⟨f3,f1,f4,f5⟩
end
def aV(X:Cx)(ifs:List c_)(t:TT):Prop :=
 ∀(zG:List (Ch×Obj)) (s:FM) (σ:St) (H:Hp) (Q:Bool->Hp->Prop),Inv X zG σ H s->t σ H Q ->
  wpAny (model X.prog X.w) X.A (forIn ifs true λc r=>if r=true then do let ok ← isTrue c X.env (eval c X.env); pure (gD ok) else pure (gD r)) (TP X zG σ Q) X.xe s
def bH:TT:=λ_ H Q=>Q true H
theorem Vo{X:Cx}:aV X [] bH:=λzG s σ H Q I h=>wpAny_tests_nil ⟨H,I,h⟩
theorem Vn{X:Cx}{c:c_}{t:TT}(h:PT X c t):aV X [c] t:=λzG s σ H Q I q=>wpAny_tests_one (h _ s σ H Q I q)
def Tg(X:Cx)(sc:fF)(N':List Str)(js:List (Option Nat))(tg elt:c_)(ifs:List c_)(wi:TI):TE:=λσ H Q=>wi σ H λJ H1=>∀l,H1 l=none->X.K.lookup l=none->∀cl C s H0 fp,∃(g:TG) (tt:TT) (te:TE) (W:Nat->Nat->St->Hp->Prop),
 PG (A3 X sc N' cl C s H0 fp) tg g/\aV (A3 X sc N' cl C s H0 fp) ifs tt/\PE (A3 X sc N' cl C s H0 fp) elt te/\(∃m,W 0 m (Co js σ) (A4 H1 l (.lst [])))/\∀i m zZ H',W i m zZ H' ->
 (J.stop i H'/\Q (.ref l) H')\/(J.go i H'/\∀x H2,J.yld i H' x H2->g x zZ H2 λzV H3=>tt zV H3 λb H4=>if b=true then te zV H4 λy H5=>∃ys,H5 l=some (.lst ys)/\ys.length<sizeLine/\∃m',m'<m/\W (i+1) m' zV (A4 H5 l (.lst (ys++[y]))) else ∃m',m'<m/\W (i+1) m' zV H4)
section
variable {X:Cx}{tg elt iter:Expr}{ifs:List Expr}{sc:Scope}{pos:Pos}{N':List Str}{js:List (Option Nat)}{wi:TI}{g:TG}{tt:TT}{te:TE}
theorem Ls{zG:List (Ch×Obj)}{σ:St}{H:Hp}{s:FM}{cl:List (Str×Ch)}{C l it:Ch}{fp:List Ch}{tn:Nat->cw->Prop}{J:It}{s3:FM}{Q:VK}{R:Result->FM->Prop}{W:Nat->Nat->St->Hp->Prop}{m0:Nat}{zH:St}{H0:Hp}
  (I:Inv X zG σ H s) (hf:∀b∈fp,Gh X zG H b) (z:∀b∈fp,b<s.heap.objs.size) (hC:s.heap.objs.size<=C)
  (T:Turn X.prog X.w X.K tg J fp it tn)
  (hg:PG (A3 X sc N' cl C s H fp) tg g) (ht:aV (A3 X sc N' cl C s H fp) ifs tt) (he:PE (A3 X sc N' cl C s H fp) elt te)
  (hW:∀i m zZ H',W i m zZ H' ->
   (J.stop i H'/\Q (.ref l) H')\/(J.go i H'/\∀x H2,J.yld i H' x H2->g x zZ H2 λzV H3=>tt zV H3 λb H4=>if b=true then te zV H4 λy H5=>∃ys,H5 l=some (.lst ys)/\ys.length<sizeLine/\∃m',m'<m/\W (i+1) m' zV (A4 H5 l (.lst (ys++[y]))) else ∃m',m'<m/\W (i+1) m' zV H4))
  (hR:∀zZ H' s',Inv (A3 X sc N' cl C s H fp) [] zZ H' s'->Q (.ref l) H'->R (.ok .next) s')
  (I3:Inv (A3 X sc N' cl C s H fp) [] zH H0 s3) (t3:tn 0 s3.heap) (f3:∀b∈fp,H0 b=none) (w0:W 0 m0 zH H0) :
  codeAny (model X.prog X.w) X.A (.compLoop (.ListComp elt [⟨tg,iter,ifs,0⟩] sc pos) 0 (.ref it) (.ref l) (compEnvC sc cl C X.env)) R s3:=by
 have a:∀{H':Hp},(∀b∈fp,H' b=none)->∀b∈fp,Gh (A3 X sc N' cl C s H fp) [] H' b:=λhn b c=>by
  have q:=I3.ok.exf b c;refine⟨hn b c,q.1,I3.ok.exfs b c,.inl c,q.2,λp hp=>absurd (show p∈([]:List (Ch×Obj)) from hp) (by simp)⟩
 refine NF (λn s'=>∃i zZ H',Inv (A3 X sc N' cl C s H fp) [] zZ H' s'/\tn i s'.heap/\(∀b∈fp,H' b=none)/\W i n zZ H') ?_ m0 ⟨0,zH,H0,I3,t3,f3,w0⟩;rintro n s4 ⟨i,zQ,H4,I4,h,j,w4⟩
 rcases hW i n zQ H4 w4 with ⟨stop,qn⟩ | ⟨go,step⟩
 ·refine thn (T.done (A3 X sc N' cl C s H fp) rfl rfl rfl rfl i [] s4 zQ H4 (λ_ _=>False) I4 (a j) h stop) λr s5 ⟨hr,I5⟩=>?_
  subst hr;exact hR zQ H4 s5 I5 qn
 ·refine thn (T.item (A3 X sc N' cl C s H fp) rfl rfl rfl rfl i [] s4 zQ H4 (λ_ _=>False) I4 (a j) h go) λr s5 ⟨u,hr,h5⟩=>?_
  subst hr;refine thn h5 λ_ s6 ⟨x,H6,I6,r6,y6,f,k⟩=>?_;have I6':=I6.pinned (a k) (T.obj _ _ f);refine thn (hg _ s6 zQ H6 x u _ I6' r6 (step x H6 y6)) λ_ s7 ⟨zL,H7,I7,q7⟩=>?_
  have again:∀{zI:St} {H9:Hp} {s9:FM} {m':Nat},Inv (A3 X sc N' cl C s H fp) ([]++Jj fp s6.heap) zI H9 s9->m'<n->W (i+1) m' zI H9->∃m,m<n/\∃i zZ H',Inv (A3 X sc N' cl C s H fp) [] zZ H' s9/\tn i s9.heap/\(∀b∈fp,H' b=none)/\W i m zZ H':=λ{zI H9 s9 m'} I9 hm w9=>by
   refine⟨m',hm,i+1,zI,H9,I9.unpinned,T.keep _ _ _ f λb c o e=>(I9.pin (b,o) (dH _ (dH _ (Ep c e)))).1,λb c=>?_,w9⟩;obtain⟨o,e,d⟩:=T.obj _ _ f b c;exact(I9.pin (b,o) (dH _ (dH _ (Ep c e)))).2.1
  refine thn (ht _ s7 zL H7 _ I7 q7) λok s8 ⟨H8,I8,q8⟩=>?_;cases ok with
  | false =>
   have t:∃m',m'<n/\W (i+1) m' zL H8:=q8;obtain⟨m',hm,w8⟩:=t;show ∃m,m<n/\_;exact again I8 hm w8
  | true =>
   refine thn (he _ s8 zL H8 _ I8 q8) λy s9 ⟨yv,H9,I9,ry,q9⟩=>?_;obtain⟨ys,B,D,m',hm,w9⟩:=q9;refine thn (DC (X:=A3 X sc N' cl C s H fp) _ s9 zL H9 (.ref l) [yv] (.ref l) [y] (λv H'=>v=.non/\H'=A4 H9 l (.lst (ys++[yv]))) I9 rfl (.cons ry .nil) ⟨l,ys,yv,rfl,rfl,B,D,rfl,rfl⟩) λ_ sa ⟨v,Ha,Ia,_,_,eH⟩=>?_;subst eH;exact again Ia hm w9
theorem Vt(z:X.calm=true)(N':List Str)(js:List (Option Nat))(hi:PI X tg iter wi)
  (hB:G9 sc X.env.scope X.N N' js=true)
  (B:∀x,foldedSetIterable iter X.env x=pure x:=by intro _; rfl) :
  PE X (.ListComp elt [⟨tg,iter,ifs,0⟩] sc pos) (Tg X sc N' js tg elt ifs wi):=by
 intro zG s σ H Q I h;have O:CompOk X sc N' js:=CompOk.of hB;obtain⟨cl,f,r,k⟩:=KR (scope:=sc) (env:=X.env) λx C=>I.ok.has x (O.free x C);rw [eval_ListComp];refine wpAny_comprehension_free (use:=none) rfl B f O.kind O.names (thn (hi zG s σ H _ I h) λv s1 h1=>thn h1 λD s2 h2=>?_);obtain⟨it,fp,tn,J,H2,e,I2,T,i,f2,hq⟩:=h2;subst e
 have j:X.K.lookup s2.heap.objs.size=none:=by
  cases q:X.K.lookup s2.heap.objs.size with
  | none=>rfl
  | some o=>exact absurd (UF (I2.kIn _ _ q)) (eK _)
 obtain⟨g,tt,te,W,hg,ht,he,⟨m0,w0⟩,hW⟩:=hq s2.heap.objs.size (I2.hok.fresh (On _)) j cl (s2.heap.objs.size+1) s2 H2 fp;refine fh (wpAny_newFunctionEnv O.cell (by intro y hy; simp at hy) (λh₁ c a=>?_) O.kind)
 dsimp only at c a ⊢
 generalize hH2:s2.heap.push { cls:=.type "list",dict:=none,data:=.seq ([]:List Cn).toArray }=Hh at c a ⊢;have hCe:Hh.objs.size=s2.heap.objs.size+1:=by rw [← hH2,eq]
 have l:∀b∈fp,b<s2.heap.objs.size:=λb d=>by
  obtain⟨o,e,_⟩:=T.obj _ _ i b d;exact UF e
 have old:∀b o,s2.heap.get? b=some o->h₁.get? b=some o:=λb o e=>a.extBut b o (by rw [hCe]; exact c7 (fI (UF e))) (Ev _ (hH2▸Ev _ e));have hD:∃n,h₁.get? s2.heap.objs.size=some { cls:=.type "list",data:=.seq #[] n }:=⟨_,a.extBut _ _ (by rw [hCe]; exact c7 (jM _)) (Ev _ (hH2▸cj _ rfl))⟩
 have I3:∀tk,Inv (A3 X sc N' cl (s2.heap.objs.size+1) s2 H2 fp) [] (Co js σ) (A4 H2 s2.heap.objs.size (.lst [])) { s2 with heap:=h₁,toks:=tk }:=λtk =>
  Od I2 z O r k f2 (λb d=>let ⟨o,e,_⟩:=T.obj _ _ i b d; ⟨o,e⟩) (by rw [← hCe]; exact c) old hD
 have p:tn 0 h₁:=T.keep _ _ _ i λb d o e=>old b o e
 have t:∀b∈fp,A4 H2 s2.heap.objs.size (.lst []) b=none:=λb d=>by
  rw [AQ (c7 (l b d))];exact(f2 b d).1
 have loop:∀tk,codeAny (model X.prog X.w) X.A (.compLoop (.ListComp elt [⟨tg,iter,ifs,0⟩] sc pos) 0 (.ref it) (.ref s2.heap.objs.size) (compEnvC sc cl (s2.heap.objs.size+1) X.env))
   (compPost (model X.prog X.w) X.A X.xe none (EP X zG σ Q) (.ref s2.heap.objs.size) (s2.heap.objs.size+1)) { s2 with heap:=h₁,toks:=tk }:=λtk=>by
  refine Ls (W:=W) (m0:=m0) (Q:=Q) I2 f2 l (dq _) T hg ht he hW (λzZ H' s' J' q'=>?_) (I3 tk) p t w0;obtain⟨m,hn,_⟩:=J'.loc;exact⟨m,hn,λh' u=>⟨.ref _,H',J7 I2 f2 (dq _) J' λb d=>u.2 b d,rfl,q'⟩⟩
 rw [show (newEnv sc Hh.objs.size X.env.globals cl X.env.qual none .none (some X.env) builtinsNs).locals=s2.heap.objs.size+1 from hCe];show codeAny (model X.prog X.w) X.A (.compStart (.ListComp elt [⟨tg,iter,ifs,0⟩] sc pos) 0 (.ref it) (.ref s2.heap.objs.size) (compEnvC sc cl (s2.heap.objs.size+1) X.env)) _ _;exact codeAny_compStart_list (loop _) (T.self _ 0 _ _ _ p (loop _))
end
structure Fly (B:cw) (l:List Env) (a C:Ch) (dx:Option Ch) (h:cw):Prop where
 stays:B.StaysIn h
 new:B.get? a=none
 frames:h.FunFrames B l
 obj:∃vs sl tb,h.get? a=some ⟨.ref C,dx,.fields vs,sl⟩/\vs[2]?=some .none/\vs[1]?=some tb/\(tb=.none\/∃T oT ts,tb=.ref T/\B.get? T=none/\T≠a/\h.get? T=some oT/\oT.data=.fields ts/\3<ts.size)
section
variable {M:Model}{A:Around}{E:Value->Shared->Prop}{s:Shared}{B:Heap}{env:Env}{outer l:List Env}{L a C:Addr}{dx:Option Addr}{Q:Unit->Shared->Prop}
theorem size_of{vs:Array Cn}{i:Nat}{x:Cn}(h:vs[i]?=some x):i<vs.size:=(Array.getElem?_eq_some_iff.mp h).1
theorem Lk{vs:Array Cn}{sl:Array (Option Cn)}{head tb:Cn}{nx:Bool}(l:A.frames=some (env::outer))(hf:env.frame=some L)(i:s.heap.FunFrames B (env::outer))(n:B.StaysIn s.heap)(hn:B.get? a=none)
  (he:s.heap.get? a=some ⟨.ref C,dx,.fields vs,sl⟩) (h1:vs[1]?=some tb) (h2:vs[2]?=some .none)
  (h:∀h',Fly B (env::outer) a C dx h'->s.heap.UpToSlots h'->Q () { s with heap:=h' }) :
  wpAny M A (do let f ← frameOf env; let pl ← entryPlaceOf L nx; let b ← jn head f .none (rawInt L) .none pl; setField (.ref a) 1 b) Q E s:=by
 have z1:=size_of h1;have z2:=size_of h2
 have na:a∉(env::outer).filterMap (·.frame):=λq=>by
  obtain⟨_,o,ho,c⟩:=i.mem q;rw [he] at ho;cases ho;exact c vs rfl
 refine Db (wpAny_frameOf_fun l i hf λk j=>?_);refine Db (wpAny_entryPlaceOf λpl m=>?_);unfold jn newFields;refine Db (fh ?_ (m.sizeOk5 _ _ _ _ _));have ka:k.get? a=some ⟨.ref C,dx,.fields vs,sl⟩:=(j.2.1 a na).trans he;have kB:B.StaysIn k:=λb o q=>(j.2.1 b λz=>by rw [(i.mem z).1] at q; cases q).trans (n b o q);generalize d:({ cls:=.type "traceback",dict:=none,data:=.fields ([head,.ref L,.none,rawInt L,.none]++(if pl.isEmpty then Uf 6 dO else pl)).toArray }:Obj)=ob;have pa:(k.push ob).get? a=some ⟨.ref C,dx,.fields vs,sl⟩:=Ev _ ka;refine gq pa rfl z1 ?_;have ne:k.objs.size≠a:=fV (UF ka);have ga:=fC (fc (·.setIfInBounds 1 (cm k.objs.size))) pa rfl
 have gT:((k.push ob).update a (fc (·.setIfInBounds 1 (cm k.objs.size)))).get? k.objs.size=some ob:=by
  rw [dJ _ _ (eF ne)];exact cj k (by subst d; rfl)
 have kp:∀b o,b≠a->k.get? b=some o->((k.push ob).update a (fc (·.setIfInBounds 1 (cm k.objs.size)))).get? b=some o:=λb o nb q=>by
  rw [dJ _ _ (eF nb)];exact Ev _ q
 have nf:∀b o,s.heap.get? b=some o->(∀vs,o.data≠.fields vs)->b≠a:=λb o q c z=>by
  rw [z,he] at q;cases q;exact c vs rfl
 refine h _ ⟨λb o q=>kp b o (λz=>by rw [z,hn] at q; cases q) (kB b o q),hn,i.of_keeps λb o q c=>?_,_,_,_,ga,?_,?_,.inr ⟨k.objs.size,ob,_,rfl,kB.fresh,ne,gT,by subst d; rfl,?_⟩⟩ λb o q c=>?_
 ·obtain⟨g,e⟩:=j.2.2 b o q
  exact⟨_,kp b _ (nf b o q c) e,rfl⟩
 ·rw [Array.getElem?_setIfInBounds_ne (by decide)]; exact h2
 ·simp [z1]
 ·simp only [c9,XV,ZB,eE]; omega
 ·obtain⟨g,e⟩:=j.2.2 b o q
  exact⟨g,kp b _ (nf b o q c) e⟩
theorem Fly.mark{T:Ch}{oT:Obj}{ts vs:Array Cn}{x:Cn}{sl:Array (Option Cn)}(F:Fly B l a C dx s.heap)(he:s.heap.get? a=some ⟨.ref C,dx,.fields vs,sl⟩)(h1:vs[1]?=some (.ref T))(h2:vs[2]?=some .none)(nT:B.get? T=none)(ne:T≠a)(hT:s.heap.get? T=some oT)
  (hd:oT.data=.fields ts) (d:3<ts.size):Fly B l a C dx (s.heap.update T (fc (·.setIfInBounds 3 x)))/\s.heap.UpToSlots (s.heap.update T (fc (·.setIfInBounds 3 x)))/\(s.heap.update T (fc (·.setIfInBounds 3 x))).get? a=some ⟨.ref C,dx,.fields vs,sl⟩:=by
 have ot:∀b,b≠T->(s.heap.update T (fc (·.setIfInBounds 3 x))).get? b=s.heap.get? b:=λb nb=>dJ _ _ (eF nb)
 have nf:∀b o,s.heap.get? b=some o->(∀vs,o.data≠.fields vs)->b≠T:=λb o q c z=>by
  simp_all
 have ga:=(ot a (eF ne)).trans he;refine⟨⟨λb o q=>(ot b λz=>by grind).trans (F.stays b o q),F.new,F.frames.of_keeps λb o q c=>⟨o,(ot b (nf b o q c)).trans q,rfl⟩,vs,sl,_,ga,h2,h1,.inr ⟨T,_,_,rfl,nT,ne,fC _ hT (Obj.isFreed_of_fields (gk hd _)),gk hd _,by simp_all⟩⟩,λb o q c=>⟨o.slots,(ot b (nf b o q c)).trans q⟩,ga⟩
theorem Gb(F:Fly B l a C dx s.heap)(h:∀h',Fly B l a C dx h'->s.heap.UpToSlots h'->Q () { s with heap:=h' }):wpAny M A (setFlight (.ref a) none) Q E s:=by
 obtain⟨vs,sl,tb,he,h2,h1,hT⟩:=F.obj;refine Db (da he rfl h1 ?_)
 rcases hT with rfl | ⟨T,oT,ts,rfl,nT,ne,gT,hd,b⟩
 ·exact Sc (h _ F (jo _))
 ·obtain⟨f1,f2,_⟩:=F.mark he h1 h2 nT ne gT hd b
  exact gq gT hd b (h _ f1 f2)
theorem Of(b:A.frames=some (env::outer))(hf:env.frame=some L)(F:Fly B (env::outer) a C dx s.heap)
  (h:∀h',Fly B (env::outer) a C dx h'->s.heap.UpToSlots h'->Q () { s with heap:=h' }):wpAny M A (noteFrame (.ref a) env) Q E s:=by
 obtain⟨vs,sl,tb,he,h2,h1,hT⟩:=F.obj;unfold noteFrame;simp only [hf];refine Db (da he rfl h1 ?_)
 rcases hT with rfl | ⟨T,oT,ts,rfl,nT,ne,gT,hd,c⟩
 ·rw [if_neg (by decide)]
  exact Lk b hf F.frames F.stays F.new he h1 h2 h
 ·rw [if_pos (show (cm T != dO)=true by simp)]
  obtain⟨x,d⟩:∃x,ts[3]?=some x:=⟨_,Array.getElem?_eq_getElem c⟩;refine Db (da gT hd d ?_)
  by_cases e:(x==rawInt L)=true
  ·rw [if_pos e]
   exact Sc (h _ F (jo _))
  ·rw [if_neg e]
   obtain⟨f1,f2,f3⟩:=F.mark (x:=dO) he h1 h2 nT ne gT hd c;refine Db (gq gT hd c ?_);exact Lk b hf f1.frames f1.stays f1.new f3 h1 h2 λh' g1 g2=>h h' g1 (f2.trans g2)
theorem Se(b:A.frames=some (env::outer))(hf:env.frame=some L)(F:Fly B (env::outer) a C dx s.heap)
  (h:∀h',Fly B (env::outer) a C dx h'->s.heap.UpToSlots h'->Q () { s with heap:=h' }):wpAny M A (leaving env (.ref a)) Q E s:=Db (Of b hf F λh' f1 u1=>Gb f1 λh2 f2 u2=>h h2 f2 (u1.trans u2))
theorem Fly.tail(F:Fly B (env::outer) a C dx s.heap):Fly B outer a C dx s.heap:=⟨F.stays,F.new,F.frames.2.2,F.obj⟩
end
section
variable {A:Around}{E:Value->Shared->Prop}{R:Result->Shared->Prop}{h:Heap}{g:Array GenState}{d:Drawn}{t:Nat}{os:OsState}
variable {nm q:Str}{C N f:Addr}{bs bm:List Value}{hdct:Bool}{sn:List Str}{sub:List Value}{ab:Bool}{col:Option Bool}{dd:Option Addr}{k0 k1 k2 k3 k5:Option Value}{newId:String}
def B4(C t:Ch):Obj:={ cls:=.ref C,data:=.fields #[.ref t,.none,.none,.none,.bool false,.none] }
def af(x:Ch)(R:Result->FM->Prop)(r:Result)(s':FM):Prop:=match r with
 | .ok (.ret v)=>v=.none/\R (.ok (.ret (.ref x))) s'
 | .ok _=>False
 | .error e=>R (.error e) s'
theorem Pk{s:FM}{env:Env}{x:Sem Cn}{Q:Flow->FM->Prop}{M:Model}(hbase:bm.contains (.type "BaseException")=true)(hh:A.handled=none)
  (hx:wpAny M A x (λv s₁=>∃e dx vs sl,v=.ref e/\s₁.heap.get? C=some (excClassObj nm q C N bs bm hdct sn sub ab col dd k0 k1 k2 k3 k5 newId) /\
   s₁.heap.get? e=some ⟨.ref C,dx,.fields vs,sl⟩/\vs[1]?=some .none/\E (.ref e) s₁) E s) :
  wpAny M A (raiseStmt env (some x) none) Q E s:=by
 have hcB:(cm C::bm).contains (.type "BaseException")=true:=by grind
 unfold raiseStmt;refine Db (dP hx (λv s₁ h₁=>?_) λ_ _ x=>x);obtain⟨e,dx,vs,sl,rfl,hC,he,h1,hE⟩:=h₁
 repeat (first | omega | omega | (with_reducible refine eA hC ?_; rw [hcB]) | wp_step)
 rw [h1];refine Sc ?_;exact Sc (wpAny_raiseNew_none hh hE)
theorem Sh{M:Model}{e D N':Ch}{oe:Obj}{nm' q':Str}{bs' bmD:List Cn}{hdct':Bool}{sn':List Str}{sub':List Cn}{ab':Bool}{col':Option Bool}{dd':Option Ch}{l0 l1 l2 l3 l5:Option Cn}{newId':String}{Q:Bool->FM->Prop}
  (hC:h.get? C=some (excClassObj nm q C N bs bm hdct sn sub ab col dd k0 k1 k2 k3 k5 newId)) (hD:h.get? D=some (excClassObj nm' q' D N' bs' bmD hdct' sn' sub' ab' col' dd' l0 l1 l2 l3 l5 newId')) (hbase:bmD.contains (.type "BaseException")=true)
  (he:h.get? e=some oe) (hcls:oe.cls=.ref C) (hq:Q ((cm C::bm).contains (.ref D)) ⟨h,g,d,t,os⟩):wpAny M A (excMatches (.ref e) (.ref D)) Q E ⟨h,g,d,t,os⟩:=by
 have hcB:(cm D::bmD).contains (.type "BaseException")=true:=by grind
 have f:=tc_notTuple;generalize hb:(cm C::bm).contains (.ref D)=b at hq;unfold excMatches
 repeat (first | (with_reducible refine dg he ?_; rw [hcls]) | omega | (with_reducible refine eA hD ?_; rw [hcB]) | wp_step)
 refine eA hC ?_;rw [hb];cases b <;> (wp_walk; exact hq)
end
def Ct:List Cn:=[.type "ValueError",.type "Exception",.type "BaseException",.type "object"]
structure XC (K:Frag) (nm:Str) (C U:Ch):Prop where
 obj:∃q N bs sn sub ab col dd k0 k1 k2 k3 k5,K.lookup C=some (excClassObj nm q C N bs (.ref U::Ct) true sn sub ab col dd k0 k1 k2 k3 k5 "ValueError.__new__")
 up:∃q N bs sn sub ab col dd k0 k1 k2 k3 k5 hd,K.lookup U=some (excClassObj "ThinError" q U N bs Ct hd sn sub ab col dd k0 k1 k2 k3 k5 "ValueError.__new__")
 kp:keepIn K (.ref C)=true
 ga:PySem.W.findIn K (.ref C) "__getattribute__"=some (some (.builtin "BaseException.__getattribute__"))
 gt:PySem.W.findIn K (.ref C) "__getattr__"=some none
 sa:PySem.W.findIn K (.ref C) "__setattr__"=some (some (.builtin "object.__setattr__"))
 at_:nsIn K mainGlobals nm=some (some (.ref C))
 atU:nsIn K mainGlobals "ThinError"=some (some (.ref U))
 ca:PySem.W.findIn K (.ref C) "__class__"=some (some (.builtin "object.__class__"))
 nw:PySem.W.findIn K (.ref C) "word"=some none
 nn:PySem.W.findIn K (.ref C) "number"=some none
 nr:PySem.W.findIn K (.ref C) "row"=some none
section
variable {prog:Program}{w:World}{A:Around}{E:Value->Shared->Prop}{s:Shared}{K:Frag}{nm name:Str}{x C U:Addr}{v:Value}{R:Result->Shared->Prop}
theorem XC.cls(c:XC K nm C U):∃cd,PySem.W.clsIn K C=some cd/\cd.mro=.ref C::.ref U::Ct/\cd.hasDict=true/\cd.name=nm:=by
 obtain⟨q,N,bs,sn,sub,ab,col,dd,k0,k1,k2,k3,k5,e⟩:=c.obj;refine⟨_,by unfold PySem.W.clsIn; rw [e],rfl,rfl,rfl⟩
theorem Qs{ox:Obj}{od:Option Obj}{tk:Tok}(X:K.In s.heap)(c:XC K nm C U)(I:PySem.W.InstAt s.heap x ox C od)(ht:PySem.W.findIn K (.ref C) name=some none)
  (h:∀b,wpAny (model prog w) A.in1 (Builtin.ObjectAttr.storeInOwnDict (.ref x) (.ref C) (.str name tk) name v b)
   (λfin s'=>match fin with | .done f=>R (.ok f) s' | .again c'=>c'.quiet=true/\codeAny (model prog w) A c' R s') (λe s'=>R (.error e) s') s) :
  codeAny (model prog w) A (.call (.builtin "object.__setattr__") ⟨[.ref x,.str name tk,v],[]⟩) R s:=by
 have SF:=PySem.F.store_ValueError;obtain⟨cd,d,hm,_⟩:=c.cls;have sub:PySem.W.Looks (model prog w) s.heap (isInstance (.ref x) (.type "object")) true:=I.type.andThen (PySem.W.looks_mroIn X (by unfold PySem.W.mroIn; rw [d,Option.bind_some,hm]; rfl));refine iL SF.slot.plain SF.entry (@PySem.W.check_slot (model prog w) _ _ s "object.__setattr__" "object" "__setattr__" (.ref x) [.str name tk,v] [] _ SF.kind SF.split sub (SF.args (.ref x) (.str name tk) v) ?_);have a:PySem.W.Looks (model prog w) s.heap (mroOf (.ref C)) cd.mro:=(PySem.W.looks_clsIn X d).andThen .now;rw [PySem.W.osa_eq,refuse_eq];refine Db (Db (I.type.here (Db (a.here ?_))));rw [hm,refuseLoop_ref,refuseLoop_ref,show refuseLoop (.ref x) "__setattr__" Ct=pure () from SF.passes _];exact Sc (Db (I.type.here (Db ((PySem.W.looks_findIn X ht).here (Db (Sc (h _)))))))
theorem Tr{vs:Array Cn}{sl:Array (Option Cn)}{Q:Unit->FM->Prop}(X:K.In s.heap)(c:XC K nm C U)(f:s.heap.get? x=some ⟨.ref C,none,.fields vs,sl⟩)(ht:PySem.W.findIn K (.ref C) name=some none)
  (h:∀h' t',h'.get? x=some ⟨.ref C,some s.heap.objs.size,.fields vs,sl⟩->h'.Ns1 s.heap.objs.size (λy=>if y=name then some v else none)->(∀b o,b≠x->s.heap.get? b=some o->h'.get? b=some o)->Q () { s with heap:=h',toks:=t' }) :
  wpAny (model prog w) A (setAttr (.ref x) name v) Q E s:=by
 obtain⟨cd,i,hm,hd,_⟩:=c.cls;have J:PySem.W.InstAt s.heap x ⟨.ref C,none,.fields vs,sl⟩ C none:=⟨f,rfl,rfl,trivial⟩;refine PySem.W.set_plain X J c.sa (Qs (s:={ s with toks:=s.toks+1 }) X c J ht λb=>?_);refine Db (Sc (Db (Db (wpAny_loadPart f (Db (PySem.W.Looks.here (s:={ s with toks:=s.toks+1 }) (PySem.W.looks_clsIn X i) ?_))))));rw [hd];have d:(s.heap.push { cls:=.type "dict",data:=.dict #[] }).get? x=some ⟨.ref C,none,.fields vs,sl⟩:=Ev _ f;have nx:x≠s.heap.objs.size:=c7 (UF f);show wpAny _ _ (alloc _ >>= _) _ _ _;refine Db (wpAny_alloc (Db (wpAny_update d (Sc ?_))));generalize a:((s.heap.push { cls:=.type "dict",data:=.dict #[] }).update x λo=>{ cls:=o.cls,dict:=some s.heap.objs.size,data:=o.data,slots:=o.slots })=hh
 have gd:hh.get? s.heap.objs.size=some { cls:=.type "dict",data:=.dict #[] }:=by
  rw [← a,Heap.get?_update_ne _ _ _ _ nx.symm];exact cj _ rfl
 have gx:hh.get? x=some ⟨.ref C,some s.heap.objs.size,.fields vs,sl⟩:=by
  rw [← a];exact fC _ d rfl
 have kb:∀b o,b≠x->s.heap.get? b=some o->hh.get? b=some o:=λb o nb e=>by
  rw [← a,Heap.get?_update_ne _ _ _ _ nb];exact Ev _ e
 have nd:hh.Ns s.heap.objs.size (λ_=>none):=⟨_,#[],_,gd,rfl,λe he=>absurd he (by simp),λ_=>rfl⟩;show wpAny _ _ (iM s.heap.objs.size _ name v) _ _ _;unfold iM Builtin.ObjectAttr.newKeyGuard;refine Db (Sc (Db (wpAny_nsSet1 (Heap.Ns1.of_empty nd) λh' hn g=>?_)));obtain⟨oD,esD,epD,hoD,hdD,hcD⟩:=hn.count (PySem.Within.cons name v PySem.Within.nil);refine Db (wpAny_lookBehind hoD (by rw [hdD]; exact pastItsLine_dict (cx hcD (by rw [ZB,eE,di]; omega))) ?_);refine Sc (h h' _ ((g.2 x nx).trans gx) hn λb o nb e=>(g.2 b (c7 (UF e))).trans (kb b o nb e))
theorem Tq{vs:Array Cn}{sl:Array (Option Cn)}{d:Ch}{mA:Str->Option Cn}{ns:List Str}{Q:Unit->FM->Prop}(X:K.In s.heap)(c:XC K nm C U)(e:s.heap.get? x=some ⟨.ref C,some d,.fields vs,sl⟩)(nd:s.heap.Ns1 d mA)(hw:PySem.Within mA ns)(f:ns.length<=sizeLine)(ht:PySem.W.findIn K (.ref C) name=some none)
  (h:∀h' t',h'.Ns1 d (λy=>if y=name then some v else mA y)->fq d s.heap h'->Q () { s with heap:=h',toks:=t' }) :
  wpAny (model prog w) A (setAttr (.ref x) name v) Q E s:=by
 obtain⟨cd,g,hm,hd,_⟩:=c.cls;obtain⟨o,_,_,ho,_⟩:=id nd;have J:PySem.W.InstAt s.heap x ⟨.ref C,some d,.fields vs,sl⟩ C (some o):=⟨e,rfl,rfl,ho⟩;refine PySem.W.set_plain X J c.sa (Qs (s:={ s with toks:=s.toks+1 }) X c J ht λb=>?_);refine Db (Sc (Db (Db (wpAny_loadPart e (Db (PySem.W.Looks.here (s:={ s with toks:=s.toks+1 }) (PySem.W.looks_clsIn X g) ?_))))));rw [hd];refine Sc (a:=some d) (Db (Sc (Db ?_)));refine wpAny_nsSet1 (s:={ s with toks:=s.toks+1 }) nd λh' hn i=>?_;obtain⟨oD,esD,epD,hoD,hdD,hcD⟩:=hn.count (PySem.Within.cons name v hw);refine Db (wpAny_lookBehind hoD (by rw [hdD]; exact pastItsLine_dict (cx hcD (by rw [ZB]; omega))) ?_);exact Sc (h _ _ hn i)
end
section
variable {M:Model}{prog:Program}{w:World}{A:Around}{E:Value->Shared->Prop}{R:Result->Shared->Prop}{h:Heap}{g:Array GenState}{d:Drawn}{t:Nat}{os:OsState}
variable {K:Frag}{nm q:Str}{C U N f:Addr}{bs:List Value}{sn:List Str}{sub:List Value}{ab:Bool}{col:Option Bool}{dd:Option Addr}{k0 k1 k2 k3 k5:Option Value}{rest:List Value}
theorem RE{Q:Unit->FM->Prop}(hC:h.get? C=some (excClassObj nm q C N bs (.ref U::Ct) true sn sub ab col dd k0 k1 k2 k3 k5 "ValueError.__new__"))
  (hq:Q () ⟨h,g,d,t,os⟩):wpAny M A (checkBuiltinCall "ValueError.__new__" ⟨.ref C::rest,[]⟩) Q E ⟨h,g,d,t,os⟩:=by
 have F:=PySem.F.excBase_ValueError;have hcont:(cm C::.ref U::Ct).contains (.type "ValueError")=true:=by simp [Ct]
 have hstar:=F.noStar;simp only [checkBuiltinCall,F.newKind,F.newSplit,F.newRow]
 repeat (first | refine dg hC ?_ | (refine eA hC ?_; rw [hcont]) | refine wpAny_staticBase_exc hC ?_ | refine jN hC ?_ | simp only [bne_self_eq_false,fX,if_false] | wp_step)
 exact hq
theorem Q7(hC:h.get? C=some (excClassObj nm q C N bs (.ref U::Ct) true sn sub ab col dd k0 k1 k2 k3 k5 "ValueError.__new__"))
  (hq:R (.ok (.ret (.ref (h.objs.size+1)))) ⟨(h.push { cls:=.type "tuple",data:=.seq rest.toArray }).push (B4 C h.objs.size),g,d,t,os⟩) (hrest:rest.length<=sizeLine) :
  codeAny (model prog w) A (.builtin "ValueError.__new__" ⟨.ref C::rest,[]⟩) R ⟨h,g,d,t,os⟩:=by
 have F:=PySem.F.excBase_ValueError;have hends:=F.ends;have hcB:(cm C::.ref U::Ct).contains (.type "ValueError")=true:=by simp [Ct]
 have hcA:(cm C::.ref U::Ct).contains (.type "AttributeError")=false:=by simp [Ct]
 have hcN:(cm C::.ref U::Ct).contains (.type "NameError")=false:=by simp [Ct]
 refine codeAny_builtinAt F.entry ?_;unfold gf.«BaseException.__new__»;refine PySem.wpAt_bind ?_;show PySem.wpAt _ _ _ (stack >>= _) _ _ _;refine PySem.wpAt_bind (PySem.wpAt_stack λp below=>wpAt_of_wpAny ?_)
 wp_walk
 refine wpAt_of_wpAny ?_;rw [F.owner]
 repeat (first | with_reducible refine wpAny_madeHere_exc F.canon hC ?_ | with_reducible refine dg hC ?_ | (with_reducible refine eA hC ?_; first | rw [hcB] | rw [hcA] | rw [hcN]) | wp_step)
 show R _ _;rw [eq];exact hq
theorem VJ{e:Ch}{oe:Obj}{Q:Unit->FM->Prop}(hC:h.get? C=some (excClassObj nm q C N bs (.ref U::Ct) true sn sub ab col dd k0 k1 k2 k3 k5 "ValueError.__new__"))(he:h.get? e=some oe)(hcls:oe.cls=.ref C)(hq:Q () ⟨h,g,d,t,os⟩) :
  wpAny M A (checkBuiltinCall "ValueError.__init__" ⟨.ref e::rest,[]⟩) Q E ⟨h,g,d,t,os⟩:=by
 have F:=PySem.F.excBase_ValueError;have hcB:(cm C::.ref U::Ct).contains (.type "ValueError")=true:=by simp [Ct]
 have hshort:=F.noStar;simp only [checkBuiltinCall,F.initKind,F.initSplit,F.initRow]
 repeat (first | (with_reducible refine dg he ?_; rw [hcls]) | with_reducible refine dg hC ?_ | (with_reducible refine eA hC ?_; rw [hcB]) | wp_step)
 refine hV ?_
 rw [show ∀(a b:String) (n:Nat),Bind.check ⟨.positional,"*","ValueError",.self,[⟨"args",.varPos,false⟩]⟩ a b n (List.map (λx=>x.fst) ({ pos:=cm e::rest }:Args).kw)=pure () from
  λa b n=>check_star_args _ _ _ _ _ _]
 exact Sc hq
theorem Uz(X:K.In h)(c:XC K nm C U)(hi:PySem.W.findIn K (.ref C) "__init__"=some (some (.ref f)))(hf:PySem.W.typeIn K (.ref f)=some (.type "function"))(hrest:rest.length<=sizeLine)
  (hq:codeAny (model prog w) (A.under (.builtin "type.__call__" ⟨.ref C::rest,[]⟩)) (.call (.ref f) ⟨.ref (h.objs.size+1)::rest,[]⟩) (af (h.objs.size+1) R) ⟨(h.push { cls:=.type "tuple",data:=.seq rest.toArray }).push (B4 C h.objs.size),g,d,t,os⟩) :
  codeAny (model prog w) A (.call (.ref C) ⟨rest,[]⟩) R ⟨h,g,d,t,os⟩:=by
 have F:=PySem.F.excBase_ValueError;obtain⟨q,N,bs,sn,sub,ab,col,dd,k0,k1,k2,k3,k5,eC⟩:=c.obj;have hC:=X _ _ eC;have f1:=tc_lookup;have f2:=tc_bind (.ref C);have hT:(⟨h,g,d,t,os⟩:FM).TypeIs (.ref C) "type":=⟨_,hC,rfl⟩;refine codeAny_of_tree ?_;show wpAny _ _ (callAny (.ref C) _) _ _ _
 repeat (any_goals (first | assumption | with_reducible refine dg hC ?_ | wp_step))
 refine⟨rfl,?_⟩;refine codeAny_call_builtin_at (gE _ (by decide +kernel)) entry_typeCall (wpAny_check_type_call_sub hC ?_)
 repeat (first | with_reducible refine dg hC ?_ | with_reducible refine jN hC ?_ | wp_step)
 refine codeAny_call_builtin_code (gE _ F.quiet) (RE hC ?_);refine Q7 hC ?_ hrest;show wpAny _ _ _ _ _ _;have kk:∀b o,h.get? b=some o->((h.push { cls:=.type "tuple",data:=.seq rest.toArray }).push (B4 C h.objs.size)).get? b=some o:=λb o e=>Ev _ (Ev _ e);have hC₁:=kk _ _ hC;have hget:((h.push { cls:=.type "tuple",data:=.seq rest.toArray }).push (B4 C h.objs.size)).get? (h.objs.size+1)=some (B4 C h.objs.size):=by unfold B4; heap_get
 have hcC:(cm C::cm U::Ct).contains (.ref C)=true:=by simp
 unfold isInstance;unfold B4 at *
 repeat (first | with_reducible refine dg hget ?_ | (with_reducible refine eA hC₁ ?_; rw [hcC]) | wp_step)
 show wpAny _ _ (isSubtype (.ref C) (.ref C)) _ _ _;refine eA hC₁ ?_;rw [hcC,if_neg (by decide)];refine Db (dw ?_);unfold callSpecial? specialOf
 repeat (first | with_reducible refine dg hget ?_ | wp_step)
 show wpAny _ _ (typeLookup (.ref C) _) _ _ _;refine(PySem.W.looks_findIn (X.keeps kk) hi).here ?_;refine dw (Db ((PySem.W.bind_fn (X.keeps kk) _ hf).here ?_));refine Db (fj (ft hq λr s' z=>?_))
 rcases r with e | (v | _ | _ | _) <;> first | exact z | exact z.elim | skip
 obtain⟨rfl,z⟩:=z;exact Sc (Sc z)
theorem Si(X:K.In h)(c:XC K nm C U)(hi:PySem.W.findIn K (.ref C) "__init__"=some (some (.builtin "ValueError.__init__")))(hrest:rest.length<=sizeLine)
  (hq:∀h',(∀b o,h.get? b=some o->h'.get? b=some o)->h'.get? (h.objs.size+1)=some (B4 C (h.objs.size+2))->R (.ok (.ret (.ref (h.objs.size+1)))) ⟨h',g,d,t,os⟩) :
  codeAny (model prog w) A (.call (.ref C) ⟨rest,[]⟩) R ⟨h,g,d,t,os⟩:=by
 have F:=PySem.F.excBase_ValueError;obtain⟨q,N,bs,sn,sub,ab,col,dd,k0,k1,k2,k3,k5,eC⟩:=c.obj;have hC:=X _ _ eC;have f1:=tc_lookup;have f2:=tc_bind (.ref C);have hT:(⟨h,g,d,t,os⟩:FM).TypeIs (.ref C) "type":=⟨_,hC,rfl⟩;refine codeAny_of_tree ?_;show wpAny _ _ (callAny (.ref C) _) _ _ _
 repeat (any_goals (first | assumption | with_reducible refine dg hC ?_ | wp_step))
 refine⟨rfl,?_⟩;refine codeAny_call_builtin_at (gE _ (by decide +kernel)) entry_typeCall (wpAny_check_type_call_sub hC ?_)
 repeat (first | with_reducible refine dg hC ?_ | with_reducible refine jN hC ?_ | wp_step)
 refine codeAny_call_builtin_code (gE _ F.quiet) (RE hC ?_);refine Q7 hC ?_ hrest;show wpAny _ _ _ _ _ _;have kk:∀b o,h.get? b=some o->((h.push { cls:=.type "tuple",data:=.seq rest.toArray }).push (B4 C h.objs.size)).get? b=some o:=λb o e=>Ev _ (Ev _ e);have hC₁:=kk _ _ hC;have hget:((h.push { cls:=.type "tuple",data:=.seq rest.toArray }).push (B4 C h.objs.size)).get? (h.objs.size+1)=some (B4 C h.objs.size):=by unfold B4; heap_get
 have hcC:(cm C::cm U::Ct).contains (.ref C)=true:=by simp
 unfold isInstance;unfold B4 at *
 repeat (first | with_reducible refine dg hget ?_ | (with_reducible refine eA hC₁ ?_; rw [hcC]) | wp_step)
 show wpAny _ _ (isSubtype (.ref C) (.ref C)) _ _ _;refine eA hC₁ ?_;rw [hcC,if_neg (by decide)];refine Db (dw ?_);unfold callSpecial? specialOf
 repeat (first | with_reducible refine dg hget ?_ | wp_step)
 show wpAny _ _ (typeLookup (.ref C) _) _ _ _;refine(PySem.W.looks_findIn (X.keeps kk) hi).here ?_;refine dw (Db (wpAny_of_eq (F.init.bind _) ?_));refine Db (fj (iL F.init.plain F.initEntry (VJ hC₁ hget rfl ?_)))
 wp_walk
 refine hq _ (λb o e=>?_) ?_
 ·rw [dJ _ _ (fV (fI (UF e)))]
  exact Ev _ (kk b o e)
 ·refine(fC (fc (·.setIfInBounds 0 (cm _))) (Ev _ hget) rfl).trans ?_
  simp only [eq];rfl
end
structure CXD (P:cz) (w:dC) (outer:List Env) (H:Hp) (s:FM) (a C:Ch) (dx:Option Ch) (B:cw) (H':Hp) (s':FM):Prop where
 os:s'.os=s.os
 bare:gK s'.gens
 un:Un (Lj outer) [] H H' s.heap s'.heap
 hok:HOk P w H' B
 all:∀b o o',s.heap.get? b=some o->b∉Lj outer->s'.heap.get? b=some o'->B.get? b=some o'
 fly:Fly B outer a C dx s'.heap
 new:s.heap.objs.size<=a
 free:H' a=none
def RX(P:cz)(w:dC):S2:=λouter H s E e s'=>∃a C dx B H',e=.ref a/\CXD P w outer H s a C dx B H' s'/\E (.ref C) dx H'
section
variable {P:Program}{w:World}{outer:List Env}{H H':Hp}{s s':Shared}{a C:Addr}{dx:Option Addr}{B h':Heap}
theorem CXD.step(x:CXD P w outer H s a C dx B H' s')(F:Fly B outer a C dx h')(u:s'.heap.UpToSlots h'):CXD P w outer H s a C dx B H' { s' with heap:=h' }:=by
 have fr:∀b∈Lj outer,∃o,s'.heap.get? b=some o/\∀vs,o.data≠.fields vs:=λb c=>(x.fly.frames.mem c).2;refine⟨x.os,x.bare,⟨λb o e n c d=>F.stays _ _ (x.all b o o e c (x.un.keep b o e n c d)),λb o e n c d=>?_,x.un.free,λb o e d=>?_,x.un.tups,x.un.frzs,x.un.tbls⟩,x.hok,λb o o' e c q=>?_,F,x.new,x.free⟩
 ·obtain⟨sl,q⟩:=x.un.slot b o e n c d
  obtain⟨o',q',nf⟩:=fr b c;rw [q] at q';cases q';obtain⟨f,q2⟩:=u b _ q nf
  grind
 ·obtain⟨o1,q⟩:=x.un.there b o e d
  by_cases c:b∈Lj outer
  ·obtain⟨o',q',nf⟩:=fr b c
   obtain⟨f,q2⟩:=u b _ q' nf
   grind
  ·exact⟨o1,F.stays _ _ (x.all b o o1 e c q)⟩
 ·obtain⟨o1,q1⟩:=x.un.there b o e (by simp)
  have z:=x.all b o o1 e c q1;rw [F.stays _ _ z] at q
  grind
end
section
variable {X:Cx}{zG:List (Addr×Obj)}{σ:St}{H H':Hp}{s s':Shared}{a C:Addr}{dx:Option Addr}{B:Heap}
theorem CXD.inv(x:CXD X.prog X.w X.stack H s a C dx B H' s')(I:Inv X zG σ H s):Inv X zG σ H' s' :=
 I.call' x.os x.un (x.hok.kept x.fly.stays) x.bare λb z=>absurd z (by simp)
theorem CXD.leave(x:CXD X.prog X.w X.stack H s a C dx B H' s')(I:Inv X zG σ H s)(c:X.stack=X.env::X.outer)(hex:X.ex=[]):CXD X.prog X.w X.outer X.H₀ X.s₀ a C dx B H' s':=by
 have J:=x.inv I;have fl:=x.fly;rw [c] at fl;refine⟨J.os,J.bare,by have z:=J.base; grind,x.hok,λb o o' e d q=>?_,fl.tail,cx I.sz x.new,x.free⟩;obtain⟨o1,e1⟩:=I.base.there b o e (by grind);refine x.all b o1 o' e1 (λz=>?_) q
 rcases T0.mp (I.stkSub b z) with z | z
 ·exact absurd (UF e) (by rw [z]; exact iK.mpr I.ok.above)
 ·exact d z
theorem N8{P:cz}{w:dC}{K:Frag}{mg:Str->Option Cn}{base:cw}{N:List Str}{qual:Str}{scope:fF}{f:Ch}{cd:Cn}{A:dL}{outer:List Env}{s₀:FM}{H₀:Hp}{E:XK} :
  Hr (RX P w) (EX (RX P w) P w K mg base N qual scope f cd A outer s₀ H₀ E) E:=by
 intro zG σ H s e s' I ⟨a,C,dx,B,H',he,x,q⟩;subst he;exact Se I.ok.frames rfl x.fly λh' f' u=>⟨a,C,dx,B,H',rfl,(x.step f' u).leave I rfl rfl,q⟩
theorem Vv{P:cz}{w:dC}{K:Frag}{mg:Str->Option Cn}{base:cw}{N:List Str}{qual:Str}{scope:fF}{f:Ch}{cd:Cn}{A:dL}{outer:List Env}{s₀:FM}{H₀:Hp}{E:XK} :
  iA (model P w) (EX (RX P w) P w K mg base N qual scope f cd A outer s₀ H₀ E).A (EX (RX P w) P w K mg base N qual scope f cd A outer s₀ H₀ E).env (EX (RX P w) P w K mg base N qual scope f cd A outer s₀ H₀ E).xe:=by
 passes_own
end
def XO(a C:Ch)(dx:Option Ch)(h:cw):Prop:=∃vs sl,h.get? a=some ⟨.ref C,dx,.fields vs,sl⟩/\vs[2]?=some .none/\vs[1]?=some .none
def XF(d:Ch)(fs:List (Str×V))(h:cw):Prop:=∃mA,h.Ns1 d mA/\(∀f,RelO (fs.lookup f) (mA f))/\PySem.Within mA (fs.map (·.1))/\fs.length<=1000
theorem XO.ok{P:cz}{w:dC}{H:Hp}{a C:Ch}{dx:Option Ch}{h:cw}(x:XO a C dx h):ObjOk P w H h a (.ext (XO a C dx)):=by
 refine⟨x,?_,λh1 h2 ⟨vs,sl,e,r⟩ k=>⟨vs,sl,k _ e,r⟩⟩;obtain⟨vs,sl,e,_⟩:=x
 simp_all
theorem XF.ok{P:cz}{w:dC}{H:Hp}{d:Ch}{fs:List (Str×V)}{h:cw}(x:XF d fs h):ObjOk P w H h d (.ext (XF d fs)):=by
 refine⟨x,?_,λh1 h2 ⟨mA,e,r⟩ k=>⟨mA,e.at k,r⟩⟩;obtain⟨mA,⟨o,_,_,e,_⟩,_⟩:=x
 grind
section
variable {X:Cx}{zG:List (Addr×Obj)}{σ:St}{H:Hp}{s:Shared}{a C U:Addr}{nm f:Str}{A:Around}{E:Value->Shared->Prop}
theorem Tp{y:V}{u:Cn}{Q:Unit->FM->Prop}(I:Inv X zG σ H s)(e:H a=some (.ext (XO a C none)))(c:XC X.K nm C U)(n:Gg X.K C f)(ry:RelV y u)
  (h:∀d s',H d=none->d≠a->Inv X zG σ (A4 (A4 H d (.ext (XF d [(f,y)]))) a (.ext (XO a C (some d)))) s'->Q () s'):wpAny (model X.prog X.w) A (setAttr (.ref a) f u) Q E s:=by
 obtain⟨⟨vs,sl,l,h2,h1⟩,_⟩:=(show ObjOk X.prog X.w H s.heap a _ from I.hok a _ e);refine Tr I.kIn c l n λh' t' gx gd kb=>?_;have nd:H s.heap.objs.size=none:=I.hok.fresh (On _);have ne:s.heap.objs.size≠a:=fV (UF l);have lt:∀{b:Ch} {o:Obj},s.heap.get? b=some o->b≠s.heap.objs.size:=λ{b o} q=>c7 (UF q);have na:∀{b:Ch},H b=none->b≠a:=λ{b} q z=>by rw [z,e] at q; cases q
 have of:∀{b:Ch} {u:HO},H b=some u->(∀φ,u≠.ext φ)->A4 (A4 H s.heap.objs.size (.ext (XF s.heap.objs.size [(f,y)]))) a (.ext (XO a C (some s.heap.objs.size))) b=some u:=λ{b u} q hu=>by
  rw [AQ (λz=>by rw [z,e] at q; exact hu _ (cv q).symm),AQ (λz=>by rw [z,nd] at q; cases q)]; exact q
 refine h s.heap.objs.size _ nd ne (I.un (h':=h') (t':=t') ⟨λb o q n _ _=>kb b o (na n) q,λb o q n _ _=>⟨o.slots,kb b o (na n) q⟩,λb o q n _=>?_,λb o q _=>?_,λb xs q=>of q (by intro φ z; cases z),λb o xs q=>of q (by intro φ z; cases z),λb ps q=>⟨#[],by rw [of q (by intro φ z; cases z)]; simp⟩⟩ ?_)
 ·rw [AQ (na n),AQ (lt q)]; exact n
 ·by_cases z:b=a
  ·rw [z]; exact⟨_,gx⟩
  ·exact⟨o,kb b o z q⟩
 ·intro b o q
  by_cases z:b=a
  ·subst z
   rw [AX] at q;cases q;exact XO.ok ⟨vs,sl,gx,h2,h1⟩
  ·rw [AQ z] at q
   by_cases z2:b=s.heap.objs.size
   ·subst z2
    rw [AX] at q;cases q;refine XF.ok ⟨_,gd,λg=>?_,λg hg=>?_,by simp⟩
    ·by_cases i:g=f
     ·rw [if_pos i]
      have k:(g==f)=true:=beq_iff_eq.mpr i;simp only [fR,k];exact ry
     ·rw [if_neg i]
      have k:(g==f)=false:=beq_eq_false_iff_ne.mpr i;simp only [fR,k];trivial
    ·by_cases i:g=f
     ·simp [i]
     ·exact absurd (if_neg i) hg
   ·rw [AQ z2] at q
    refine(I.hok b o q).stay (λc2 v j r=>kb c2 v ?_ r) (λc2 r=>of r (by intro φ z; cases z)) λc2 xs r=>of r (by intro φ z; cases z)
    rcases j with rfl | j
    ·exact z
    ·intro zz; rw [zz,e] at j; cases j
theorem To{d:Ch}{fs:List (Str×V)}{y:V}{u:Cn}{Q:Unit->FM->Prop}(I:Inv X zG σ H s)(e:H a=some (.ext (XO a C (some d))))(ed:H d=some (.ext (XF d fs)))(c:XC X.K nm C U)(n:Gg X.K C f)(ry:RelV y u)(k:fs.length<1000)
  (h:∀s',Inv X zG σ (A4 H d (.ext (XF d (EM f y fs)))) s'->Q () s'):wpAny (model X.prog X.w) A (setAttr (.ref a) f u) Q E s:=by
 obtain⟨⟨vs,sl,i,h2,h1⟩,_⟩:=(show ObjOk X.prog X.w H s.heap a _ from I.hok a _ e);obtain⟨⟨mA,nd,r,wi,_⟩,_⟩:=(show ObjOk X.prog X.w H s.heap d _ from I.hok d _ ed);refine Tq I.kIn c i nd wi (by rw [Go,di]; omega) n λh' t' gd sb=>h _ ?_;have hd:∃o,h'.get? d=some o:=let ⟨o,_,_,e',_⟩:=gd; ⟨o,e'⟩
 refine I.write (x:=d) (e:=d) (by rw [ed]; exact eP) (.inl rfl) (λb q j z=>(sb.2 b j).trans z) hd (XF.ok ⟨_,gd,λg=>?_,λg hg=>?_,?_⟩)
 ·show RelO ((EM f y fs).lookup g) (if g=f then some u else mA g)
  rw [Hx]
  by_cases q:g=f
  ·rw [if_pos q,if_pos q]; exact ry
  ·rw [if_neg q,if_neg q]; exact r g
 ·by_cases q:g=f
  ·rw [q]; exact(Hg f y fs).1
  ·refine(Hg f y fs).2 g (wi g λz=>hg ?_)
   show (if g=f then some u else mA g)=none;rw [if_neg q]; exact z
 ·have:=Hy f y fs; omega
end
def cT(C:Ch)(ta tv:TE)(f:Str):TS:=λD σ H=>tv σ H λy H1=>ta σ H1 λx H2=>∃a,x=.ref a/\H2 a=some (.ext (XO a C none))/\∀d,H2 d=none->d≠a->D.nx σ (A4 (A4 H2 d (.ext (XF d [(f,y)]))) a (.ext (XO a C (some d))))
def cS(C:Ch)(ta tv:TE)(f:Str):TS:=λD σ H=>tv σ H λy H1=>ta σ H1 λx H2=>∃a d fs,x=.ref a/\H2 a=some (.ext (XO a C (some d)))/\H2 d=some (.ext (XF d fs))/\fs.length<1000/\D.nx σ (A4 H2 d (.ext (XF d (EM f y fs))))
section
variable {X:Cx}{o value:Expr}{nm f:Str}{C U:Addr}{pos pos':Pos}{ta tv:TE}
theorem XA(c:XC X.K nm C U)(n:Gg X.K C f)(ha:PE X o ta)(hv:PE X value tv)(e:swapsWith value (some (.Attribute o f pos')) pos.line X.env=pure false):PS X (.Assign [.Attribute o f pos'] value pos) (cT C ta tv f):=by
 intro zG s σ H D I h;refine iC (thn (hv _ s σ H _ I h) λu s1 ⟨y,H1,I1,ry,q⟩=>thn (ha _ s1 σ H1 _ I1 q) λov s2 ⟨x,H2,I2,rx,a,ex,ea,q2⟩=>?_) e;subst ex;obtain rfl:ov=cm a:=rx;exact Tp I2 ea c n ry λd s3 hd b I3=>⟨σ,_,I3,q2 d hd b⟩
theorem W_(c:XC X.K nm C U)(n:Gg X.K C f)(ha:PE X o ta)(hv:PE X value tv)(b:swapsWith value (some (.Attribute o f pos')) pos.line X.env=pure false):PS X (.Assign [.Attribute o f pos'] value pos) (cS C ta tv f):=by
 intro zG s σ H D I h;refine iC (thn (hv _ s σ H _ I h) λu s1 ⟨y,H1,I1,ry,q⟩=>thn (ha _ s1 σ H1 _ I1 q) λov s2 ⟨x,H2,I2,rx,a,d,fs,ex,ea,ed,l,q2⟩=>?_) b;subst ex;obtain rfl:ov=cm a:=rx;exact To I2 ea ed c n ry l λs3 I3=>⟨σ,_,I3,q2⟩
end
def del(H:Hp)(a:Ch):Hp:=λb=>if b=a then none else H b
theorem KO{H:Hp}{a b:Ch}(h:b≠a):del H a b=H b:=if_neg h
theorem Fa{H:Hp}{a:Ch}:del H a a=none:=if_pos rfl
section
variable {X:Cx}{zG:List (Addr×Obj)}{σ:St}{H H1:Hp}{s s1:Shared}{a C:Addr}{dx:Option Addr}
theorem aG(I:Inv X zG σ H s)(os:s1.os=s.os)(bare:gK s1.gens)(u:Un (Lj X.stack) [] H H1 s.heap s1.heap)(f:HOk X.prog X.w H1 s1.heap)(ea:H1 a=some (.ext (XO a C dx)))(new:s.heap.objs.size<=a) :
  CXD X.prog X.w X.stack H s a C dx (PySem.W.hideAll s1.heap (a::Lj X.stack)) (del H1 a) s1:=by
 have J:Inv X zG σ H1 s1:=I.call' os u f bare λb z=>absurd z (by simp);have na:∀{b:Ch} {u:HO},H1 b=some u->(∀φ,u≠.ext φ)->b≠a:=λ{b u} q hu z=>by rw [z,ea] at q; exact hu _ (cv q).symm
 have of:∀{b:Ch} {u:HO},H1 b=some u->(∀φ,u≠.ext φ)->del H1 a b=some u:=λq hu=>(KO (na q hu)).trans q;have nf:∀{b:Ch} {u:HO},H1 b=some u->b∉Lj X.stack:=λ{b u} q z=>by rw [J.stkFree b z] at q; cases q
 obtain⟨⟨vs,sl,g,h2,h1⟩,_⟩:=(show ObjOk X.prog X.w H1 s1.heap a _ from f a _ ea);refine⟨os,bare,⟨u.keep,u.slot,λb o q n g=>?_,u.there,λb xs q=>of (u.tups b xs q) (by intro φ z; cases z),λb o xs q=>of (u.frzs b o xs q) (by intro φ z; cases z),λb ps q=>?_⟩,λb o q=>?_,λb o o' q h q'=>?_,⟨λb o q=>PySem.W.of_hideAll _ q,PySem.W.hideAll_none _ (by simp),PySem.W.funFrames_hide J.stack λenv he b h=>?_,vs,sl,.none,g,h2,h1,.inl rfl⟩,new,Fa⟩
 ·by_cases z:b=a
  ·rw [z]; exact Fa
  ·rw [KO z]; exact u.free b o q n g
 ·obtain⟨m,e⟩:=u.tbls b ps q
  exact⟨m,of e (by intro φ z; cases z)⟩
 ·have nb:b≠a:=λz=>by rw [z,Fa] at q; cases q
  rw [KO nb] at q;refine(f b o q).stay (λc v d r=>PySem.W.hideAll_get _ r λz=>?_) (λc r=>of r (by intro φ z; cases z)) λc xs r=>of r (by intro φ z; cases z)
  rcases T0.mp z with z | z
  ·rcases d with d | d
   ·exact nb (d.symm.trans z)
   ·rw [z,ea] at d; cases d
  ·rcases d with d | d
   ·exact nf q (d▸z)
   ·exact nf d z
 ·refine PySem.W.hideAll_get _ q' λz=>?_
  rcases T0.mp z with z | z
  ·exact absurd (UF q) (by rw [z]; exact iK.mpr new)
  ·exact h z
 ·exact Re _ (ig.mpr ⟨env,he,h⟩)
end
def XS(X:Cx)(zG:List (Ch×Obj))(σ:St)(R:XK)(e:Cn)(s':FM):Prop:=∃H s,Inv X zG σ H s/\RX X.prog X.w X.stack H s R e s'
def Made(X:Cx)(zG:List (Ch×Obj))(σ:St)(C:Ch)(R:XK)(v:Cn)(s1:FM):Prop:=∃a dx H s H1,v=.ref a/\Inv X zG σ H s/\s1.os=s.os/\gK s1.gens/\Un (Lj X.stack) [] H H1 s.heap s1.heap/\HOk X.prog X.w H1 s1.heap/\H1 a=some (.ext (XO a C dx))/\s.heap.objs.size<=a/\R (.ref C) dx (del H1 a)
section
variable {X:Cx}{zG:List (Addr×Obj)}{σ:St}{s:Shared}{C U:Addr}{nm:Str}{R:XK}
theorem LS{e:c_}{pos:Pos}{Q:Flow->FM->Prop}{E':Cn->FM->Prop}(c:XC X.K nm C U)(hh:X.A.handled=none)(h:wpAny (model X.prog X.w) X.A (eval e X.env) (Made X zG σ C R) E' s)(hE:∀e s',XS X zG σ R e s'->E' e s') :
  wpAny (model X.prog X.w) X.A (exec (.Raise (some e) none pos) X.env) Q E' s:=by
 obtain⟨q,N,bs,sn,sub,ab,col,dd,k0,k1,k2,k3,k5,eC⟩:=c.obj
 have h':wpAny (model X.prog X.w) X.A (eval e X.env) (λv s₁=>∃e dx vs sl,v=.ref e/\s₁.heap.get? C=some (excClassObj nm q C N bs (.ref U::Ct) true sn sub ab col dd k0 k1 k2 k3 k5 "ValueError.__new__") /\
   s₁.heap.get? e=some ⟨.ref C,dx,.fields vs,sl⟩/\vs[1]?=some .none/\E' (.ref e) s₁) E' s:=by
  refine thn h λv s1 ⟨a,dx,H0,s0,H1,ev,I,os,bare,u,d,ea,new,r⟩=>?_;obtain⟨⟨vs,sl,f,h2,h1⟩,_⟩:=(d a _ ea);have J:=I.call' os u d bare λb z=>absurd z (by simp);exact⟨a,dx,vs,sl,ev,J.kIn _ _ eC,f,h1,hE _ _ ⟨H0,s0,I,a,C,dx,_,_,rfl,aG I os bare u d ea new,r⟩⟩
 first
  | exact Db (hG (Pk rfl hh (Db (dP h' (λv s₁ h₁=>Db (hG (Sc h₁))) λ_ _ x=>x))))
  | omega
end
def HN(C:Ch)(k1 k2:Str):Sp:=λvs H Q _=>∃a v1 v2,vs=[.ref a,v1,v2]/\H a=some (.ext (XO a C none)) /\
 ∀d,H d=none->d≠a->Q .non (A4 (A4 (A4 H d (.ext (XF d [(k1,v1)]))) a (.ext (XO a C (some d)))) d (.ext (XF d [(k1,v1),(k2,v2)])))
section
variable {X:Cx}{zG:List (Addr×Obj)}{σ:St}{H:Hp}{s:Shared}{C U f:Addr}{nm k1 k2 p0 p1 p2:Str}{R:XK}{E:Value->Shared->Prop}{k:Nat}{fd:FuncData}{us:List Value}{v1 v2:V}
theorem V4(c:XC X.K nm C U)(hi:PySem.W.findIn X.K (.ref C) "__init__"=some (some (.ref f)))(hf:PySem.W.typeIn X.K (.ref f)=some (.type "function"))(F:BD X.prog X.w X.K X.mg X.base CL k f fd [p0,p1,p2] (HN C k1 k2))(n:Binds X.K fd [p0,p1,p2] [])
  (hr:Room (k+1) X.A) (I:Inv X zG σ H s) (r:Vals [v1,v2] us) (h:∀d,H d=none->R (.ref C) (some d) (A4 H d (.ext (XF d [(k1,v1),(k2,v2)])))):wpAny (model X.prog X.w) X.A (call (.ref C) us) (Made X zG σ C R) E s:=by
 obtain⟨hh,g,dr,t,os⟩:=s;have m:us.length=2:=r.length.symm;have ge:((hh.push { cls:=.type "tuple",data:=.seq us.toArray }).push (B4 C hh.objs.size)).get? (hh.objs.size+1)=some (B4 C hh.objs.size):=by unfold B4; heap_get
 have kk:∀b o,hh.get? b=some o->((hh.push { cls:=.type "tuple",data:=.seq us.toArray }).push (B4 C hh.objs.size)).get? b=some o:=λb o e=>Ev _ (Ev _ e);have fa:H (hh.objs.size+1)=none:=I.hok.fresh (dq _);have I2:Inv X zG σ (A4 H (hh.objs.size+1) (.ext (XO (hh.objs.size+1) C none))) ⟨(hh.push { cls:=.type "tuple",data:=.seq us.toArray }).push (B4 C hh.objs.size),g,dr,t,os⟩:=I.laid (t':=t) kk (dq _) (XO.ok ⟨_,_,ge,rfl,rfl⟩)
 have i:HN C k1 k2 [.ref (hh.objs.size+1),v1,v2] (A4 H (hh.objs.size+1) (.ext (XO (hh.objs.size+1) C none))) (λv H3=>v=.non/\∃d,H d=none/\d≠hh.objs.size+1 /\
   H3=A4 (A4 (A4 (A4 H (hh.objs.size+1) (.ext (XO (hh.objs.size+1) C none))) d (.ext (XF d [(k1,v1)]))) (hh.objs.size+1) (.ext (XO (hh.objs.size+1) C (some d)))) d (.ext (XF d [(k1,v1),(k2,v2)]))) E0 :=
  ⟨_,v1,v2,rfl,AX,λd hd a=>⟨rfl,d,by rw [AQ a] at hd; exact hd,a,rfl⟩⟩
 have r2:Vals [V.ref (hh.objs.size+1),v1,v2] (cm (hh.objs.size+1)::(us++[])):=by rw [dS]; exact .cons rfl r
 refine fj (Uz (K:=X.K) (U:=U) (nm:=nm) I.kIn c hi hf (by rw [m]; decide) (ft (F.run _ X.stack _ _ ⟨cm (hh.objs.size+1)::us,[]⟩ _ _ _ E0 (hr.make C us []) (I2.env0.make C us []) (n _ (cm (hh.objs.size+1)::us) I2.kIn (by simp [m])) r2 i) λrr s' hq=>?_))
 rcases rr with e | (u | _ | _ | _) <;> first | exact dh hq | skip
 obtain⟨v,H3,j,bare,un,l,rv,ev,d,hd,a,eH⟩:=hq;subst ev;subst eH;refine⟨rv,hh.objs.size+1,some d,H,_,_,rfl,I,j,bare,(Un.laid kk (dq _) fa).trans un,l,by rw [AQ a.symm,AX],dq _,?_⟩
 have e:del (A4 (A4 (A4 (A4 H (hh.objs.size+1) (.ext (XO (hh.objs.size+1) C none))) d (.ext (XF d [(k1,v1)]))) (hh.objs.size+1) (.ext (XO (hh.objs.size+1) C (some d)))) d (.ext (XF d [(k1,v1),(k2,v2)]))) (hh.objs.size+1)=A4 H d (.ext (XF d [(k1,v1),(k2,v2)])):=by
  funext b
  by_cases z:b=hh.objs.size+1
  ·rw [z,Fa,AQ a.symm,fa]
  ·rw [KO z]
   by_cases z2:b=d
   ·rw [z2,AX,AX]
   ·rw [AQ z2,AQ z,AQ z2,AQ z,AQ z2]
 rw [e];exact h d hd
theorem V5(c:XC X.K nm C U)(hi:PySem.W.findIn X.K (.ref C) "__init__"=some (some (.builtin "ValueError.__init__")))(I:Inv X zG σ H s)(a:us.length<=sizeLine)(h:R (.ref C) none H):wpAny (model X.prog X.w) X.A (call (.ref C) us) (Made X zG σ C R) E s:=by
 obtain⟨hh,g,dr,t,os⟩:=s;have fa:=I.hok.fresh (dq _);refine fj (Si (K:=X.K) (U:=U) (nm:=nm) I.kIn c hi a λh' kk ge=>?_);have I2:Inv X zG σ (A4 H (hh.objs.size+1) _) _:=I.laid (t':=t) kk (dq _) (XO.ok ⟨_,_,ge,rfl,rfl⟩);refine⟨hh.objs.size+1,none,H,_,_,rfl,I,rfl,I.bare,Un.laid kk (dq _) fa,I2.hok,AX,dq _,?_⟩
 have e:del (A4 H (hh.objs.size+1) (.ext (XO (hh.objs.size+1) C none))) (hh.objs.size+1)=H:=by
  funext b
  by_cases z:b=hh.objs.size+1
  ·rw [z,Fa,fa]
  ·rw [KO z,AQ z]
 grind
end
abbrev Xc:=Ends->XK->St->Hp->Prop
abbrev aT:=XK->St->Hp->VK->Prop
def XE(X:Cx)(zG:List (Ch×Obj))(σ:St)(R:XK)(e:Cn)(s':FM):Prop:=X.xe e s'\/XS X zG σ R e s'
def ZL(X:Cx)(st:dE)(t:Xc):Prop :=
 ∀(zG:List (Ch×Obj)) (s:FM) (σ:St) (H:Hp) (D:Ends) (R:XK),Inv X zG σ H s->t D R σ H->wpAny (model X.prog X.w) X.A (exec st X.env) (SP X zG D) (XE X zG σ R) s
def Y6(X:Cx)(st:List dE)(t:Xc):Prop :=
 ∀(zG:List (Ch×Obj)) (s:FM) (σ:St) (H:Hp) (D:Ends) (R:XK),Inv X zG σ H s->t D R σ H->wpAny (model X.prog X.w) X.A (execs st X.env) (SP X zG D) (XE X zG σ R) s
def bq(X:Cx)(e:c_)(t:aT):Prop :=
 ∀(zG:List (Ch×Obj)) (s:FM) (σ:St) (H:Hp) (Q:VK) (R:XK),Inv X zG σ H s->t R σ H Q->wpAny (model X.prog X.w) X.A (eval e X.env) (EP X zG σ Q) (XE X zG σ R) s
section
variable {X:Cx}{st:Stmt}{t u:Xc}{te:aT}{e:Expr}{es:List Expr}{ta:TA}{x nm k1 k2 p0 p1 p2:Str}{p pos cpos:Pos}{C U f:Addr}{k:Nat}{fd:FuncData}{ps:List Str}{sp:Sp}
theorem bG{α:Type}{t:Sem α}{Q:α->FM->Prop}{zG:List (Ch×Obj)}{σ:St}{R:XK}{s:FM}(h:wpAny (model X.prog X.w) X.A t Q X.xe s):wpAny (model X.prog X.w) X.A t Q (XE X zG σ R) s:=dP h (λ_ _ z=>z) λ_ _ z=>.inl z
theorem Rx{R:XK}(a:Hr (RX X.prog X.w) X R)(h:ZL X st t):PS X st (λD=>t D R):=λzG s σ H D I q =>
 dP (h _ s σ H D R I q) (λ_ _ z=>z) λe s' z=>z.elim id fun⟨H,s,J,c⟩=>a _ σ H s e s' J c
theorem UD(h1:ZL X st t):Y6 X [st] t:=by
 intro zG s σ H D R I h;refine jH (dP (h1 _ s σ H D R I h) (λf s1 q=>?_) λ_ _ z=>z);cases f with
 | next =>
  obtain⟨zZ,H',J,q⟩:=q;exact gB ⟨_,H',J,q⟩
 | brk=>exact q
 | cont=>exact q
 | ret v=>exact q
def Vb(C:Ch)(k1 k2:Str)(ta:TA):Xc:=λ_ R σ H=>ta σ H λvs H1=>∃v1 v2,vs=[v1,v2]/\∀d,H1 d=none->R (.ref C) (some d) (A4 H1 d (.ext (XF d [(k1,v1),(k2,v2)])))
def Vc(C:Ch)(ta:TA):Xc:=λ_ R σ H=>ta σ H λvs H1=>vs.length<=sizeLine/\R (.ref C) none H1
theorem Pn(c:XC X.K nm C U)(hi:PySem.W.findIn X.K (.ref C) "__init__"=some (some (.ref f)))(hf:PySem.W.typeIn X.K (.ref f)=some (.type "function"))(F:BD X.prog X.w X.K X.mg X.base CL k f fd [p0,p1,p2] (HN C k1 k2))(d:Binds X.K fd [p0,p1,p2] [])
  (hr:Room (k+1) X.A) (hg:Gl X x) (hm:X.mg x=some (.ref C)) (ha:PA X (e::es) ta) (a:(x==("__debug__":Str))=false:=by decide) (he:starEach (e::es) X.env=(false,eval e X.env)::starEach es X.env:=by rfl) (b:(backTo cpos (starEach es X.env)).any (·.1)=false:=by rfl) :
  ZL X (.Raise (some (.Call (.Name x p) (e::es) [] cpos)) none pos) (Vb C k1 k2 ta):=by
 intro zG s σ H D R I h;refine LS c hr.hd ?_ λ_ _ z=>.inr z;refine eN (Dq I hg hm ?_ a);refine PySem.W.callWith_K I.ok.mod.kin c.kp (thn (bG (ha _ _ s σ H _ I h)) λus s1 ⟨vs,H1,I1,r,v1,v2,ev,q⟩=>⟨I1.kIn,?_⟩) he b;subst ev;exact V4 c hi hf F d hr I1 r q
theorem Po(c:XC X.K nm C U)(hi:PySem.W.findIn X.K (.ref C) "__init__"=some (some (.builtin "ValueError.__init__")))(hh:X.A.handled=none)(hg:Gl X x)(hm:X.mg x=some (.ref C))(ha:PA X (e::es) ta)(a:(x==("__debug__":Str))=false:=by decide)(he:starEach (e::es) X.env=(false,eval e X.env)::starEach es X.env:=by rfl)(b:(backTo cpos (starEach es X.env)).any (·.1)=false:=by rfl) :
  ZL X (.Raise (some (.Call (.Name x p) (e::es) [] cpos)) none pos) (Vc C ta):=by
 intro zG s σ H D R I h;exact LS c hh (eN (Dq I hg hm (PySem.W.callWith_K I.ok.mod.kin c.kp (thn (bG (ha _ _ s σ H _ I h)) λus s1 ⟨vs,H1,I1,r,d,q⟩=>⟨I1.kIn,V5 c hi I1 (by rw [cy,← r.length]; exact d) q⟩) he b) a)) λ_ _ z=>.inr z
def Xy(sp:Sp)(ta:TA):aT:=λR σ H Q=>ta σ H λvs H1=>sp vs H1 Q R
theorem UL(F:BD X.prog X.w X.K X.mg X.base (RX X.prog X.w) k f fd ps sp)(hr:Room k X.A)(hg:Gl X x)(hm:X.mg x=some (.ref f))(c:keepIn X.K (.ref f)=true)(d:Binds X.K fd ps [])
  (ha:PA X (e::es) ta) (a:(x==("__debug__":Str))=false:=by decide) (he:starEach (e::es) X.env=(false,eval e X.env)::starEach es X.env:=by rfl) (b:(backTo pos (starEach es X.env)).any (·.1)=false:=by rfl) :
  bq X (.Call (.Name x p) (e::es) [] pos) (Xy sp ta):=by
 intro zG s σ H Q R I h;refine eN (Dq I hg hm ?_ a);refine PySem.W.callWith_K (h₀:=X.base) I.ok.mod.kin c (thn (bG (ha pos zG s σ H _ I h)) λus s1 ⟨vs,H1,I1,r,q⟩=>⟨I1.kIn,?_⟩) he b;have g:(us++[]).length=ps.length:=by rw [dS,← r.length]; exact F.len _ _ _ _ q
 have r2:Vals vs (us++[]):=by grind
 refine fj (ft (F.run X.A X.stack s1 H1 ⟨us,[]⟩ (us++[]) vs Q R hr I1.env0 (d s1 us I1.kIn g) r2 q) λr s' hq=>?_);cases r with
 | error e=>exact .inr ⟨H1,s1,I1,hq⟩
 | ok fl =>
  cases fl with
  | ret u=>exact I1.after hq
  | next=>exact dh hq
  | brk=>exact dh hq
  | cont=>exact dh hq
def ZV(i:Nat)(te:aT):Xc:=λD R σ H=>te R σ H λv H1=>D.nx (σ.set i (some v)) H1
theorem Vl{i:Nat}{y:Str}{a:Pos}(hN:X.N.Nodup)(hi:X.N[i]?=some y)(hy:Loc X.env.scope y)(he:bq X e te)(b:swapsWith e (some (.Name y a)) pos.line X.env=pure false:=by rfl)(hf:X.fn y=true\/X.env.scope.names.lookup y=some .local:=by first | exact .inl rfl | exact .inr rfl | assumption) :
  ZL X (.Assign [.Name y a] e pos) (ZV i te):=λzG s σ H D R I h=>wpAny_Assign_Name (thn (he _ s σ H _ R I h) λv s1 ⟨y,H1,I1,r1,q1⟩=>FC I1 hN hi hy r1 (λs2 I2=>⟨_,H1,I2,q1⟩) hf) b
end
def Cx.hush(X:Cx)(A:dL):Cx:={ X with A:=A,calm:=false,xe:=λ_ _=>False }
section
variable {X:Cx}{A:Around}{zG:List (Addr×Obj)}{σ:St}{H:Hp}{s:Shared}
theorem Inv.hush(I:Inv X zG σ H s)(hf:A.frames=some X.stack):Inv (X.hush A) zG σ H s :=
 ⟨⟨I.ok.mod,I.ok.kind,I.ok.glob,I.ok.blt,I.ok.above,I.ok.inj,I.ok.has,I.ok.cab,λz=>absurd (z) c8,hf,I.ok.stk,I.ok.exf,I.ok.bs,I.ok.bsz,I.ok.noex,I.ok.exfs,I.ok.funs,I.ok.frf⟩,I.os,I.bare,I.base,I.loc,I.cell,I.free,I.freeC,I.pin,I.hok,I.len⟩
theorem Inv.unhush(I:Inv (X.hush A) zG σ H s)(ok:X.Ok):Inv X zG σ H s:=⟨ok,I.os,I.bare,I.base,I.loc,I.cell,I.free,I.freeC,I.pin,I.hok,I.len⟩
theorem Inv.track{a:Ch}{o:HO}(I:Inv X zG σ H s)(n:H a=none)(h1:X.s₀.heap.objs.size<=a)(h2:a≠X.env.locals)(h3:∀x c,X.env.cells.lookup x=some c->c≠a)(h4:∀p∈X.pn++zG,p.1≠a)(new:ObjOk X.prog X.w (A4 H a o) s.heap a o) :
  Inv X zG σ (A4 H a o) s:=by
 have of:∀{b:Ch} {u:HO},H b=some u->A4 H a o b=some u:=λ{b u} q=>by rw [AQ (λz=>by grind)]; exact q
 refine I.step (g':=s.gens) (d':=s.drawn) (t':=s.toks) (h':=s.heap) (ch:=[a]) (λb f=>?_) (λb o _ _ _ e _=>e) (λb o _ _ _ e _=>⟨o.slots,e⟩) (λb o d _ m=>?_) (λb o _ e=>⟨o,e⟩) (λb xs e=>of e) (λb o xs e=>of e) (λb ps e=>⟨#[],by grind⟩) (λm hm=>hm) (λb u e=>?_) I.bare
 ·have e:b=a:=by grind
  subst e;exact⟨.inr h1,h2,h3,h4⟩
 ·rw [AQ (λz=>d (by simp [z]))]; exact m
 ·by_cases z:b=a
  ·subst z
   rw [AX] at e
   grind
  ·rw [AQ z] at e
   exact(I.hok b u e).stay (λ_ _ _ q=>q) (λ_ q=>of q) λ_ _ q=>of q
theorem Inv.gone{i:Nat}{x:Str}{v:Option Cn}{m:Str->Option Cn}{h':cw}{t':Nat}(I:Inv X zG σ H s)(hN:X.N.Nodup)(hi:X.N[i]?=some x)
  (l:∀(i:Nat) (x:Str) (v:V),X.N[i]?=some x->σ[i]?=some (some v)->Sw X.env.scope x->∃u,RelV v u/\Look X.env s.heap m x u)
  (hn:h'.Ns X.env.locals (λy=>if y=x then v else m y)) (a:fq X.env.locals s.heap h'):Inv X zG (σ.set i none) H { s with heap:=h',toks:=t' }:=by
 have ne:∀{b:Ch} {o:Obj},X.s₀.heap.get? b=some o->b≠X.env.locals:=λ{b o} e=>c7 (dA (UF e) I.ok.above);refine⟨I.ok,I.os,I.bare,⟨λb o e n h f=>(a.2 b (ne e)).trans (I.base.keep b o e n h f),λb o e n h f=>?_,I.base.free,λb o e f=>?_,I.base.tups,I.base.frzs,I.base.tbls⟩,⟨_,hn,λj y v' e1 e2 e3=>?_⟩,λy c e=>?_,I.free,I.freeC,λp hp=>?_,λb o e=>?_,by simpa using I.len⟩
 ·obtain⟨sl,e1⟩:=I.base.slot b o e n h f
  exact⟨sl,(a.2 b (ne e)).trans e1⟩
 ·obtain⟨o',e1⟩:=I.base.there b o e f
  exact⟨o',(a.2 b (ne e)).trans e1⟩
 ·by_cases hj:j=i
  ·subst hj
   rw [i9] at e2
   split at e2
   ·split at e2 <;> cases e2
   ·rename_i z; exact absurd rfl z
  ·rw [iE (eF hj)] at e2
   obtain⟨u',r',q⟩:=l j y v' e1 e2 e3;refine⟨u',r',?_⟩
   rcases q with ⟨k,e⟩ | ⟨k,c,e,z⟩
   ·refine .inl ⟨k,?_⟩
    have:y≠x:=λe=>hj (Jt hN e1 (e▸hi))
    simp [this,e]
   ·exact .inr ⟨k,c,e,z.sameBut a (I.cne y c e)⟩
 ·obtain⟨w',z⟩:=I.cell y c e
  exact⟨w',z.sameBut a (I.cne y c e)⟩
 ·obtain⟨e,n,ne,nf,d⟩:=I.pin p hp
  exact⟨(a.2 p.1 ne).trans e,n,ne,nf,d⟩
 ·refine(I.hok b o e).stay (λc w' g q=>(a.2 c ?_).trans q) (λ_ q=>q) λ_ _ q=>q
  rintro rfl
  rcases g with rfl | g
  ·rw [I.free] at e; cases e
  ·rw [I.free] at g; cases g
end
def XT(C:Ch)(dx:Option Ch)(a:Ch)(u:HO):Prop:=∃vs sl,u=.frz ⟨.ref C,dx,.fields vs,sl⟩ (.own a)/\vs[2]?=some .none
abbrev TH:=Ends->Ch->Option Ch->St->Hp->Prop
def PH(X:Cx)(b:List gc)(t:TH):Prop :=
 ∀(zG:List (Ch×Obj)) (σ:St) (D:Ends) (a C:Ch) (dx:Option Ch) (B:cw) (H0:Hp) (s0:FM) (H:Hp) (s:FM),Inv X zG σ H0 s0->CXD X.prog X.w X.stack H0 s0 a C dx B H s->t D C dx σ H ->
  wpAny (model X.prog X.w) X.A (handleBy (.ref a) X.env b) (SP X zG D) X.xe s
section
variable {X:Cx}{i:Nat}{n x:Str}{np pos:Pos}{b₀:Stmt}{suite body:List Stmt}{rest:List ExceptHandler}{Dc U:Addr}{nm:Str}{th:TH}{ts:Addr->TS}{tb:Xc}
def ZZ(K:Frag)(Dc:Ch)(i:Nat)(ts:Ch->TS)(th:TH):TH:=λD C dx σ H=>∃nm U,XC K nm C U/\((C=Dc\/U=Dc)/\(∀a u,H a=none->XT C dx a u->ts a { nx:=λzZ H'=>D.nx (zZ.set i none) H',rt:=D.rt,bk:=λzZ H'=>D.bk (zZ.set i none) H',ct:=λzZ H'=>D.ct (zZ.set i none) H' } (σ.set i (some (.ref a))) (A4 H a u))\/C≠Dc/\U≠Dc/\th D C dx σ H)
def ZO(K:Frag)(D:Ch):Prop:=∃nm q N bs bm hd sn sub ab col dd k0 k1 k2 k3 k5,K.lookup D=some (excClassObj nm q D N bs bm hd sn sub ab col dd k0 k1 k2 k3 k5 "ValueError.__new__")/\bm.contains (.type "BaseException")=true
theorem XC.isX{K:Frag}{C:Ch}(c:XC K nm C U):ZO K C:=by
 obtain⟨q,N,bs,sn,sub,ab,col,dd,k0,k1,k2,k3,k5,e⟩:=c.obj;exact⟨nm,q,N,bs,_,_,sn,_,ab,_,dd,k0,k1,k2,k3,k5,e,by simp [Ct]⟩
theorem XC.isU{K:Frag}{C:Ch}(c:XC K nm C U):ZO K U:=by
 obtain⟨q,N,bs,sn,sub,ab,col,dd,k0,k1,k2,k3,k5,hd,e⟩:=c.up;exact⟨_,q,N,bs,_,_,sn,_,ab,_,dd,k0,k1,k2,k3,k5,e,by simp [Ct]⟩
theorem IH{C U D:Ch}:(cm C::cm U::Ct).contains (.ref D)=(decide (C=D)||decide (U=D)):=by
 simp only [List.contains_cons,Ct,List.contains_nil]
 have e1:∀(a b:Ch),(cm a==cm b)=decide (b=a):=λa b=>by
  grind
 have e2:∀T,(cm D==fE T)=false:=λT=>rfl;rw [e1,e1,e2,e2,e2,e2];simp
theorem Vr(hN:X.N.Nodup)(hi:X.N[i]?=some n)(o:X.env.scope.names.lookup n=some .local)(hg:Gl X x)(hm:X.mg x=some (.ref Dc))(hD:ZO X.K Dc)(R:X.stack=X.env::X.outer)(S:X.env.frame=some X.env.locals)
  (T:∀a,PSs (X.hush (X.A.mark (some (.ref a)))) (b₀::suite) (ts a)) (b:PH X rest th) (hd:(x==("__debug__":Str))=false:=by decide) :
  PH X (.ExceptHandler (some (.Name x np)) (some n) (b₀::suite) pos::rest) (ZZ X.K Dc i ts th):=by
 intro zG σ D a C dx B H0 s0 H s I c h;obtain⟨nm,U,xc,h⟩:=h;have J:=c.inv I;have d:(X.A.mark (some (.ref a))).frames=some X.stack:=I.ok.frames;have J':=J.hush d;refine wpAny_handleBy_cons (codeAny_handlers_test ?_) (by intro q; cases q);refine Dq (X:=X.hush (X.A.mark (some (.ref a)))) J' hg hm ?_ hd;obtain⟨V,q',N',W,bmD,Y,Z,L,a0,O,a1,l0,l1,l2,l3,l5,eD,hB⟩:=hD;obtain⟨q,N,bs,sn,sub,ab,col,dd,k0,k1,k2,k3,k5,eC⟩:=xc.obj;obtain⟨vs,sl,tb,hx,h2,h1,hT⟩:=c.fly.obj;obtain⟨hh,g,dr,tk,os⟩:=s;refine Sh (J.kIn _ _ eC) (J.kIn _ _ eD) hB hx rfl ?_;rw [IH]
 rcases h with ⟨hCD,h⟩ | ⟨n1,n2,h⟩
 ·have e:(decide (C=Dc)||decide (U=Dc))=true:=by rcases hCD with z | z <;> simp [z]
  rw [e];refine codeAny_handlers_suite_as ?_;refine Gb (s:=⟨hh,g,dr,tk,os⟩) c.fly λh' f' u'=>?_;have c2:=c.step f' u';have J2:=c2.inv I;obtain⟨j,k,a2,l,r,_⟩:=f'.obj
  have J3:Inv X zG σ (A4 H a (.frz ⟨.ref C,dx,.fields j,k⟩ (.own a))) ⟨h',g,dr,tk,os⟩:=by
   refine J2.track c.free (cx I.sz c.new) (fV (dA I.lt c.new)) (λy c' e z=>?_) (λp hp z=>?_) ⟨l,_,l⟩
   ·obtain⟨v,q⟩:=I.cell y c' e
    exact absurd (dA q.lt c.new) (by rw [z]; exact eK _)
   ·exact absurd (dA (UF (I.pin p hp).1) c.new) (by rw [z]; exact eK _)
  refine FC J3 hN hi (.inl o) (v:=.ref a) (u:=.ref a) rfl (λs4 J4=>?_) (.inr o);have t:=T a zG s4 _ _ _ (J4.hush d) (h a _ c.free ⟨j,k,rfl,r⟩);refine dP t (λf s5 q5=>?_) λe s5 z=>z.elim
  have fin:∀{zZ:St} {H':Hp} {P:St->Hp->Prop} {Q:FM->Prop},Inv (X.hush (X.A.mark (some (.ref a)))) zG zZ H' s5->P (zZ.set i none) H'->(∀s6,Inv X zG (zZ.set i none) H' s6->Q s6) ->
    wpAny (model X.prog X.w) X.A (do bindName X.env n .none; unbindBehindTheSuite X.env n pos) (λ_ s6=>Q s6) X.xe s5:=λ{zZ H' P Q} K5 _ kq=>by
   obtain⟨m,hn,E⟩:=K5.loc;refine wpAny_nameGoes_keeps (M:=model X.prog X.w) o hn (by show (X.env.scope.kind==.class||(X.env.scope.kind==.module&&X.env.locals != X.env.globals))=false; rw [I.ok.kind]; rfl) λh6 v F G=>?_;exact kq _ ((K5.unhush I.ok).gone hN hi E F G)
  cases f with
  | next =>
   obtain⟨zZ,H',K5,q⟩:=q5;exact fin (P:=D.nx) K5 q λs6 J6=>⟨_,H',J6,q⟩
  | brk =>
   obtain⟨zZ,H',K5,q⟩:=q5;exact fin (P:=D.bk) K5 q λs6 J6=>⟨_,H',J6,q⟩
  | cont =>
   obtain⟨zZ,H',K5,q⟩:=q5;exact fin (P:=D.ct) K5 q λs6 J6=>⟨_,H',J6,q⟩
  | ret u =>
   obtain⟨v,zZ,H',K5,rv,q⟩:=q5;exact fin (P:=λ_ H'=>D.rt v H') K5 q λs6 J6=>⟨v,_,H',J6,rv,q⟩
 ·have e:(decide (C=Dc)||decide (U=Dc))=false:=by simp [n1,n2]
  rw [e];exact b zG σ D a C dx B H0 s0 H _ I c h
def Xu:TH:=λ_ _ _ _ _=>False
theorem YG:PH X [] Xu:=λ_ _ _ _ _ _ _ _ _ _ _ _ _ h=>h.elim
def bK(tb:Xc)(th:TH):TS:=λD σ H=>tb D (λC dx H'=>∃Ca,C=.ref Ca/\th D Ca dx σ H') σ H
theorem YD{h₀:gc}(b:X.stack=X.env::X.outer)(d:X.env.frame=some X.env.locals)(j:∀e s,X.xe e s->False)(i:Y6 X body tb)(hh:PH X (h₀::rest) th):PS X (.Try body (h₀::rest) [] [] pos) (bK tb th):=by
 intro zG s σ H D I h;refine wpAny_Try_except (dP (i zG s σ H D _ I h) (λf s1 q=>?_) λe s1 q=>?_)
 ·cases f with
  | next=>exact gB q
  | _=>exact q
 ·rcases q with q | ⟨H0,s0,I0,a,C,dx,B,H',rfl,c,Ca,eC,g⟩
  ·grind
  ·cases eC
   have fl:=c.fly;rw [b] at fl;have fr:=I.ok.frames;rw [b] at fr;refine Of fr d fl λh1 f1 u1=>?_;have c1:=c.step (by grind) u1;refine Gb (s:={ s1 with heap:=h1 }) f1 λh2 f2 u2=>?_;have c2:=c1.step (by rw [b]; exact f2) u2;exact hh zG σ D a C dx B H0 s0 H' _ I0 c2 g
end
end L2
namespace Dp
open L2
inductive D where
 | non | bl (b:Bool) | int (i:Int) | str (x:Str) | tup (xs:List D) | lst (xs:List D) | dic (ks:List Key) (xs:List D) | fdi (ks:List Key) (xs:List D) | dit (ks:List (List Key)) (xs:List D)
 deriving Inhabited
def NdT(M:Ch->Prop)(H:Hp)(a:Ch)(vs:List V):Prop:=H a=some (.tup vs)
def NdL(M:Ch->Prop)(H:Hp)(a:Ch)(vs:List V):Prop:=¬M a/\H a=some (.lst vs)
def NdD(M:Ch->Prop)(H:Hp)(a:Ch)(ks:List Key)(vs:List V):Prop:=¬M a/\H a=some (.dK (ks.zip vs))
def NdF(M:Ch->Prop)(H:Hp)(a:Ch)(ks:List Key)(vs:List V):Prop:=∃o,¬M a/\H a=some (.frz o (.dK (ks.zip vs)))
def NdU(M:Ch->Prop)(H:Hp)(a:Ch)(ks:List (List Key))(vs:List V):Prop:=¬M a/\H a=some (.dT (ks.zip vs))
mutual
def At(K:Frag)(M:Ch->Prop)(H:Hp):D->V->Prop
 | .non,v=>v=.non
 | .bl b,v=>v=.bl b
 | .int i,v=>v=.int i
 | .str x,v=>v=.str x/\x.length<=sizeLine
 | .tup ds,v=>∃a vs,v=.ref a/\NdT M H a vs/\Ats K M H ds vs
 | .lst ds,v=>∃a vs,v=.ref a/\NdL M H a vs/\Ats K M H ds vs
 | .dic ks ds,v=>∃a vs,v=.ref a/\NdD M H a ks vs/\ks.length=ds.length/\Ats K M H ds vs
 | .fdi ks ds,v=>∃a vs,v=.ref a/\NdF M H a ks vs/\ks.length=ds.length/\Ats K M H ds vs
 | .dit ks ds,v=>∃a vs,v=.ref a/\NdU M H a ks vs/\ks.length=ds.length/\Ats K M H ds vs
def Ats(K:Frag)(M:Ch->Prop)(H:Hp):List D->List V->Prop
 | [],vs=>vs=[]
 | d::ds,vs=>∃v r,vs=v::r/\At K M H d v/\Ats K M H ds r
end
section
variable {K:Frag}{M M':Addr->Prop}{H H':Hp}{a:Addr}{vs:List V}{ks:List Key}
theorem NdT.sq(h:NdT M H a vs):SqT K H a vs:=.inl (.inl h)
theorem NdL.sq(h:NdL M H a vs):SqL K H a vs:=.inl (.inl h.2)
def Pres(M:Ch->Prop)(H:Hp)(M':Ch->Prop)(H':Hp):Prop:=(∀b o,H b=some o->¬M b->H' b=some o)/\(∀b,M' b->M b\/H b=none)/\∀b vs,H b=some (.tup vs)->H' b=some (.tup vs)
theorem Pres.nd{u:HO}(p:Pres M H M' H')(n:¬M a)(h:H a=some u):¬M' a/\H' a=some u:=by
 refine⟨λz=>?_,p.1 _ _ h n⟩
 rcases p.2.1 a z with z | z
 ·exact n z
 grind
theorem NdT.pres(p:Pres M H M' H')(h:NdT M H a vs):NdT M' H' a vs:=p.2.2 _ _ h
theorem NdL.pres(p:Pres M H M' H')(h:NdL M H a vs):NdL M' H' a vs:=p.nd h.1 h.2
theorem NdD.pres(p:Pres M H M' H')(h:NdD M H a ks vs):NdD M' H' a ks vs:=p.nd h.1 h.2
theorem NdU.pres{ks:List (List Key)}(p:Pres M H M' H')(h:NdU M H a ks vs):NdU M' H' a ks vs:=p.nd h.1 h.2
theorem NdF.pres(p:Pres M H M' H')(h:NdF M H a ks vs):NdF M' H' a ks vs:=let ⟨o,h1,h2⟩:=h; ⟨o,p.nd h1 h2⟩
mutual
theorem At.pres(p:Pres M H M' H'):∀{d:D} {v:V},At K M H d v->At K M' H' d v
 | .non,v,h=>h
 | .bl b,v,h=>h
 | .int i,v,h=>h
 | .str x,v,h=>h
 | .tup ds,v,h=>by
  obtain⟨a,vs,e,hn,c⟩:=h;exact⟨a,vs,e,hn.pres p,Ats.pres p c⟩
 | .lst ds,v,h=>by
  obtain⟨a,vs,e,hn,c⟩:=h;exact⟨a,vs,e,hn.pres p,Ats.pres p c⟩
 | .dic ks ds,v,h=>by
  obtain⟨a,vs,e,hn,f,c⟩:=h;exact⟨a,vs,e,hn.pres p,f,Ats.pres p c⟩
 | .fdi ks ds,v,h=>by
  obtain⟨a,vs,e,hn,f,c⟩:=h;exact⟨a,vs,e,hn.pres p,f,Ats.pres p c⟩
 | .dit ks ds,v,h=>by
  obtain⟨a,vs,e,hn,f,c⟩:=h;exact⟨a,vs,e,hn.pres p,f,Ats.pres p c⟩
theorem Ats.pres(p:Pres M H M' H'):∀{ds:List D} {vs:List V},Ats K M H ds vs->Ats K M' H' ds vs
 | [],vs,h=>h
 | d::ds,vs,h=>by
  obtain⟨v,r,e,h1,h2⟩:=h;exact⟨v,r,e,At.pres p h1,Ats.pres p h2⟩
end
theorem Pres.trans{M1 M2 M3:Ch->Prop}{H1 H2 H3:Hp}(p:Pres M1 H1 M2 H2)(q:Pres M2 H2 M3 H3):Pres M1 H1 M3 H3:=by
 refine⟨λb o e n=>?_,λb z=>?_,λb vs e=>q.2.2 b vs (p.2.2 b vs e)⟩
 ·refine q.1 b o (p.1 b o e n) λz=>?_
  rcases p.2.1 b z with z | z
  ·exact n z
  grind
 ·rcases q.2.1 b z with z | z
  ·exact p.2.1 b z
  ·cases e:H1 b with
   | none=>grind
   | some o =>
    by_cases n:M1 b
    ·exact .inl n
    ·rw [p.1 b o e n] at z; cases z
theorem Pres.refl(M:Ch->Prop)(H:Hp):Pres M H M H:=⟨λ_ _ e _=>e,λ_ z=>.inl z,λ_ _ e=>e⟩
theorem Pres.less(h:∀b,M' b->M b):Pres M H M' H:=⟨λ_ _ e _=>e,λb z=>.inl (h b z),λ_ _ e=>e⟩
theorem Ats.length:∀{ds:List D} {vs:List V},Ats K M H ds vs->vs.length=ds.length
 | [],vs,h=>by cases h; rfl
 | d::ds,vs,h=>by
  obtain⟨v,r,e,h1,h2⟩:=h;subst e;rw [ZB,ZB,Ats.length h2]
theorem Ats.get:∀{ds:List D} {vs:List V} {i:Nat} {d:D},Ats K M H ds vs->ds[i]?=some d->∃v,vs[i]?=some v/\At K M H d v
 | [],vs,i,d,h,e=>by simp at e
 | d0::ds,vs,0,d,h,e=>by
  obtain⟨v,r,e1,h1,h2⟩:=h
  simp_all
 | d0::ds,vs,i+1,d,h,e=>by
  obtain⟨v,r,e1,h1,h2⟩:=h;obtain⟨u,e2,h3⟩:=Ats.get h2 (by simpa using e)
  simp_all
theorem Ats.append:∀{ds es:List D} {vs us:List V},Ats K M H ds vs->Ats K M H es us->Ats K M H (ds++es) (vs++us)
 | [],es,vs,us,h,g=>by cases h; exact g
 | d::ds,es,vs,us,h,g=>by
  obtain⟨v,r,e,h1,h2⟩:=h;subst e;exact⟨v,_,rfl,h1,Ats.append h2 g⟩
theorem Ats.drop:∀{ds:List D} {vs:List V} (n:Nat),Ats K M H ds vs->Ats K M H (ds.drop n) (vs.drop n)
 | ds,vs,0,h=>h
 | [],vs,n+1,h=>by cases h; exact rfl
 | d::ds,vs,n+1,h=>by
  obtain⟨v,r,e,h1,h2⟩:=h;subst e;exact Ats.drop n h2
theorem Ats.take:∀{ds:List D} {vs:List V} (n:Nat),Ats K M H ds vs->Ats K M H (ds.take n) (vs.take n)
 | ds,vs,0,h=>rfl
 | [],vs,n+1,h=>by cases h; exact rfl
 | d::ds,vs,n+1,h=>by
  obtain⟨v,r,e,h1,h2⟩:=h;subst e;exact⟨v,_,rfl,h1,Ats.take n h2⟩
theorem Ats.one{d:D}{v:V}(h:At K M H d v):Ats K M H [d] [v]:=⟨v,[],rfl,h,rfl⟩
theorem Ats.eraseIdx:∀{ds:List D} {vs:List V} (i:Nat),Ats K M H ds vs->Ats K M H (ds.eraseIdx i) (vs.eraseIdx i)
 | [],vs,i,h=>by cases h; exact rfl
 | d0::ds,vs,0,h=>by
  obtain⟨u,r,e1,h1,h2⟩:=h
  grind
 | d0::ds,vs,i+1,h=>by
  obtain⟨u,r,e1,h1,h2⟩:=h;subst e1;exact⟨u,_,rfl,h1,Ats.eraseIdx i h2⟩
theorem Ats.reverse:∀{ds:List D} {vs:List V},Ats K M H ds vs->Ats K M H ds.reverse vs.reverse
 | [],vs,h=>by cases h; exact rfl
 | d::ds,vs,h=>by
  obtain⟨v,r,e,h1,h2⟩:=h;subst e;rw [gI,gI];exact Ats.append (Ats.reverse h2) (Ats.one h1)
end
inductive Kd where
 | sh | tp | fr
def Tops(K:Frag)(M:Ch->Prop)(H:Hp)(a:Ch):D->Prop
 | .lst ds=>∃vs,H a=some (.lst vs)/\Ats K M H ds vs
 | .dic ks ds=>∃vs,H a=some (.dK (ks.zip vs))/\ks.length=ds.length/\Ats K M H ds vs
 | .dit ks ds=>∃vs,H a=some (.dT (ks.zip vs))/\ks.length=ds.length/\Ats K M H ds vs
 | _=>False
theorem Tops.notT{K:Frag}{M:Ch->Prop}{H:Hp}{a:Ch}{d:D}(h:Tops K M H a d){vs:List V}:H a≠some (.tup vs):=λq=>by
 cases d with
 | lst ds=>obtain⟨us,e,_⟩:=h; grind
 | dic ks ds=>obtain⟨us,e,_⟩:=h; grind
 | dit ks ds=>obtain⟨us,e,_⟩:=h; grind
 | _=>exact h.elim
theorem Tops.pres{K:Frag}{M M':Ch->Prop}{H H':Hp}{a:Ch}{d:D}(h:Tops K M H a d)(p:Pres M H M' H')(e:∀o,H a=some o->H' a=some o):Tops K M' H' a d:=by
 cases d with
 | lst ds=>obtain⟨vs,h1,h2⟩:=h; exact⟨vs,e _ h1,h2.pres p⟩
 | dic ks ds=>obtain⟨vs,h1,h2,h3⟩:=h; exact⟨vs,e _ h1,h2,h3.pres p⟩
 | dit ks ds=>obtain⟨vs,h1,h2,h3⟩:=h; exact⟨vs,e _ h1,h2,h3.pres p⟩
 | _=>assumption
theorem Tops.at{K:Frag}{M:Ch->Prop}{H:Hp}{a:Ch}{d:D}(h:Tops K M H a d)(n:¬M a):At K M H d (.ref a):=by
 cases d with
 | lst ds=>obtain⟨vs,h1,h2⟩:=h; exact⟨a,vs,rfl,⟨n,h1⟩,h2⟩
 | dic ks ds=>obtain⟨vs,h1,h2,h3⟩:=h; exact⟨a,vs,rfl,⟨n,h1⟩,h2,h3⟩
 | dit ks ds=>obtain⟨vs,h1,h2,h3⟩:=h; exact⟨a,vs,rfl,⟨n,h1⟩,h2,h3⟩
 | _=>exact(h).elim
def AtT(K:Frag)(U:Ch->Prop)(M:Ch->Prop)(H:Hp):D->V->Prop
 | .lst ds,v=>∃a vs,v=.ref a/\¬U a/\Rd H a (.lst vs)/\Ats K M H ds vs
 | .dic ks ds,v=>∃a vs,v=.ref a/\¬U a/\H a=some (.dK (ks.zip vs))/\ks.length=ds.length/\Ats K M H ds vs
 | .dit ks ds,v=>∃a vs,v=.ref a/\¬U a/\H a=some (.dT (ks.zip vs))/\ks.length=ds.length/\Ats K M H ds vs
 | d,v=>At K M H d v
theorem Tops.att{K:Frag}{U M:Ch->Prop}{H:Hp}{a:Ch}{d:D}(h:Tops K M H a d)(n:¬U a):AtT K U M H d (.ref a):=by
 cases d with
 | lst ds=>obtain⟨vs,h1,h2⟩:=h; exact⟨a,vs,rfl,n,.inl h1,h2⟩
 | dic ks ds=>obtain⟨vs,h1,h2,h3⟩:=h; exact⟨a,vs,rfl,n,h1,h2,h3⟩
 | dit ks ds=>obtain⟨vs,h1,h2,h3⟩:=h; exact⟨a,vs,rfl,n,h1,h2,h3⟩
 | _=>exact(h).elim
def VR(K:Frag)(U:Ch->Prop)(M:Ch->Prop)(H H':Hp):Kd->V->D->Prop
 | .sh,v,d=>At K M H' d v
 | .tp,v,d=>AtT K U M H' d v
 | .fr,v,d=>∃a,v=.ref a/\H a=none/\Tops K (λb=>M b\/b=a) H' a d
def FeedOk(K:Frag)(M:Ch->Prop)(H:Hp)(f:Ch×Ch)(n:Nat):Prop :=
 ∃(at_ rest:Int) (cells:List Int),H f.1=some (.lst [.ref f.2,.int at_,.int rest])/\f.2≠f.1/\NdL M H f.2 (cells.map V.int)/\cells.length<=63/\0<=at_/\at_+n<=2 ^ 60
def FeedC(K:Frag)(F:Option (Ch×Ch))(M:Ch->Prop)(H:Hp)(n:Nat):Prop:=∀f,F=some f->FeedOk K M H f n
def Ext(U:Ch->Prop)(H H':Hp):Prop:=∀b o,H b=some o->∃o',H' b=some o'/\(¬U b->o'=o)/\∀vs,o=.tup vs->o'=o
theorem Ext.keep{U:Ch->Prop}{H H':Hp}(p:Ext U H H'){b:Ch}{o:HO}(e:H b=some o)(n:¬U b):H' b=some o:=by
 obtain⟨o',q,r,_⟩:=p b o e;rw [q,r n]
theorem Ext.tup{U:Ch->Prop}{H H':Hp}(p:Ext U H H'){b:Ch}{vs:List V}(e:H b=some (.tup vs)):H' b=some (.tup vs):=by
 obtain⟨o',q,_,r⟩:=p b _ e
 grind
theorem Ext.free{U:Ch->Prop}{H H':Hp}(p:Ext U H H'){b:Ch}(e:H' b=none):H b=none:=by
 cases q:H b with
 | none=>rfl
 | some o =>
  obtain⟨o',z,_⟩:=p b o q
  grind
theorem Ext.refl(U:Ch->Prop)(H:Hp):Ext U H H:=λ_ o e=>⟨o,e,λ_=>rfl,λ_ _=>rfl⟩
theorem Ext.trans{U:Ch->Prop}{H1 H2 H3:Hp}(p:Ext U H1 H2)(q:Ext U H2 H3):Ext U H1 H3:=λb o e=>by
 obtain⟨o',e1,r1,t1⟩:=p b o e;obtain⟨o2,e2,r2,t2⟩:=q b o' e1;exact⟨o2,e2,λn=>(r2 n).trans (r1 n),λvs z=>(t2 vs ((t1 vs z).trans z)).trans (t1 vs z)⟩
def Grow(H H':Hp):Prop:=H'=H\/∃p o,H p=none/\H'=A4 H p o
theorem Grow.all{H H':Hp}(g:Grow H H'):∀b o,H b=some o->H' b=some o:=by
 intro b o e
 rcases g with rfl | ⟨p,u,n,rfl⟩
 ·exact e
 ·rw [AQ (A0 e n)]; exact e
theorem Grow.refl{H:Hp}:Grow H H:=.inl rfl
theorem Grow.ext{U:Ch->Prop}{H H':Hp}(g:Grow H H'):Ext U H H':=λb o e=>⟨o,g.all b o e,λ_=>rfl,λ_ _=>rfl⟩
theorem Grow.pres{M:Ch->Prop}{H H':Hp}(g:Grow H H'):Pres M H M H':=⟨λb o e _=>g.all b o e,λ_ z=>.inl z,λb vs e=>g.all b _ e⟩
theorem FeedOk.pres{K:Frag}{M M':Ch->Prop}{H H':Hp}{f:Ch×Ch}{n:Nat}(h:FeedOk K M H f n)(p:Pres M H M' H')(e:∀o,H f.1=some o->H' f.1=some o):FeedOk K M' H' f n:=by
 obtain⟨a,r,cs,h1,h2,h3,h4⟩:=h;exact⟨a,r,cs,e _ h1,h2,h3.pres p,h4⟩
theorem FeedC.pres{K:Frag}{F:Option (Ch×Ch)}{M M':Ch->Prop}{H H':Hp}{n:Nat}(h:FeedC K F M H n)(p:Pres M H M' H')(e:∀f o,F=some f->H f.1=some o->H' f.1=some o):FeedC K F M' H' n:=λf hf=>(h f hf).pres p λo q=>e f o hf q
theorem FeedC.grow{K:Frag}{F:Option (Ch×Ch)}{M:Ch->Prop}{H H':Hp}{n:Nat}(h:FeedC K F M H n)(g:Grow H H'):FeedC K F M H' n:=h.pres g.pres λf o _ e=>g.all _ o e
theorem FeedC.more{K:Frag}{F:Option (Ch×Ch)}{M:Ch->Prop}{H:Hp}{n:Nat}(h:FeedC K F M H n)(a:Ch)(ha:∀f,F=some f->f.2≠a):FeedC K F (λb=>M b\/b=a) H n:=λf hf=>by
 obtain⟨x,r,cs,h1,h2,h3,h4⟩:=h f hf;exact⟨x,r,cs,h1,h2,⟨λz=>z.elim h3.1 (ha f hf),h3.2⟩,h4⟩
def AtX(K:Frag)(M:Ch->Prop)(H:Hp)(a:Ch)(nm:Str)(ks:List Str)(ds:List D):Prop:=∃C U dx u vs,XC K nm C U/\(¬M a/\H a=some u)/\XT C dx a u/\(dx=none/\ks=[]/\vs=[]\/∃d,dx=some d/\¬M d/\H d=some (.ext (XF d (ks.zip vs))))/\ks.length=ds.length/\Ats K M H ds vs
theorem AtX.pres{K:Frag}{M M':Ch->Prop}{H H':Hp}{a:Ch}{nm:Str}{ks:List Str}{ds:List D}(h:AtX K M H a nm ks ds)(p:Pres M H M' H'):AtX K M' H' a nm ks ds:=by
 obtain⟨C,U,dx,u,vs,c,⟨n,ha⟩,x,hd,b,e⟩:=h;refine⟨C,U,dx,u,vs,c,p.nd n ha,x,?_,b,e.pres p⟩
 rcases hd with z | ⟨d,e1,n1,h1⟩
 ·exact .inl z
 ·exact .inr ⟨d,e1,p.nd n1 h1⟩
inductive Slot where
 | no | sh (d:D) | br (d:D) | fd | ow (d:D) | lt (a:Ch) (d:D) | ex (a:Ch) (nm:Str) (ks:List Str) (ds:List D)
def Slot.owns:Slot->Bool
 | .ow _=>true
 | .lt _ _=>true
 | _=>false
def SlotOk(K:Frag)(F:Option (Ch×Ch))(U:Ch->Prop)(M:Ch->Prop)(H:Hp):Slot->Option V->Prop
 | .no,_=>True
 | .sh d,o=>∃v,o=some v/\At K M H d v
 | .br d,o=>∃v,o=some v/\AtT K U M H d v
 | .fd,o=>∃f,o=some (.ref f.1)/\F=some f
 | .ow d,o=>∃a,o=some (.ref a)/\M a/\¬U a/\Tops K M H a d
 | .lt a d,o=>o=some (.ref a)/\M a/\¬U a/\Tops K M H a d
 | .ex a nm ks ds,o=>o=some (.ref a)/\AtX K M H a nm ks ds
structure Fm where
 M0:Ch->Prop
 F:Option (Ch×Ch)
 U:Ch->Prop
 V:Ch->Prop
 H0:Hp
 zG:List ((Ch->Prop)×Hp)
 kp:List (Ch×HO)
def Apart(ρ:List Slot)(σ:L2.St):Prop:=∀(i j:Nat) (s t:Slot) (a:Ch),ρ[i]?=some s->s.owns=true->ρ[j]?=some t->t.owns=true->(σ[i]?).getD none=some (.ref a)->(σ[j]?).getD none=some (.ref a)->i=j
structure Rel (K:Frag) (C:Fm) (M:Ch->Prop) (H:Hp) (n:Nat) (ρ:List Slot) (σ:L2.St):Prop where
 len:ρ.length=σ.length
 sub:∀a,C.M0 a->M a
 dom:∀a,M a->∃o,H a=some o
 ext:Ext C.U C.H0 H
 fU:∀f,C.F=some f->C.U f.1
 uV:∀a,C.U a->C.V a
 vM:∀a,C.V a->M a
 feed:FeedC K C.F M H n
 sl:∀(i:Nat) (s:Slot),ρ[i]?=some s->SlotOk K C.F C.V M H s ((σ[i]?).getD none)
 pin:∀p∈C.zG,Pres p.1 p.2 M H
 br0:∀(i:Nat) (d:D) (a:Ch),ρ[i]?=some (.br d)->(σ[i]?).getD none=some (.ref a)->∃o,C.H0 a=some o
 new:∀(i:Nat) (s:Slot) (a:Ch),ρ[i]?=some s->s.owns=true->(σ[i]?).getD none=some (.ref a)->¬C.M0 a/\C.H0 a=none
 two:Apart ρ σ
 kept:∀p∈C.kp,H p.1=some p.2/\M p.1/\¬C.V p.1/\∀(i:Nat) (d:D),ρ[i]?=some (.ow d)->(σ[i]?).getD none≠some (.ref p.1)
section
variable {K:Frag}{C:Fm}{M:Addr->Prop}{H H':Hp}{n n':Nat}{ρ:List Slot}{σ:L2.St}{d:D}{v:V}{κ:Kd}
theorem Rel.pres(R:Rel K C M H n ρ σ)(e:Ext C.U H H'):Pres M H M H':=⟨λb o q nb=>e.keep q λz=>nb (R.vM b (R.uV b z)),λ_ z=>.inl z,λb vs q=>e.tup q⟩
theorem AtT.pres{U V':Ch->Prop}{M':Ch->Prop}(h:AtT K V' M H d v)(p:Pres M H M' H')(e:Ext U H H')(uV:∀a,U a->V' a):AtT K V' M' H' d v:=by
 cases d with
 | lst ds =>
  obtain⟨a,vs,e1,n1,hq,c⟩:=h;refine⟨a,vs,e1,n1,?_,c.pres p⟩
  rcases hq with hq | ⟨o,hq⟩
  ·exact .inl (e.keep hq λz=>n1 (uV a z))
  ·exact .inr ⟨o,e.keep hq λz=>n1 (uV a z)⟩
 | dic ks ds =>
  obtain⟨a,vs,e1,n1,hq,f,c⟩:=h;exact⟨a,vs,e1,n1,e.keep hq λz=>n1 (uV a z),f,c.pres p⟩
 | dit ks ds =>
  obtain⟨a,vs,e1,n1,hq,f,c⟩:=h;exact⟨a,vs,e1,n1,e.keep hq λz=>n1 (uV a z),f,c.pres p⟩
 | non=>assumption
 | bl b=>assumption
 | int i=>assumption
 | str x=>assumption
 | tup ds=>exact At.pres p h
 | fdi ks ds=>exact At.pres p h
theorem AtT.same{U V':Ch->Prop}{M':Ch->Prop}(h:AtT K U M H d v)(p:Pres M H M' H')(e:∀a o,v=.ref a->H a=some o->H' a=some o)(nv:∀a,v=.ref a->¬U a->¬V' a):AtT K V' M' H' d v:=by
 cases d with
 | lst ds =>
  obtain⟨a,vs,e1,n1,hq,c⟩:=h;refine⟨a,vs,e1,nv a e1 n1,?_,c.pres p⟩
  rcases hq with hq | ⟨o,hq⟩
  ·exact .inl (e a _ e1 hq)
  ·exact .inr ⟨o,e a _ e1 hq⟩
 | dic ks ds =>
  obtain⟨a,vs,e1,n1,hq,f,c⟩:=h;exact⟨a,vs,e1,nv a e1 n1,e a _ e1 hq,f,c.pres p⟩
 | dit ks ds =>
  obtain⟨a,vs,e1,n1,hq,f,c⟩:=h;exact⟨a,vs,e1,nv a e1 n1,e a _ e1 hq,f,c.pres p⟩
 | non=>assumption
 | bl b=>assumption
 | int i=>assumption
 | str x=>assumption
 | tup ds=>exact At.pres p h
 | fdi ks ds=>exact At.pres p h
theorem AtT.lies{U:Ch->Prop}{a:Ch}(h:AtT K U M H d (.ref a)):∃o,H a=some o:=by
 cases d with
 | lst ds =>
  obtain⟨b,vs,e,_,hq,_⟩:=h;cases e
  rcases hq with hq | ⟨o,hq⟩
  ·exact⟨_,hq⟩
  grind
 | dic ks ds =>
  obtain⟨b,vs,e,_,hq,_⟩:=h
  grind
 | dit ks ds =>
  obtain⟨b,vs,e,_,hq,_⟩:=h
  grind
 | non=>cases (h)
 | bl b=>cases (h)
 | int i=>cases (h)
 | str x=>cases (h).1
 | tup ds =>
  obtain⟨b,vs,e,hq,_⟩:=h;cases e;exact⟨_,hq⟩
 | fdi ks ds =>
  obtain⟨b,vs,e,⟨o,_,hq⟩,_⟩:=h
  simp_all
theorem SlotOk.pres{F:Option (Ch×Ch)}{U V' M':Ch->Prop}{s:Slot}{o:Option V}(h:SlotOk K F V' M H s o)(p:Pres M H M' H')(m:∀a,M a->M' a)(e:Ext U H H')(uV:∀a,U a->V' a):SlotOk K F V' M' H' s o:=by
 cases s with
 | no=>trivial
 | sh d=>obtain⟨v,e1,h1⟩:=h; exact⟨v,e1,h1.pres p⟩
 | ex a nm ks ds=>obtain⟨e1,h1⟩:=h; exact⟨e1,h1.pres p⟩
 | br d=>obtain⟨v,e1,h1⟩:=h; exact⟨v,e1,h1.pres p e uV⟩
 | fd=>exact h
 | ow d=>obtain⟨a,e1,h1,h2,h3⟩:=h; exact⟨a,e1,m a h1,h2,h3.pres p λo q=>e.keep q λz=>h2 (uV a z)⟩
 | lt a d=>obtain⟨e1,h1,h2,h3⟩:=h; exact⟨e1,m a h1,h2,h3.pres p λo q=>e.keep q λz=>h2 (uV a z)⟩
theorem Rel.step(R:Rel K C M H n ρ σ)(e:Ext C.U H H')(f:FeedC K C.F M H' n'):Rel K C M H' n' ρ σ:=by
 have p:=R.pres e;refine⟨R.len,R.sub,λa z=>?_,R.ext.trans e,R.fU,R.uV,R.vM,f,λi s q=>(R.sl i s q).pres p (λ_ z=>z) e R.uV,λq hq=>(R.pin q hq).trans p,R.br0,R.new,R.two,λq hq=>?_⟩
 ·obtain⟨o,h1⟩:=R.dom a z
  obtain⟨o',h2,_⟩:=e a o h1
  grind
 ·obtain⟨h1,h2,h3,h4⟩:=R.kept q hq
  exact⟨e.keep h1 λz=>h3 (R.uV _ z),h2,h3,h4⟩
theorem Rel.udom(R:Rel K C M H n ρ σ):∀a,C.U a->∃o,H a=some o:=λa z=>R.dom a (R.vM a (R.uV a z))
theorem At.tp{U:Ch->Prop}(uM:∀a,U a->M a)(h:At K M H d v):AtT K U M H d v:=by
 cases d with
 | lst ds =>
  obtain⟨a,vs,e,hn,c⟩:=h;exact⟨a,vs,e,λz=>hn.1 (uM a z),.inl hn.2,c⟩
 | dic ks ds =>
  obtain⟨a,vs,e,hn,f,c⟩:=h;exact⟨a,vs,e,λz=>hn.1 (uM a z),hn.2,f,c⟩
 | dit ks ds =>
  obtain⟨a,vs,e,hn,f,c⟩:=h;exact⟨a,vs,e,λz=>hn.1 (uM a z),hn.2,f,c⟩
 | non=>exact h
 | bl b=>exact h
 | int i=>exact h
 | str x=>exact h
 | tup ds=>exact h
 | fdi ks ds=>exact h
theorem VR.back{U V':Ch->Prop}{H1:Hp}(e:Ext U H H1)(h:VR K V' M H1 H' κ v d):VR K V' M H H' κ v d:=by
 cases κ with
 | sh=>exact h
 | tp=>exact h
 | fr =>
  obtain⟨a,e1,h1,h2⟩:=h;exact⟨a,e1,e.free h1,h2⟩
theorem VR.shOf{U:Ch->Prop}(b:∀a,M a->∃o,H a=some o)(h:VR K U M H H' κ v d)(c:κ≠.tp):At K M H' d v:=by
 cases κ with
 | sh=>exact h
 | tp=>grind
 | fr =>
  obtain⟨a,rfl,h1,h2⟩:=h;refine(h2.pres (Pres.less λ_ z=>.inl z) λ_ z=>z).at λz=>?_
  grind
theorem VR.tpOf{U:Ch->Prop}(b:∀a,M a->∃o,H a=some o)(uM:∀a,U a->M a)(h:VR K U M H H' κ v d):AtT K U M H' d v:=by
 cases κ with
 | sh=>exact At.tp uM h
 | tp=>exact h
 | fr=>exact At.tp uM (VR.shOf b h (by grind))
theorem FD{α:Type}{l:List α}{i j:Nat}{x y:α}(h:(l.set i x)[j]?=some y):(j=i/\i<l.length/\y=x)\/(j≠i/\l[j]?=some y):=by
 rw [i9] at h
 by_cases e:i=j
 ·simp_all
 ·rw [if_neg e] at h
  exact .inr ⟨λz=>e z.symm,h⟩
theorem GL{l:L2.St}{i j:Nat}{x:Option V}(h:j≠i):((l.set i x)[j]?).getD none=(l[j]?).getD none:=by
 rw [i9,if_neg (λz=>h z.symm)]
theorem PZ{l:L2.St}{i:Nat}{x:Option V}(h:i<l.length):((l.set i x)[i]?).getD none=x:=by
 simp_all
theorem Rel.set(R:Rel K C M H n ρ σ){i:Nat}(h:At K M H d v):Rel K C M H n (ρ.set i (.sh d)) (σ.set i (some v)):=by
 have two:∀(j:Nat) (s:Slot),(ρ.set i (.sh d))[j]?=some s->s.owns=true->ρ[j]?=some s/\((σ.set i (some v))[j]?).getD none=(σ[j]?).getD none:=λj s q o=>by
  rcases FD q with ⟨_,_,rfl⟩ | ⟨hj,q⟩
  ·cases o
  ·exact⟨q,GL hj⟩
 refine⟨by rw [fb,fb]; exact R.len,R.sub,R.dom,R.ext,R.fU,R.uV,R.vM,R.feed,λj s q=>?_,R.pin,λj e a q q2=>?_,λj s a q o q2=>?_,λj k s t a q1 o1 q2 o2 z1 z2=>?_,λp hp=>?_⟩
 ·rcases FD q with ⟨rfl,b,rfl⟩ | ⟨hj,q⟩
  ·rw [PZ (by rw [← R.len]; exact b)]
   exact⟨v,rfl,h⟩
  ·rw [GL hj]
   exact R.sl j s q
 ·rcases FD q with ⟨_,_,e⟩ | ⟨hj,q⟩
  ·cases e
  ·rw [GL hj] at q2
   exact R.br0 j e a q q2
 ·obtain⟨q1,e⟩:=two j s q o
  rw [e] at q2;exact R.new j s a q1 o q2
 ·obtain⟨p1,e1⟩:=two j s q1 o1
  obtain⟨p2,e2⟩:=two k t q2 o2;rw [e1] at z1;rw [e2] at z2;exact R.two j k s t a p1 o1 p2 o2 z1 z2
 ·obtain⟨h1,h2,h3,h4⟩:=R.kept p hp
  refine⟨h1,h2,h3,λj e q=>?_⟩;obtain⟨q1,e2⟩:=two j _ q rfl;rw [e2];exact h4 j e q1
theorem Rel.owner(R:Rel K C M H n ρ σ){i:Nat}{s:Slot}(h:ρ[i]?=some s)(o:s.owns=true):∃a e,(σ[i]?).getD none=some (.ref a)/\M a/\¬C.V a/\Tops K M H a e/\¬C.M0 a/\C.H0 a=none:=by
 have q:=R.sl i s h;cases s with
 | ow d=>obtain⟨a,e1,h1,h2,h3⟩:=q; exact⟨a,d,e1,h1,h2,h3,R.new i _ a h o e1⟩
 | lt a d=>obtain⟨e1,h1,h2,h3⟩:=q; exact⟨a,d,e1,h1,h2,h3,R.new i _ a h o e1⟩
 | _=>cases o
theorem Rel.setOw(R:Rel K C M H n ρ σ){i:Nat}{a:Ch}(e:Ext C.U H H')(f:FeedC K C.F M H' n')(ha:H a=none)(h:Tops K (λb=>M b\/b=a) H' a d) :
  Rel K C (λb=>M b\/b=a) H' n' (ρ.set i (.ow d)) (σ.set i (some (.ref a))):=by
 have R1:=R.step e f
 have ne:∀b,M b->b≠a:=λb z q=>by
  obtain⟨o,w⟩:=R.dom b z;rw [q,ha] at w; cases w
 have a0:¬C.M0 a/\C.H0 a=none:=⟨λz=>ne a (R.sub a z) rfl,R.ext.free ha⟩;have pr:Pres M H (λb=>M b\/b=a) H':=⟨λb o q nb=>e.keep q λz=>nb (R.vM b (R.uV b z)),λb z=>z.elim .inl λz=>.inr (by rw [z]; exact ha),λb vs q=>e.tup q⟩
 have two:∀(j:Nat) (s:Slot),(ρ.set i (.ow d))[j]?=some s->(j=i/\s=.ow d/\((σ.set i (some (.ref a)))[j]?).getD none=some (.ref a))\/(j≠i/\ρ[j]?=some s/\((σ.set i (some (.ref a)))[j]?).getD none=(σ[j]?).getD none):=λj s q=>by
  rcases FD q with ⟨rfl,l,rfl⟩ | ⟨hj,q⟩
  ·exact .inl ⟨rfl,rfl,PZ (by rw [← R.len]; exact l)⟩
  ·exact .inr ⟨hj,q,GL hj⟩
 have old:∀(j:Nat) (s:Slot) (b:Ch),ρ[j]?=some s->s.owns=true->(σ[j]?).getD none=some (.ref b)->b≠a:=λj s b q o z=>by
  obtain⟨c,_,e1,m,_⟩:=R.owner q o;rw [e1] at z;cases z;exact ne _ m
 have hd:∃o,H' a=some o:=by
  cases d with
  | lst ds=>obtain⟨vs,q,_⟩:=h; exact⟨_,q⟩
  | dic ks ds=>obtain⟨vs,q,_⟩:=h; exact⟨_,q⟩
  | dit ks ds=>obtain⟨vs,q,_⟩:=h; exact⟨_,q⟩
  | _=>exact(show False from h).elim
 refine⟨by rw [fb,fb]; exact R.len,λb z=>.inl (R.sub b z),λb z=>?_,R1.ext,R.fU,R.uV,λb z=>.inl (R.vM b z),f.more a λg hg q=>?_,λj s q=>?_,λq hq=>(R.pin q hq).trans pr,λj e2 b q q2=>?_,λj s b q o q2=>?_,λj k s t b q1 o1 q2 o2 z1 z2=>?_,λp hp=>?_⟩
 ·rcases z with z | z
  ·exact R1.dom b z
  ·rw [z]; exact hd
 ·obtain⟨_,_,_,_,_,h3,_⟩:=R.feed g hg
  have:=h3.2
  rw [q,ha] at this; cases this
 ·rcases two j s q with ⟨rfl,rfl,e1⟩ | ⟨hj,q1,e1⟩
  ·rw [e1]
   exact⟨a,rfl,.inr rfl,λz=>ne a (R.vM a z) rfl,h⟩
  ·rw [e1]
   exact(R.sl j s q1).pres pr (λ_ z=>.inl z) e R.uV
 ·rcases two j _ q with ⟨_,e1,_⟩ | ⟨hj,q1,e1⟩
  ·cases e1
  ·rw [e1] at q2
   exact R.br0 j e2 b q1 q2
 ·rcases two j s q with ⟨_,_,e1⟩ | ⟨hj,q1,e1⟩
  ·rw [e1] at q2
   cases q2;exact a0
  ·rw [e1] at q2
   exact R.new j s b q1 o q2
 ·rcases two j s q1 with ⟨rfl,_,e1⟩ | ⟨hj,p1,e1⟩
  ·rw [e1] at z1
   cases z1
   rcases two k t q2 with ⟨rfl,_,_⟩ | ⟨r,p2,e2⟩
   ·rfl
   ·rw [e2] at z2
    exact absurd rfl (old k t a p2 o2 z2)
  ·rw [e1] at z1
   rcases two k t q2 with ⟨rfl,_,e2⟩ | ⟨r,p2,e2⟩
   ·rw [e2] at z2
    cases z2;exact absurd rfl (old j s a p1 o1 z1)
   ·rw [e2] at z2
    exact R.two j k s t b p1 o1 p2 o2 z1 z2
 ·obtain⟨h1,h2,h3,h4⟩:=R1.kept p hp
  refine⟨h1,.inl h2,h3,λj e2 q=>?_⟩
  rcases two j _ q with ⟨_,_,e1⟩ | ⟨hj,q1,e1⟩
  ·rw [e1]
   intro z;cases z;exact ne _ h2 rfl
  ·rw [e1]
   exact h4 j e2 q1
theorem Rel.mut(R:Rel K C M H n ρ σ){i:Nat}{a:Ch}{e:D}{o:HO}(hi:ρ[i]?=some (.ow d))(ha:(σ[i]?).getD none=some (.ref a))(h:Tops K M (A4 H a o) a e) :
  Rel K C M (A4 H a o) n (ρ.set i (.ow e)) σ:=by
 obtain⟨b,_,e1,m,nv,t,n0,h0⟩:=R.owner hi rfl;rw [ha] at e1;cases e1;have pr:Pres M H M (A4 H a o):=⟨λb o' q nb=>by rw [AQ (λz=>nb (by rw [z]; exact m))]; exact q,λ_ z=>.inl z,λb vs q=>by rw [AQ (λz=>t.notT (by rw [← z]; exact q))]; exact q⟩
 have old:∀(j:Nat) (s:Slot),(ρ.set i (.ow e))[j]?=some s->(j=i/\s=.ow e)\/(j≠i/\ρ[j]?=some s):=λj s q=>by
  rcases FD q with ⟨rfl,l,rfl⟩ | ⟨hj,q⟩
  ·exact .inl ⟨rfl,rfl⟩
  ·exact .inr ⟨hj,q⟩
 have far:∀(j:Nat) (s:Slot) (b:Ch),j≠i->ρ[j]?=some s->s.owns=true->(σ[j]?).getD none=some (.ref b)->b≠a:=λj s b hj q o z w=>by
  subst w;exact hj (R.two j i s _ b q o hi rfl z ha)
 refine⟨by rw [fb]; exact R.len,R.sub,λb z=>?_,λb o' q=>?_,R.fU,R.uV,R.vM,R.feed.pres pr λf o' hf q=>?_,λj s q=>?_,λq hq=>(R.pin q hq).trans pr,λj e2 b q q2=>?_,λj s b q o2 q2=>?_,λj k s t b q1 o1 q2 o2 z1 z2=>?_,λp hp=>?_⟩
 ·by_cases c:b=a
  ·exact⟨o,by rw [c,AX]⟩
  ·obtain⟨o',q⟩:=R.dom b z
   exact⟨o',by rw [AQ c]; exact q⟩
 ·obtain⟨o2,q2,r⟩:=R.ext b o' q
  have c:b≠a:=λz=>by rw [z,h0] at q; cases q
  exact⟨o2,by rw [AQ c]; exact q2,r⟩
 ·have c:f.1≠a:=λz=>nv (by rw [← z]; exact R.uV _ (R.fU f hf))
  rw [AQ c]; exact q
 ·rcases old j s q with ⟨rfl,rfl⟩ | ⟨hj,q1⟩
  ·rw [ha]
   exact⟨a,rfl,m,nv,h⟩
  ·have q2:=R.sl j s q1
   cases s with
   | no=>trivial
   | sh d=>obtain⟨v,e1,h1⟩:=q2; exact⟨v,e1,h1.pres pr⟩
   | ex a nm ks ds=>obtain⟨e1,h1⟩:=q2; exact⟨e1,h1.pres pr⟩
   | br d =>
    obtain⟨v,e1,h1⟩:=q2;refine⟨v,e1,h1.same pr (λb o' z q=>?_) λ_ _ z=>z⟩;subst z;obtain⟨o3,w⟩:=R.br0 j d b q1 e1;rw [AQ (λz=>by rw [z,h0] at w; cases w)];exact q
   | fd=>exact q2
   | ow d =>
    obtain⟨b,e1,h1,h2,h3⟩:=q2;exact⟨b,e1,h1,h2,h3.pres pr λo' w=>by rw [AQ (far j _ b hj q1 rfl e1)]; exact w⟩
   | lt b d =>
    obtain⟨e1,h1,h2,h3⟩:=q2;exact⟨e1,h1,h2,h3.pres pr λo' w=>by rw [AQ (far j _ b hj q1 rfl e1)]; exact w⟩
 ·rcases old j _ q with ⟨_,e1⟩ | ⟨hj,q1⟩
  ·cases e1
  ·exact R.br0 j e2 b q1 q2
 ·rcases old j s q with ⟨rfl,_⟩ | ⟨hj,q1⟩
  ·exact R.new j _ b hi rfl q2
  ·exact R.new j s b q1 o2 q2
 ·rcases old j s q1 with ⟨rfl,rfl⟩ | ⟨hj,p1⟩
  ·rcases old k t q2 with ⟨rfl,_⟩ | ⟨g,p2⟩
   ·rfl
   ·exact R.two j k _ t b hi rfl p2 o2 z1 z2
  ·rcases old k t q2 with ⟨rfl,rfl⟩ | ⟨g,p2⟩
   ·exact R.two j k s _ b p1 o1 hi rfl z1 z2
   ·exact R.two j k s t b p1 o1 p2 o2 z1 z2
 ·obtain⟨h1,h2,h3,h4⟩:=R.kept p hp
  have c:p.1≠a:=λz=>h4 i d hi (by rw [ha,z]);refine⟨by rw [AQ c]; exact h1,h2,h3,λj e2 q=>?_⟩
  rcases old j _ q with ⟨rfl,_⟩ | ⟨hj,q1⟩
  ·exact h4 j d hi
  ·exact h4 j e2 q1
end
abbrev DW:=Nat->List Slot->(D->Nat->Prop)->Prop
abbrev HI:=Nat->List Slot->(Bool->Nat->Prop)->Prop
abbrev Ef:=Nat->List Slot->(List D->Nat->Prop)->Prop
abbrev S1:=Nat->List Slot->(List Slot->Nat->Prop)->Prop
section
variable (X:Cx)
def DE(e:c_)(κ:Kd)(w:DW):Prop:=∃t,PE X e t/\∀(C:Fm) (M:Ch->Prop) (H:Hp) (n:Nat) (ρ:List Slot) (σ:L2.St) (P:D->Nat->Prop) (Q:VK),Rel X.K C M H n ρ σ->w n ρ P ->
 (∀v H' d n',Ext C.U H H'->FeedC X.K C.F M H' n'->VR X.K C.V M H H' κ v d->P d n'->Q v H')->t σ H Q
def DT(e:c_)(w:HI):Prop:=∃t,PT X e t/\∀(C:Fm) (M:Ch->Prop) (H:Hp) (n:Nat) (ρ:List Slot) (σ:L2.St) (P:Bool->Nat->Prop) (Q:Bool->Hp->Prop),Rel X.K C M H n ρ σ->w n ρ P ->
 (∀b H' n',Ext C.U H H'->FeedC X.K C.F M H' n'->P b n'->Q b H')->t σ H Q
def DTW(e:c_)(w:HI):Prop:=∃t,PW X e t/\∀(C:Fm) (M:Ch->Prop) (H:Hp) (n:Nat) (ρ:List Slot) (σ:L2.St) (P:Bool->Nat->Prop) (Q:Bool->Hp->Prop),Rel X.K C M H n ρ σ->w n ρ P ->
 (∀b H' n',Ext C.U H H'->FeedC X.K C.F M H' n'->P b n'->Q b H')->t σ H Q
def Wm(es:List c_)(w:Ef):Prop:=∃t,PA X es t/\∀(C:Fm) (M:Ch->Prop) (H:Hp) (n:Nat) (ρ:List Slot) (σ:L2.St) (P:List D->Nat->Prop) (Q:List V->Hp->Prop),Rel X.K C M H n ρ σ->w n ρ P ->
 (∀vs H' ds n',Ext C.U H H'->FeedC X.K C.F M H' n'->Paired (λv d=>AtT X.K C.V M H' d v) vs ds->P ds n'->Q vs H')->t σ H Q
def Xf(es:List c_)(w:Ef):Prop:=∃t,PA X es t/\∀(C:Fm) (M:Ch->Prop) (H:Hp) (n:Nat) (ρ:List Slot) (σ:L2.St) (P:List D->Nat->Prop) (Q:List V->Hp->Prop),Rel X.K C M H n ρ σ->w n ρ P ->
 (∀vs H' ds n',Ext C.U H H'->FeedC X.K C.F M H' n'->Ats X.K M H' ds vs->P ds n'->Q vs H')->t σ H Q
def L8(K:Frag)(F:Option (Ch×Ch))(V' M:Ch->Prop)(H:Hp)(v:V)(s:Slot):Prop:=SlotOk K F V' M H s (some v)/\s.owns=false
def ah(e:c_)(w:Nat->List Slot->(Slot->Nat->Prop)->Prop):Prop:=∃t,PE X e t/\∀(C:Fm) (M:Ch->Prop) (H:Hp) (n:Nat) (ρ:List Slot) (σ:L2.St) (P:Slot->Nat->Prop) (Q:VK),Rel X.K C M H n ρ σ->w n ρ P ->
 (∀v H' s n',Ext C.U H H'->FeedC X.K C.F M H' n'->L8 X.K C.F C.V M H' v s->P s n'->Q v H')->t σ H Q
def Xe(es:List c_)(w:S1):Prop:=∃t,PA X es t/\∀(C:Fm) (M:Ch->Prop) (H:Hp) (n:Nat) (ρ:List Slot) (σ:L2.St) (P:List Slot->Nat->Prop) (Q:List V->Hp->Prop),Rel X.K C M H n ρ σ->w n ρ P ->
 (∀vs H' ss n',Ext C.U H H'->FeedC X.K C.F M H' n'->Paired (L8 X.K C.F C.V M H') vs ss->P ss n'->Q vs H')->t σ H Q
end
def AB(i:Nat):DW:=λn ρ P=>match ρ[i]? with
 | some (.sh d)=>P d n
 | _=>False
def BE(i:Nat):DW:=λn ρ P=>match ρ[i]? with
 | some (.sh d)=>P d n
 | some (.br d)=>P d n
 | some (.ow d)=>P d n
 | some (.lt _ d)=>P d n
 | _=>False
def wC(d:D):DW:=λn _ P=>P d n
section
variable {X:Cx}{a b c e:Expr}{κ zR zM:Kd}{wa wb wc:DW}{pos:Pos}
theorem getD_some{σ:L2.St}{i:Nat}{v:V}(h:(σ[i]?).getD none=some v):σ[i]?=some (some v):=by
 cases q:σ[i]? with
 | none=>simp_all
 | some o=>simp_all
theorem WV{i:Nat}(h:PE X e (CH i)):DE X e .sh (AB i):=by
 refine⟨_,h,λC M H n ρ σ P Q R w q=>?_⟩;unfold AB at w
 split at w
 ·rename_i d hd
  obtain⟨v,e1,h1⟩:=R.sl i _ hd;exact⟨v,getD_some e1,q v H d n (Ext.refl _ _) R.feed h1 w⟩
 grind
theorem VB{i:Nat}(h:PE X e (CH i)):DE X e .tp (BE i):=by
 refine⟨_,h,λC M H n ρ σ P Q R w q=>?_⟩;unfold BE at w
 split at w
 ·rename_i d hd
  obtain⟨v,e1,h1⟩:=R.sl i _ hd;exact⟨v,getD_some e1,q v H d n (Ext.refl _ _) R.feed (At.tp R.vM h1) w⟩
 ·rename_i d hd
  obtain⟨v,e1,h1⟩:=R.sl i _ hd;exact⟨v,getD_some e1,q v H d n (Ext.refl _ _) R.feed h1 w⟩
 ·rename_i d hd
  obtain⟨a,e1,_,h2,h3⟩:=R.sl i _ hd;exact⟨.ref a,getD_some e1,q _ H d n (Ext.refl _ _) R.feed (h3.att h2) w⟩
 ·rename_i a d hd
  obtain⟨e1,_,h2,h3⟩:=R.sl i _ hd;exact⟨.ref a,getD_some e1,q _ H d n (Ext.refl _ _) R.feed (h3.att h2) w⟩
 ·exact w.elim
theorem dv(i:Nat){x:Str}{pos:Pos}(hN:X.N[i]?=some x:=by rfl)(hv:Sw X.env.scope x:=by first | exact TW rfl | exact dZ (TW rfl) | exact dZ (dZ rfl))(hd:(x==("__debug__":Str))=false:=by decide)
  (a:(x==("__classdict__":Str))=false:=by decide):DE X (.Name x pos) .sh (AB i):=WV (Em hN hv hd a)
theorem Kr(i:Nat){x:Str}{pos:Pos}(hN:X.N[i]?=some x:=by rfl)(hv:Sw X.env.scope x:=by first | exact TW rfl | exact dZ (TW rfl) | exact dZ (dZ rfl))(hd:(x==("__debug__":Str))=false:=by decide)
  (a:(x==("__classdict__":Str))=false:=by decide):DE X (.Name x pos) .tp (BE i):=VB (Em hN hv hd a)
theorem G8{d:D}{v:V}(h:PE X e (tC v))(hd:∀M H,At X.K M H d v):DE X e .sh (wC d) :=
 ⟨_,h,λC M H n ρ σ P Q R w q=>q v H d n (Ext.refl _ _) R.feed (hd M H) w⟩
theorem AD{i:Int}{j pos}:DE X (.Constant (.int i) j pos) .sh (wC (.int i)):=G8 A_ λ_ _=>rfl
theorem Bt{b:Bool}{j pos}:DE X (.Constant (.bool b) j pos) .sh (wC (.bl b)):=G8 Z1 λ_ _=>rfl
theorem Bj{j pos}:DE X (.Constant .none j pos) .sh (wC .non):=G8 YK λ_ _=>rfl
theorem BJ{x:Str}{j pos}(a:decide (x.length<=1000)=true:=by rfl):DE X (.Constant (.str x) j pos) .sh (wC (.str x)) :=
 G8 YH λ_ _=>⟨rfl,cx (of_decide_eq_true a) (by decide)⟩
theorem DE.sh(h:DE X e κ wa)(a:κ≠.tp:=by intro z; cases z):DE X e .sh wa:=by
 obtain⟨t,h1,h2⟩:=h;exact⟨t,h1,λC M H n ρ σ P Q R w q=>h2 C M H n ρ σ P Q R w λv H' d n' e f r p=>q v H' d n' e f (r.shOf R.dom a) p⟩
def E5(K:Frag)(κ:Kd)(r:R2)(f:D->D->(D->Prop)->Prop):Prop:=∀(U:Ch->Prop) (M:Ch->Prop) (H:Hp) (d e:D) (x y:V) (P:D->Prop) (Q:VK),(∀a,M a->∃o,H a=some o)->(∀a,U a->M a) ->
 AtT K U M H d x->AtT K U M H e y->f d e P->(∀v H' z,Grow H H'->VR K U M H H' κ v z->P z->Q v H')->r x y H Q
def AU(f:D->D->(D->Prop)->Prop)(wa wb:DW):DW:=λn ρ P=>wa n ρ λx n1=>wb n1 ρ λy n2=>f x y λz=>P z n2
theorem Fd{r:R2}{f:D->D->(D->Prop)->Prop}(hA:E5 X.K κ r f){ta tb:TE}(ha:∀(C:Fm) (M:Ch->Prop) (H:Hp) (n:Nat) (ρ:List Slot) (σ:L2.St) (P:D->Nat->Prop) (Q:VK),Rel X.K C M H n ρ σ->wa n ρ P ->
   (∀v H' d n',Ext C.U H H'->FeedC X.K C.F M H' n'->VR X.K C.V M H H' zR v d->P d n'->Q v H')->ta σ H Q)
  (a:∀(C:Fm) (M:Ch->Prop) (H:Hp) (n:Nat) (ρ:List Slot) (σ:L2.St) (P:D->Nat->Prop) (Q:VK),Rel X.K C M H n ρ σ->wb n ρ P ->
   (∀v H' d n',Ext C.U H H'->FeedC X.K C.F M H' n'->VR X.K C.V M H H' zM v d->P d n'->Q v H')->tb σ H Q)
  (C:Fm) (M:Ch->Prop) (H:Hp) (n:Nat) (ρ:List Slot) (σ:L2.St) (P:D->Nat->Prop) (Q:VK) (R:Rel X.K C M H n ρ σ) (w:AU f wa wb n ρ P)
  (q:∀v H' d n',Ext C.U H H'->FeedC X.K C.F M H' n'->VR X.K C.V M H H' κ v d->P d n'->Q v H'):EK r ta tb σ H Q:=by
 refine ha C M H n ρ σ _ _ R w λx H1 d n1 e1 f1 r1 w1=>?_;have R1:=R.step e1 f1;refine a C M H1 n1 ρ σ _ _ R1 w1 λy H2 e n2 e2 f2 r2 w2=>?_;have R2':=R1.step e2 f2;exact hA _ M H2 d e x y _ _ R2'.dom R2'.vM ((r1.tpOf R.dom R.vM).pres (R1.pres e2) e2 R.uV) (r2.tpOf R1.dom R1.vM) w2 λv H3 z g vr p=>q v H3 z n2 ((e1.trans e2).trans g.ext) (f2.grow g) (VR.back (e1.trans e2) vr) p
theorem Am{op:Operator}{r:R2}{f:D->D->(D->Prop)->Prop}(ho:OpR X (binaryOp op) r)(hA:E5 X.K κ r f)(ha:DE X a zR wa)(h:DE X b zM wb):DE X (.BinOp a op b pos) κ (AU f wa wb):=by
 obtain⟨ta,c,d⟩:=ha;obtain⟨tb,e,g⟩:=h;exact⟨_,CA ho c e,λC M H n ρ σ P Q R w q=>Fd hA d g C M H n ρ σ P Q R w q⟩
theorem AW{r:R2}{f:D->D->(D->Prop)->Prop}(ho:IxR X r)(hA:E5 X.K κ r f)(ha:DE X a zR wa)(h:DE X b zM wb)(i:RW b:=by intro _ _; rfl):DE X (.Subscript a b pos) κ (AU f wa wb):=by
 obtain⟨ta,c,d⟩:=ha;obtain⟨tb,e,g⟩:=h;exact⟨_,Eu ho c e i,λC M H n ρ σ P Q R w q=>Fd hA d g C M H n ρ σ P Q R w q⟩
theorem CF{op:CmpOp}{r:R2}{f:D->D->(D->Prop)->Prop}(ho:OpR X (compareOp op) r)(hA:E5 X.K .sh r f)(ha:DE X a zR wa)(h:DE X b zM wb)(hm:behindInMarks op b=false):DE X (.Compare a [op] [b] pos) .sh (AU f wa wb):=by
 obtain⟨ta,c,d⟩:=ha;obtain⟨tb,e,g⟩:=h;exact⟨_,Vu ho c e hm,λC M H n ρ σ P Q R w q=>Fd hA d g C M H n ρ σ P Q R w q⟩
def AR(w:DW):HI:=λn ρ P=>w n ρ λd n1=>match d with
 | .bl b=>P b n1
 | _=>False
theorem Im{U:Ch->Prop}{K:Frag}{M:Ch->Prop}{H H':Hp}{v:V}{b:Bool}(h:VR K U M H H' κ v (.bl b)):v=.bl b:=by
 cases κ with
 | sh=>exact h
 | tp=>exact h
 | fr=>obtain⟨a,_,_,t⟩:=h; exact(t).elim
theorem Ad{op:CmpOp}{r:R2}{f:D->D->(D->Prop)->Prop}(ho:OpR X (compareOp op) r)(hA:E5 X.K .sh r f)(ha:DE X a zR wa)(j:DE X b zM wb)(hm:behindInMarks op b=false):DT X (.Compare a [op] [b] pos) (AR (AU f wa wb)):=by
 obtain⟨ta,c,g⟩:=ha;obtain⟨tb,h,i⟩:=j;refine⟨_,Gv ho c h hm,λC M H n ρ σ P Q R w q=>?_⟩;refine Fd hA g i C M H n ρ σ _ _ R w λv H' d n' e f r p=>?_;cases d with
 | bl b=>exact⟨b,Im r,q b H' n' e f p⟩
 | _=>exact p.elim
theorem A2(h:DE X e κ wa)(he:∀whole,isTrue e X.env whole=(do let v ← whole; standAt e.pos; holding [v] (truthy v)):=by intro _; rfl):DT X e (AR wa):=by
 obtain⟨t,h1,h2⟩:=h;refine⟨_,YB h1 he,λC M H n ρ σ P Q R w q=>?_⟩;refine h2 C M H n ρ σ _ _ R w λv H' d n' e f r p=>?_;cases d with
 | bl b=>exact⟨b,Im r,q b H' n' e f p⟩
 | _=>exact p.elim
def JN(f g:D->D->(D->Prop)->Prop)(wa wb wc:DW):DW:=λn ρ P=>wa n ρ λx n1=>wb n1 ρ λy n2=>f x y λz=>match z with
 | .bl true=>wc n2 ρ λu n3=>g y u λr=>P r n3
 | .bl false=>P (.bl false) n2
 | _=>False
theorem Oy{r r':R2}{f g:D->D->(D->Prop)->Prop}(hA:E5 X.K .sh r f)(hB:E5 X.K .sh r' g){ta tb tc:TE}{zJ:Kd}(ha:∀(C:Fm) (M:Ch->Prop) (H:Hp) (n:Nat) (ρ:List Slot) (σ:L2.St) (P:D->Nat->Prop) (Q:VK),Rel X.K C M H n ρ σ->wa n ρ P ->
   (∀v H' d n',Ext C.U H H'->FeedC X.K C.F M H' n'->VR X.K C.V M H H' zR v d->P d n'->Q v H')->ta σ H Q)
  (b:∀(C:Fm) (M:Ch->Prop) (H:Hp) (n:Nat) (ρ:List Slot) (σ:L2.St) (P:D->Nat->Prop) (Q:VK),Rel X.K C M H n ρ σ->wb n ρ P ->
   (∀v H' d n',Ext C.U H H'->FeedC X.K C.F M H' n'->VR X.K C.V M H H' zM v d->P d n'->Q v H')->tb σ H Q)
  (c:∀(C:Fm) (M:Ch->Prop) (H:Hp) (n:Nat) (ρ:List Slot) (σ:L2.St) (P:D->Nat->Prop) (Q:VK),Rel X.K C M H n ρ σ->wc n ρ P ->
   (∀v H' d n',Ext C.U H H'->FeedC X.K C.F M H' n'->VR X.K C.V M H H' zJ v d->P d n'->Q v H')->tc σ H Q)
  (C:Fm) (M:Ch->Prop) (H:Hp) (n:Nat) (ρ:List Slot) (σ:L2.St) (P:D->Nat->Prop) (Q:VK) (R:Rel X.K C M H n ρ σ) (w:JN f g wa wb wc n ρ P)
  (q:∀v H' d n',Ext C.U H H'->FeedC X.K C.F M H' n'->VR X.K C.V M H H' .sh v d->P d n'->Q v H'):PR r r' ta tb tc σ H Q:=by
 refine ha C M H n ρ σ _ _ R w λx H1 d n1 e1 f1 r1 w1=>?_;have R1:=R.step e1 f1;refine b C M H1 n1 ρ σ _ _ R1 w1 λy H2 e n2 e2 f2 r2 w2=>?_;have R2':=R1.step e2 f2;have ty:AtT X.K C.V M H2 e y:=r2.tpOf R1.dom R1.vM;refine hA C.V M H2 d e x y _ _ R2'.dom R2'.vM ((r1.tpOf R.dom R.vM).pres (R1.pres e2) e2 R.uV) ty w2 λv H3 z gr vr p=>?_;have R3:=R2'.step gr.ext (f2.grow gr);cases z with
 | bl k =>
  refine⟨k,vr,?_⟩;cases k with
  | false=>exact q _ H3 (.bl false) n2 ((e1.trans e2).trans gr.ext) (f2.grow gr) (show VR X.K C.V M H H3 .sh (.bl false) (.bl false) from rfl) p
  | true =>
   show tc σ H3 _;refine c C M H3 n2 ρ σ _ _ R3 p λu H4 d4 n4 e4 f4 r4 w4=>?_;have R4:=R3.step e4 f4;refine hB C.V M H4 e d4 y u _ _ R4.dom R4.vM ((ty.pres gr.pres (gr.ext (U:=C.U)) R.uV).pres (R3.pres e4) e4 R.uV) (r4.tpOf R3.dom R3.vM) w4 λv5 H5 z5 g5 a p5=>?_;exact q v5 H5 z5 n4 ((((e1.trans e2).trans gr.ext).trans e4).trans g5.ext) (f4.grow g5) a p5
 | _=>exact p.elim
theorem VD{op d:CmpOp}{r r':R2}{f g:D->D->(D->Prop)->Prop}{zJ:Kd}(ho:OpR X (compareOp op) r)(hA:E5 X.K .sh r f)(e:OpR X (compareOp d) r')(hB:E5 X.K .sh r' g)(ha:DE X a zR wa)(o:DE X b zM wb)(p:DE X c zJ wc)
  (hm:lastMarks [op,d] [b,c]=false:=by with_unfolding_all rfl):DE X (.Compare a [op,d] [b,c] pos) .sh (JN f g wa wb wc):=by
 obtain⟨ta,h,i⟩:=ha;obtain⟨tb,j,k⟩:=o;obtain⟨tc,l,m⟩:=p;exact⟨_,UR ho e h j l hm,λC M H n ρ σ P Q R w q=>Oy hA hB i k m C M H n ρ σ P Q R w q⟩
theorem U3{op h:CmpOp}{r r':R2}{f g:D->D->(D->Prop)->Prop}{zJ:Kd}(ho:OpR X (compareOp op) r)(hA:E5 X.K .sh r f)(i:OpR X (compareOp h) r')(hB:E5 X.K .sh r' g)(ha:DE X a zR wa)(t:DE X b zM wb)(u:DE X c zJ wc)
  (hm:lastMarks [op,h] [b,c]=false:=by with_unfolding_all rfl):DT X (.Compare a [op,h] [b,c] pos) (AR (JN f g wa wb wc)):=by
 obtain⟨ta,j,k⟩:=ha;obtain⟨tb,l,m⟩:=t;obtain⟨tc,o,s⟩:=u;refine⟨_,UC ho i j l o hm,λC M H n ρ σ P Q R w q=>?_⟩;refine Oy hA hB k m s C M H n ρ σ _ _ R w λv H' d n' e f r p=>?_;cases d with
 | bl b=>exact⟨b,r,q b H' n' e f p⟩
 | _=>exact p.elim
def Gk(u v:HI):HI:=λn ρ P=>u n ρ λc n1=>if c=true then v n1 ρ P else P false n1
def CG(u v:HI):HI:=λn ρ P=>u n ρ λc n1=>if c=true then P true n1 else v n1 ρ P
def Be(u:HI):HI:=λn ρ P=>u n ρ λc n1=>P (!c) n1
variable {wA wB:HI}{rest:List Expr}
theorem Fx(h:DT X a wA):DTW X (.BoolOp .And [a] pos) wA:=by
 obtain⟨t,h1,h2⟩:=h;exact⟨t,Qh h1,h2⟩
theorem Bo(h:DT X a wA):DTW X (.BoolOp .Or [a] pos) wA:=by
 obtain⟨t,h1,h2⟩:=h;exact⟨t,YA h1,h2⟩
theorem Gc(ha:DT X a wA)(d:DTW X (.BoolOp .And (b::rest) pos) wB):DTW X (.BoolOp .And (a::b::rest) pos) (Gk wA wB):=by
 obtain⟨t,h1,h2⟩:=ha;obtain⟨u,g1,g2⟩:=d;refine⟨_,T_ h1 g1,λC M H n ρ σ P Q R w q=>?_⟩;refine h2 C M H n ρ σ _ _ R w λc H1 n1 e1 f1 p=>?_;cases c with
 | false=>exact q _ H1 n1 e1 f1 p
 | true=>exact g2 C M H1 n1 ρ σ P Q (R.step e1 f1) p λb H2 n2 e2 f2 p2=>q b H2 n2 (e1.trans e2) f2 p2
theorem Ba(ha:DT X a wA)(d:DTW X (.BoolOp .Or (b::rest) pos) wB):DTW X (.BoolOp .Or (a::b::rest) pos) (CG wA wB):=by
 obtain⟨t,h1,h2⟩:=ha;obtain⟨u,g1,g2⟩:=d;refine⟨_,Zy h1 g1,λC M H n ρ σ P Q R w q=>?_⟩;refine h2 C M H n ρ σ _ _ R w λc H1 n1 e1 f1 p=>?_;cases c with
 | true=>exact q _ H1 n1 e1 f1 p
 | false=>exact g2 C M H1 n1 ρ σ P Q (R.step e1 f1) p λb H2 n2 e2 f2 p2=>q b H2 n2 (e1.trans e2) f2 p2
theorem DTW.dt(h:DTW X e wA):DT X e wA:=by
 obtain⟨t,h1,h2⟩:=h;exact⟨t,h1.pt,h2⟩
theorem BH(ha:DT X a wA):DT X (.UnaryOp .Not a pos) (Be wA):=by
 obtain⟨t,h1,h2⟩:=ha;exact⟨_,YC h1,λC M H n ρ σ P Q R w q=>h2 C M H n ρ σ _ _ R w λc H1 n1 e1 f1 p=>q _ H1 n1 e1 f1 p⟩
def HJ(u v:DW):DW:=λn ρ P=>u n ρ λc n1=>match c with
 | .bl true=>v n1 ρ P
 | .bl false=>P (.bl false) n1
 | _=>False
def Xn(u:DW):DW:=λn ρ P=>u n ρ λc n1=>match c with
 | .bl b=>P (.bl (!b)) n1
 | _=>False
theorem Gd{op}(h:DE X a κ wa):DE X (.BoolOp op [a] pos) κ wa:=by
 assumption
theorem EB(ha:DE X a zR wa)(e:DE X (.BoolOp .And (b::rest) pos) .sh wb):DE X (.BoolOp .And (a::b::rest) pos) .sh (HJ wa wb):=by
 obtain⟨t,h1,h2⟩:=ha;obtain⟨u,g1,g2⟩:=e;refine⟨_,YL h1 g1,λC M H n ρ σ P Q R w q=>?_⟩;refine h2 C M H n ρ σ _ _ R w λc H1 d n1 e1 f1 r1 p=>?_;cases d with
 | bl k =>
  refine⟨k,Im r1,?_⟩;cases k with
  | false=>exact q _ H1 _ n1 e1 f1 (show VR _ _ M H H1 _ _ (.bl _) from rfl) p
  | true =>
   exact g2 C M H1 n1 ρ σ P Q (R.step e1 f1) p λv H2 d n2 e2 f2 r2 p2=>q v H2 d n2 (e1.trans e2) f2 r2 p2
 | _=>exact p.elim
theorem VA(ha:DE X a zR wa):DE X (.UnaryOp .Not a pos) .sh (Xn wa):=by
 obtain⟨t,h1,h2⟩:=ha;refine⟨_,YJ h1,λC M H n ρ σ P Q R w q=>?_⟩;refine h2 C M H n ρ σ _ _ R w λc H1 d n1 e1 f1 r1 p=>?_;cases d with
 | bl k=>exact⟨k,Im r1,q _ H1 _ n1 e1 f1 (show VR _ _ M H H1 _ _ (.bl _) from rfl) p⟩
 | _=>exact p.elim
def VY(t:HI)(u v:DW):DW:=λn ρ P=>t n ρ λc n1=>if c=true then u n1 ρ P else v n1 ρ P
theorem Lq(e:DT X c wA)(ha:DE X a κ wa)(f:DE X b κ wb):DE X (.IfExp c a b pos) κ (VY wA wa wb):=by
 obtain⟨t,h1,h2⟩:=e;obtain⟨u,g1,g2⟩:=ha;obtain⟨u',k1,k2⟩:=f;refine⟨_,N6 h1 g1 k1,λC M H n ρ σ P Q R w q=>?_⟩;refine h2 C M H n ρ σ _ _ R w λc H1 n1 e1 f1 p=>?_;cases c with
 | true=>exact g2 C M H1 n1 ρ σ P Q (R.step e1 f1) p λv H2 d n2 e2 f2 r2 p2=>q v H2 d n2 (e1.trans e2) f2 (VR.back e1 r2) p2
 | false=>exact k2 C M H1 n1 ρ σ P Q (R.step e1 f1) p λv H2 d n2 e2 f2 r2 p2=>q v H2 d n2 (e1.trans e2) f2 (VR.back e1 r2) p2
def AT:Ef:=λn _ P=>P [] n
def AF(w:DW)(ws:Ef):Ef:=λn ρ P=>w n ρ λd n1=>ws n1 ρ λds n2=>P (d::ds) n2
variable {es:List Expr}{ws:Ef}
theorem AV:Wm X [] AT:=⟨_,B0,λC M H n ρ σ P Q R w q=>q [] H [] n (Ext.refl _ _) R.feed .nil w⟩
theorem AS:Xf X [] AT:=⟨_,B0,λC M H n ρ σ P Q R w q=>q [] H [] n (Ext.refl _ _) R.feed rfl w⟩
theorem AM(ha:DE X e κ wa)(hr:Wm X es ws)(a:starEach (e::es) X.env=(false,eval e X.env)::starEach es X.env:=by rfl):Wm X (e::es) (AF wa ws):=by
 obtain⟨t,h1,h2⟩:=ha;obtain⟨u,g1,g2⟩:=hr;refine⟨_,BB h1 g1 a,λC M H n ρ σ P Q R w q=>?_⟩;refine h2 C M H n ρ σ _ _ R w λv H1 d n1 e1 f1 r1 p=>?_;have R1:=R.step e1 f1;exact g2 C M H1 n1 ρ σ _ _ R1 p λvs H2 ds n2 e2 f2 r2 p2=>q _ H2 _ n2 (e1.trans e2) f2 (.cons ((r1.tpOf R.dom R.vM).pres (R1.pres e2) e2 R.uV) r2) p2
theorem AC(ha:DE X e κ wa)(hr:Xf X es ws)(a:κ≠.tp:=by intro z; cases z)(b:starEach (e::es) X.env=(false,eval e X.env)::starEach es X.env:=by rfl):Xf X (e::es) (AF wa ws):=by
 obtain⟨t,h1,h2⟩:=ha;obtain⟨u,g1,g2⟩:=hr;refine⟨_,BB h1 g1 b,λC M H n ρ σ P Q R w q=>?_⟩;refine h2 C M H n ρ σ _ _ R w λv H1 d n1 e1 f1 r1 p=>?_;have R1:=R.step e1 f1;exact g2 C M H1 n1 ρ σ _ _ R1 p λvs H2 ds n2 e2 f2 r2 p2=>q _ H2 (d::ds) n2 (e1.trans e2) f2 ⟨v,vs,rfl,(r1.shOf R.dom a).pres (R1.pres e2),r2⟩ p2
def BN(ws:Ef):DW:=λn ρ P=>ws n ρ λds n1=>ds.length<=sizeLine/\P (.tup ds) n1
def DA(ws:Ef):DW:=λn ρ P=>ws n ρ λds n1=>ds.length<=sizeLine/\P (.lst ds) n1
theorem Ga{M:Ch->Prop}{H:Hp}{p:Ch}{o:HO}(h:H p=none):Pres M H (λb=>M b\/b=p) (A4 H p o):=⟨λb u e _=>by rw [AQ (A0 e h)]; exact e,λb z=>z.elim .inl λz=>.inr (by grind),λb vs e=>by rw [AQ (A0 e h)]; exact e⟩
theorem A1{H:Hp}{p:Ch}{o:HO}(h:H p=none):Grow H (A4 H p o):=.inr ⟨p,o,h,rfl⟩
theorem Ar{x1}(h:Xf X es ws):DE X (.Tuple es x1 pos) .sh (BN ws):=by
 obtain⟨t,h1,h2⟩:=h;refine⟨_,Pt h1,λC M H n ρ σ P Q R w q=>?_⟩;refine h2 C M H n ρ σ _ _ R w λvs H1 ds n1 e1 f1 r1 p=>?_;refine⟨by rw [r1.length]; exact p.1,λa ha=>?_⟩;have g:Grow H1 (A4 H1 a (.tup vs)):=A1 ha;refine q _ _ (.tup ds) n1 (e1.trans g.ext) (f1.grow g) ⟨a,vs,rfl,AX,r1.pres g.pres⟩ p.2
theorem Bp(h:Xf X es ws):DE X (.List es pos) .fr (DA ws):=by
 obtain⟨t,h1,h2⟩:=h;refine⟨_,Pu h1,λC M H n ρ σ P Q R w q=>?_⟩;refine h2 C M H n ρ σ _ _ R w λvs H1 ds n1 e1 f1 r1 p=>?_;refine⟨by rw [r1.length]; exact p.1,λa ha=>?_⟩;have g:Grow H1 (A4 H1 a (.lst vs)):=A1 ha;exact q _ _ (.lst ds) n1 (e1.trans g.ext) (f1.grow g) (VR.back e1 ⟨a,rfl,ha,vs,AX,r1.pres (Ga ha)⟩) p.2
def Ft(K:Frag)(κ:Kd)(r:List V->Hp->VK->Prop)(f:List D->(D->Prop)->Prop):Prop:=∀(U:Ch->Prop) (M:Ch->Prop) (H:Hp) (ds:List D) (vs:List V) (P:D->Prop) (Q:VK),(∀a,M a->∃o,H a=some o)->(∀a,U a->M a) ->
 Paired (λv d=>AtT K U M H d v) vs ds->f ds P->(∀v H' z,Grow H H'->VR K U M H H' κ v z->P z->Q v H')->r vs H Q
def B8(f:List D->(D->Prop)->Prop)(ws:Ef):DW:=λn ρ P=>ws n ρ λds n1=>f ds λz=>P z n1
theorem XZ{r:List V->Hp->VK->Prop}{f:List D->(D->Prop)->Prop}{t:TA}(hA:Ft X.K κ r f)(h2:∀(C:Fm) (M:Ch->Prop) (H:Hp) (n:Nat) (ρ:List Slot) (σ:L2.St) (P:List D->Nat->Prop) (Q:List V->Hp->Prop),Rel X.K C M H n ρ σ->ws n ρ P ->
   (∀vs H' ds n',Ext C.U H H'->FeedC X.K C.F M H' n'->Paired (λv d=>AtT X.K C.V M H' d v) vs ds->P ds n'->Q vs H')->t σ H Q)
  (C:Fm) (M:Ch->Prop) (H:Hp) (n:Nat) (ρ:List Slot) (σ:L2.St) (P:D->Nat->Prop) (Q:VK) (R:Rel X.K C M H n ρ σ) (w:B8 f ws n ρ P)
  (q:∀v H' d n',Ext C.U H H'->FeedC X.K C.F M H' n'->VR X.K C.V M H H' κ v d->P d n'->Q v H'):al r t σ H Q:=by
 refine h2 C M H n ρ σ _ _ R w λvs H1 ds n1 e1 f1 r1 p=>?_;have R1:=R.step e1 f1;exact hA _ M H1 ds vs _ _ R1.dom R1.vM r1 p λv H2 z g vr pz=>q v H2 z n1 (e1.trans g.ext) (f1.grow g) (VR.back e1 vr) pz
theorem Ae{x:Str}{id:String}{p:Pos}{r:List V->Hp->VK->Prop}{f:List D->(D->Prop)->Prop}(c:C2 X (.builtin id) r)(hA:Ft X.K κ r f)(hg:Gl X x)(hm:X.mg x=none)(hv:bootBuiltins x=some (.builtin id))(ha:Wm X (e::es) ws)
  (hn:x ≠ "__name__":=by decide) (a:(x==("__debug__":Str))=false:=by decide)
  (he:starEach (e::es) X.env=(false,eval e X.env)::starEach es X.env:=by rfl) (b:(backTo pos (starEach es X.env)).any (·.1)=false:=by rfl):DE X (.Call (.Name x p) (e::es) [] pos) κ (B8 f ws):=by
 obtain⟨t,h1,h2⟩:=ha;exact⟨_,Cv c hg hm hv h1 hn a he b,λC M H n ρ σ P Q R w q=>XZ hA h2 C M H n ρ σ P Q R w q⟩
theorem Bs{x:Str}{T:String}{p:Pos}{r:List V->Hp->VK->Prop}{f:List D->(D->Prop)->Prop}(c:C2 X (.type T) r)(hA:Ft X.K κ r f)(hg:Gl X x)(hm:X.mg x=none)(hv:bootBuiltins x=some (.type T))(ha:Wm X (e::es) ws)
  (hn:x ≠ "__name__":=by decide) (a:(x==("__debug__":Str))=false:=by decide)
  (he:starEach (e::es) X.env=(false,eval e X.env)::starEach es X.env:=by rfl) (b:(backTo pos (starEach es X.env)).any (·.1)=false:=by rfl):DE X (.Call (.Name x p) (e::es) [] pos) κ (B8 f ws):=by
 obtain⟨t,h1,h2⟩:=ha;exact⟨_,LU c hg hm hv h1 hn a he b,λC M H n ρ σ P Q R w q=>XZ hA h2 C M H n ρ σ P Q R w q⟩
end
end Dp
namespace L2
def bv(z:Str):It:=⟨λi _=>i<z.cps.size,λi H x H'=>H'=H/\∃c,z.cps[i]?=some c/\x=.str ⟨#[c]⟩,λi _=>z.cps.size<=i⟩
theorem Nc{P:cz}{w:dC}{K:Frag}{tg:c_}(it:Ch)(z:Str)(t:Tok)(ty:String)(f:ty = "str_ascii_iterator"\/ty = "str_iterator")
  (W:∀A':dL,A'.handled=none->Walks P w A' it [it] [it] z.cps.size (SignAt z) (λi h=>h.IsStrIter it ty z t i)):Turn P w K tg (bv z) [it] it (λi h=>h.IsStrIter it ty z t i) where
 mem:=by simp
 obj:=λi h st b a=>by
  have e:b=it:=by simpa using a
  subst e;obtain⟨o,e,c,d⟩:=st;exact⟨o,e,λv z=>by rw [d] at z; cases z⟩
 keep:=λi h h' st k=>let ⟨o,ho,r⟩:=st; ⟨o,k it (by simp) o ho,r⟩
 item:=by
  intro X hP hw hK j i zG s σ H E I hf st hg;subst hP hw hK;obtain⟨f0,f1,f2,f3,f4,f5⟩:=hf it (by simp);refine(W X.A (I.ok.hd j)).item i s _ _ hg st λv h' tk hv g kk=>?_;obtain⟨c,u,l,rfl⟩:=hv;have I1:Inv X zG σ H { s with heap:=h',toks:=tk }:=I.turned (λb o a e=>kk b o (by simpa using a) e) f0 f1 f3 f4 f5;obtain⟨o,e,cc,d⟩:=id g;exact⟨_,rfl,Oe (s:={ s with heap:=h',toks:=tk }) e cc d (by rcases f with rfl | rfl <;> decide) ⟨.str ⟨#[c]⟩,H,I1,⟨_,rfl⟩,⟨rfl,c,l,rfl⟩,g,λb a=>(hf b a).1⟩⟩
 done:=by
  intro X hP hw hK j i zG s σ H E I hf st hg;subst hP hw hK;obtain⟨f0,f1,f2,f3,f4,f5⟩:=hf it (by simp)
  have m:z.cps[i]?=none:=by
   have:z.cps.size<=i:=hg
   simp [this]
  rcases f with rfl | rfl
  ·exact wpAny_pyNext_ascii_end (I.ok.hd j) st m λh' eb=>⟨rfl,I.turned (t':=s.toks) (λb o a e=>eb b o a e) f0 f1 f3 f4 f5⟩
  ·exact wpAny_pyNext_wide_end (I.ok.hd j) st m λh' eb=>⟨rfl,I.turned (t':=s.toks) (λb o a e=>eb b o a e) f0 f1 f3 f4 f5⟩
 self:=λA i s Q E st h=>by
  rcases f with rfl | rfl
  ·exact wpAny_pyIter_striter_ascii st h
  ·exact wpAny_pyIter_striter_wide st h
section
variable {X:Cx}{tg:Expr}
def ba(K:Frag)(tl:TE):TI:=λσ H R=>tl σ H λx H1 =>
 (∃a,x=.ref a/\(∃xs,SqL K H1 a xs)/\R (bw K a) H1)\/(∃a,x=.ref a/\(∃xs,SqT K H1 a xs)/\R (Y_ K a) H1)\/∃z,x=.str z/\R (bv z) H1
theorem Pq{l:c_}{tl:TE}(f:PE X l tl):PI X tg l (ba X.K tl):=by
 intro zG s σ H R I h;refine thn (f zG s σ H _ I h) λv s1 ⟨x,H1,I1,r1,q1⟩=>?_
 have c:∀b,b∈[s1.heap.objs.size]->Gh X zG H1 b:=λb g=>by
  have e:b=s1.heap.objs.size:=by simpa using g
  subst e;exact I1.fpOk (On _) (I1.hok.fresh (On _))
 rcases q1 with ⟨a,e,⟨xs,hq⟩,q⟩ | ⟨a,e,⟨xs,hq⟩,q⟩ | ⟨z,e,q⟩
 ·subst e
  cases r1;obtain⟨d,rv,p,i⟩:=I1.list hq;refine e8 p.isList ?_;exact⟨s1.heap.objs.size,[s1.heap.objs.size],_,_,H1,rfl,I1.kept (t':=s1.toks) λb o e=>Ev _ e,Rf a _,⟨_,cj _ rfl,rfl,rfl⟩,c,q⟩
 ·subst e
  cases r1;obtain⟨d,rv,p,i⟩:=I1.tuple hq;refine ef (show s1.heap.IsTuple a d.toArray from p) ?_;exact⟨s1.heap.objs.size,[s1.heap.objs.size],_,_,H1,rfl,I1.kept (t':=s1.toks) λb o e=>Ev _ e,JP a _,⟨_,cj _ rfl,rfl,rfl⟩,c,q⟩
 ·subst e
  obtain⟨t,rfl⟩:=r1;cases ha:z.cps.all (·<128)
  ·refine wpAny_pyIter_wide ha ?_
   exact⟨s1.heap.objs.size,[s1.heap.objs.size],_,_,H1,rfl,I1.kept (t':=s1.toks) λb o e=>Ev _ e,Nc _ z t "str_iterator" (.inr rfl) (λA' hA=>Walks.strWide hA _ z t),⟨_,cj _ rfl,rfl,rfl⟩,c,q⟩
  ·refine wpAny_pyIter_ascii ha ?_
   exact⟨s1.heap.objs.size,[s1.heap.objs.size],_,_,H1,rfl,I1.kept (t':=s1.toks) λb o e=>Ev _ e,Nc _ z t "str_ascii_iterator" (.inl rfl) (λA' hA=>Walks.strAscii hA _ z t),⟨_,cj _ rfl,rfl,rfl⟩,c,q⟩
end
section
variable {X:Cx}
theorem Ky(bs:List Bool):((dD bs.length).all λi=>(bs[i]?).getD true)=bs.all id:=by
 induction bs with
 | nil=>rfl
 | cons b r ih =>
  rw [ZB,g9,fB,jO]
  congr 1
theorem G_(g:X.calm=true):C2 X (.builtin "all") (λxs H Q=>∃(p:Ch) (bs:List Bool),xs=[.ref p]/\SqL X.K H p (bs.map V.bl)/\Q (.bl (bs.all id)) H):=by
 intro zG s σ H xs us Q I r h;obtain⟨p,bs,rfl,hq,q⟩:=h;obtain⟨u,rfl,rx⟩:=vals1 r;cases rx;obtain⟨a,r',pl,l⟩:=I.list hq;have c:=r'.length;have d:s.heap.IsList p a.toArray:=pl.isList;have f:p<s.heap.objs.size:=by obtain⟨_,e,_⟩:=id d; exact UF e
 refine call_all_walk (e8 d ?_)
 refine⟨s.heap.objs.size,[s.heap.objs.size,p],[s.heap.objs.size],a.toArray.size,_,_,λi=>(bs[i]?).getD true,rfl,Walks.list (A:=X.A.in1) (I.ok.hd g) _ p (c7 f) a.toArray,
  ⟨⟨_,cj _ rfl,rfl,rfl⟩,d.push _⟩,λi v s' Q' E' hP hQ=>?_,λh' tk j=>?_⟩
 ·have hv:a[i]?=some v:=by simpa using hP
  have k:∃b,bs[i]?=some b:=by
   have hi:i<a.length:=(cr.mp hv).1;rw [Go] at c;exact⟨bs[i]'(by omega),No (by omega)⟩
  obtain⟨b,eb⟩:=k;obtain⟨u,eu,ru⟩:=r'.get (i:=i) (x:=.bl b) (by rw [dR,eb]; rfl);rw [hv] at eu;cases eu;cases ru;simp only [eb,Option.getD_some] at hQ;exact e7 hQ
 ·have e:((dD a.toArray.size).all λi=>(bs[i]?).getD true)=bs.all id:=by
   rw [c9,← c,Go]; exact Ky bs
  rw [e];exact⟨.bl _,H,I.kept (t':=tk) λb x e=>j b x (λhm=>by rw [Tk.mp hm] at e; exact eK _ (UF e)) (Ev _ e),rfl,q⟩
theorem O1:C2 X (.builtin "isinstance") (λxs H Q=>∃x T t b,xs=[x,.ty T]/\F4 X.K H x t/\PySem.W.kitOne X.K t (.type T)=some b/\Q (.bl b) H):=by
 intro zG s σ H xs us Q I r h;obtain⟨x,T,t,b,rfl,ty,e,q⟩:=h;obtain⟨u,w',rfl,rx,rt⟩:=vals2 r;cases rt;exact SW I rx ty e λtk=>⟨.bl b,H,I.tok _,rfl,q⟩
theorem R_:OpR X (compareOp .LtE) (λx y H Q=>∃i j,x=.str i/\y=.str j/\Q (.bl (!(j.cps.toList<i.cps.toList))) H):=by
 intro zG s σ H x y v u Q I rx ry h;obtain⟨i,j,rfl,rfl,q⟩:=h;obtain⟨t,rfl⟩:=rx;obtain⟨t',rfl⟩:=ry;exact PySem.P.le_str ⟨.bl _,H,I,rfl,q⟩
theorem JT{ys:List Str}:∀{us:List Cn},Vals (ys.map V.str) us->StrsAre us ys:=by
 induction ys with
 | nil=>intro us r; cases r; exact .nil
 | cons n ns ih =>
  intro us r;cases r with
  | cons r1 r2 =>
   obtain⟨t,e⟩:=r1;subst e;exact .cons n t (ih r2)
theorem V2:a9 X "str.join" (λx xs H Q=>∃(z:Str) (p:Ch) (ys:List Str),x=.str z/\xs=[.ref p]/\SqL X.K H p (ys.map V.str)/\(ys.map (·.length)).sum+ys.length*z.length<=16777216/\Q (.str (Txt.join z ys)) H):=by
 intro zG s σ H x xs v us Q I rx rv h;obtain⟨z,p,ys,rfl,rfl,hq,a,q⟩:=h;obtain⟨t,rfl⟩:=rx;obtain⟨u,rfl,ru⟩:=vals1 rv;cases ru;obtain⟨b,r',pl,_⟩:=I.list hq;exact join_list pl.isList (JT r') a λt' k=>⟨.str _,H,I.tok _,⟨_,rfl⟩,q⟩
theorem X1:SlR X (λx lo hi H Q=>∃z,x=.str z/\z.length<=sizeLine/\Q (.str (Txt.slice z lo hi)) H):=by
 intro zG s σ H x v vl vu lo hi sl Q I rx a pl pu h;obtain⟨z,rfl,b,q⟩:=h;obtain⟨t,rfl⟩:=rx;refine⟨"str",_,F.slot_str_getitem.lookup,typeIs_str _ _ _,?_⟩;have fin:∀t' k,EP X zG σ Q (.str _ t') { s with toks:=k }:=λt' k=>⟨.str _,H,I.tok _,⟨_,rfl⟩,q⟩;cases pl with
 | none =>
  cases pu with
  | none=>exact f9 (l:=none) (u:=none) (st:=none) a rfl (iN ⟨cx (Txt.slice_le z _ _) b,λt' k=>fin t' k⟩)
  | int j tj=>exact f9 (l:=none) (u:=some (j,tj)) (st:=none) a rfl (iN ⟨cx (Txt.slice_le z _ _) b,λt' k=>fin t' k⟩)
 | int i ti =>
  cases pu with
  | none=>exact f9 (l:=some (i,ti)) (u:=none) (st:=none) a rfl (iN ⟨cx (Txt.slice_le z _ _) b,λt' k=>fin t' k⟩)
  | int j tj=>exact f9 (l:=some (i,ti)) (u:=some (j,tj)) (st:=none) a rfl (iN ⟨cx (Txt.slice_le z _ _) b,λt' k=>fin t' k⟩)
theorem R8(hu:X.A.units<cLine):OpR X (compareOp .NotEq) (λx y H Q=>∃a b xs,x=.ref a/\y=.ref b/\SqL X.K H a xs/\SqL X.K H b []/\Q (.bl (!xs.isEmpty)) H):=by
 intro zG s σ H x y v u Q I rx ry h;obtain⟨a,b,xs,rfl,rfl,ha,d,q⟩:=h;cases rx;cases ry;obtain⟨f,r1,p1,_⟩:=I.list ha;obtain⟨c,r2,p2,_⟩:=I.list d;cases r2;cases r1 with
 | nil=>exact SeqAt.RcNeAt.lists (e:=λ_=>true) p1.isList p2.isList rfl hu (λj h1 h2=>absurd h1 (by simp)) _ _ _ _ ⟨.bl _,H,I,rfl,q⟩
 | cons r1 r2=>exact SeqAt.RcNeAt.lists_lengths p1.isList p2.isList (by simp) hu _ _ _ _ ⟨.bl _,H,I,rfl,q⟩
end
end L2
namespace Dp
open L2
def Y5(K:Frag)(F:Option (Ch×Ch))(U V' M:Ch->Prop)(H:Hp)(n:Nat)(ss:List Slot)(vs:List V):Prop :=
 (∀a,M a->∃o,H a=some o)/\(∀f,F=some f->U f.1)/\(∀a,U a->V' a)/\(∀a,V' a->M a)/\FeedC K F M H n/\Paired (L8 K F V' M H) vs ss
abbrev W2:=List Slot->Nat->(D->Nat->Prop)->Prop
def Di(K:Frag)(κ:Kd)(W:W2)(np:Nat):Sp:=λvs H Q _=>vs.length=np/\∃(F:Option (Ch×Ch)) (U V' M:Ch->Prop) (n:Nat) (ss:List Slot) (P:D->Nat->Prop),Y5 K F U V' M H n ss vs/\W ss n P /\
 ∀v H' d n',Ext U H H'->FeedC K F M H' n'->VR K V' M H H' κ v d->P d n'->Q v H'
def AI(w:DW):Nat->List Slot->(Slot->Nat->Prop)->Prop:=λn ρ P=>w n ρ λd n1=>P (.sh d) n1
def JM(w:DW):Nat->List Slot->(Slot->Nat->Prop)->Prop:=λn ρ P=>w n ρ λd n1=>P (.br d) n1
def Aw(i:Nat):Nat->List Slot->(Slot->Nat->Prop)->Prop:=λn ρ P=>match ρ[i]? with
 | some .fd=>P .fd n
 | _=>False
def AY:S1:=λn _ P=>P [] n
def AE(w:Nat->List Slot->(Slot->Nat->Prop)->Prop)(ws:S1):S1:=λn ρ P=>w n ρ λs n1=>ws n1 ρ λss n2=>P (s::ss) n2
def AZ(W:W2)(a:S1):DW:=λn ρ P=>a n ρ λss n1=>W ss n1 P
section
variable {X:Cx}{a e:Expr}{es:List Expr}{κ zR:Kd}{wa:DW}{pos:Pos}{w1:Nat->List Slot->(Slot->Nat->Prop)->Prop}{was:S1}{ws:Ef}
theorem AN(h:DE X e κ wa)(a:κ≠.tp:=by intro z; cases z):ah X e (AI wa):=by
 obtain⟨t,h1,h2⟩:=h;exact⟨t,h1,λC M H n ρ σ P Q R w q=>h2 C M H n ρ σ _ _ R w λv H' d n' e f r p=>q v H' (.sh d) n' e f ⟨⟨v,rfl,r.shOf R.dom a⟩,rfl⟩ p⟩
theorem XW(h:DE X e κ wa):ah X e (JM wa):=by
 obtain⟨t,h1,h2⟩:=h;exact⟨t,h1,λC M H n ρ σ P Q R w q=>h2 C M H n ρ σ _ _ R w λv H' d n' e f r p=>q v H' (.br d) n' e f ⟨⟨v,rfl,r.tpOf R.dom R.vM⟩,rfl⟩ p⟩
theorem A5(i:Nat){x:Str}{pos:Pos}(hN:X.N[i]?=some x:=by rfl)(hv:Sw X.env.scope x:=by first | exact TW rfl | exact dZ (TW rfl) | exact dZ (dZ rfl))(hd:(x==("__debug__":Str))=false:=by decide)
  (a:(x==("__classdict__":Str))=false:=by decide):ah X (.Name x pos) (Aw i):=by
 refine⟨_,Em hN hv hd a,λC M H n ρ σ P Q R w q=>?_⟩;unfold Aw at w
 split at w
 ·rename_i hd
  obtain⟨f,e1,h1⟩:=R.sl i _ hd;exact⟨_,getD_some e1,q _ H .fd n (Ext.refl _ _) R.feed ⟨⟨f,rfl,h1⟩,rfl⟩ w⟩
 grind
theorem AK:Xe X [] AY:=⟨_,B0,λC M H n ρ σ P Q R w q=>q [] H [] n (Ext.refl _ _) R.feed .nil w⟩
theorem AA(ha:ah X e w1)(hr:Xe X es was)(a:starEach (e::es) X.env=(false,eval e X.env)::starEach es X.env:=by rfl):Xe X (e::es) (AE w1 was):=by
 obtain⟨t,h1,h2⟩:=ha;obtain⟨u,g1,g2⟩:=hr;refine⟨_,BB h1 g1 a,λC M H n ρ σ P Q R w q=>?_⟩;refine h2 C M H n ρ σ _ _ R w λv H1 d n1 e1 f1 r1 p=>?_;have R1:=R.step e1 f1;exact g2 C M H1 n1 ρ σ _ _ R1 p λvs H2 ds n2 e2 f2 r2 p2=>q _ H2 _ n2 (e1.trans e2) f2 (.cons ⟨r1.1.pres (R1.pres e2) (λ_ z=>z) e2 R.uV,r1.2⟩ r2) p2
theorem Wd{k:Nat}{f:Ch}{fd:dU}{ps:List Str}{W:W2}{x:Str}{p:Pos}(G:BD X.prog X.w X.K X.mg X.base CL k f fd ps (Di X.K κ W ps.length))(hW:∀ss n P,W ss n P->ss.length=ps.length)
  (hr:Room k X.A) (hg:Gl X x) (hm:X.mg x=some (.ref f)) (c:keepIn X.K (.ref f)=true) (g:Binds X.K fd ps []) (ha:Xe X (e::es) was)
  (a:(x==("__debug__":Str))=false:=by decide) (he:starEach (e::es) X.env=(false,eval e X.env)::starEach es X.env:=by rfl) (b:(backTo pos (starEach es X.env)).any (·.1)=false:=by rfl) :
  DE X (.Call (.Name x p) (e::es) [] pos) κ (AZ W was):=by
 obtain⟨t,h1,h2⟩:=ha;refine⟨_,Qr G hr hg hm c g .nil XB h1 a he b,λC M H n ρ σ P Q R w q=>?_⟩;refine h2 C M H n ρ σ _ _ R w λvs H1 ss n1 e1 f1 r1 p=>?_;have R1:=R.step e1 f1;rw [dS];exact⟨(Paired.length r1).trans (hW _ _ _ p),_,_,_,M,n1,ss,P,⟨R1.dom,R1.fU,R1.uV,R1.vM,f1,r1⟩,p,λv H2 d n2 e2 f2 r2 p2=>q v H2 d n2 (e1.trans e2) f2 (VR.back e1 r2) p2⟩
def cI(K:Frag)(κ:Kd)(T:String)(r:V->List V->Hp->VK->Prop)(f:D->List D->(D->Prop)->Prop):Prop:=∀(U:Ch->Prop) (M:Ch->Prop) (H:Hp) (d:D) (ds:List D) (x:V) (vs:List V) (P:D->Prop) (Q:VK),(∀a,M a->∃o,H a=some o)->(∀a,U a->M a) ->
 AtT K U M H d x->Paired (λv d=>AtT K U M H d v) vs ds->f d ds P->(∀v H' z,Grow H H'->VR K U M H H' κ v z->P z->Q v H')->r x vs H Q
def au(T:String)(d:D):Prop:=match d with
 | .str _=>T = "str"
 | .int _=>T = "int"
 | .lst _=>T = "list"
 | _=>False
def bD(T:String)(f:D->List D->(D->Prop)->Prop)(wo:DW)(ws:Ef):DW:=λn ρ P=>wo n ρ λd n1=>au T d/\ws n1 ρ λds n2=>f d ds λz=>P z n2
theorem QA{T:String}{K:Frag}{U:Ch->Prop}{M:Ch->Prop}{H:Hp}{d:D}{x:V}(h:au T d)(b:AtT K U M H d x):bE K T x H:=by
 cases d with
 | str z=>obtain⟨e,_⟩:=b; subst e; exact h
 | int i=>cases (b); exact h
 | lst ds=>obtain⟨a,vs,e,_,hq,_⟩:=b; subst e; exact .inl ⟨h,vs,.inl hq⟩
 | _=>exact(h).elim
theorem aN{name:Str}{apos b:Pos}{T id:String}{r:V->List V->Hp->VK->Prop}{f:D->List D->(D->Prop)->Prop}(pa:PlainAttrs T)(slot:PySem.Slot T name id)(k:typeOf (.builtin id)=pure (.type "method_descriptor"))(hm:a9 X id r)
  (hA:cI X.K κ T r f) (ho:DE X a zR wa) (ha:Wm X (e::es) ws)
  (h:attributeBase a name X.env (eval a X.env)=eval a X.env:=by rfl)
  (j:((backTo b (starEach (e::es) X.env)).all (λx=>!x.1)&&(backToKw b (keywordEach [] X.env)).all (λx=>x.1.isSome)
   && decide ((e::es).length+([]:List gL).length+(if ([]:List gL).isEmpty then 0 else 1)<30))=true:=by rfl)
  (i:(apos.endLine==b.line)=true:=by rfl) (l:starEach (e::es) X.env=(false,eval e X.env)::starEach es X.env:=by rfl) (c:(backTo b (starEach es X.env)).any (·.1)=false:=by rfl) :
  DE X (.Call (.Attribute a name apos) (e::es) [] b) κ (bD T f wa ws):=by
 obtain⟨t,h1,h2⟩:=ho;obtain⟨u,g1,g2⟩:=ha;refine⟨_,UT pa slot k hm h1 g1 h j i l c,λC M H n ρ σ P Q R w q=>?_⟩;refine h2 C M H n ρ σ _ _ R w λx H1 d n1 e1 f1 r1 p=>?_;have R1:=R.step e1 f1;have tx:=r1.tpOf R.dom R.vM;refine⟨QA p.1 tx,?_⟩;refine g2 C M H1 n1 ρ σ _ _ R1 p.2 λvs H2 ds n2 e2 f2 r2 p2=>?_;have R2':=R1.step e2 f2;refine hA C.V M H2 d ds x vs _ _ R2'.dom R2'.vM (tx.pres (R1.pres e2) e2 R.uV) r2 p2 λv H3 z g vr pz=>?_;exact q v H3 z n2 ((e1.trans e2).trans g.ext) (f2.grow g) (VR.back (e1.trans e2) vr) pz
def DO(X:Cx)(e:Option c_)(w:Nat->List Slot->(Option Int->Nat->Prop)->Prop):Prop:=∃t,PO X e t/\∀(C:Fm) (M:Ch->Prop) (H:Hp) (n:Nat) (ρ:List Slot) (σ:L2.St) (P:Option Int->Nat->Prop) (Q:Option Int->Hp->Prop),Rel X.K C M H n ρ σ->w n ρ P ->
 (∀o H' n',Ext C.U H H'->FeedC X.K C.F M H' n'->P o n'->Q o H')->t σ H Q
def A6:Nat->List Slot->(Option Int->Nat->Prop)->Prop:=λn _ P=>P none n
def BK(w:DW):Nat->List Slot->(Option Int->Nat->Prop)->Prop:=λn ρ P=>w n ρ λd n1=>match d with
 | .int i=>P (some i) n1
 | _=>False
theorem BC:DO X none A6:=⟨_,Qo,λC M H n ρ σ P Q R w q=>q _ H n (Ext.refl _ _) R.feed w⟩
theorem J8{U:Ch->Prop}{K:Frag}{M:Ch->Prop}{H H':Hp}{v:V}{i:Int}(h:VR K U M H H' κ v (.int i)):v=.int i:=by
 cases κ with
 | sh=>exact h
 | tp=>exact h
 | fr=>obtain⟨a,_,_,t⟩:=h; exact(t).elim
theorem Ax(h:DE X e κ wa):DO X (some e) (BK wa):=by
 obtain⟨t,h1,h2⟩:=h;refine⟨_,Qn h1,λC M H n ρ σ P Q R w q=>?_⟩;refine h2 C M H n ρ σ _ _ R w λv H1 d n1 e1 f1 r1 p=>?_;cases d with
 | int i=>exact⟨i,J8 r1,q _ H1 n1 e1 f1 p⟩
 | _=>exact p.elim
def cE(K:Frag)(κ:Kd)(r:V->Option Int->Option Int->Hp->VK->Prop)(f:D->Option Int->Option Int->(D->Prop)->Prop):Prop:=∀(U:Ch->Prop) (M:Ch->Prop) (H:Hp) (d:D) (x:V) (lo hi:Option Int) (P:D->Prop) (Q:VK),(∀a,M a->∃o,H a=some o)->(∀a,U a->M a) ->
 AtT K U M H d x->f d lo hi P->(∀v H' z,Grow H H'->VR K U M H H' κ v z->P z->Q v H')->r x lo hi H Q
def F5(f:D->Option Int->Option Int->(D->Prop)->Prop)(w:DW)(wl wh:Nat->List Slot->(Option Int->Nat->Prop)->Prop):DW:=λn ρ P=>w n ρ λd n1=>wl n1 ρ λlo n2=>wh n2 ρ λhi n3=>f d lo hi λz=>P z n3
theorem Bq{lo hi:Option c_}{p2:Pos}{r:V->Option Int->Option Int->Hp->VK->Prop}{f:D->Option Int->Option Int->(D->Prop)->Prop}{wl wh:Nat->List Slot->(Option Int->Nat->Prop)->Prop}(hr:SlR X r)(hA:cE X.K κ r f)(he:DE X e zR wa)(a:DO X lo wl)(hh:DO X hi wh) :
  DE X (.Subscript e (.Slice lo hi none p2) pos) κ (F5 f wa wl wh):=by
 obtain⟨t,h1,h2⟩:=he;obtain⟨u,g1,g2⟩:=a;obtain⟨u',k1,k2⟩:=hh;refine⟨_,N5 hr h1 g1 k1,λC M H n ρ σ P Q R w q=>?_⟩;refine h2 C M H n ρ σ _ _ R w λv H1 d n1 e1 f1 r1 p=>?_;have R1:=R.step e1 f1;have tv:=r1.tpOf R.dom R.vM;refine g2 C M H1 n1 ρ σ _ _ R1 p λlo H2 n2 e2 f2 p2=>?_;have R2':=R1.step e2 f2;refine k2 C M H2 n2 ρ σ _ _ R2' p2 λhi H3 n3 e3 f3 p3=>?_;have R3:=R2'.step e3 f3;refine hA C.V M H3 d v lo hi _ _ R3.dom R3.vM ((tv.pres (R1.pres e2) e2 R.uV).pres (R2'.pres e3) e3 R.uV) p3 λv H4 z g vr pz=>?_;exact q v H4 z n3 (((e1.trans e2).trans e3).trans g.ext) (f3.grow g) (VR.back ((e1.trans e2).trans e3) vr) pz
end
structure E2 where
 nx:Nat->List Slot->Prop
 rt:D->Nat->Prop
 bk:Nat->List Slot->Prop:=λ_ _=>False
 ct:Nat->List Slot->Prop:=λ_ _=>False
abbrev Aj:=E2->Nat->List Slot->Prop
structure HG (K:Frag) (C:Fm) (κ:Kd) (D2:E2) (E:Ends):Prop where
 nx:∀M H n ρ σ,Rel K C M H n ρ σ->D2.nx n ρ->E.nx σ H
 rt:∀v H d n,Ext C.U C.H0 H->FeedC K C.F C.M0 H n->VR K C.V C.M0 C.H0 H κ v d->D2.rt d n->E.rt v H
 bk:∀M H n ρ σ,Rel K C M H n ρ σ->D2.bk n ρ->E.bk σ H
 ct:∀M H n ρ σ,Rel K C M H n ρ σ->D2.ct n ρ->E.ct σ H
def DS(X:Cx)(κ:Kd)(st:dE)(w:Aj):Prop:=∃t,PS X st t/\∀(C:Fm) (M:Ch->Prop) (H:Hp) (n:Nat) (ρ:List Slot) (σ:L2.St) (D2:E2) (E:Ends),Rel X.K C M H n ρ σ->HG X.K C κ D2 E->w D2 n ρ->t E σ H
def QR(X:Cx)(κ:Kd)(st:List dE)(w:Aj):Prop:=∃t,PSs X st t/\∀(C:Fm) (M:Ch->Prop) (H:Hp) (n:Nat) (ρ:List Slot) (σ:L2.St) (D2:E2) (E:Ends),Rel X.K C M H n ρ σ->HG X.K C κ D2 E->w D2 n ρ->t E σ H
def Av:Aj:=λD2 n ρ=>D2.nx n ρ
def Ac(u v:Aj):Aj:=λD2 n ρ=>u { D2 with nx:=v D2 } n ρ
def Au(w:DW):Aj:=λD2 n ρ=>w n ρ λd n1=>D2.rt d n1
def BG(t:HI)(u v:Aj):Aj:=λD2 n ρ=>t n ρ λc n1=>if c=true then u D2 n1 ρ else v D2 n1 ρ
def Az(i:Nat)(w:DW):Aj:=λD2 n ρ=>w n ρ λd n1=>D2.nx n1 (ρ.set i (.sh d))
section
variable {X:Cx}{κ zT:Kd}{st:Stmt}{rest:List Stmt}{u v:Aj}{wa:DW}{wA:HI}{e c:Expr}{pos:Pos}
theorem Al:QR X κ [] Av:=⟨_,MV,λC M H n ρ σ D2 E R L w=>L.nx M H n ρ σ R w⟩
theorem AG(h1:DS X κ st u)(h2:QR X κ rest v):QR X κ (st::rest) (Ac u v):=by
 obtain⟨t,a1,a2⟩:=h1;obtain⟨t',b1,b2⟩:=h2;exact⟨_,BL a1 b1,λC M H n ρ σ D2 E R L w=>a2 C M H n ρ σ { D2 with nx:=v D2 } _ R ⟨λM H n ρ σ R w=>b2 C M H n ρ σ D2 E R L w,L.rt,L.bk,L.ct⟩ w⟩
theorem AJ(h1:DS X κ st u):QR X κ [st] u:=by
 obtain⟨t,a1,a2⟩:=h1;exact⟨t,Cb a1,a2⟩
theorem X4{K:Frag}{C:Fm}{M:Ch->Prop}{H H':Hp}{n n':Nat}{ρ:List Slot}{σ:L2.St}{D2:E2}{E:Ends}{d:D}{v:V}(R:Rel K C M H n ρ σ)(L:HG K C κ D2 E)(e:Ext C.U H H')(f:FeedC K C.F M H' n')(r:VR K C.V M H H' κ v d)(c:κ≠.tp)(p:D2.rt d n'):E.rt v H':=by
 have less:Pres M H' _ H':=Pres.less R.sub;refine L.rt v H' d n' (R.ext.trans e) (f.pres less λ_ _ _ z=>z) ?_ p;cases κ with
 | sh=>exact At.pres less r
 | tp=>grind
 | fr =>
  obtain⟨a,e1,h1,h2⟩:=VR.back R.ext r;exact⟨a,e1,h1,h2.pres (Pres.less λb z=>z.imp (R.sub b) id) λ_ z=>z⟩
theorem Ab(h:DE X e κ wa)(a:κ≠.tp:=by intro z; cases z):DS X κ (.Return (some e) pos) (Au wa):=by
 obtain⟨t,a1,a2⟩:=h;exact⟨_,GV a1,λC M H n ρ σ D2 E R L w=>a2 C M H n ρ σ _ _ R w λv H' d n' e1 f1 r1 p=>X4 R L e1 f1 r1 a p⟩
theorem A9{a b:List dE}(d:DT X c wA)(ha:QR X κ a u)(e:QR X κ b v):DS X κ (.If c a b pos) (BG wA u v):=by
 obtain⟨t,a1,a2⟩:=d;obtain⟨t',b1,b2⟩:=ha;obtain⟨f,c1,c2⟩:=e;refine⟨_,Ql a1 b1 c1,λC M H n ρ σ D2 E R L w=>?_⟩;refine a2 C M H n ρ σ _ _ R w λb H1 n1 e1 f1 p=>?_;cases b with
 | true=>exact b2 C M H1 n1 ρ σ D2 E (R.step e1 f1) L p
 | false=>exact c2 C M H1 n1 ρ σ D2 E (R.step e1 f1) L p
theorem An{i:Nat}{x:Str}{a:Pos}(hN:X.N.Nodup)(hi:X.N[i]?=some x)(b:Loc X.env.scope x)(he:DE X e zT wa)(c:zT≠.tp:=by intro z; cases z)(f:swapsWith e (some (.Name x a)) pos.line X.env=pure false:=by rfl)
  (hf:X.fn x=true\/X.env.scope.names.lookup x=some .local:=by first | exact .inl rfl | exact .inr rfl | assumption):DS X κ (.Assign [.Name x a] e pos) (Az i wa):=by
 obtain⟨t,a1,a2⟩:=he;exact⟨_,FO hN hi b a1 f hf,λC M H n ρ σ D2 E R L w=>a2 C M H n ρ σ _ _ R w λv H' d n' e1 f1 r1 p=>L.nx M H' n' _ _ ((R.step e1 f1).set (r1.shOf R.dom c)) p⟩
end
section
variable {X:Cx}{κ:Kd}{e:Expr}{wa:DW}{pos:Pos}
def EI(i:Nat)(w:DW):Aj:=λD2 n ρ=>w n ρ λd n1=>D2.nx n1 (ρ.set i (.ow d))
theorem Dr{i:Nat}{x:Str}{b:Pos}(hN:X.N.Nodup)(hi:X.N[i]?=some x)(c:Loc X.env.scope x)(he:DE X e .fr wa)(f:swapsWith e (some (.Name x b)) pos.line X.env=pure false:=by rfl)
  (hf:X.fn x=true\/X.env.scope.names.lookup x=some .local:=by first | exact .inl rfl | exact .inr rfl | assumption):DS X κ (.Assign [.Name x b] e pos) (EI i wa):=by
 obtain⟨t,a1,a2⟩:=he;refine⟨_,FO hN hi c a1 f hf,λC M H n ρ σ D2 E R L w=>?_⟩;refine a2 C M H n ρ σ _ _ R w λv H' d n' e1 f1 r1 p=>?_;obtain⟨a,rfl,h1,h2⟩:=r1;exact L.nx _ H' n' _ _ (R.setOw e1 f1 h1 h2) p
def TD(i:Nat):Aj:=λD2 n ρ=>∃d,ρ[i]?=some (.ow d)/\D2.rt d n
theorem WN{x:Str}{p:Pos}(i:Nat)(h:PE X (.Name x p) (CH i)):DS X .fr (.Return (some (.Name x p)) pos) (TD i):=by
 refine⟨_,GV h,λC M H n ρ σ D2 E R L ⟨d,hd,hw⟩=>?_⟩;obtain⟨a,e1,m,nv,t⟩:=R.sl i _ hd;exact⟨_,getD_some e1,L.rt _ H d n R.ext (R.feed.pres (Pres.less R.sub) λ_ _ _ z=>z) ⟨a,rfl,(R.new i _ a hd rfl e1).2,t.pres (Pres.less λb z=>z.elim (R.sub b) λz=>by grind) λ_ z=>z⟩ hw⟩
def aY(K:Frag)(r:V->List V->Hp->VK->Prop)(f:D->List D->(D->D->Prop)->Prop):Prop:=∀(M:Ch->Prop) (H:Hp) (a:Ch) (d:D) (ds:List D) (vs:List V) (P:D->D->Prop) (Q:VK),M a->Tops K M H a d->Ats K M H ds vs->f d ds P ->
 (∀o e z v,Tops K M (A4 H a o) a e->At K M (A4 H a o) z v->P e z->Q v (A4 H a o))->r (.ref a) vs H Q
def TF(i:Nat)(T:String)(f:D->List D->(D->D->Prop)->Prop)(ws:Ef):Aj:=λD2 n ρ=>∃d,ρ[i]?=some (.ow d)/\au T d/\ws n ρ λds n1=>f d ds λe _=>D2.nx n1 (ρ.set i (.ow e))
theorem Fw{M:Ch->Prop}{H:Hp}{a:Ch}{o u:HO}(m:M a)(e:H a=some u)(t:∀vs,u≠.tup vs:=by intro _ z; cases z):Pres M H M (A4 H a o):=⟨λb o' q nb=>by rw [AQ (λz=>nb (by simp_all))]; exact q,λ_ z=>.inl z,λb vs q=>by rw [AQ (λz=>by grind)]; exact q⟩
theorem Om{x name:Str}{p apos b:Pos}{T id:String}{r:V->List V->Hp->VK->Prop}{f:D->List D->(D->D->Prop)->Prop}{es:List c_}{ws:Ef}(i:Nat)(pa:PlainAttrs T)(slot:PySem.Slot T name id)(q:typeOf (.builtin id)=pure (.type "method_descriptor"))
  (hm:a9 X id r) (hA:aY X.K r f) (h:PE X (.Name x p) (CH i)) (ha:Xf X (e::es) ws)
  (g:attributeBase (.Name x p) name X.env (eval (.Name x p) X.env)=eval (.Name x p) X.env:=by rfl)
  (k:((backTo b (starEach (e::es) X.env)).all (λx=>!x.1)&&(backToKw b (keywordEach [] X.env)).all (λx=>x.1.isSome)
   && decide ((e::es).length+([]:List gL).length+(if ([]:List gL).isEmpty then 0 else 1)<30))=true:=by rfl)
  (j:(apos.endLine==b.line)=true:=by rfl) (w:starEach (e::es) X.env=(false,eval e X.env)::starEach es X.env:=by rfl) (c:(backTo b (starEach es X.env)).any (·.1)=false:=by rfl)
  (s:swapsWith (.Call (.Attribute (.Name x p) name apos) (e::es) [] b) none pos.line X.env=pure false:=by rfl) :
  DS X κ (.Expr (.Call (.Attribute (.Name x p) name apos) (e::es) [] b) pos) (TF i T f ws):=by
 obtain⟨t,a1,a2⟩:=ha;refine⟨_,Qm (UT pa slot q hm h a1 g k j w c) s,λC M H n ρ σ D2 E R L ⟨d,hd,hT,hw⟩=>?_⟩;obtain⟨a,e1,m,nv,tt⟩:=R.sl i _ hd;refine⟨.ref a,getD_some e1,QA hT (tt.att nv),?_⟩;refine a2 C M H n ρ σ _ _ R hw λvs H1 ds n1 ee f1 r1 p=>?_;have R1:=R.step ee f1;obtain⟨a',l,m',y,u⟩:=R1.sl i _ hd;rw [e1] at l;cases l;exact hA M H1 a d ds vs _ _ m' u r1 p λo d' z v t2 A pp=>L.nx M _ n1 _ σ (R1.mut hd e1 t2) pp
def KH(d:D)(ds:List D)(P:D->D->Prop):Prop:=∃xs y,d=.lst xs/\ds=[y]/\xs.length<sizeLine/\P (.lst (xs++[y])) .non
theorem PC{K:Frag}:aY K Qg KH:=by
 intro M H a d ds vs P Q m t hv w q;obtain⟨xs,y,rfl,rfl,b,w⟩:=w;obtain⟨us,h1,h2⟩:=t;obtain⟨u,r,rfl,hu,hr⟩:=hv;cases (hr);exact⟨a,us,u,rfl,rfl,h1,by rw [h2.length]; exact b,q _ (.lst _) .non _ ⟨_,AX,(h2.append (Ats.one hu)).pres (Fw m h1)⟩ rfl w⟩
end
def Yields(K:Frag)(M:Ch->Prop)(H:Hp)(J:It)(ds:List D):Prop:=∀(i:Nat) (M':Ch->Prop) (H':Hp),Pres M H M' H'->(∀a,M' a->∃o,H' a=some o) ->
 (∀d,ds[i]?=some d->J.go i H'/\∀x H2,J.yld i H' x H2->Grow H' H2/\At K M' H2 d x)/\(ds.length<=i->J.stop i H')
def RO(K:Frag)(U M:Ch->Prop)(H:Hp)(J:It)(ds:List D):Prop:=∀(i:Nat) (M':Ch->Prop) (H':Hp),Pres M H M' H'->Ext U H H'->(∀a,M' a->∃o,H' a=some o) ->
 (∀d,ds[i]?=some d->J.go i H'/\∀x H2,J.yld i H' x H2->Grow H' H2/\At K M' H2 d x)/\(ds.length<=i->J.stop i H')
theorem Yields.e{K:Frag}{U M:Ch->Prop}{H:Hp}{J:It}{ds:List D}(h:Yields K M H J ds):RO K U M H J ds:=λi M' H' p _ d=>h i M' H' p d
def Xd(X:Cx)(tg iter:c_)(w:Ef):Prop:=∃wi,PI X tg iter wi/\∀(C:Fm) (M:Ch->Prop) (H:Hp) (n:Nat) (ρ:List Slot) (σ:L2.St) (P:List D->Nat->Prop) (R:It->Hp->Prop),Rel X.K C M H n ρ σ->w n ρ P ->
 (∀J H' ds n',Ext C.U H H'->FeedC X.K C.F M H' n'->RO X.K C.U M H' J ds->P ds n'->R J H')->wi σ H R
def DI(X:Cx)(tg iter:c_)(w:Ef):Prop:=∃wi,PI X tg iter wi/\∀(C:Fm) (M:Ch->Prop) (H:Hp) (n:Nat) (ρ:List Slot) (σ:L2.St) (P:List D->Nat->Prop) (R:It->Hp->Prop),Rel X.K C M H n ρ σ->w n ρ P ->
 (∀J H' ds n',Ext C.U H H'->FeedC X.K C.F M H' n'->Yields X.K M H' J ds->P ds n'->R J H')->wi σ H R
def signs(x:Str):List D:=x.cps.toList.map λc=>.str ⟨#[c]⟩
def BI(w:DW):Ef:=λn ρ P=>w n ρ λd n1=>match d with
 | .lst ds=>P ds n1
 | .tup ds=>P ds n1
 | .str x=>P (signs x) n1
 | _=>False
theorem NY{K:Frag}{M:Ch->Prop}{H:Hp}{a:Ch}{vs:List V}{ds:List D}(h:NdL M H a vs)(b:Ats K M H ds vs):Yields K M H (bw K a) ds:=by
 intro i M' H' p _;have hq:SqL K H' a vs:=(h.pres p).sq;refine⟨λd hd=>?_,λc=>⟨vs,hq,by rw [b.length]; exact c⟩⟩;obtain⟨v,e,hv⟩:=(b.pres p).get hd;refine⟨⟨vs,v,hq,e⟩,λx H2 y=>?_⟩;obtain⟨e2,y⟩:=y;subst e2
 have:=e.symm.trans (y vs hq)
 cases this;exact⟨.refl,hv⟩
theorem JL{K:Frag}{M:Ch->Prop}{H:Hp}{a:Ch}{vs:List V}{ds:List D}(h:NdT M H a vs)(b:Ats K M H ds vs):Yields K M H (Y_ K a) ds:=by
 intro i M' H' p _;have hq:SqT K H' a vs:=(h.pres p).sq;refine⟨λd hd=>?_,λc=>⟨vs,hq,by rw [b.length]; exact c⟩⟩;obtain⟨v,e,hv⟩:=(b.pres p).get hd;refine⟨⟨vs,v,hq,e⟩,λx H2 y=>?_⟩;obtain⟨e2,y⟩:=y;subst e2
 have:=e.symm.trans (y vs hq)
 cases this;exact⟨.refl,hv⟩
theorem yields_str{K:Frag}{M:Ch->Prop}{H:Hp}{z:Str}:Yields K M H (bv z) (signs z):=by
 intro i M' H' p _;refine⟨λd hd=>?_,λb=>?_⟩
 ·unfold signs at hd
  rw [dR] at hd
  have hi:i<z.cps.size:=by
   cases q:z.cps.toList[i]? with
   | none=>simp_all
   | some c=>simpa using (cr.mp q).1
  refine⟨hi,λx H2 y=>?_⟩;obtain⟨e2,c,e,rfl⟩:=y;subst e2
  have:z.cps.toList[i]?=some c:=by grind
  rw [this] at hd;have a:D.str ⟨#[c]⟩=d:=cv hd;subst a;exact⟨.refl,rfl,by rw [di]; show 1<=16777216; decide⟩
 ·show z.cps.size<=i
  unfold signs at b
  simp_all
def Cu(lo:Int)(n:Nat):List D:=(dD n).map fun(i:Nat)=>.int (lo+(i:Int))
theorem Gj{K:Frag}{M:Ch->Prop}{H:Hp}{lo:Int}{m:Nat}:Yields K M H (ac lo m) (Cu lo m):=by
 intro i M' H' p _;refine⟨λd hd=>?_,λb=>?_⟩
 ·unfold Cu at hd
  rw [dR] at hd
  have hi:=by
   cases q:(dD m)[i]? with
   | none=>simp_all
   | some c=>simpa using (cr.mp q).1
  rw [List.getElem?_range hi] at hd;have a:=cv hd;subst a;refine⟨hi,λx H2 y=>?_⟩;obtain⟨e2,e3⟩:=y;subst e2;exact⟨.refl,e3⟩
 ·show m<=i
  unfold Cu at b
  simp_all
section
variable {X:Cx}{tg e e2:Expr}{κ:Kd}{wa:DW}{ws:Ef}{p pos:Pos}
theorem QF(h:DE X e κ wa)(c:κ≠.tp:=by intro z; cases z):DI X tg e (BI wa):=by
 obtain⟨t,a1,a2⟩:=h;refine⟨_,Pq a1,λC M H n ρ σ P Rr R w q=>?_⟩;refine a2 C M H n ρ σ _ _ R w λv H1 d n1 e1 f1 r1 p=>?_;have hv:=r1.shOf R.dom c;cases d with
 | lst ds =>
  obtain⟨a,vs,e,hn,b⟩:=hv;exact .inl ⟨a,e,⟨vs,hn.sq⟩,q _ H1 ds n1 e1 f1 (NY hn b) p⟩
 | tup ds =>
  obtain⟨a,vs,e,hn,b⟩:=hv;exact .inr (.inl ⟨a,e,⟨vs,hn.sq⟩,q _ H1 ds n1 e1 f1 (JL hn b) p⟩)
 | str z=>exact .inr (.inr ⟨z,hv.1,q _ H1 _ n1 e1 f1 yields_str p⟩)
 | _=>exact p.elim
def EJ(ws:Ef):Ef:=λn ρ P=>ws n ρ λds n1=>∃j:Int,ds=[.int j]/\(-(2 ^ 62)<=j/\j<2 ^ 62)/\P (Cu 0 j.toNat) n1
theorem CU(hg:Gl X "range")(hm:X.mg "range"=none)(ha:Wm X [e] ws)(a:starEach [e] X.env=[(false,eval e X.env)]:=by rfl):DI X tg (.Call (.Name "range" p) [e] [] pos) (EJ ws):=by
 obtain⟨t,a1,a2⟩:=ha;refine⟨_,R0 hg hm a1 a,λC M H n ρ σ P Rr R w q=>?_⟩;refine a2 C M H n ρ σ _ _ R w λvs H1 ds n1 e1 f1 r1 p=>?_;obtain⟨j,rfl,hj,p⟩:=p;cases r1 with
 | cons r rr =>
  cases rr;exact⟨j,by rw [r],hj.1,hj.2,q _ H1 _ n1 e1 f1 Gj p⟩
theorem DI.c(h:DI X tg e ws):Xd X tg e ws:=by
 obtain⟨wi,a1,a2⟩:=h;exact⟨wi,a1,λC M H n ρ σ P Rr R w q=>a2 C M H n ρ σ P Rr R w λJ H' ds n' e1 f1 y p=>q J H' ds n' e1 f1 y.e p⟩
theorem BS(h:DE X e κ wa):Xd X tg e (BI wa):=by
 obtain⟨t,a1,a2⟩:=h;refine⟨_,Pq a1,λC M H n ρ σ P Rr R w q=>?_⟩;refine a2 C M H n ρ σ _ _ R w λv H1 d n1 e1 f1 r1 p=>?_;have hv:AtT X.K C.V M H1 d v:=r1.tpOf R.dom R.vM;cases d with
 | lst ds =>
  obtain⟨a,vs,e,nv,hr,b⟩:=hv;refine .inl ⟨a,e,⟨vs,.inl hr⟩,q _ H1 ds n1 e1 f1 (λi M' H' pr ex _=>?_) p⟩
  have hq:SqL X.K H' a vs:=by
   rcases hr with hr | ⟨o,hr⟩
   ·exact .inl (.inl (ex.keep hr λz=>nv (R.uV a z)))
   ·exact .inl (.inr ⟨o,ex.keep hr λz=>nv (R.uV a z)⟩)
  refine⟨λd hd=>?_,λc=>⟨vs,hq,by rw [b.length]; exact c⟩⟩;obtain⟨v,e,hv⟩:=(b.pres pr).get hd;refine⟨⟨vs,v,hq,e⟩,λx H2 y=>?_⟩;obtain⟨e2,y⟩:=y;subst e2
  have:some v=some x:=e.symm.trans (y vs hq)
  cases this;exact⟨.refl,hv⟩
 | tup ds =>
  obtain⟨a,vs,e,hn,b⟩:=hv;exact .inr (.inl ⟨a,e,⟨vs,hn.sq⟩,q _ H1 ds n1 e1 f1 (JL hn b).e p⟩)
 | str z=>exact .inr (.inr ⟨z,hv.1,q _ H1 _ n1 e1 f1 yields_str.e p⟩)
 | _=>exact p.elim
end
abbrev BW:=D->List Slot->(List Slot->Prop)->Prop
def DG(X:Cx)(tg:c_)(b:BW):Prop:=∃g,PG X tg g/\∀(C:Fm) (M:Ch->Prop) (H:Hp) (n:Nat) (ρ:List Slot) (σ:L2.St) (d:D) (v:V) (P:List Slot->Prop) (Q:L2.St->Hp->Prop),Rel X.K C M H n ρ σ->At X.K M H d v->b d ρ P ->
 (∀zY zZ,Rel X.K C M H n zY zZ->P zY->Q zZ H)->g v σ H Q
def Af(i:Nat):BW:=λd ρ P=>P (ρ.set i (.sh d))
theorem Ah{X:Cx}{i:Nat}{x:Str}{pos:Pos}(hN:X.N.Nodup)(hi:X.N[i]?=some x)(a:Loc X.env.scope x)(hf:X.fn x=true\/X.env.scope.names.lookup x=some .local:=by first | exact .inl rfl | exact .inr rfl | assumption):DG X (.Name x pos) (Af i) :=
 ⟨_,Gx hN hi a hf,λC M H n ρ σ d v P Q R h w q=>q _ _ (R.set h) w⟩
def Bm(b:BW)(body:Aj)(D2:E2):List D->Nat->List Slot->Prop
 | [],n,ρ=>D2.nx n ρ
 | d::ds,n,ρ=>b d ρ λzU=>body { D2 with nx:=Bm b body D2 ds,ct:=Bm b body D2 ds,bk:=D2.nx } n zU
def E6(src:Ef)(b:BW)(body:Aj):Aj:=λD2 n ρ=>src n ρ λds n1=>Bm b body D2 ds n1 ρ
theorem Rel.unpin{K:Frag}{C:Fm}{p:(Ch->Prop)×Hp}{M:Ch->Prop}{H:Hp}{n:Nat}{ρ:List Slot}{σ:L2.St}(R:Rel K { C with zG:=p::C.zG } M H n ρ σ):Rel K C M H n ρ σ :=
 ⟨R.len,R.sub,R.dom,R.ext,R.fU,R.uV,R.vM,R.feed,R.sl,λq hq=>R.pin q (Re _ hq),R.br0,R.new,R.two,R.kept⟩
theorem Rel.pinned{K:Frag}{C:Fm}{M:Ch->Prop}{H:Hp}{n:Nat}{ρ:List Slot}{σ:L2.St}(R:Rel K C M H n ρ σ):Rel K { C with zG:=(M,H)::C.zG } M H n ρ σ :=
 ⟨R.len,R.sub,R.dom,R.ext,R.fU,R.uV,R.vM,R.feed,R.sl,λq hq=>(T0.mp hq).elim (λe=>e▸Pres.refl M H) (R.pin q),R.br0,R.new,R.two,R.kept⟩
section
variable {X:Cx}{κ:Kd}{tg iter:Expr}{body:List Stmt}{src:Ef}{b:BW}{wb:Aj}{pos:Pos}
theorem DX(hp:iA (model X.prog X.w) X.A X.env X.xe)(c:X.calm=true)(hi:DI X tg iter src)(hg:DG X tg b)(d:QR X κ body wb)
  (f:∀x,foldedSetIterable iter X.env x=pure x:=by intro _; rfl):DS X κ (.For tg iter body [] pos) (E6 src b wb):=by
 obtain⟨wi,a1,a2⟩:=hi;obtain⟨g,g1,g2⟩:=hg;obtain⟨tb,b1,b2⟩:=d;refine⟨_,Jh hp c a1 g1 b1 f,λC M H n ρ σ D2 E R L w=>?_⟩;refine a2 C M H n ρ σ _ _ R w λJ H1 ds n1 e1 f1 y w1=>?_;have R1:=R.step e1 f1;refine⟨λi m zZ H'=>m=ds.length - i/\i<=ds.length/\∃M' n' zY,Rel X.K { C with zG:=(M,H1)::C.zG } M' H' n' zY zZ/\Bm b wb D2 (ds.drop i) n' zY,⟨ds.length,by simp,TM _,M,n1,ρ,R1.pinned,w1⟩,?_⟩;rintro i m zZ H' ⟨rfl,hi,M',n',zY,R',w'⟩;have pr:Pres M H1 M' H':=R'.pin (M,H1) Op
 by_cases a:i<ds.length
 ·have ed:ds.drop i=ds[i]::ds.drop (i+1):=eI a
  rw [ed] at w';obtain⟨go,yl⟩:=(y i M' H' pr R'.dom).1 ds[i] (No a);refine .inr ⟨go,λzO H2=>∃M2 n2 zN,Rel X.K { C with zG:=(M,H1)::C.zG } M2 H2 n2 zN zO/\Bm b wb D2 (ds.drop (i+1)) n2 zN,λzO H2 ⟨M2,n2,zN,R2',w2⟩=>⟨ds.length - (i+1),by omega,rfl,a,M2,n2,zN,R2',w2⟩,λx H2 hy=>?_⟩;obtain⟨gr,h⟩:=yl x H2 hy;have R2':=R'.step gr.ext (R'.feed.grow gr);refine g2 _ M' H2 n' zY zZ ds[i] x _ _ R2' h w' λzP zV R3 w3=>?_;refine b2 _ M' H2 n' zP zV { D2 with nx:=Bm b wb D2 (ds.drop (i+1)),ct:=Bm b wb D2 (ds.drop (i+1)),bk:=D2.nx } _ R3 ⟨λM4 H4 n4 zS zQ R4 w4=>⟨M4,n4,zS,R4,w4⟩,L.rt,λM4 H4 n4 zS zQ R4 w4=>L.nx M4 H4 n4 zS zQ R4.unpin w4,λM4 H4 n4 zS zQ R4 w4=>⟨M4,n4,zS,R4,w4⟩⟩ w3
 ·have e:i=ds.length:=by omega
  subst e;rw [fz] at w';exact .inl ⟨(y _ M' H' pr R'.dom).2 (On _),L.nx M' H' n' zY zZ R'.unpin w'⟩
end
def Ci(b:BW)(tt:HI)(te:DW)(P:List D->Nat->Prop):List D->List D->Nat->List Slot->Prop
 | [],a,n,_=>P a n
 | d::ds,a,n,ρ=>b d ρ λzU=>tt n zU λc n1=>if c=true then te n1 zU λy n2=>Ci b tt te P ds (a++[y]) n2 zU else Ci b tt te P ds a n1 zU
def Ui:Slot->Slot
 | .ow d=>.br d
 | .lt _ d=>.br d
 | s=>s
theorem SM(s:Slot):(Ui s).owns=false:=by cases s <;> rfl
theorem Er{js:List (Option Nat)}{ρ:List Slot}{i:Nat}{s:Slot}(h:(js.map λo=>match o with | some i=>Ui ((ρ[i]?).getD .no) | none=>Slot.no)[i]?=some s):s.owns=false:=by
 rw [dR] at h;cases q:js[i]? with
 | none=>grind
 | some o =>
  rw [q] at h;cases o with
  | none =>
   rw [← cv h]; rfl
  | some j =>
   rw [← cv h]; exact SM _
def G2(js:List (Option Nat))(ρ:List Slot):List Slot:=js.map λo=>match o with
 | some i=>Ui ((ρ[i]?).getD .no)
 | none=>.no
def BR(js:List (Option Nat))(src:Ef)(b:BW)(tt:HI)(te:DW):DW:=λn ρ P=>src n ρ λds n1=>ds.length<=10000000/\Ci b tt te (λa n2=>P (.lst a) n2) ds [] n1 (G2 js ρ)
def ZG(X:Cx)(ifs:List c_)(w:HI):Prop:=∃t,aV X ifs t/\∀(C:Fm) (M:Ch->Prop) (H:Hp) (n:Nat) (ρ:List Slot) (σ:L2.St) (P:Bool->Nat->Prop) (Q:Bool->Hp->Prop),Rel X.K C M H n ρ σ->w n ρ P ->
 (∀b H' n',Ext C.U H H'->FeedC X.K C.F M H' n'->P b n'->Q b H')->t σ H Q
def CW:HI:=λn _ P=>P true n
theorem Bh{X:Cx}:ZG X [] CW:=⟨_,Vo,λC M H n ρ σ P Q R w q=>q _ H n (Ext.refl _ _) R.feed w⟩
theorem Dt{X:Cx}{c:c_}{w:HI}(h:DT X c w):ZG X [c] w:=by
 obtain⟨t,h1,h2⟩:=h;exact⟨t,Vn h1,h2⟩
theorem Lb{js:List (Option Nat)}{ρ:List Slot}{σ:L2.St}{i:Nat}{s:Slot}(a:(G2 js ρ)[i]?=some s):s=.no\/∃(j:Nat) (s':Slot),ρ[j]?=some s'/\s=Ui s'/\((Co js σ)[i]?).getD none=(σ[j]?).getD none:=by
 unfold G2 at a;unfold Co;rw [dR] at a ⊢;cases q:js[i]? with
 | none=>simp_all
 | some o =>
  rw [q] at a;cases o with
  | none=>simp_all
  | some j =>
   have e:Ui _=s:=cv a;cases q2:ρ[j]? with
   | none=>rw [q2] at e; exact .inl e.symm
   | some s' =>
    rw [q2] at e;exact .inr ⟨j,s',q2,e.symm,rfl⟩
theorem OR{K:Frag}{F:Option (Ch×Ch)}{U U' M M':Ch->Prop}{H H':Hp}{js:List (Option Nat)}{ρ:List Slot}{σ:L2.St}(b:∀(i:Nat) (s:Slot),ρ[i]?=some s->SlotOk K F U M H s ((σ[i]?).getD none))
  (pr:Pres M H M' H') (br:∀d v,AtT K U M H d v->AtT K U' M' H' d v):∀(i:Nat) (s:Slot),(G2 js ρ)[i]?=some s->SlotOk K F U' M' H' s (((Co js σ)[i]?).getD none):=by
 intro i s c
 rcases Lb c with rfl | ⟨j,s',q,rfl,e⟩
 ·trivial
 ·rw [e]
  have h1:=b j s' q;cases s' with
  | no=>trivial
  | sh d=>obtain⟨v,e1,h2⟩:=h1; exact⟨v,e1,h2.pres pr⟩
  | ex a nm ks ds=>obtain⟨e1,h2⟩:=h1; exact⟨e1,h2.pres pr⟩
  | br d=>obtain⟨v,e1,h2⟩:=h1; exact⟨v,e1,br d v h2⟩
  | fd=>exact h1
  | ow d=>obtain⟨a,e1,_,nv,t⟩:=h1; exact⟨_,e1,br d _ (t.att nv)⟩
  | lt a d=>obtain⟨e1,_,nv,t⟩:=h1; exact⟨_,e1,br d _ (t.att nv)⟩
theorem Qw{K:Frag}{F:Option (Ch×Ch)}{U M:Ch->Prop}{H:Hp}{js:List (Option Nat)}{ρ:List Slot}{σ:L2.St}(c:∀(i:Nat) (s:Slot),ρ[i]?=some s->SlotOk K F U M H s ((σ[i]?).getD none)){i:Nat}{d:D}{a:Ch}
  (f:(G2 js ρ)[i]?=some (.br d)) (ha:((Co js σ)[i]?).getD none=some (.ref a)):∃o,H a=some o:=by
 rcases Lb f with z | ⟨j,s',q,z,e⟩
 ·cases z
 ·rw [e] at ha
  have h1:=c j s' q;rw [ha] at h1;cases s' with
  | br d=>obtain⟨v,e1,h2⟩:=h1; cases e1; exact h2.lies
  | ow d=>obtain⟨b,e1,_,nv,t⟩:=h1; cases e1; exact(t.att nv).lies
  | lt b d=>obtain⟨e1,_,nv,t⟩:=h1; cases e1; exact(t.att nv).lies
  | no=>cases z
  | sh d=>cases z
  | ex a nm ks ds=>cases z
  | fd=>cases z
section
variable {X:Cx}{zT:Kd}{tg elt iter:Expr}{ifs:List Expr}{sc:Scope}{pos:Pos}{src:Ef}{b:BW}{tt:HI}{te:DW}
theorem Wc(T:X.calm=true)(N':List Str)(js:List (Option Nat))(hi:Xd X tg iter src)(hg:∀cl C s H fp,DG (A3 X sc N' cl C s H fp) tg b)(ht:∀cl C s H fp,ZG (A3 X sc N' cl C s H fp) ifs tt)(he:∀cl C s H fp,DE (A3 X sc N' cl C s H fp) elt zT te)
  (hB:G9 sc X.env.scope X.N N' js=true) (W:zT≠.tp:=by intro z; cases z)
  (D:∀x,foldedSetIterable iter X.env x=pure x:=by intro _; rfl):DE X (.ListComp elt [⟨tg,iter,ifs,0⟩] sc pos) .fr (BR js src b tt te):=by
 obtain⟨wi,a1,a2⟩:=hi;refine⟨_,Vt T N' js a1 hB D,λC M H n ρ σ P Q R w q=>?_⟩;refine a2 C M H n ρ σ _ _ R w λJ H1 ds n1 e1 f1 y w1=>?_;obtain⟨L,w1⟩:=w1;have R1:=R.step e1 f1;intro l B Y cl Ca s0 H0 fp;obtain⟨g,g1,g2⟩:=hg cl Ca s0 H0 fp;obtain⟨tc,c1,c2⟩:=ht cl Ca s0 H0 fp;obtain⟨tx,x1,x2⟩:=he cl Ca s0 H0 fp
 have noU:¬C.U l:=λz=>by
  obtain⟨o,z⟩:=R1.udom l z;rw [B] at z; cases z
 generalize hM':(λb=>M b\/b=l)=M';have M'l:M' l:=by rw [← hM']; exact .inr rfl
 have M'of:∀b,M b->M' b:=λb z=>by rw [← hM']; exact .inl z
 have ofM':∀b,M' b->M b\/b=l:=λb z=>by rw [← hM'] at z; exact z
 have inV:∀b,C.V b\/b=l->M' b:=λb z=>z.elim (λz=>M'of b (R1.vM b z)) λz=>by rw [z]; exact M'l
 have O:js.length=N'.length:=Fb (CompOk.of hB).cap
 refine⟨g,tc,tx,λi m zZ H'=>m=ds.length - i/\i<=ds.length/\∃n' zY k vs,Rel X.K ⟨M',C.F,C.U,λb=>C.V b\/b=l,H1,[],[]⟩ M' H' n' zY zZ/\H' l=some (.lst vs)/\Ats X.K M' H' k vs/\k.length<=i/\Pres M H1 M' H' /\
   Ci b tt te (λk n2=>P (.lst k) n2) (ds.drop i) k n' zY,g1,c1,x1,⟨ds.length,by simp,TM _,n1,G2 js ρ,[],[],?_⟩,?_⟩
 ·have gr:Grow H1 (A4 H1 l (.lst [])):=A1 B
  have pr:Pres M H1 M' (A4 H1 l (.lst [])):=⟨λb o e _=>gr.all b o e,λb z=>(ofM' b z).elim .inl λz=>.inr (by rw [z]; exact B),λb vs e=>gr.all b _ e⟩;refine⟨⟨?_,λa z=>z,λa z=>?_,gr.ext,R1.fU,λa z=>.inl (R1.uV a z),inV,f1.pres pr λf o _ e=>gr.all f.1 o e,?_,λp hp=>absurd hp (by simp),λi d a q z=>Qw R1.sl q z,λi s a q o _=>absurd o (by rw [Er q]; decide),λi j s t a q o _ _ _ _=>absurd o (by rw [Er q]; decide),λp hp=>absurd hp (by simp)⟩,AX,rfl,TM _,pr,w1⟩
  ·unfold G2 Co
   rw [Go,Go]
  ·rcases ofM' a z with z | z
   ·obtain⟨o,z⟩:=R1.dom a z
    exact⟨o,gr.all a o z⟩
   ·subst z
    exact⟨_,AX⟩
  ·refine OR R1.sl pr λd v h=>h.same pr (λa o _ e=>gr.all a o e) λa e n1 z=>z.elim n1 λz=>?_
   subst e;obtain⟨o,w⟩:=h.lies;rw [z,B] at w;cases w
 ·rintro i m zZ H' ⟨rfl,hi,n',zY,k,vs,R',E,u,G,pr,w'⟩
  by_cases A:i<ds.length
  ·have ed:ds.drop i=ds[i]::ds.drop (i+1):=eI A
   rw [ed] at w';obtain⟨go,yl⟩:=(y i M' H' pr R'.ext R'.dom).1 ds[i] (No A);refine .inr ⟨go,λx H2 hy=>?_⟩;obtain⟨gr,Z⟩:=yl x H2 hy;have R2':=R'.step gr.ext (R'.feed.grow gr);refine g2 _ M' H2 n' zY zZ ds[i] x _ _ R2' Z w' λzP zV R3 w3=>?_;refine c2 _ M' H2 n' zP zV _ _ R3 w3 λc H4 n4 e4 f4 w4=>?_;have R4:=R3.step e4 f4;have p4:Pres M' H' M' H4:=gr.pres.trans (R3.pres e4);have l4:H4 l=some (.lst vs):=e4.keep (gr.all _ _ E) noU;cases c with
   | false=>exact⟨ds.length - (i+1),by omega,rfl,A,n4,zP,k,vs,R4,l4,u.pres p4,by omega,pr.trans p4,w4⟩
   | true =>
    refine x2 _ M' H4 n4 zP zV _ _ R4 w4 λyv H5 d5 n5 e5 f5 r5 w5=>?_;have R5:=R4.step e5 f5;have p5:Pres M' H4 M' H5:=R4.pres e5;have l5:H5 l=some (.lst vs):=e5.keep l4 noU;have I:=r5.shOf R4.dom W;have a5:=(u.pres p4).pres p5;have pu:Pres M' H5 M' (A4 H5 l (.lst (vs++[yv]))):=Fw M'l l5;have a0:vs.length=k.length:=u.length;refine⟨vs,l5,by rw [di]; omega,ds.length - (i+1),by omega,rfl,A,n5,zP,k++[d5],vs++[yv],?_,AX,(a5.append (Ats.one I)).pres pu,by rw [XV,dB]; omega,(pr.trans p4).trans (p5.trans pu),w5⟩;refine⟨R5.len,R5.sub,λa z=>?_,λb o e=>?_,R5.fU,R5.uV,R5.vM,?_,λj s D=>?_,λp hp=>absurd hp (by simp),R5.br0,R5.new,R5.two,λp hp=>absurd hp (by simp)⟩
    ·by_cases ha:a=l
     ·subst ha; exact⟨_,AX⟩
     ·rw [AQ ha]; exact R5.dom a z
    ·obtain⟨o',q1,q2⟩:=R5.ext b o e
     by_cases S:b=l
     ·subst S
      have e':H1 b=some o:=e;rw [B] at e'; cases e'
     ·exact⟨o',by rw [AQ S]; exact q1,q2⟩
    ·refine f5.pres pu λf o hf e=>?_
     rw [AQ (λz=>noU (by rw [← z]; exact R1.fU f hf))];exact e
    ·have r:=R5.sl j s D
     cases s with
     | no=>trivial
     | sh d=>obtain⟨v,e1,h2⟩:=r; exact⟨v,e1,h2.pres pu⟩
     | ex a nm ks ds=>obtain⟨e1,h2⟩:=r; exact⟨e1,h2.pres pu⟩
     | br d =>
      obtain⟨v,e1,h2⟩:=r;refine⟨v,e1,h2.same pu (λa o z e=>?_) λ_ _ z=>z⟩;subst z;obtain⟨o3,w⟩:=R5.br0 j d a D e1
      have G:a≠l:=λz=>by
       have w':H1 a=some o3:=w;rw [z,B] at w'; cases w'
      rw [AQ G]; exact e
     | ow d =>
      obtain⟨a,e1,h2,_⟩:=r;exact absurd h2 (R5.new j _ a D rfl e1).1
     | lt a d =>
      obtain⟨e1,h2,_⟩:=r;exact absurd h2 (R5.new j _ a D rfl e1).1
     | fd=>exact r
  ·have e:i=ds.length:=by omega
   subst e;rw [fz] at w';refine .inl ⟨(y _ M' H' pr R'.ext R'.dom).2 (On _),?_⟩;have eb:Ext C.U H1 H':=R'.ext;have less:Pres M' H' M H':=Pres.less M'of;refine q _ H' (.lst k) n' (e1.trans eb) (R'.feed.pres less λ_ _ _ z=>z) (VR.back e1 ?_) w';exact⟨l,rfl,B,vs,E,by rw [hM']; exact u⟩
end
theorem HU{K:Frag}{F:Option (Ch×Ch)}{U V' M:Ch->Prop}{H:Hp}{n:Nat}{ss:List Slot}{vs:List V}{N:List Str}(h:Y5 K F U V' M H n ss vs)(f:vs.length<=N.length) :
  Rel K ⟨M,F,U,V',H,[],[]⟩ M H n (ss++Uf (N.length - ss.length) .no) (L2.start N vs):=by
 obtain⟨c,fU,uV,vM,fd,pa⟩:=h;have el:vs.length=ss.length:=Paired.length pa
 have go:∀{vs:List V} {ss:List Slot} {i:Nat} {s:Slot},Paired (L8 K F V' M H) vs ss->ss[i]?=some s->∃v,vs[i]?=some v/\L8 K F V' M H v s:=by
  intro vs ss i s pa
  induction pa generalizing i with
  | nil=>intro e; simp at e
  | cons r t ih =>
   intro e;cases i with
   | zero=>simp at e; subst e; exact⟨_,rfl,r⟩
   | succ i =>
    obtain⟨v,e1,h1⟩:=ih (i:=i) (by simpa using e);exact⟨v,by simpa using e1,h1⟩
 have at_:∀(i:Nat) (s:Slot),(ss++Uf (N.length - ss.length) Slot.no)[i]?=some s->s=.no\/∃v,((L2.start N vs)[i]?).getD none=some v/\L8 K F V' M H v s:=by
  intro i s b
  by_cases hi:i<ss.length
  ·rw [fk hi] at b
   obtain⟨v,e1,h1⟩:=go pa b;refine .inr ⟨v,?_,h1⟩;unfold L2.start;rw [fk (by rw [Go,el]; exact hi),dR,e1];rfl
  ·rw [eB (by omega),gs] at b
   split at b
   ·exact .inl (cv b).symm
   ·cases b
 refine⟨?_,λa z=>z,c,Ext.refl _ _,fU,uV,vM,fd,λi s b=>?_,λp hp=>absurd hp (by simp),λi d a b ha=>?_,λi s a b o _=>?_,λi j s t a b o _ _ _ _=>?_,λp hp=>absurd hp (by simp)⟩
 ·unfold L2.start
  simp only [XV,Go,jf];omega
 ·rcases at_ i s b with rfl | ⟨v,e,h⟩
  ·trivial
  ·rw [e]; exact h.1
 ·rcases at_ i _ b with z | ⟨v,e,h⟩
  ·cases z
  ·rw [e] at ha
   cases ha;obtain⟨v,e1,h1⟩:=h.1;cases e1;exact h1.lies
 ·rcases at_ i s b with rfl | ⟨v,e,h⟩
  ·cases o
  ·rw [h.2] at o; cases o
 ·rcases at_ i s b with rfl | ⟨v,e,h⟩
  ·cases o
  ·rw [h.2] at o; cases o
theorem be{P:cz}{w:dC}{K:Frag}{mg:Str->Option Cn}{base:cw}{x qual:Str}{st:dE}{f:Ch}{fd:dU}{N ps:List Str}{k:Nat}{κ:Kd}{W:W2}{wb:Aj}(F:Fun K x qual st f fd)(S:Ai N ps (AH st))(hNp:ps.length<=N.length)
  (b:∀(a:Cn) (A:dL) (outer:List Env) (s:FM) (H:Hp) (E:XK),Room k (A.deeper (envOfC qual (AH st) s.heap.objs.size f a))->QR (EX CL P w K mg base N qual (AH st) f a A outer s H E).nox κ (BX st) wb)
  (hW:∀ss n Pd,ss.length=ps.length->W ss n Pd->wb { nx:=λn _=>κ=.sh/\Pd .non n,rt:=Pd } n (ss++Uf (N.length - ps.length) .no)) :
  BD P w K mg base CL (k+1) f fd ps (Di K κ W ps.length):=by
 refine F.ok S (λvs H Q E h=>h.1) (λa A outer s H vs Q E hr h=>?_);obtain⟨e,F0,U,V',M,n,ss,Pd,ra,hw,q⟩:=h;obtain⟨t,t1,t2⟩:=b a A outer s H E hr;refine⟨t,t1,?_⟩;have el:vs.length=ss.length:=Paired.length ra.2.2.2.2.2;have R:=HU (N:=N) ra (by omega);refine t2 ⟨M,F0,U,V',H,[],[]⟩ M H n _ _ { nx:=λn _=>κ=.sh/\Pd .non n,rt:=Pd } _ R ⟨λM1 H1 n1 zU zK R1 p=>?_,λv H1 d n1 e1 f1 r1 p=>q v H1 d n1 e1 f1 r1 p,λ_ _ _ _ _ _ z=>z.elim,λ_ _ _ _ _ _ z=>z.elim⟩ ?_
 ·obtain⟨c,p⟩:=p
  subst c;exact q .non H1 .non n1 R1.ext (R1.feed.pres (Pres.less R1.sub) λ_ _ _ z=>z) rfl p
 grind
end Dp
namespace L2
section
variable {X:Cx}
theorem Inv.rdl{zG:List (Ch×Obj)}{σ:L2.St}{H:Hp}{s:FM}{l:Ch}{xs:List V}(I:Inv X zG σ H s)(h:Rd H l (.lst xs)):xs.length<=sizeLine/\∃(a:List Cn) (n:Nat),Vals xs a/\xs.length=a.length/\s.heap.get? l=some { cls:=.type "list",data:=.seq a.toArray n }:=by
 obtain⟨z,a,n,r,e⟩:=h.ok I.hok;exact⟨z,_,n,r,r.length,e⟩
theorem Mc:OpR X (binaryOp .Add) (λx y H Q=>∃l b xs zs,x=.ref l/\y=.ref b/\Rd H l (.lst xs)/\Rd H b (.lst zs)/\xs.length+zs.length<=sizeLine/\∀p,H p=none->Q (.ref p) (A4 H p (.lst (xs++zs)))):=by
 intro zG s σ H x y v u Q I rx ry h;obtain⟨l,b,xs,zs,rfl,rfl,hH,hB,f,q⟩:=h;cases rx;cases ry;obtain⟨z,c,n,r,g,e⟩:=I.rdl hH;obtain⟨z2,a,n2,r2,d,e2⟩:=I.rdl hB;refine PySem.P.add_list e e2 ?_ (by grind);have ea:c.toArray++a.toArray=(c++a).toArray:=by simp
 rw [ea];exact⟨.ref _,_,I.lnew (r.append r2) (by grind),rfl,q _ I.fresh⟩
end
end L2
namespace Dp
open L2
section
variable {K:Frag}
theorem AtT.int{U M:Ch->Prop}{H:Hp}{i:Int}{v:V}(h:AtT K U M H (.int i) v):v=.int i:=h
theorem AtT.bl{U M:Ch->Prop}{H:Hp}{i:Bool}{v:V}(h:AtT K U M H (.bl i) v):v=.bl i:=h
theorem AtT.str{U M:Ch->Prop}{H:Hp}{x:Str}{v:V}(h:AtT K U M H (.str x) v):v=.str x/\x.length<=sizeLine:=h
theorem AtT.tup{U M:Ch->Prop}{H:Hp}{ds:List D}{v:V}(h:AtT K U M H (.tup ds) v):∃a vs,v=.ref a/\NdT M H a vs/\Ats K M H ds vs:=h
def aw(g:Int->Int->(D->Prop)->Prop)(d e:D)(P:D->Prop):Prop:=match d,e with
 | .int i,.int j=>g i j P
 | _,_=>False
theorem M7{g:Int->Int->(D->Prop)->Prop}{d e:D}{P:D->Prop}(w:aw g d e P):∃i j,d=.int i/\e=.int j/\g i j P:=by
 unfold aw at w
 split at w
 ·grind
 grind
def f2(g:Int->Int->D):D->D->(D->Prop)->Prop:=aw λi j P=>P (g i j)
def PK(C:Int->Int->Prop)(g:Int->Int->D):D->D->(D->Prop)->Prop:=aw λi j P=>C i j/\P (g i j)
theorem VS{g:Int->Int->Int}:E5 K .sh (IY λi j=>.int (g i j)) (f2 λi j=>.int (g i j)):=by
 intro U M H d e x y P Q a vM b hy w q;obtain⟨i,j,rfl,rfl,w⟩:=M7 w;exact⟨i,j,b,hy,q _ H (.int _) .refl rfl w⟩
theorem QP{g:Int->Int->Bool}:E5 K .sh (IY λi j=>.bl (g i j)) (f2 λi j=>.bl (g i j)):=by
 intro U M H d e x y P Q a vM b hy w q;obtain⟨i,j,rfl,rfl,w⟩:=M7 w;exact⟨i,j,b,hy,q _ H (.bl _) .refl rfl w⟩
theorem C6{C:Int->Int->Prop}{g:Int->Int->Int}:E5 K .sh (rI C λi j=>.int (g i j)) (PK C λi j=>.int (g i j)):=by
 intro U M H d e x y P Q a vM b hy w q;obtain⟨i,j,rfl,rfl,w⟩:=M7 w;exact⟨i,j,b,hy,w.1,q _ H (.int _) .refl rfl w.2⟩
def ZI(g:Str->Str->(D->Prop)->Prop)(d e:D)(P:D->Prop):Prop:=match d,e with
 | .str i,.str j=>g i j P
 | _,_=>False
theorem Q4{g:Str->Str->(D->Prop)->Prop}{d e:D}{P:D->Prop}(w:ZI g d e P):∃i j,d=.str i/\e=.str j/\g i j P:=by
 unfold ZI at w
 split at w
 ·grind
 grind
theorem QO{g:Str->Str->Bool}:E5 K .sh (λx y H Q=>∃i j,x=.str i/\y=.str j/\Q (.bl (g i j)) H) (ZI λi j P=>P (.bl (g i j))):=by
 intro U M H d e x y P Q a vM b hy w q;obtain⟨i,j,rfl,rfl,w⟩:=Q4 w;exact⟨i,j,b.1,hy.1,q _ H (.bl _) .refl rfl w⟩
theorem Sv:E5 K .sh (λx y H Q=>∃i j,x=.str i/\y=.str j/\i.length+j.length<=sizeLine/\Q (.str (i++j)) H) (ZI λi j P=>i.length+j.length<=sizeLine/\P (.str (i++j))):=by
 intro U M H d e x y P Q a vM b hy w q;obtain⟨i,j,rfl,rfl,w⟩:=Q4 w;exact⟨i,j,b.1,hy.1,w.1,q _ H (.str _) .refl ⟨rfl,by rw [i_ i j]; exact w.1⟩ w.2⟩
def bg(g:List D->List D->(D->Prop)->Prop)(d e:D)(P:D->Prop):Prop:=match d,e with
 | .tup i,.tup j=>g i j P
 | _,_=>False
def av(g:List D->List D->(D->Prop)->Prop)(d e:D)(P:D->Prop):Prop:=match d,e with
 | .lst i,.lst j=>g i j P
 | _,_=>False
theorem WE{g:List D->List D->(D->Prop)->Prop}{d e:D}{P:D->Prop}(w:bg g d e P):∃i j,d=.tup i/\e=.tup j/\g i j P:=by
 unfold bg at w
 split at w
 ·grind
 grind
theorem WF{g:List D->List D->(D->Prop)->Prop}{d e:D}{P:D->Prop}(w:av g d e P):∃i j,d=.lst i/\e=.lst j/\g i j P:=by
 unfold av at w
 split at w
 ·grind
 grind
theorem ET{M:Ch->Prop}{H:Hp}{p:Ch}{vs:List V}{ds:List D}(b:∀a,M a->∃o,H a=some o)(hp:H p=none)(h:Ats K M H ds vs):At K M (A4 H p (.tup vs)) (.tup ds) (.ref p):=⟨p,vs,rfl,AX,h.pres (A1 hp).pres⟩
theorem Cy{U M:Ch->Prop}{H:Hp}{p:Ch}{vs:List V}{ds:List D}(hp:H p=none)(h:Ats K M H ds vs):VR K U M H (A4 H p (.lst vs)) .fr (.ref p) (.lst ds) :=
 ⟨p,rfl,hp,vs,AX,h.pres (Ga hp)⟩
theorem Su:E5 K .sh (T8 K) (bg λi j P=>i≠[]/\i.length+j.length<=sizeLine/\P (.tup (i++j))):=by
 intro U M H d e x y P Q c vM g hy w q;obtain⟨i,j,rfl,rfl,w⟩:=WE w;obtain⟨a,vs,rfl,ha,f⟩:=g.tup;obtain⟨b,us,rfl,h,ht⟩:=hy.tup;have l1:=f.length;have l2:=ht.length;refine⟨a,b,vs,us,rfl,rfl,ha.sq,h.sq,λz=>w.1 ?_,by simp_all,λz=>?_,λz p hp=>?_⟩
 ·rw [z] at l1; exact f_.mp l1.symm
 ·rw [z] at l2
  have:j=[]:=f_.mp l2.symm
  subst this;exact q _ H (.tup i) .refl ⟨a,vs,rfl,ha,f⟩ (by grind)
 ·exact q _ _ (.tup (i++j)) (A1 hp) (ET c hp (f.append ht)) w.2.2
theorem Ho:E5 K .fr (λx y H Q=>∃l b xs zs,x=.ref l/\y=.ref b/\Rd H l (.lst xs)/\Rd H b (.lst zs)/\xs.length+zs.length<=sizeLine/\∀p,H p=none->Q (.ref p) (A4 H p (.lst (xs++zs)))) (av λi j P=>i.length+j.length<=sizeLine/\P (.lst (i++j))):=by
 intro U M H d e x y P Q f vM g hy w q;obtain⟨i,j,rfl,rfl,w⟩:=WF w;obtain⟨a,vs,rfl,_,ha,c⟩:=g;obtain⟨b,us,rfl,_,h,ht⟩:=hy;exact⟨a,b,vs,us,rfl,rfl,ha,h,by rw [c.length,ht.length]; exact w.1,λp hp=>q _ _ _ (A1 hp) (Cy hp (c.append ht)) w.2⟩
def D_(neg:Bool)(d e:D)(P:D->Prop):Prop:=match d,e with
 | .bl i,.bl j=>P (.bl (if neg then !(i==j) else i==j))
 | .int i,.int j=>P (.bl (if neg then !(i==j) else i==j))
 | .str i,.str j=>P (.bl (if neg then !(i==j) else i==j))
 | _,_=>False
theorem Q6{neg:Bool}{d e:D}{P:D->Prop}(w:D_ neg d e P):(∃i j,d=.bl i/\e=.bl j/\P (.bl (if neg then !(i==j) else i==j)))\/(∃i j,d=.int i/\e=.int j/\P (.bl (if neg then !(i==j) else i==j)))\/∃i j,d=.str i/\e=.str j/\P (.bl (if neg then !(i==j) else i==j)):=by
 unfold D_ at w
 split at w
 ·simp_all
 ·simp_all
 ·simp_all
 grind
theorem De:E5 K .sh b_ (D_ false):=by
 intro U M H d e x y P Q b vM a hy w q
 rcases Q6 w with ⟨i,j,rfl,rfl,w⟩ | ⟨i,j,rfl,rfl,w⟩ | ⟨i,j,rfl,rfl,w⟩
 ·rw [a.bl,hy.bl]; exact⟨rfl,q _ H _ .refl (by rw [NB]; rfl) w⟩
 ·rw [a.int,hy.int]; exact⟨rfl,q _ H _ .refl (by rw [JC]; rfl) w⟩
 ·rw [a.str.1,hy.str.1]; exact⟨rfl,q _ H _ .refl (by rw [JB]; rfl) w⟩
theorem LF:E5 K .sh b7 (D_ true):=by
 intro U M H d e x y P Q b vM a hy w q
 rcases Q6 w with ⟨i,j,rfl,rfl,w⟩ | ⟨i,j,rfl,rfl,w⟩ | ⟨i,j,rfl,rfl,w⟩
 ·rw [a.bl,hy.bl]; exact⟨rfl,q _ H _ .refl (by rw [NB]; rfl) w⟩
 ·rw [a.int,hy.int]; exact⟨rfl,q _ H _ .refl (by rw [JC]; rfl) w⟩
 ·rw [a.str.1,hy.str.1]; exact⟨rfl,q _ H _ .refl (by rw [JB]; rfl) w⟩
def Oc:D->Bool
 | .non=>true
 | _=>false
theorem Ob{U M:Ch->Prop}{H:Hp}{d:D}{x:V}(h:AtT K U M H d x):decide (x=.non)=Oc d:=by
 cases d with
 | non=>rw [h]; rfl
 | bl b=>rw [h.bl]; rfl
 | int i=>rw [h.int]; rfl
 | str z=>rw [h.str.1]; rfl
 | tup ds=>obtain⟨a,vs,rfl,_⟩:=h.tup; rfl
 | lst ds=>obtain⟨a,vs,rfl,_⟩:=h; rfl
 | dic ks ds=>obtain⟨a,vs,rfl,_⟩:=h; rfl
 | fdi ks ds=>obtain⟨a,vs,rfl,_⟩:=h; rfl
 | dit ks ds=>obtain⟨a,vs,rfl,_⟩:=h; rfl
def A8(d e:D)(P:D->Prop):Prop:=match d,e with
 | .lst ds,.int i=>∃z,atI ds i=some z/\P z
 | .tup ds,.int i=>∃z,atI ds i=some z/\P z
 | .str x,.int i=>∃c,atI x.cps.toList i=some c/\P (.str ⟨#[c]⟩)
 | _,_=>False
theorem WG{d e:D}{P:D->Prop}(w:A8 d e P):(∃ds i z,d=.lst ds/\e=.int i/\atI ds i=some z/\P z)\/(∃ds i z,d=.tup ds/\e=.int i/\atI ds i=some z/\P z)\/∃x i c,d=.str x/\e=.int i/\atI x.cps.toList i=some c/\P (.str ⟨#[c]⟩):=by
 unfold A8 at w
 split at w
 ·simp_all
 ·simp_all
 ·simp_all
 grind
theorem Ats.atI{M:Ch->Prop}{H:Hp}{ds:List D}{vs:List V}{i:Int}{z:D}(h:Ats K M H ds vs)(e:atI ds i=some z):∃v,L2.atI vs i=some v/\At K M H z v:=by
 unfold L2.atI at e ⊢;rw [h.length];cases q:S0 _ i with
 | none=>grind
 | some j =>
  rw [q] at e;exact h.get e
theorem Ao:E5 K .sh (b8 K) A8:=by
 intro U M H d e x y P Q h vM b hy w q
 rcases WG w with ⟨ds,i,z,rfl,rfl,f,w⟩ | ⟨ds,i,z,rfl,rfl,f,w⟩ | ⟨x,i,c,rfl,rfl,j,w⟩
 ·obtain⟨a,vs,rfl,_,ha,g⟩:=b
  obtain⟨v,hv,hAt⟩:=g.atI f;exact .inl ⟨a,vs,i,v,rfl,hy,.inl ha,hv,q v H z .refl hAt w⟩
 ·obtain⟨a,vs,rfl,ha,g⟩:=b.tup
  obtain⟨v,hv,hAt⟩:=g.atI f;exact .inr (.inl ⟨a,vs,i,v,rfl,hy,ha.sq,hv,q v H z .refl hAt w⟩)
 ·exact .inr (.inr ⟨x,i,c,b.str.1,hy,b.str.2,j,q _ H (.str _) .refl ⟨rfl,by show 1<=16777216; decide⟩ w⟩)
def cutD{α:Type}(xs:List α)(lo hi:Option Int):List α:=(xs.drop (HT.sIx xs.length 0 lo)).take (HT.sIx xs.length xs.length hi - HT.sIx xs.length 0 lo)
theorem Ew{R:V->D->Prop}{vs:List V}{d:D}(h:Paired R vs [d]):∃v,vs=[v]/\R v d:=by
 cases h with
 | cons r t=>cases t; grind
def bV:D->Option Nat
 | .str x=>some x.length
 | .tup xs=>some xs.length
 | .lst xs=>some xs.length
 | _=>none
def Ce(ds:List D)(P:D->Prop):Prop:=∃d n,ds=[d]/\bV d=some n/\P (.int (n:Int))
theorem Bu:Ft K .sh (λxs H Q=>∃x n,xs=[x]/\Y9 K x H n/\Q (.int n) H) Ce:=by
 intro U M H ds vs P Q e vM hp w q;obtain⟨d,n,rfl,hn,w⟩:=w;obtain⟨v,rfl,b⟩:=Ew hp;refine⟨v,n,rfl,?_,q _ H (.int _) .refl rfl w⟩;cases d with
 | str z=>cases hn; rw [b.str.1]; exact⟨b.str.2,rfl⟩
 | tup xs =>
  cases hn;obtain⟨a,us,rfl,ha,c⟩:=b.tup;exact .inr ⟨us,ha.sq,c.length.symm⟩
 | lst xs =>
  cases hn;obtain⟨a,us,rfl,_,ha,c⟩:=b;exact .inl ⟨us,.inl ha,c.length.symm⟩
 | _=>cases hn
def allB:List D->Option (List Bool)
 | []=>some []
 | .bl b::r=>(allB r).map (b::·)
 | _::_=>none
theorem RG{M:Ch->Prop}{H:Hp}:∀{ds:List D} {vs:List V} {bs:List Bool},allB ds=some bs->Ats K M H ds vs->vs=bs.map V.bl
 | [],vs,bs,e,h=>by cases e; exact h
 | .bl b::r,vs,bs,e,h=>by
  obtain⟨v,r',e1,h1,h2⟩:=h;obtain⟨a,e2,rfl⟩:=fS.mp e;rw [e1,RG e2 h2,h1];rfl
 | .non::r,vs,bs,e,h=>by cases e
 | .int _::r,vs,bs,e,h=>by cases e
 | .str _::r,vs,bs,e,h=>by cases e
 | .tup _::r,vs,bs,e,h=>by cases e
 | .lst _::r,vs,bs,e,h=>by cases e
 | .dic _ _::r,vs,bs,e,h=>by cases e
 | .fdi _ _::r,vs,bs,e,h=>by cases e
 | .dit _ _::r,vs,bs,e,h=>by cases e
def Oh(ds:List D)(P:D->Prop):Prop:=∃xs bs,ds=[.lst xs]/\allB xs=some bs/\P (.bl (bs.all id))
theorem RN:Ft K .sh (λxs H Q=>∃(p:Ch) (bs:List Bool),xs=[.ref p]/\SqL K H p (bs.map V.bl)/\Q (.bl (bs.all id)) H) Oh:=by
 intro U M H ds vs P Q b vM hp w q;obtain⟨xs,bs,rfl,e,w⟩:=w;obtain⟨v,rfl,c⟩:=Ew hp;obtain⟨a,us,rfl,_,ha,d⟩:=c
 have:=RG e d
 subst this;exact⟨a,bs,rfl,.inl ha,q _ H (.bl _) .refl rfl w⟩
def O8:List D->Option (List Str)
 | []=>some []
 | .str b::r=>(O8 r).map (b::·)
 | _::_=>none
theorem NQ{M:Ch->Prop}{H:Hp}:∀{ds:List D} {vs:List V} {bs:List Str},O8 ds=some bs->Ats K M H ds vs->vs=bs.map V.str
 | [],vs,bs,e,h=>by cases e; exact h
 | .str b::r,vs,bs,e,h=>by
  obtain⟨v,r',e1,h1,h2⟩:=h;obtain⟨a,e2,rfl⟩:=fS.mp e;rw [e1,NQ e2 h2,h1.1];rfl
 | .non::r,vs,bs,e,h=>by cases e
 | .int _::r,vs,bs,e,h=>by cases e
 | .bl _::r,vs,bs,e,h=>by cases e
 | .tup _::r,vs,bs,e,h=>by cases e
 | .lst _::r,vs,bs,e,h=>by cases e
 | .dic _ _::r,vs,bs,e,h=>by cases e
 | .fdi _ _::r,vs,bs,e,h=>by cases e
 | .dit _ _::r,vs,bs,e,h=>by cases e
def Ux(d:D)(ds:List D)(P:D->Prop):Prop:=∃(z:Str) (xs:List D) (ys:List Str),d=.str z/\ds=[.lst xs]/\O8 xs=some ys/\(ys.map (·.length)).sum+ys.length*z.length<=16777216/\(Txt.join z ys).length<=16777216/\P (.str (Txt.join z ys))
theorem Y1:cI K .sh "str" (λx xs H Q=>∃(z:Str) (p:Ch) (ys:List Str),x=.str z/\xs=[.ref p]/\SqL K H p (ys.map V.str)/\(ys.map (·.length)).sum+ys.length*z.length<=16777216/\Q (.str (Txt.join z ys)) H) Ux:=by
 intro U M H d ds x vs P Q b vM c hp w q;obtain⟨z,xs,ys,rfl,rfl,e,h1,h2,w⟩:=w;obtain⟨v,rfl,hy⟩:=Ew hp;obtain⟨a,us,rfl,_,ha,f⟩:=hy
 have:=NQ e f
 subst this;exact⟨z,a,ys,c.str.1,rfl,.inl ha,h1,q _ H (.str _) .refl ⟨rfl,by assumption⟩ w⟩
def M6(ds:List D)(P:D->Prop):Prop:=match ds with
 | [.lst xs]=>P (.lst xs)
 | [.tup xs]=>P (.lst xs)
 | _=>False
theorem RK:Ft K .fr (λxs H Q=>∃p ys,xs=[.ref p]/\(SqL K H p ys\/SqT K H p ys)/\∀l,H l=none->Q (.ref l) (A4 H l (.lst ys))) M6:=by
 intro U M H ds vs P Q e vM hp w q;unfold M6 at w
 split at w
 ·obtain⟨v,rfl,c⟩:=Ew hp
  obtain⟨a,us,rfl,_,ha,d⟩:=c;exact⟨a,us,rfl,.inl (.inl ha),λl b=>q _ _ _ (A1 b) (Cy b d) w⟩
 ·obtain⟨v,rfl,c⟩:=Ew hp
  obtain⟨a,us,rfl,ha,d⟩:=c.tup;exact⟨a,us,rfl,.inr ha.sq,λl b=>q _ _ _ (A1 b) (Cy b d) w⟩
 grind
end
def VZ:D->String
 | .non => "NoneType"
 | .bl _ => "bool"
 | .int _ => "int"
 | .str _ => "str"
 | .tup _ => "tuple"
 | .lst _ => "list"
 | .dic _ _ => "dict"
 | .fdi _ _ => "dict"
 | .dit _ _ => "dict"
def Oa(t T:String):Bool:=t==T||(t == "bool"&&T == "int")
def Eh(T:String)(wa:DW):DW:=λn ρ P=>wa n ρ λd n1=>P (.bl (Oa (VZ d) T)) n1
structure LH (K:Frag) (T:String):Prop where
 ans:∀t∈["NoneType","bool","int","str","tuple","list","dict"],PySem.W.kitOne K (.type t) (.type T)=some (Oa t T)
theorem QW{K:Frag}{M U:Ch->Prop}{H:Hp}{d:D}{x:V}(h:AtT K U M H d x):F4 K H x (.type (VZ d)):=by
 cases d with
 | non=>cases (h); exact .non
 | bl b=>cases h.bl; exact .bl b
 | int i=>cases h.int; exact .int i
 | str z=>cases h.str.1; exact .str z
 | tup ds =>
  obtain⟨a,vs,rfl,ha,c⟩:=h.tup;exact .tup ha
 | lst ds =>
  obtain⟨a,vs,rfl,_,ha,c⟩:=h
  rcases ha with ha | ⟨o,ha⟩
  ·exact .lst ha
  ·exact .frz ha
 | dic ks ds =>
  obtain⟨a,vs,rfl,_,ha,_⟩:=h;exact .dK ha
 | fdi ks ds =>
  obtain⟨a,vs,rfl,⟨o,_,ha⟩,_⟩:=h;exact .dF ha
 | dit ks ds =>
  obtain⟨a,vs,rfl,_,ha,_⟩:=h;exact .dT ha
theorem QX(d:D):VZ d∈["NoneType","bool","int","str","tuple","list","dict"]:=by cases d <;> simp [VZ]
theorem Bx{X:Cx}{a:c_}{κ:Kd}{wa:DW}{T:String}{Tn:Str}{p p2 pos:Pos}(kt:LH X.K T)(ha:DE X a κ wa)(hg:Gl X "isinstance")(hm:X.mg "isinstance"=none)(hgT:Gl X Tn)(hmT:X.mg Tn=none)(hvT:bootBuiltins Tn=some (.type T))
  (hnT:Tn ≠ "__name__":=by decide) (hdT:(Tn==("__debug__":Str))=false:=by decide)
  (he:starEach [a,.Name Tn p2] X.env=(false,eval a X.env)::starEach [.Name Tn p2] X.env:=by rfl) (b:starEach [.Name Tn p2] X.env=[(false,eval (.Name Tn p2) X.env)]:=by rfl)
  (c:(backTo pos (starEach [.Name Tn p2] X.env)).any (·.1)=false:=by rfl):DE X (.Call (.Name "isinstance" p) [a,.Name Tn p2] [] pos) .sh (Eh T wa):=by
 obtain⟨t,h1,h2⟩:=ha;have pT:PE X (.Name Tn p2) (tC (.ty T)):=Iv hgT hmT hvT rfl hnT hdT;exact⟨_,Cv O1 hg hm (by decide +kernel) (BB h1 (BB pT B0 b) he) (by decide) (by decide) he c,λC M H n ρ σ P Q R w q=>h2 C M H n ρ σ _ _ R w λv H1 d n1 e1 f1 r1 p=>⟨v,T,_,_,rfl,QW (r1.tpOf R.dom R.vM),kt.ans _ (QX d),q _ H1 (.bl _) n1 e1 f1 rfl p⟩⟩
section
variable {K:Frag}{X:Cx}
def XN(d e:D)(P:D->Prop):Prop:=match d,e with
 | .int i,.int j=>P (.int (i+j))
 | .str i,.str j=>i.length+j.length<=sizeLine/\P (.str (i++j))
 | .tup i,.tup j=>i≠[]/\i.length+j.length<=sizeLine/\P (.tup (i++j))
 | .lst i,.lst j=>i.length+j.length<=sizeLine/\P (.lst (i++j))
 | _,_=>False
def Zx:R2:=λx y H Q=>∃l b xs zs,x=.ref l/\y=.ref b/\Rd H l (.lst xs)/\Rd H b (.lst zs)/\xs.length+zs.length<=sizeLine/\∀p,H p=none->Q (.ref p) (A4 H p (.lst (xs++zs)))
def Zw:R2:=λx y H Q=>∃i j,x=.str i/\y=.str j/\i.length+j.length<=sizeLine/\Q (.str (i++j)) H
def T4(g:Str->Str->Bool):R2:=λx y H Q=>∃i j,x=.str i/\y=.str j/\Q (.bl (g i j)) H
def T9(K:Frag):R2:=λx y H Q=>(IY λi j=>.int (i+j)) x y H Q\/Zw x y H Q\/T8 K x y H Q\/Zx x y H Q
theorem op_addU:OpR X (binaryOp .Add) (T9 X.K):=op_add.or ((Pw).or (op_catT.or (Mc)))
theorem NR:E5 X.K .sh (T9 X.K) XN:=λU M H d e x y P Q a vM b hy w q=>by
 unfold XN at w
 split at w
 ·exact .inl (VS U M H _ _ x y P Q a vM b hy w q)
 ·exact .inr (.inl (Sv U M H _ _ x y P Q a vM b hy w q))
 ·exact .inr (.inr (.inl (Su U M H _ _ x y P Q a vM b hy w q)))
 ·exact .inr (.inr (.inr (Ho U M H _ _ x y P Q a vM b hy w λv H' z g r p=>q v H' z g (r.shOf a (by grind)) p)))
 grind
def aI(d e:D)(P:D->Prop):Prop:=match d,e with
 | .int i,.int j=>P (.bl (decide (i<j)))
 | .str i,.str j=>P (.bl (decide (i.cps.toList<j.cps.toList)))
 | _,_=>False
def X8:R2:=λx y H Q=>(IY λi j=>.bl (decide (i<j))) x y H Q\/T4 (λi j=>decide (i.cps.toList<j.cps.toList)) x y H Q
theorem op_ltU:OpR X (compareOp .Lt) X8:=op_lt.or R9
theorem Xa:E5 X.K .sh X8 aI:=λU M H d e x y P Q a vM b hy w q=>by
 unfold aI at w
 split at w
 ·exact .inl (QP U M H _ _ x y P Q a vM b hy w q)
 ·exact .inr (QO U M H _ _ x y P Q a vM b hy w q)
 grind
def Sg(d e:D)(P:D->Prop):Prop:=match d,e with
 | .int i,.int j=>P (.bl (decide (i<=j)))
 | .str i,.str j=>P (.bl (!(decide (j.cps.toList<i.cps.toList))))
 | _,_=>False
def Zo:R2:=λx y H Q=>(IY λi j=>.bl (decide (i<=j))) x y H Q\/T4 (λi j=>!(decide (j.cps.toList<i.cps.toList))) x y H Q
theorem MZ:OpR X (compareOp .LtE) Zo:=op_le.or R_
theorem RL:E5 X.K .sh Zo Sg:=λU M H d e x y P Q a vM b hy w q=>by
 unfold Sg at w
 split at w
 ·exact .inl (QP U M H _ _ x y P Q a vM b hy w q)
 ·exact .inr (QO U M H _ _ x y P Q a vM b hy w q)
 grind
def Zs:R2:=IY λi j=>.bl (decide (j<i))
theorem Jl:OpR X (compareOp .Gt) Zs:=XD
theorem O_:E5 X.K .sh Zs (f2 λi j=>.bl (decide (j<i))):=QP
def Zr:R2:=T4 λi j=>!(d6 j i 0 j.length 1).isEmpty
theorem YO:OpR X (compareOp .In) Zr:=SA
theorem aR:E5 X.K .sh Zr (ZI λi j P=>P (.bl (!(d6 j i 0 j.length 1).isEmpty))):=QO
def Zh:V->Option Int->Option Int->Hp->VK->Prop:=λx lo hi H Q=>∃z,x=.str z/\z.length<=sizeLine/\Q (.str (Txt.slice z lo hi)) H
theorem sl_U:SlR X Zh:=X1
def Eg(w:DW):DW:=λn ρ P=>w n ρ λd n1=>∃i,d=.int i/\P (.int (-i)) n1
theorem CK{a:c_}{κ:Kd}{wa:DW}{pos:Pos}(h:DE X a κ wa):DE X (.UnaryOp .USub a pos) .sh (Eg wa):=by
 obtain⟨t,h1,h2⟩:=h;refine⟨_,Z0 Xo h1,λC M H n ρ σ P Q R w q=>?_⟩;refine h2 C M H n ρ σ _ _ R w λv H1 d n1 e1 f1 r1 p=>?_;obtain⟨i,rfl,p⟩:=p;exact⟨i,J8 r1,q _ H1 (.int _) n1 e1 f1 rfl p⟩
def Got(P:cz)(w:dC)(K:Frag)(mg:Str->Option Cn)(base:cw)(x:Str)(k:Nat)(ps:List Str)(κ:Kd)(W:W2):Prop :=
 ∃f fd,BD P w K mg base CL k f fd ps (Di K κ W ps.length)/\mg x=some (.ref f)/\keepIn K (.ref f)=true/\Binds K fd ps []/\∀ss n P,W ss n P->ss.length=ps.length
theorem Bn{e:c_}{es:List c_}{k:Nat}{ps:List Str}{κ:Kd}{W:W2}{x:Str}{p pos:Pos}{a:S1}(G:Got X.prog X.w X.K X.mg X.base x k ps κ W)
  (hr:Room k X.A) (hg:Gl X x) (ha:Xe X (e::es) a)
  (b:(x==("__debug__":Str))=false:=by decide) (he:starEach (e::es) X.env=(false,eval e X.env)::starEach es X.env:=by rfl) (c:(backTo pos (starEach es X.env)).any (·.1)=false:=by rfl) :
  DE X (.Call (.Name x p) (e::es) [] pos) κ (AZ W a):=by
 obtain⟨f,fd,G,hm,d,g,hW⟩:=G;exact Wd G hW hr hg hm d g ha b he c
def W9(np:Nat)(g:List D->D):W2:=λss n P=>∃ds:List D,ds.length=np/\ss=ds.map .sh/\P (g ds) n
theorem HY{np:Nat}{g:List D->D}{ss:List Slot}{n:Nat}{P:D->Nat->Prop}(h:W9 np g ss n P):ss.length=np:=by
 obtain⟨ds,e,rfl,_⟩:=h
 grind
theorem Mu:LH K "int":=⟨λt ht=>by
 simp at ht
 rcases ht with rfl | rfl | rfl | rfl | rfl | rfl | rfl <;> kernel_rfl⟩
theorem OY:LH K "bool":=⟨λt ht=>by
 simp at ht
 rcases ht with rfl | rfl | rfl | rfl | rfl | rfl | rfl <;> kernel_rfl⟩
theorem Mt:LH K "str":=⟨λt ht=>by
 simp at ht
 rcases ht with rfl | rfl | rfl | rfl | rfl | rfl | rfl <;> kernel_rfl⟩
theorem kit_tuple:LH K "tuple":=⟨λt ht=>by
 simp at ht
 rcases ht with rfl | rfl | rfl | rfl | rfl | rfl | rfl <;> kernel_rfl⟩
theorem FU:LH K "list":=⟨λt ht=>by
 simp at ht
 rcases ht with rfl | rfl | rfl | rfl | rfl | rfl | rfl <;> kernel_rfl⟩
end
theorem GX{i:Nat}{te:DW}{P:List D->Nat->Prop}{g:D->D}(I:List Slot->Prop)(hI:∀d ρ,I ρ->I (ρ.set i (.sh d))) :
  ∀(ds a:List D) (n:Nat) (ρ:List Slot),(∀d∈ds,∀ρ n P',I ρ->P' (g d) n->te n (ρ.set i (.sh d)) P')->I ρ->P (a++ds.map g) n->Ci (Af i) CW te P ds a n ρ
 | [],a,n,ρ,_,_,h=>by
  rw [jP,dS] at h;exact h
 | d::ds,a,n,ρ,ht,hρ,h=>by
  refine ht d Op ρ n _ hρ ?_;refine GX I hI ds _ n _ (λd hd=>ht d (Re _ hd)) (hI d ρ hρ) ?_
  simp_all
theorem HB{α:Type}(p:α->Bool):∀l:List α,allB (l.map λc=>.bl (p c))=some (l.map p)
 | []=>rfl
 | a::l=>by
  rw [dG];unfold allB;rw [HB p l];rfl
theorem VM{b1 b2:Bool}{P:D->Nat->Prop}{n:Nat}{k:(D->Nat->Prop)->Prop}(a:b1=true->P (.bl b2) n->k P)(h:P (.bl (b1&&b2)) n):(match (.bl b1:D) with | .bl true=>k P | .bl false=>P (.bl false) n | _=>False):=by
 cases b1 with
 | false=>exact h
 | true=>grind
theorem QC{P:cz}{w:dC}{K:Frag}{mg:Str->Option Cn}{base:cw}{x:Str}{st:dE}{f:Ch}{fd:dU}{k:Nat}{ps:List Str}{κ:Kd}{W:W2}(F:Fun K x x st f fd)(m:mg x=some (.ref f))(b:Binds K fd ps [])
  (hW:∀ss n P,W ss n P->ss.length=ps.length) (ok:BD P w K mg base CL k f fd ps (Di K κ W ps.length)):Got P w K mg base x k ps κ W:=⟨f,fd,ok,m,F.kp,b,hW⟩
def Nn(K:Frag):Sp:=λvs H Q _=>∃a ns,vs=[V.ref a]/\(fo (α:=Int) ns<=63/\SqL K H a (ns.map V.int))/\∀H',Q (.bl true) H'
def ME(K:Frag):Sp:=λvs H Q _=>∃a ns,vs=[V.ref a]/\(fo (α:=Int) ns<=63/\SqL K H a (ns.map V.int)) /\
 ∀(c f:Ch) (H':Hp),c≠f->H' c=some (.lst (ns.map V.int))->H' f=some (.lst [.ref c,.int 0,.int 0])->Q (.ref f) H'
theorem aP{ns:List Int}(h:ns.length<=63):Ot (ns.map V.int) none (some 63)=ns.map V.int:=by
 have e:HT.sIx (ns.map V.int).length (ns.map V.int).length (some 63)=ns.length:=by
  rw [show (63:Int)=(63:Nat) from rfl,HT.sIx_nat,Go,Nat.min_eq_right h]
 unfold Ot;rw [HT.sIx_none]
 grind
theorem Hf{b:BW}{body:Aj}{D2:E2}(I:Nat->Nat->List Slot->Prop)(c:∀n ρ,I 0 n ρ->D2.nx n ρ)
  (a:∀(k:Nat) (d:D) (n:Nat) (ρ:List Slot) (nx:Nat->List Slot->Prop),I (k+1) n ρ->(∀n' zY,I k n' zY->nx n' zY)->b d ρ λzU=>body { D2 with nx:=nx,ct:=nx,bk:=D2.nx } n zU) :
  ∀(ds:List D) (n:Nat) (ρ:List Slot),I ds.length n ρ->Bm b body D2 ds n ρ
 | [],n,ρ,h=>c n ρ h
 | d::ds,n,ρ,h=>a _ d n ρ _ h λn' zY h'=>Hf I c a ds n' _ h'
theorem LX{b:BW}{body:Aj}{D2:E2}(I:Nat->Nat->List Slot->Prop)(a:∀n ρ,I 0 n ρ->D2.nx n ρ) :
  ∀(ds:List D) (n:Nat) (ρ:List Slot) (_:∀(k:Nat) (d:D) (n:Nat) (ρ:List Slot) (nx:Nat->List Slot->Prop),d∈ds->I (k+1) n ρ->(∀n' zY,I k n' zY->nx n' zY)->b d ρ λzU=>body { D2 with nx:=nx,ct:=nx,bk:=D2.nx } n zU),
   I ds.length n ρ->Bm b body D2 ds n ρ
 | [],n,ρ,_,h=>a n ρ h
 | d::ds,n,ρ,c,h=>c _ d n ρ _ Op h λn' zY h'=>LX I a ds n' _ (λk d n ρ nx hm=>c k d n ρ nx (Re _ hm)) h'
theorem aF{P:cz}{w:dC}{K:Frag}{mg:Str->Option Cn}{base:cw}{st s1:dE}{rest:List dE}{f:Ch}{fd:dU}{Nr:List Str}{k n0:Nat}{wb:Aj}(F:Fun K "law" "law" st f fd)
  (S:Ai ("_law_script" :: "_law_feed_here"::Nr) ["_law_script"] (AH st)) (u:BX st=s1::rest) (y:n0<=2 ^ 60)
  (h1:∀(m:Cn) (A:dL) (outer:List Env) (s:FM) (H:Hp) (E:XK),Room k (A.deeper (envOfC "law" (AH st) s.heap.objs.size f m)) ->
   PS (EX CL P w K mg base ("_law_script" :: "_law_feed_here"::Nr) "law" (AH st) f m A outer s H E).nox s1 (Nj (Th (ME K) [] E0 (Qc (CH 0) Ve)) (IB 1)))
  (h2:∀(m:Cn) (A:dL) (outer:List Env) (s:FM) (H:Hp) (E:XK),Room k (A.deeper (envOfC "law" (AH st) s.heap.objs.size f m)) ->
   QR (EX CL P w K mg base ("_law_script" :: "_law_feed_here"::Nr) "law" (AH st) f m A outer s H E).nox .sh rest wb)
  (hW:wb { nx:=λ_ _=>False,rt:=λd _=>d=.bl true } n0 (.no::.fd::Uf Nr.length .no)):BD P w K mg base CL (k+1) f fd ["_law_script"] (Nn K):=by
 refine F.ok S (λvs H Q E h=>?_) (λm A outer s H vs Q E hr h=>?_)
 ·obtain⟨a,ns,rfl,_⟩:=h
  rfl
 ·obtain⟨a,ns,rfl,⟨x,hS⟩,q⟩:=h
  obtain⟨t,t1,t2⟩:=h2 m A outer s H E hr;refine⟨Rl (Nj (Th (ME K) [] E0 (Qc (CH 0) Ve)) (IB 1)) t,by rw [u]; exact BL (h1 m A outer s H E hr) t1,?_⟩;refine⟨_,rfl,a,ns,rfl,⟨x,hS⟩,λc g H' n B hg=>?_⟩
  have at_:∀(i:Nat) (sl:Slot),(Slot.no::Slot.fd::Uf Nr.length Slot.no)[i]?=some sl->Slot.no=sl\/(Slot.fd=sl/\i=1):=by
   intro i sl l
   match i,l with
   | 0,l=>exact .inl (cv l)
   | 1,l=>exact .inr ⟨cv l,rfl⟩
   | i+2,l =>
    rw [jU,jU,gs] at l
    split at l
    ·exact .inl (cv l)
    ·cases l
  have R:Rel K ⟨λb=>b=g,some (g,c),λb=>b=g,λb=>b=g,H',[],[]⟩ (λb=>b=g) H' n0 (.no::.fd::Uf Nr.length .no) ((start ("_law_script" :: "_law_feed_here"::Nr) [V.ref a]).set 1 (some (.ref g))):=by
   refine⟨by simp [L2.start],λ_ z=>z,λb z=>⟨_,(congrArg H' z).trans hg⟩,Ext.refl _ _,λb z=>by rw [← cv z],λ_ z=>z,λ_ z=>z,λb z=>?_,λi sl l=>?_,λp hp=>absurd hp (by simp),λi d b l _=>?_,λi sl b l o _=>?_,λi j sl t b l o _ _ _ _=>?_,λp hp=>absurd hp (by simp)⟩
   ·have e:(g,c)=b:=cv z
    subst e;exact⟨0,0,ns,hg,n,⟨n,B⟩,x,by decide,by omega⟩
   ·rcases at_ i sl l with e | ⟨e,rfl⟩
    ·rw [← e]; trivial
    ·rw [← e]
     exact⟨(g,c),by simp [L2.start],rfl⟩
   ·rcases at_ i _ l with e | ⟨e,_⟩ <;> cases e
   ·rcases at_ i sl l with e | ⟨e,_⟩ <;> (rw [← e] at o; cases o)
   ·rcases at_ i sl l with e | ⟨e,_⟩ <;> (rw [← e] at o; cases o)
  refine t2 _ _ H' n0 _ _ { nx:=λ_ _=>False,rt:=λd _=>d=.bl true } _ R ⟨λ_ _ _ _ _ _ z=>z.elim,λv H2 d n' _ _ r p=>?_,λ_ _ _ _ _ _ z=>z.elim,λ_ _ _ _ _ _ z=>z.elim⟩ hW;have e:d=.bl true:=p;subst e;have e2:v=.bl true:=r;subst e2;exact q H2
end Dp
namespace L2
section
variable {X:Cx}
theorem Gm:∀{us:List Cn} {ys:List Str},StrsAre us ys->Vals (ys.map V.str) us
 | _,_,.nil=>.nil
 | _,_,.cons x t r=>.cons ⟨t,rfl⟩ (Gm r)
def T6(K:Frag):List V->Hp->VK->Prop:=λxs H Q=>∃(p:Ch) (ss:List Str),xs=[.ref p]/\SqL K H p (ss.map V.str)/\ss.length<64/\∀(a:List Str) (l:Ch),a.Perm ss->sortedS a=true->H l=none->Q (.ref l) (A4 H l (.lst (a.map V.str)))
theorem KY:C2 X (.builtin "sorted") (T6 X.K):=by
 intro zG s σ H xs us Q I r h;obtain⟨p,ss,rfl,hq,c,q⟩:=h;obtain⟨u,rfl,rx⟩:=vals1 r;cases rx;obtain⟨d,r',pl,i⟩:=I.list hq;have a:=r'.length;rw [Go] at a;refine sorted_strs pl.isList (JT r') (by omega) λout f a1 a2 a3=>?_;obtain⟨e,he⟩:=sortedAll_at _ _ _;have g:=a2.length_eq;have hn:=I.hok.fresh (dq _);refine⟨.ref _,_,I.laid (λb o z=>sortedAll_old z) (dq _) (show ObjOk _ _ _ _ _ (.lst _) from⟨?_,_,e,Gm a1,?_⟩),rfl,q _ _ a2 a3 hn⟩
 ·grind
 ·exact he
def W5:R2:=λx y H Q=>∃z k,x=.str z/\y=.int k/\MulOk z k/\Q (.str (Txt.mul z k)) H
theorem Vx:OpR X (binaryOp .Mult) W5:=by
 intro zG s σ H x y v u Q I rx ry h;obtain⟨z,k,rfl,rfl,hm,q⟩:=h;obtain⟨t,rfl⟩:=rx;obtain⟨t',rfl⟩:=ry;exact SB.mul hm λt' k=>⟨.str _,H,I.tok _,⟨_,rfl⟩,q⟩
end
end L2
namespace Dp
open L2
section
variable {K:Frag}
def B6(ds:List D)(P:D->Prop):Prop:=match ds with
 | [.lst xs]=>P (.tup xs)
 | [.tup xs]=>P (.tup xs)
 | _=>False
theorem Cz:Ft K .sh (λxs H Q=>∃p ys,xs=[.ref p]/\((SqL K H p ys/\∀l,H l=none->Q (.ref l) (A4 H l (.tup ys)))\/(SqT K H p ys/\Q (.ref p) H))) B6:=by
 intro U M H ds vs P Q b vM hp w q;unfold B6 at w
 split at w
 ·obtain⟨v,rfl,c⟩:=Ew hp
  obtain⟨a,us,rfl,_,ha,d⟩:=c;exact⟨a,us,rfl,.inl ⟨.inl ha,λl e=>q _ _ (.tup _) (A1 e) (ET b e d) w⟩⟩
 ·obtain⟨v,rfl,c⟩:=Ew hp
  obtain⟨a,us,rfl,ha,d⟩:=c.tup;exact⟨a,us,rfl,.inr ⟨ha.sq,q _ H (.tup _) .refl ⟨a,us,rfl,ha,d⟩ w⟩⟩
 grind
theorem Ats.strs{M:Ch->Prop}{H:Hp}:∀{ss:List Str},(∀x∈ss,x.length<=sizeLine)->Ats K M H (ss.map D.str) (ss.map V.str)
 | [],_=>rfl
 | x::r,h=>⟨_,_,rfl,⟨rfl,h x Op⟩,Ats.strs λy hy=>h y (Re _ hy)⟩
theorem Ats.strs_le{M:Ch->Prop}{H:Hp}:∀{ss:List Str} {vs:List V},Ats K M H (ss.map D.str) vs->∀x∈ss,x.length<=sizeLine
 | [],_,_=>λx a=>by cases a
 | y::r,vs,h=>λx a=>by
  obtain⟨v,t,e,h1,h2⟩:=h
  rcases T0.mp a with rfl | a
  ·exact h1.2
  ·exact Ats.strs_le h2 x a
def KG(ds:List D)(P:D->Prop):Prop:=∃(xs:List D) (ss:List Str),ds=[.lst xs]/\O8 xs=some ss/\ss.length<64/\∀a:List Str,a.Perm ss->sortedS a=true->P (.lst (a.map .str))
theorem RF:∀{xs:List D} {ss:List Str},O8 xs=some ss->xs=ss.map .str
 | [],ss,h=>by cases h; rfl
 | .str b::r,ss,h=>by
  obtain⟨t,e,rfl⟩:=fS.mp h;rw [dG,← RF e]
 | .non::r,ss,h=>by cases h
 | .int _::r,ss,h=>by cases h
 | .bl _::r,ss,h=>by cases h
 | .tup _::r,ss,h=>by cases h
 | .lst _::r,ss,h=>by cases h
 | .dic _ _::r,ss,h=>by cases h
 | .fdi _ _::r,ss,h=>by cases h
 | .dit _ _::r,ss,h=>by cases h
theorem RJ:Ft K .fr (T6 K) KG:=by
 intro U M H ds vs P Q g vM hp w q;obtain⟨xs,ss,rfl,e,b,w⟩:=w;obtain⟨v,rfl,c⟩:=Ew hp;obtain⟨a,us,rfl,_,ha,d⟩:=c
 have:=NQ e d
 subst this;have e2:=RF e;subst e2;exact⟨a,ss,rfl,.inl ha,b,λh l h1 h2 f=>q _ _ _ (A1 f) (Cy f (Ats.strs λx c=>d.strs_le x (h1.mem_iff.mp c))) (w _ h1 h2)⟩
def C8(d e:D)(P:D->Prop):Prop:=match d,e with
 | .int i,.int j=>CMul i j/\P (.int (i*j))
 | .str z,.int k=>MulOk z k/\(Txt.mul z k).length<=sizeLine/\P (.str (Txt.mul z k))
 | _,_=>False
def W6:R2:=λx y H Q=>(rI CMul λi j=>.int (i*j)) x y H Q\/W5 x y H Q
theorem Do{X:Cx}:OpR X (binaryOp .Mult) W6:=op_mul.or Vx
theorem Fj:E5 K .sh W6 C8:=λU M H d e x y P Q a vM b hy w q=>by
 unfold C8 at w
 split at w
 ·exact .inl (C6 U M H _ _ x y P Q a vM b hy w q)
 ·rename_i z k
  exact .inr ⟨z,k,b.1,hy,w.1,q _ H (.str _) .refl ⟨rfl,w.2.1⟩ w.2.2⟩
 grind
end
section
variable {X:Cx}{tg e e2:Expr}{es:List Expr}{ws:Ef}{p pos:Pos}
def TC(ws:Ef):Ef:=λn ρ P=>ws n ρ λds n1=>∃i j:Int,ds=[.int i,.int j]/\(-(2 ^ 62)<=i/\i<2 ^ 62/\-(2 ^ 62)<=j/\j<2 ^ 62)/\P (Cu i (j - i).toNat) n1
theorem Lp(hg:Gl X "range")(hm:X.mg "range"=none)(ha:Wm X [e,e2] ws)(c:starEach [e,e2] X.env=[(false,eval e X.env),(false,eval e2 X.env)]:=by rfl)(a:starEach [e2] X.env=[(false,eval e2 X.env)]:=by rfl):DI X tg (.Call (.Name "range" p) [e,e2] [] pos) (TC ws):=by
 obtain⟨t,a1,a2⟩:=ha;refine⟨_,Rz hg hm a1 c a,λC M H n ρ σ P Rr R w q=>?_⟩;refine a2 C M H n ρ σ _ _ R w λvs H1 ds n1 e1 f1 r1 p=>?_;obtain⟨i,j,rfl,hj,p⟩:=p;cases r1 with
 | cons r rr =>
  cases rr with
  | cons r' rr =>
   cases rr;have hv:=r;have b:=r';exact⟨i,j,by rw [hv,b],hj,q _ H1 _ n1 e1 f1 Gj p⟩
def bC(X:Cx)(ts:List c_)(b:List D->List Slot->(List Slot->Prop)->Prop):Prop:=∃g,aW X ts g/\∀(C:Fm) (M:Ch->Prop) (H:Hp) (n:Nat) (ρ:List Slot) (σ:L2.St) (ds:List D) (vs:List V) (P:List Slot->Prop) (Q:L2.St->Hp->Prop),Rel X.K C M H n ρ σ->Ats X.K M H ds vs->b ds ρ P ->
 (∀zY zZ,Rel X.K C M H n zY zZ->P zY->Q zZ H)->g vs σ H Q
def Cj:List D->List Slot->(List Slot->Prop)->Prop:=λds ρ P=>ds=[]/\P ρ
def Ay(b:BW)(bs:List D->List Slot->(List Slot->Prop)->Prop):List D->List Slot->(List Slot->Prop)->Prop:=λds ρ P=>match ds with
 | d::r=>b d ρ λzU=>bs r zU P
 | []=>False
theorem Du:bC X [] Cj:=⟨_,Qp,λC M H n ρ σ ds vs P Q R h w q=>by
 obtain⟨rfl,w⟩:=w;exact⟨h,q ρ σ R w⟩⟩
theorem BM{b:BW}{bs:List D->List Slot->(List Slot->Prop)->Prop}(h1:DG X e b)(h2:bC X es bs)(a:(assignEach (e::es) X.env).map (·.2)=assign e X.env::(assignEach es X.env).map (·.2):=by rfl):bC X (e::es) (Ay b bs):=by
 obtain⟨g,a1,a2⟩:=h1;obtain⟨g',b1,b2⟩:=h2;refine⟨_,Gw a1 b1 a,λC M H n ρ σ ds vs P Q R h w q=>?_⟩;cases ds with
 | nil=>exact w.elim
 | cons d r =>
  obtain⟨v,vr,e,hv,hr⟩:=h;exact⟨v,vr,e,a2 C M H n ρ σ d v _ _ R hv w λzY zZ R' w'=>b2 C M H n _ _ r vr _ _ R' hr w' q⟩
def E9(k:Nat)(bs:List D->List Slot->(List Slot->Prop)->Prop):BW:=λd ρ P=>match d with
 | .tup ds=>ds.length=k/\bs ds ρ P
 | _=>False
theorem FZ{bs:List D->List Slot->(List Slot->Prop)->Prop}{k:Nat}{j:Nat}(e:X.calm=true)(h:bC X es bs)(hn:(assignEach es X.env).length=k:=by rfl)(b:(assignEach es X.env).findIdx? (·.1)=none:=by rfl):DG X (.Tuple es j pos) (E9 k bs):=by
 obtain⟨g,a1,a2⟩:=h;refine⟨_,UK e a1 hn b,λC M H n ρ σ d v P Q R h w q=>?_⟩;cases d with
 | tup ds =>
  obtain⟨a,vs,rfl,hq,c⟩:=h;exact⟨a,vs,rfl,hq.sq,by rw [c.length]; exact w.1,a2 C M H n ρ σ ds vs P Q R c w.2 q⟩
 | _=>exact w.elim
def ZR(wa:DW)(b:BW):Aj:=λD2 n ρ=>wa n ρ λd n1=>b d ρ λzU=>D2.nx n1 zU
theorem Yj{κ zT:Kd}{wa:DW}{b:BW}(he:DE X e zT wa)(hg:DG X tg b)(a:zT≠.tp:=by intro z; cases z)(c:swapsWithSole [tg] e pos.line X.env=pure false:=by rfl)(hw:swappedStores [tg] e X.env=pure none:=by rfl)
  (h1:(assignEach [tg] X.env).map (·.2)=[assign tg X.env]:=by rfl):DS X κ (.Assign [tg] e pos) (ZR wa b):=by
 obtain⟨t,a1,a2⟩:=he;obtain⟨g,g1,g2⟩:=hg;exact⟨_,MW a1 g1 c hw h1,λC M H n ρ σ D2 E R L w=>a2 C M H n ρ σ _ _ R w λv H' d n' e1 f1 r1 p=>g2 C M H' n' ρ σ d v _ _ (R.step e1 f1) (r1.shOf R.dom a) p λzY zZ R' w'=>L.nx M H' n' _ _ R' w'⟩
end
end Dp
namespace L2
mutual
def RV(H:Hp):im->V->Prop
 | .none,v=>v=.non
 | .bool b,v=>v=.bl b
 | .int i,v=>v=.int i
 | .str x,v=>v=.str x
 | .tuple xs,v=>∃a vs,v=.ref a/\H a=some (.tup vs)/\RVs H xs vs
 | .list xs,v=>∃a vs,v=.ref a/\Rd H a (.lst vs)/\RVs H xs vs
 | .dict _,_=>False
def RVs(H:Hp):List im->List V->Prop
 | [],vs=>vs=[]
 | x::xs,vs=>∃v r,vs=v::r/\RV H x v/\RVs H xs r
end
section
variable {X:Cx}{zG:List (Addr×Obj)}{σ:L2.St}{H:Hp}{s:Shared}
mutual
theorem RV.reads(I:Inv X zG σ H s):∀{d:im} {v:V} {u:Cn},RV H d v->RelV v u->∃as,Reads s.heap u d as
 | .none,v,u,h,r=>by
  cases (show v=.non from h);cases (show u=dO from r);exact⟨_,.none⟩
 | .bool b,v,u,h,r=>by
  cases (show v=.bl b from h);cases (show u=iD b from r);exact⟨_,.bool b⟩
 | .int i,v,u,h,r=>by
  cases (show v=.int i from h);obtain⟨t,rfl⟩:=r;exact⟨_,.int i t⟩
 | .str x,v,u,h,r=>by
  cases (show v=.str x from h);obtain⟨t,rfl⟩:=r;exact⟨_,.str x t⟩
 | .tuple xs,v,u,h,r=>by
  obtain⟨a,vs,rfl,hq,f⟩:=h;cases r;obtain⟨g,rv,⟨o,e,c,n,d⟩,_⟩:=I.tuple (X:=X) (xs:=vs) (.inl (.inl hq));obtain⟨as,ra⟩:=RVs.reads I f rv;exact⟨_,.tuple e c d ra⟩
 | .list xs,v,u,h,r=>by
  obtain⟨a,vs,rfl,hq,f⟩:=h;cases r;obtain⟨g,rv,pl,_⟩:=I.list (X:=X) (xs:=vs) (.inl hq);obtain⟨o,e,c,n,d⟩:=pl.isList;obtain⟨as,ra⟩:=RVs.reads I f rv;exact⟨_,.list e c d ra⟩
 | .dict _,v,u,h,r=>h.elim
theorem RVs.reads(I:Inv X zG σ H s):∀{ds:List im} {vs:List V} {us:List Cn},RVs H ds vs->Vals vs us->∃as,ReadsAll s.heap us ds as
 | [],vs,us,h,r=>by
  cases (show vs=[] from h);cases r;exact⟨_,.nil⟩
 | d::ds,vs,us,h,r=>by
  obtain⟨v,w,rfl,h1,h2⟩:=h;cases r with
  | cons r1 r2 =>
   obtain⟨as,a1⟩:=RV.reads I h1 r1;obtain⟨bs,a2⟩:=RVs.reads I h2 r2;exact⟨_,.cons a1 a2⟩
end
end
theorem RV.noDict{H:Hp}:∀(d:im) (v:V),RV H d v->d.hasDict=false
 | d,v,h=>by
  have go:∀(n:Nat),(∀(d:im) (v:V),sizeOf d<=n->RV H d v->d.hasDict=false)/\∀(ds:List im) (vs:List V),sizeOf ds<=n->RVs H ds vs->jA ds=false:=by
   intro n
   induction n with
   | zero =>
    refine⟨λd v h _=>?_,λds vs h _=>?_⟩
    ·cases d <;> simp at h
    ·cases ds <;> simp at h
   | succ n ih =>
    refine⟨λd v h hr=>?_,λds vs h hr=>?_⟩
    ·cases d with
     | tuple xs =>
      obtain⟨a,vs,_,_,c⟩:=hr;simp only [gM]
      grind
     | list xs =>
      obtain⟨a,vs,_,_,c⟩:=hr;simp only [gM]
      grind
     | dict e=>exact(show False from hr).elim
     | none=>simp only [gM]
     | bool b=>simp only [gM]
     | int i=>simp only [gM]
     | str x=>simp only [gM]
    ·cases ds with
     | nil=>simp only [jA]
     | cons x xs =>
      obtain⟨v,w,_,h1,h2⟩:=hr;simp only [jA,ih.1 x v (by simp at h; omega) h1,ih.2 xs w (by simp at h; omega) h2,Bool.or_false]
  exact(go (sizeOf d)).1 d v (On _) h
section
variable {X:Cx}
def W4:List V->Hp->VK->Prop:=λxs H Q=>∃x d,xs=[x]/\RV H d x/\d.showable=true/\d.depth<=100/\d.shown.length<=sizeLine/\Q (.str d.shown) H
theorem CV{k:Nat}(hr:Room k X.A):C2 X (.builtin "repr") W4:=by
 intro zG s σ H xs us Q I r h;obtain⟨x,d,rfl,c,f,hd,g,q⟩:=h;obtain⟨u,rfl,rx⟩:=vals1 r;have hu:=hr.un;cases d with
 | none =>
  cases (show x=.non from c);cases (show u=dO from rx);exact PySem.P.repr_of_none ⟨.str _,H,I.tok _,⟨_,rfl⟩,q⟩
 | bool b =>
  cases (show x=.bl b from c);cases (show u=iD b from rx);refine PySem.P.repr_of_bool ⟨.str _,H,I.tok _,⟨_,rfl⟩,?_⟩
  assumption
 | int i =>
  cases (show x=.int i from c);obtain⟨t,rfl⟩:=rx;refine PySem.P.repr_of_int (by simpa [PyData.showable] using f) ⟨.str _,H,I.tok _,⟨_,rfl⟩,q⟩
 | str z =>
  cases (show x=.str z from c);obtain⟨t,rfl⟩:=rx;exact PySem.P.repr_of_str ⟨.str _,H,I.tok _,⟨_,rfl⟩,q⟩ g
 | tuple ds =>
  obtain⟨as,ra⟩:=RV.reads I c rx;obtain⟨a,vs,rfl,_⟩:=id c;cases rx;refine repr_of_reads' ra f (PyData.noDict_hsm (RV.noDict _ _ c)) hr.gd (by omega) (λ_ _ e=>e) (λh' u tk j=>⟨.str _,H,I.kept (t':=tk) j,⟨_,rfl⟩,q⟩) g
 | list ds =>
  obtain⟨as,ra⟩:=RV.reads I c rx;obtain⟨a,vs,rfl,_⟩:=id c;cases rx;refine repr_of_reads' ra f (PyData.noDict_hsm (RV.noDict _ _ c)) hr.gd (by omega) (λ_ _ e=>e) (λh' u tk j=>⟨.str _,H,I.kept (t':=tk) j,⟨_,rfl⟩,q⟩) g
 | dict _=>exact(show False from c).elim
def Zt:R2:=λx y H Q=>∃d e,RV H d x/\RV H e y/\d.canLay0=true/\e.canLay0=true/\d.depth<=100/\Q (.bl (eW d e)) H
theorem Mb{k:Nat}(hr:Room k X.A):OpR X (compareOp .Eq) Zt:=by
 intro zG s σ H x y v u Q I rx ry h;obtain⟨d,e,a,hy,h1,h2,hd,q⟩:=h;obtain⟨as,ra⟩:=RV.reads I a rx;obtain⟨bs,rb⟩:=RV.reads I hy ry;have hu:=hr.un;have hm:min _ e.depth<=d.depth:=Nat.min_le_left _ _;exact PySem.SeqAt.compareEq_reads ra rb h1 h2 (by omega) ⟨.bl _,H,I,rfl,q⟩
def X_(neg:Bool):R2:=λx y H Q=>∃d es,RV H d x/\(RV H (.list es) y\/RV H (.tuple es) y)/\d.canLay0=true/\fi es=true/\d.depth<=100/\Q (.bl (if neg then !(es.any λy=>eW y d) else es.any λy=>eW y d)) H
theorem C5{k:Nat}(hr:Room k X.A):OpR X (compareOp .In) (X_ false):=by
 intro zG s σ H x y v u Q I rx ry h;obtain⟨d,es,a,hy,h1,h2,hd,q⟩:=h;obtain⟨as,ra⟩:=RV.reads I a rx;have hu:=hr.un;have hm:min (eY es) _<=d.depth:=Nat.min_le_right _ _
 rcases hy with hy | hy
 ·obtain⟨bs,rb⟩:=RV.reads I hy ry
  exact PySem.SeqAt.in_list_reads rb ra h2 h1 (by omega) ⟨.bl _,H,I,rfl,q⟩
 ·obtain⟨bs,rb⟩:=RV.reads I hy ry
  exact PySem.SeqAt.in_tuple_reads rb ra h2 h1 (by omega) ⟨.bl _,H,I,rfl,q⟩
theorem EN{k:Nat}(hr:Room k X.A):OpR X (compareOp .NotIn) (X_ true):=by
 intro zG s σ H x y v u Q I rx ry h;obtain⟨d,es,a,hy,h1,h2,hd,q⟩:=h;obtain⟨as,ra⟩:=RV.reads I a rx;have hu:=hr.un;have hm:min (eY es) _<=d.depth:=Nat.min_le_right _ _
 rcases hy with hy | hy
 ·obtain⟨bs,rb⟩:=RV.reads I hy ry
  exact PySem.SeqAt.notIn_list_reads rb ra h2 h1 (by omega) ⟨.bl _,H,I,rfl,q⟩
 ·obtain⟨bs,rb⟩:=RV.reads I hy ry
  exact PySem.SeqAt.notIn_tuple_reads rb ra h2 h1 (by omega) ⟨.bl _,H,I,rfl,q⟩
end
end L2
namespace Dp
open L2
mutual
def toPy:D->im
 | .non=>.none
 | .bl b=>.bool b
 | .int i=>.int i
 | .str x=>.str x
 | .tup ds=>.tuple (Bk ds)
 | .lst ds=>.list (Bk ds)
 | .dic _ _=>.dict []
 | .fdi _ _=>.dict []
 | .dit _ _=>.dict []
def Bk:List D->List im
 | []=>[]
 | d::ds=>toPy d::Bk ds
end
mutual
def FP:D->Bool
 | .tup ds=>CT ds
 | .lst ds=>CT ds
 | .dic _ _=>false
 | .fdi _ _=>false
 | .dit _ _=>false
 | _=>true
def CT:List D->Bool
 | []=>true
 | d::ds=>FP d&&CT ds
end
theorem LO(ds:List D):Bk ds=ds.map toPy:=by
 induction ds with
 | nil=>rfl
 | cons d r ih=>rw [Bk,ih,dG]
theorem P0(ds:List D):CT ds=ds.all FP:=by
 induction ds with
 | nil=>rfl
 | cons d r ih=>rw [CT,ih,fB]
section
variable {K:Frag}{M:Addr->Prop}{H:Hp}
mutual
theorem At.rv:∀{d:D} {v:V},At K M H d v->FP d=true->RV H (toPy d) v
 | .non,v,h,_=>h
 | .bl b,v,h,_=>h
 | .int i,v,h,_=>h
 | .str x,v,h,_=>h.1
 | .tup ds,v,h,n=>by
  obtain⟨a,vs,e,hn,c⟩:=h;exact⟨a,vs,e,hn,Ats.rv c n⟩
 | .lst ds,v,h,n=>by
  obtain⟨a,vs,e,hn,c⟩:=h;exact⟨a,vs,e,.inl hn.2,Ats.rv c n⟩
 | .dic ks ds,v,h,n=>by cases n
 | .fdi ks ds,v,h,n=>by cases n
 | .dit ks ds,v,h,n=>by cases n
theorem Ats.rv:∀{ds:List D} {vs:List V},Ats K M H ds vs->CT ds=true->RVs H (Bk ds) vs
 | [],vs,h,_=>h
 | d::ds,vs,h,n=>by
  obtain⟨v,r,e,h1,h2⟩:=h;have n':(FP d&&CT ds)=true:=n;rw [cq] at n';exact⟨v,r,e,At.rv h1 n'.1,Ats.rv h2 n'.2⟩
end
theorem AtT.rv{U:Ch->Prop}{d:D}{v:V}(h:AtT K U M H d v)(n:FP d=true):RV H (toPy d) v:=by
 cases d with
 | lst ds =>
  obtain⟨a,vs,e,_,hq,c⟩:=h;exact⟨a,vs,e,hq,Ats.rv c n⟩
 | dic ks ds=>cases n
 | fdi ks ds=>cases n
 | dit ks ds=>cases n
 | non=>exact h
 | bl b=>exact h
 | int i=>exact h
 | str x=>exact h.1
 | tup ds=>exact At.rv h n
def Gr(d:D):Prop:=FP d=true/\(toPy d).showable=true/\(toPy d).depth<=100/\(toPy d).shown.length<=sizeLine
def BF(d:D):Str:=(toPy d).shown
def DU(ds:List D)(P:D->Prop):Prop:=∃d,ds=[d]/\Gr d/\P (.str (BF d))
theorem Fi:Ft K .sh W4 DU:=by
 intro U M H ds vs P Q a vM hp w q;obtain⟨d,rfl,hd,w⟩:=w;obtain⟨v,rfl,b⟩:=Ew hp;exact⟨v,_,rfl,b.rv hd.1,hd.2.1,hd.2.2.1,hd.2.2.2,q _ H (.str _) .refl ⟨rfl,hd.2.2.2⟩ w⟩
def D7(d:D):Prop:=FP d=true/\(toPy d).canLay0=true/\(toPy d).depth<=100
def GA(d e:D):Bool:=eW (toPy d) (toPy e)
def Uy(d e:D)(P:D->Prop):Prop:=D7 d/\D7 e/\P (.bl (GA d e))
theorem RM:E5 K .sh Zt Uy:=λU M H d e x y P Q a vM b hy w q =>
 ⟨_,_,b.rv w.1.1,hy.rv w.2.1.1,w.1.2.1,w.2.1.2.1,w.1.2.2,q _ H (.bl _) .refl rfl w.2.2⟩
def IU:D->Option (List D)
 | .lst ds=>some ds
 | .tup ds=>some ds
 | _=>none
def DV(neg:Bool)(d e:D)(P:D->Prop):Prop:=D7 d/\D7 e/\∃es,IU e=some es/\P (.bl (if neg then !(es.any λy=>GA y d) else es.any λy=>GA y d))
theorem C1{neg:Bool}:E5 K .sh (X_ neg) (DV neg):=λU M H d e x y P Q b vM a hy w q=>by
 obtain⟨h1,h2,es,he,w⟩:=w;have any_eq:∀es:List D,(es.map _).any (λy=>eW y _)=es.any λy=>GA y d:=λes=>by rw [jQ]; rfl
 cases e with
 | lst ds =>
  cases he;refine⟨_,_,a.rv h1.1,.inl (hy.rv h2.1),h1.2.1,by simpa [toPy,PyData.canLay0] using h2.2.1,h1.2.2,?_⟩;rw [LO,any_eq];exact q _ H (.bl _) .refl rfl w
 | tup ds =>
  cases he;refine⟨_,_,a.rv h1.1,.inr (hy.rv h2.1),h1.2.1,by simpa [toPy,PyData.canLay0] using h2.2.1,h1.2.2,?_⟩;rw [LO,any_eq];exact q _ H (.bl _) .refl rfl w
 | _=>cases he
def aH(d e:D)(P:D->Prop):Prop:=D7 d/\D7 e/\P (.bl (!GA d e))
end
end Dp
namespace L2
def Zl:R2:=λx y H Q=>∃d e,RV H d x/\RV H e y/\d.canLay0=true/\e.canLay0=true/\d.depth<=100/\Q (.bl (!PyData.eqv d e)) H
theorem YM{X:Cx}{k:Nat}(hr:Room k X.A):OpR X (compareOp .NotEq) Zl:=by
 intro zG s σ H x y v u Q I rx ry h;obtain⟨d,e,a,hy,h1,h2,hd,q⟩:=h;obtain⟨as,ra⟩:=RV.reads I a rx;obtain⟨bs,rb⟩:=RV.reads I hy ry;have hu:=hr.un;have hm:min _ e.depth<=d.depth:=Nat.min_le_left _ _;exact PySem.SeqAt.compareNe_reads ra rb h1 h2 (by omega) ⟨.bl _,H,I,rfl,q⟩
end L2
namespace Dp
open L2
theorem aQ{K:Frag}:E5 K .sh Zl aH:=λU M H d e x y P Q a vM b hy w q =>
 ⟨_,_,b.rv w.1.1,hy.rv w.2.1.1,w.1.2.1,w.2.1.2.1,w.1.2.2,q _ H (.bl _) .refl rfl w.2.2⟩
end Dp
namespace L2
def kOf:Key->V
 | .inl i=>.int i
 | .inr x=>.str x
def ar:Key->Key->Bool
 | .inl i,.inl j=>decide (i<j)
 | .inr x,.inr y=>decide (x.cps.toList<y.cps.toList)
 | _,_=>false
def LR:Key->Key->Bool
 | .inl _,.inl _=>true
 | .inr _,.inr _=>true
 | _,_=>false
def GY:List Key->List Key->Bool
 | [],[]=>false
 | [],_::_=>true
 | _::_,[]=>false
 | x::xs,y::ys=>if x=y then GY xs ys else ar x y
def CS:List Key->List Key->Bool
 | x::xs,y::ys=>LR x y&&CS xs ys
 | _,_=>true
theorem U1{A:dL}{s:FM}{x y:Key}{u v:Cn}(rx:RelV (kOf x) u)(ry:RelV (kOf y) v):∃e,SeqAt.EqAt A s u v e/\(e=true↔x=y):=by
 cases x with
 | inl i =>
  cases y with
  | inl j=>exact⟨_,M9 rx ry rfl rfl,by simp [kOf,aJ]⟩
  | inr z=>exact⟨_,M9 rx ry rfl rfl,by simp [kOf,aJ]⟩
 | inr z =>
  cases y with
  | inl j=>exact⟨_,M9 rx ry rfl rfl,by simp [kOf,aJ]⟩
  | inr z'=>exact⟨_,M9 rx ry rfl rfl,by simp [kOf,aJ]⟩
theorem T3(A:dL)(s:FM){x y:Key}{u v:Cn}(rx:RelV (kOf x) u)(ry:RelV (kOf y) v)(a:LR x y=true)(prog:cz)(w:dC)(E:Cn->FM->Prop)(Q:Cn->FM->Prop)(h:Q (.bool (ar x y)) s) :
  wpAny (model prog w) A (richCompare .Lt u v) Q E s:=by
 cases x with
 | inl i =>
  cases y with
  | inl j =>
   obtain⟨t,rfl⟩:=rx;obtain⟨t',rfl⟩:=ry;exact jZ h
  | inr z=>cases a
 | inr z =>
  cases y with
  | inl j=>cases a
  | inr z' =>
   obtain⟨t,rfl⟩:=rx;obtain⟨t',rfl⟩:=ry;exact PySem.P.lt_str h
section
open PySem.SeqAt
open PySem.AutoSeq1 (wpAny_loadPart')
open PySem.MeetsSeq PySem.MeetsSeq2 PySem.MeetsSeq3
theorem Kt(l b:Ch)(items items2:Array Cn)(n n2:Nat)(dd dd2:Option Ch)(sl sl2:Array (Option Cn))(ns ms:List Key)(hi:Vals (ns.map kOf) items.toList)(hj:Vals (ms.map kOf) items2.toList)(hsame:CS ns ms=true) :
  Meets (gf.«tuple.__lt__» ⟨[.ref l,.ref b],[]⟩)
   (λ_ R s=>s.heap.get? l=some { cls:=.type "tuple",dict:=dd,data:=.seq items n,slots:=sl }/\s.heap.get? b=some { cls:=.type "tuple",dict:=dd2,data:=.seq items2 n2,slots:=sl2 } /\
    R (.ok (.ret (.bool (GY ns ms)))) s) :=
 .of_wp λprog w A R s h=>by
  obtain⟨hp,g,d,tk,os⟩:=s; obtain⟨hl,hb,h⟩:=h
  have f2:=AutoSeq1.sub_tuple_tuple;have z1:items.size=ns.length:=by have:=hi.length; rw [Go] at this; rw [this]; simp
  have z2:items2.size=ms.length:=by have:=hj.length; rw [Go] at this; rw [this]; simp
  wp_walk using fG hl,fG hb,wpAny_forIn_list _ (λrest b s'=>b.1=none/\s'=⟨hp,g,d,tk,os⟩/\∃(vs ws:List Cn) (ns' ms':List Key),rest=vs.zip ws /\
   Vals (ns'.map kOf) vs/\Vals (ms'.map kOf) ws/\CS ns' ms'=true/\ns'.length+items2.size=ms'.length+items.size/\R (.ok (.ret (.bool (GY ns' ms')))) ⟨hp,g,d,tk,os⟩) _
  case turn =>
   rintro ⟨y,x⟩ rest b s' ⟨hb',rfl,vs,ws,ns',ms',hz,hvi,hwi,hsm,hlen,hR⟩;cases ns' with
   | nil=>cases hvi; rw [List.zip_nil_left] at hz; cases hz
   | cons a ns' =>
    cases ms' with
    | nil=>cases hwi; rw [List.zip_nil_right] at hz; cases hz
    | cons c ms' =>
     rw [dG] at hvi hwi;cases hvi with
     | cons ra hvi' =>
      cases hwi with
      | cons rc hwi' =>
       rw [gl] at hz;injection hz with hyx hrest
       injection hyx with hy hx
       subst hy hx;have hR':R (.ok (.ret (.bool (if a=c then GY ns' ms' else ar a c)))) ⟨hp,g,d,tk,os⟩:=hR;have hsm':(LR a c&&CS ns' ms')=true:=hsm;rw [cq] at hsm';simp only [ZB] at hlen;obtain⟨e,he,hiff⟩:=U1 (A:=A.in1) (s:=⟨hp,g,d,tk,os⟩) ra rc;refine Db (he prog w _ _ ?_);cases e with
       | true =>
        rw [if_pos (hiff.mp rfl)] at hR'
        wp_walk
        exact⟨rfl,rfl,_,_,_,_,hrest,hvi',hwi',hsm'.2,by omega,hR'⟩
       | false =>
        rw [if_neg (λq=>absurd (hiff.mpr q) c8)] at hR';have hri:=T3 A.in1 ⟨hp,g,d,tk,os⟩ ra rc hsm'.1 prog w
        wp_walk using hri
        exact⟨_,rfl,by simpa using hR'⟩
  case fin =>
   rintro ⟨b1,b2⟩ s' ⟨hb',rfl,vs,ws,ns',ms',hz,hvi,hwi,hsm,hlen,hR⟩;simp only at hb';subst hb'
   have hv:GY ns' ms'=decide (items.size<items2.size):=by
    cases ns' with
    | nil =>
     cases ms' with
     | nil =>
      simp only [eE] at hlen;exact(decide_eq_false (by omega)).symm
     | cons c u =>
      simp only [eE,ZB] at hlen;exact(decide_eq_true (by omega)).symm
    | cons a t =>
     cases ms' with
     | nil =>
      simp only [eE,ZB] at hlen;exact(decide_eq_false (by omega)).symm
     | cons c u =>
      rw [dG] at hvi hwi;cases hvi;cases hwi;rw [gl] at hz;cases hz
   rw [hv] at hR
   wp_walk
   exact⟨_,rfl,by simpa [Builtin.Tuple.tupleCompareSizes] using hR⟩
  case h =>
   exact⟨rfl,rfl,items.toList,items2.toList,ns,ms,rfl,hi,hj,hsame,by omega,h⟩
end
section
variable {X:Cx}
def Zm(K:Frag):R2:=λx y H Q=>∃a b ns ms,x=.ref a/\y=.ref b/\SqT K H a (ns.map kOf)/\SqT K H b (ms.map kOf)/\CS ns ms=true/\Q (.bl (GY ns ms)) H
theorem YN(hu:X.A.units<cLine):OpR X (compareOp .Lt) (Zm X.K):=by
 intro zG s σ H x y v u Q I rx ry h;obtain⟨a,b,ns,ms,rfl,rfl,ha,i,d,q⟩:=h;cases rx;cases ry;obtain⟨j,r1,p1,_⟩:=I.tuple ha;obtain⟨f,r2,p2,_⟩:=I.tuple i;obtain⟨⟨cls,dd,data,sl⟩,ho,k,n,hd⟩:=id p1;obtain⟨⟨g,l,data2,m⟩,c,e,n2,hd2⟩:=id p2;subst k hd e hd2
 exact richCompare_meets_room (op:=.Lt) ⟨_,ho,rfl⟩ ⟨_,c,rfl⟩ PySem.F.slot_tuple_lt PySem.F.entry_tuple_lt (PySem.F.args_tuple_lt_2 _ _) (Kt a b _ _ n n2 dd _ sl _ ns ms r1 r2 d)
  ⟨ho,c,⟨(λx=>nomatch x),⟨.bl _,H,I,rfl,q⟩⟩⟩ hu
end
def ItAt(κ:Bool)(h:cw)(it l:Ch)(k:Nat):Prop:=match κ with
 | true=>h.IsListIter it l k
 | false=>h.IsTupleIter it l k
def SqAt(κ:Bool)(h:cw)(l:Ch)(items:Array Cn):Prop:=match κ with
 | true=>h.IsList l items
 | false=>h.IsTuple l items
section
variable {κ:Bool}{h h':Heap}{it l b:Addr}{k:Nat}{items:Array Value}
theorem ItAt.mv(x:ItAt κ h it l k)(e:∀o,h.get? it=some o->h'.get? it=some o):ItAt κ h' it l k:=by
 cases κ with
 | true=>obtain⟨o,ho,r⟩:=x; exact⟨o,e o ho,r⟩
 | false=>obtain⟨o,ho,r⟩:=x; exact⟨o,e o ho,r⟩
theorem SqAt.mv(x:SqAt κ h l items)(e:∀o,h.get? l=some o->h'.get? l=some o):SqAt κ h' l items:=by
 cases κ with
 | true=>obtain⟨o,ho,r⟩:=x; exact⟨o,e o ho,r⟩
 | false=>obtain⟨o,ho,r⟩:=x; exact⟨o,e o ho,r⟩
theorem ItAt.eb(x:ItAt κ h it l k)(a:Heap.ExtBut b h h')(n:it≠b):ItAt κ h' it l k:=x.mv λo e=>a it o n e
theorem SqAt.eb(x:SqAt κ h l items)(a:Heap.ExtBut b h h')(n:l≠b):SqAt κ h' l items:=x.mv λo e=>a l o n e
theorem ItAt.lies(x:ItAt κ h it l k):∃o,h.get? it=some o/\∀v,o.data≠.cell v:=by
 cases κ with
 | true=>obtain⟨o,ho,_,d⟩:=x; simp_all
 | false=>obtain⟨o,ho,_,d⟩:=x; simp_all
theorem SqAt.lies(x:SqAt κ h l items):∃o,h.get? l=some o:=by
 cases κ with
 | true=>obtain⟨o,ho,_⟩:=x; grind
 | false=>obtain⟨o,ho,_⟩:=x; grind
end
section
variable {prog:Program}{w:World}{A:Around}{E:Value->Shared->Prop}{s:Shared}
theorem Fy{κ:Bool}{it l:Ch}{i:Nat}{items:Array Cn}{x:Cn}{Q:Cn->FM->Prop}(hit:ItAt κ s.heap it l i)(e:SqAt κ s.heap l items)(f:items[i]?=some x)
  (hQ:∀h',ItAt κ h' it l (i+1)->fq it s.heap h'->Q x { s with heap:=h' }):wpAny (model prog w) A (eJ (.ref it)) Q E s:=by
 cases κ with
 | true=>exact wpAny_nextOf_list_item hit e f hQ
 | false =>
  have a:s.heap.IsTupleIter it l i:=hit;have b:s.heap.IsTuple l items:=e;obtain⟨o,ho,g,hd⟩:=id a; obtain⟨ol,c,_,nl,d⟩:=b
  unfold eJ;refine Db (eO (name:=dk "__next__") a.typeIs fe (fO fe a.typeIs io ?_ (iY _)));show wpAny (model prog w) _ (field (.ref it) 0 >>= _) _ _ s; refine Db (da ho hd (x:=.ref l) rfl ?_)
  show wpAny (model prog w) _ (if (cm l==dO)=true then _ else _) _ _ s; rw [if_neg (show ¬((cm l==dO)=true) from c8)]
  show wpAny (model prog w) _ (field (.ref it) 1 >>= _) _ _ s; refine Db (da ho hd (x:=.int i 0) rfl ?_)
  show wpAny (model prog w) _ (seqItems? (.ref l) >>= _) _ _ s; refine Db (fQ c d ?_); simp only [gH,f]
  refine Db (gq ho hd (by simp) (Sc ⟨x,rfl,Sc (hQ _ (show Heap.IsTupleIter _ it l (i+1) from ?_) (jp ..))⟩));exact⟨_,fC _ ho (Obj.isFreed_of_fields (gk hd _)),(Obj.cls_mapFields ..).trans g,by(rw [gk hd]; simp [rawInt])⟩
theorem G6{κ:Bool}{it l:Ch}{i:Nat}{items:Array Cn}{Q:Cn->FM->Prop}(hh:A.handled=none)(hit:ItAt κ s.heap it l i)(g:SqAt κ s.heap l items)(h:items[i]?=none)
  (hE:∀h' e,Heap.ExtBut it s.heap h'->(∃o,h'.get? e=some o/\o.cls=.type "StopIteration")->E (.ref e) { s with heap:=h' }):wpAny (model prog w) A (eJ (.ref it)) Q E s:=by
 cases κ with
 | true=>exact wpAny_nextOf_list_end hh hit g h hE
 | false =>
  have b:=hit;have c:s.heap.IsTuple l items:=g;obtain⟨o,ho,j,hd⟩:=id b; obtain⟨ol,d,_,nl,f⟩:=c
  refine Db (eO b.typeIs fe (fO fe b.typeIs io ?_ (iY _)));show wpAny (model prog w) _ (field (.ref it) 0 >>= _) _ _ s; refine Db (da ho hd (x:=.ref l) rfl ?_)
  refine Db (da ho hd (x:=.int i 0) rfl ?_);refine Db (fQ d f ?_); simp only [gH,h]
  refine Db (jB (Db (gq ho hd (by simp) ?_))); refine Db ?_; refine Db (m:=firstArgMember _ _) (wpAny_of_eq (a:=dO) (by first | rfl | omega) ?_); refine fh ?_ (by size_fits)
  simp only [raiseNew]; refine Db (wpAny_handled ?_); first | grind | rw [hh]
  refine Db (Sc (wpAny_throw ?_)); exact hE _ _ (((jp ..).extBut.push _).push _) ⟨_,cj _ rfl,rfl⟩
structure ZK (z TI TO i1 i2 l1 l2:Ch):Prop where
 TIz:TI≠z
 TOz:TO≠z
 i1z:i1≠z
 i2z:i2≠z
 TOi1:TO≠i1
 TOi2:TO≠i2
 i12:i1≠i2
 l1z:l1≠z
 l1TO:l1≠TO
 l1i1:l1≠i1
 l1i2:l1≠i2
 l2z:l2≠z
 l2TO:l2≠TO
 l2i1:l2≠i1
 l2i2:l2≠i2
theorem S3{zX zW:Bool}{z TI TO i1 i2 l1 l2:Ch}{k:Nat}{xs ys:Array Cn}{x y a b:Cn}{Q:Cn->FM->Prop}(D:ZK z TI TO i1 i2 l1 l2)
  (r:gJ s.heap z TI TO .none) (hTI:eh s.heap TI (.ref i1) (.ref i2)) (hTO:eh s.heap TO a b) (h1:ItAt zX s.heap i1 l1 k) (h2:ItAt zW s.heap i2 l2 k) (C:SqAt zX s.heap l1 xs) (F:SqAt zW s.heap l2 ys) (M:xs[k]?=some x) (hy:ys[k]?=some y)
  (hQ:∀h',gJ h' z TI TO (rawInt s.heap.objs.size)->eh h' TO x y->ItAt zX h' i1 l1 (k+1)->ItAt zW h' i2 l2 (k+1)->eh h' s.heap.objs.size x y->h'.objs.size=s.heap.objs.size+1->(∀c o,c≠z->c≠TO->c≠i1->c≠i2->s.heap.get? c=some o->h'.get? c=some o)->Q (.ref s.heap.objs.size) { s with heap:=h' }) :
  wpAny (model prog w) A (gf.«zip.__next__» ⟨[.ref z],[]⟩) (λfin s'=>∃v,fin=.done (.ret v)/\Q v s') E s:=by
 show wpAny (model prog w) A (field (.ref z) 2 >>= _) _ _ _; refine Db (da r rfl (x:=.bool false) rfl ?_)
 show wpAny (model prog w) A (field (.ref z) 3 >>= _) _ _ _; refine Db (da r rfl (x:=.ref TI) rfl ?_); refine Db (fQ hTI rfl ?_)
 show wpAny (model prog w) A (ez (.ref z) >>= _) _ _ _; refine Db ?_; unfold ez
 refine Db (da r rfl (x:=.none) rfl (Sc ?_)); simp only [if_true]; refine Db (jB ?_); refine Db (da r rfl (x:=.ref TO) rfl ?_)
 refine Db (fY r (by simp) λha m d=>?_);replace m:gJ ha z TI TO .ellipsis:=m;refine Db ?_; simp only [List.zipIdx_cons,List.zipIdx_nil,iJ,List.forIn_nil]
 refine Db (Db (hV ?_)); show wpAny (model prog w) _ (eJ (.ref i1) >>= _) _ _ _
 refine Db (Fy (h1.eb d.extBut D.i1z) (C.eb d.extBut D.l1z) M λN G f=>Sc ?_);have hTOb:eh N TO a b:=f.extBut _ _ D.TOi1 (d.extBut _ _ D.TOz hTO);refine Db (fQ hTOb rfl ?_); refine Db (iO hTOb λO hTOc g=>?_)
 replace hTOc:eh O TO x b:=hTOc;refine Db (ja (Sc ?_)); refine Db (Db (hV ?_)); show wpAny (model prog w) _ (eJ (.ref i2) >>= _) _ _ _
 refine Db (Fy (((h2.eb d.extBut D.i2z).eb f.extBut D.i12.symm).eb g.extBut D.TOi2.symm) (((F.eb d.extBut D.l2z).eb f.extBut D.l2i1).eb g.extBut D.l2TO) hy λhd H h=>Sc ?_);have hTOd:eh hd TO x b:=h.extBut _ _ D.TOi2 hTOc;refine Db (fQ hTOd rfl ?_); refine Db (iO hTOd λhe hTOe i=>?_)
 replace hTOe:eh he TO x y:=hTOe;refine Db (ja (Sc (Sc ?_))); refine Db (fQ hTOe rfl ?_); refine Db (wpAny_newTuple ?_)
 have t:he.objs.size=s.heap.objs.size:=by rw [i.1,h.1,g.1,f.1,d.1]
 have u:gJ he z TI TO .ellipsis:=i.extBut _ _ D.TOz.symm (h.extBut _ _ D.i2z.symm (g.extBut _ _ D.TOz.symm (f.extBut _ _ D.i1z.symm m)));have I:∀c o,c≠z->c≠TO->c≠i1->c≠i2->s.heap.get? c=some o->he.get? c=some o:=λc o c1 c2 c3 c4 e=>i.extBut _ _ c2 (h.extBut _ _ c4 (g.extBut _ _ c2 (f.extBut _ _ c3 (d.extBut _ _ c1 e))));have J:ItAt zX he i1 l1 (k+1):=((G.eb g.extBut D.TOi1.symm).eb h.extBut D.i12).eb i.extBut D.TOi1.symm;have K:ItAt zW he i2 l2 (k+1):=H.eb i.extBut D.TOi2.symm;have l:z<he.objs.size:=UF u;show wpAny (model prog w) _ (gm (.ref z) (.ref he.objs.size) >>= _) _ _ _; refine Db ?_; unfold gm
 have L:gJ (he.push { cls:=.type "tuple",data:=.seq #[x,y] }) z TI TO .ellipsis:=Ev _ u;refine Db (fY L (by simp) λhg n p=>?_);replace n:gJ hg z TI TO (rawInt he.objs.size):=n;refine fY n (by simp) λhi j q=>?_;replace j:gJ hi z TI TO (rawInt he.objs.size):=j;have up:∀c o,c≠z->he.get? c=some o->hi.get? c=some o:=λc o c1 e=>q.extBut _ _ c1 (p.extBut _ _ c1 (Ev _ e));have hTi:eh hi he.objs.size x y:=q.extBut _ _ (fV l) (p.extBut _ _ (fV l) (cj _ rfl));have B:hi.objs.size=he.objs.size+1:=by rw [q.1,p.1,eq]
 rw [t] at j hTi B;refine Sc ⟨_,rfl,?_⟩;show Q (.ref he.objs.size) _; rw [t]
 exact hQ hi j (up _ _ D.TOz hTOe) (J.mv λo e=>up _ o D.i1z e) (K.mv λo e=>up _ o D.i2z e) hTi B λc o c1 c2 c3 c4 e=>up c o c1 (I c o c1 c2 c3 c4 e)
theorem VW{zX zW:Bool}{z TI TO i1 i2 l1 l2:Ch}{k:Nat}{xs ys:Array Cn}{a b:Cn}{Q:Fin->FM->Prop}(hh:A.handled=none)(D:ZK z TI TO i1 i2 l1 l2)
  (n:gJ s.heap z TI TO .none) (hTI:eh s.heap TI (.ref i1) (.ref i2)) (hTO:eh s.heap TO a b) (h1:ItAt zX s.heap i1 l1 k) (h2:ItAt zW s.heap i2 l2 k) (p:SqAt zX s.heap l1 xs) (y:SqAt zW s.heap l2 ys) (q:xs[k]?=none\/ys[k]?=none)
  (hE:∀h' e,(∀c o,c≠z->c≠TO->c≠i1->c≠i2->s.heap.get? c=some o->h'.get? c=some o)->(∃o,h'.get? e=some o/\o.cls=.type "StopIteration")->E (.ref e) { s with heap:=h' }) :
  wpAny (model prog w) A (gf.«zip.__next__» ⟨[.ref z],[]⟩) Q E s:=by
 show wpAny (model prog w) A (field (.ref z) 2 >>= _) _ _ _; refine Db (da n rfl (x:=.bool false) rfl ?_)
 show wpAny (model prog w) A (field (.ref z) 3 >>= _) _ _ _; refine Db (da n rfl (x:=.ref TI) rfl ?_); refine Db (fQ hTI rfl ?_)
 show wpAny (model prog w) A (ez (.ref z) >>= _) _ _ _; refine Db ?_; unfold ez
 refine Db (da n rfl (x:=.none) rfl (Sc ?_)); simp only [if_true]; refine Db (jB ?_); refine Db (da n rfl (x:=.ref TO) rfl ?_)
 refine Db (fY n (by simp) λha l d=>?_);replace l:gJ ha z TI TO .ellipsis:=l;refine Db ?_; simp only [List.zipIdx_cons,List.zipIdx_nil,iJ,List.forIn_nil]
 refine Db (Db (hV ?_)); show wpAny (model prog w) _ (eJ (.ref i1) >>= _) _ _ _
 cases B:xs[k]? with
 | none =>
  refine Db (G6 hh (h1.eb d.extBut D.i1z) (p.eb d.extBut D.l1z) B λC e f he=>?_);obtain⟨oe,g,j⟩:=he;have r:gJ C z TI TO .ellipsis:=f _ _ D.i1z.symm l;have m:e≠z:=λx=>by subst x; rw [r] at g; cases g; simp at j
  exact fY r (by simp) λF _ i=>hE F e (λc o c1 _ c3 _ x=>i.extBut _ _ c1 (f _ _ c3 (d.extBut _ _ c1 x))) ⟨oe,i.extBut _ _ m g,j⟩
 | some x =>
  have hy:ys[k]?=none:=by
   rcases q with h | h
   ·rw [B] at h; cases h
   ·exact h
  refine Db (Fy (h1.eb d.extBut D.i1z) (p.eb d.extBut D.l1z) B λC G f=>Sc ?_);have hTOb:eh C TO a b:=f.extBut _ _ D.TOi1 (d.extBut _ _ D.TOz hTO);refine Db (fQ hTOb rfl ?_); refine Db (iO hTOb λF hTOc i=>?_)
  refine Db (ja (Sc ?_)); refine Db (Db (hV ?_)); show wpAny (model prog w) _ (eJ (.ref i2) >>= _) _ _ _
  refine Db (G6 hh (((h2.eb d.extBut D.i2z).eb f.extBut D.i12.symm).eb i.extBut D.TOi2.symm) (((y.eb d.extBut D.l2z).eb f.extBut D.l2i1).eb i.extBut D.l2TO) hy λhd e t he=>?_);obtain⟨oe,g,j⟩:=he;have u:gJ hd z TI TO .ellipsis:=t _ _ D.i2z.symm (i.extBut _ _ D.TOz.symm (f.extBut _ _ D.i1z.symm l));have m:e≠z:=λx=>by subst x; rw [u] at g; cases g; simp at j
  exact fY u (by simp) λhf _ v=>hE hf e (λc o c1 c2 c3 c4 x=>v.extBut _ _ c1 (t _ _ c4 (i.extBut _ _ c2 (f.extBut _ _ c3 (d.extBut _ _ c1 x))))) ⟨oe,v.extBut _ _ m g,j⟩
end
def Yd(κ:Bool):String:=match κ with
 | true => "list_iterator"
 | false => "tuple_iterator"
def IA(κ:Bool)(l:Ch):Obj:={ cls:=.type (Yd κ),data:=.fields #[.ref l,.int 0 0] }
abbrev zA(zX:Bool)(h:cw)(l1:Ch):cw:=h.push (IA zX l1)
abbrev zB(zX zW:Bool)(h:cw)(l1 l2:Ch):cw:=(zA zX h l1).push (IA zW l2)
abbrev zC(zX zW:Bool)(h:cw)(l1 l2:Ch):cw:=(zB zX zW h l1 l2).push { cls:=.type "tuple",data:=.seq #[.ref h.objs.size,.ref (zA zX h l1).objs.size] }
abbrev zD(zX zW:Bool)(h:cw)(l1 l2:Ch):cw:=(zC zX zW h l1 l2).push { cls:=.type "tuple",data:=.seq #[.none,.none] }
abbrev zE(zX zW:Bool)(h:cw)(l1 l2:Ch):cw:=(zD zX zW h l1 l2).push { cls:=.type "zip",data:=.fields #[.none,.bool false,.bool false,.ref (zB zX zW h l1 l2).objs.size,.ref (zC zX zW h l1 l2).objs.size] }
theorem V1(zX zW:Bool)(l1 l2:Ch)(xs ys:Array Cn):Meets (gf.«zip.__new__» ⟨[.type "zip",.ref l1,.ref l2],[]⟩)
  (λ_ R s=>SqAt zX s.heap l1 xs/\SqAt zW s.heap l2 ys/\R (.ok (.ret (.ref (zD zX zW s.heap l1 l2).objs.size))) { s with heap:=zE zX zW s.heap l1 l2 }) :=
 .of_wp λprog w A R s h=>by
  obtain⟨hp,g,d,tk,os⟩:=s; obtain⟨hl1,hl2,h⟩:=h
  have hsub:=sub_zip;have hL2:SqAt zW (zA zX hp l1) l2 ys:=hl2.mv λo e=>Ev _ e;cases zX with
  | true =>
   have g1:jb (gG ⟨hp,g,d,tk,os⟩) l1 xs:=hl1;cases zW with
   | true =>
    have g2:jb (gG ⟨hp.push { cls:=.type "list_iterator",data:=.fields #[.ref l1,.int 0 0] },g,d,tk,os⟩) l2 ys:=hL2
    wp_walk using e8 g1,e8 g2
    exact⟨_,rfl,h⟩
   | false =>
    have g2:jR (gG ⟨hp.push { cls:=.type "list_iterator",data:=.fields #[.ref l1,.int 0 0] },g,d,tk,os⟩) l2 ys:=hL2
    wp_walk using e8 g1,ef g2
    exact⟨_,rfl,h⟩
  | false =>
   have g1:jR (gG ⟨hp,g,d,tk,os⟩) l1 xs:=hl1;cases zW with
   | true =>
    have g2:jb (gG ⟨hp.push { cls:=.type "tuple_iterator",data:=.fields #[.ref l1,.int 0 0] },g,d,tk,os⟩) l2 ys:=hL2
    wp_walk using ef g1,e8 g2
    exact⟨_,rfl,h⟩
   | false =>
    have g2:jR (gG ⟨hp.push { cls:=.type "tuple_iterator",data:=.fields #[.ref l1,.int 0 0] },g,d,tk,os⟩) l2 ys:=hL2
    wp_walk using ef g1,ef g2
    exact⟨_,rfl,h⟩
theorem J5(κ:Bool)(h:cw)(l:Ch):ItAt κ (h.push (IA κ l)) h.objs.size l 0:=by
 cases κ with
 | true=>exact⟨_,cj _ rfl,rfl,rfl⟩
 | false=>exact⟨_,cj _ rfl,rfl,rfl⟩
section
variable {prog:Program}{w:World}{A:Around}{E:Value->Shared->Prop}{s:Shared}
theorem NI{zX zW:Bool}{l1 l2:Ch}{xs ys:Array Cn}{Q:Cn->FM->Prop}(a:SqAt zX s.heap l1 xs)(b:SqAt zW s.heap l2 ys)
  (h:∀h',gJ h' (s.heap.objs.size+4) (s.heap.objs.size+2) (s.heap.objs.size+3) .none->eh h' (s.heap.objs.size+2) (.ref s.heap.objs.size) (.ref (s.heap.objs.size+1))->eh h' (s.heap.objs.size+3) .none .none ->
   ItAt zX h' s.heap.objs.size l1 0->ItAt zW h' (s.heap.objs.size+1) l2 0->(∀c o,s.heap.get? c=some o->h'.get? c=some o)->Q (.ref (s.heap.objs.size+4)) { s with heap:=h' }) :
  wpAny (model prog w) A (call (.type "zip") [.ref l1,.ref l2]) Q E s:=by
 refine callType_new F.called_zip (by decide) (F.typeCall_zip_2 _ _) (F.newCall_zip_2 _ _) (λobj=>F.args_object_init_3 obj _ _) F.entry_zip_new (V1 zX zW l1 l2 xs ys) ⟨a,b,?_⟩;have z1:(zA zX s.heap l1).objs.size=s.heap.objs.size+1:=eq ..;have z2:(zB zX zW s.heap l1 l2).objs.size=s.heap.objs.size+2:=by rw [eq,z1]
 have z3:(zC zX zW s.heap l1 l2).objs.size=s.heap.objs.size+3:=by rw [eq,z2]
 have z4:(zD zX zW s.heap l1 l2).objs.size=s.heap.objs.size+4:=by rw [eq,z3]
 have g5:(zE zX zW s.heap l1 l2).get? (zD zX zW s.heap l1 l2).objs.size=some _:=cj _ rfl;have g4:(zE zX zW s.heap l1 l2).get? (zC zX zW s.heap l1 l2).objs.size=some _:=Ev _ (cj _ rfl);have g3:(zE zX zW s.heap l1 l2).get? (zB zX zW s.heap l1 l2).objs.size=some _:=Ev _ (Ev _ (cj _ rfl));have i2:ItAt zW (zE zX zW s.heap l1 l2) (zA zX s.heap l1).objs.size l2 0:=(J5 zW (zA zX s.heap l1) l2).mv λo e=>Ev _ (Ev _ (Ev _ e));have i1:ItAt zX (zE zX zW s.heap l1 l2) s.heap.objs.size l1 0:=(J5 zX s.heap l1).mv λo e=>Ev _ (Ev _ (Ev _ (Ev _ e)));rw [z4] at g5;rw [z3] at g4;rw [z2] at g3;rw [z1] at i2;have fin:=h (zE zX zW s.heap l1 l2) (by rw [gJ,g5,z2,z3]) (by rw [eh,g3,z1]) g4 i1 i2 (λc o e=>Ev _ (Ev _ (Ev _ (Ev _ (Ev _ e)))));refine⟨⟨_,by rw [z4]; exact g5,rfl⟩,?_⟩;rw [z4];exact fin
theorem K6{zX zW:Bool}{z TI TO i1 i2 l1 l2:Ch}{k:Nat}{xs ys:Array Cn}{x y a b:Cn}{Q:Option Cn->FM->Prop}(D:ZK z TI TO i1 i2 l1 l2)
  (f:gJ s.heap z TI TO .none) (hTI:eh s.heap TI (.ref i1) (.ref i2)) (hTO:eh s.heap TO a b) (h1:ItAt zX s.heap i1 l1 k) (h2:ItAt zW s.heap i2 l2 k) (d:SqAt zX s.heap l1 xs) (e:SqAt zW s.heap l2 ys) (g:xs[k]?=some x) (hy:ys[k]?=some y)
  (hQ:∀h',gJ h' z TI TO (rawInt s.heap.objs.size)->eh h' TO x y->ItAt zX h' i1 l1 (k+1)->ItAt zW h' i2 l2 (k+1)->eh h' s.heap.objs.size x y->h'.objs.size=s.heap.objs.size+1->(∀c o,c≠z->c≠TO->c≠i1->c≠i2->s.heap.get? c=some o->h'.get? c=some o)->Q (some (.ref s.heap.objs.size)) { s with heap:=h' }) :
  wpAny (model prog w) A (pyNext (.ref z)) Q E s:=by
 have hT:s.TypeIs (.ref z) "zip":=⟨_,f,rfl⟩;unfold pyNext
 exact Db (hX (eO (name:=dk "__next__") hT iP (fO iP hT F.entry_zip_next
  (S3 D f hTI hTO h1 h2 d e g hy λh' a1 a2 a3 a4 a5 a6 a7=>Sc (hQ h' a1 a2 a3 a4 a5 a6 a7)) (F.args_zip_next_1 _))))
theorem Mm{zX zW:Bool}{z TI TO i1 i2 l1 l2:Ch}{k:Nat}{xs ys:Array Cn}{a b:Cn}{Q:Option Cn->FM->Prop}(hh:A.handled=none)(D:ZK z TI TO i1 i2 l1 l2)
  (h:gJ s.heap z TI TO .none) (hTI:eh s.heap TI (.ref i1) (.ref i2)) (hTO:eh s.heap TO a b) (h1:ItAt zX s.heap i1 l1 k) (h2:ItAt zW s.heap i2 l2 k) (f:SqAt zX s.heap l1 xs) (g:SqAt zW s.heap l2 ys) (d:xs[k]?=none\/ys[k]?=none)
  (hQ:∀h',(∀c o,c≠z->c≠TO->c≠i1->c≠i2->s.heap.get? c=some o->h'.get? c=some o)->Q none { s with heap:=h' }):wpAny (model prog w) A (pyNext (.ref z)) Q E s:=by
 have hT:s.TypeIs (.ref z) "zip":=⟨_,h,rfl⟩;unfold pyNext;refine Db (hX (eO (name:=dk "__next__") hT iP (fO iP hT F.entry_zip_next (VW hh D h hTI hTO h1 h2 f g d λh' e i he=>?_) (F.args_zip_next_1 _))));obtain⟨o,ho,j⟩:=he;exact Db (wpAny_isInstance (T := "StopIteration") (b:=true) ⟨o,ho,j⟩ isSubtype_stop (Sc (hQ _ i)))
end
section
variable {X:Cx}{zG:List (Addr×Obj)}{σ:L2.St}{H:Hp}{s:Shared}{h':Heap}
theorem Inv.turnedL{t':Nat}{ch:List Ch}(I:Inv X zG σ H s)(hf:∀b∈ch,Gh X zG H b)(k:∀b o,b∉ch->s.heap.get? b=some o->h'.get? b=some o):Inv X zG σ H { s with heap:=h',toks:=t' }:=by
 have d:∀b u,H b=some u->b∉ch:=λb u e z=>by rw [(hf b z).1] at e; cases e
 refine I.step (λb f=>?_) (λb o _ _ a e _=>k b o a e) (λb o _ _ a e _=>⟨_,k b o a e⟩) (λ_ _ _ _ n=>n) (λb o a e=>⟨o,k b o a e⟩) (λ_ _ e=>e) (λ_ _ _ e=>e) (λb ps e=>⟨#[],by rw [e]; simp⟩) (λm hm=>?_) (λb u e=>(I.hok b u e).stay (λc v a q=>k c v (a.elim (λz=>by grind) λz=>d c _ z) q) (λ_ q=>q) λ_ _ q=>q) I.bare
 ·obtain⟨f0,f1,f2,f3,f4,f5⟩:=hf b f
  exact⟨f3,f1,f4,f5⟩
 ·obtain⟨o,es,ep,ho,r⟩:=hm
  exact⟨o,es,ep,k _ o (λz=>(hf _ z).2.1 rfl) ho,r⟩
theorem Inv.turnLaid{t':Nat}{ch:List Ch}{a:Ch}{o:HO}(I:Inv X zG σ H s)(hf:∀b∈ch,Gh X zG H b)(k:∀b o,b∉ch->s.heap.get? b=some o->h'.get? b=some o)(ha:s.heap.objs.size<=a)(new:ObjOk X.prog X.w (A4 H a o) h' a o) :
  Inv X zG σ (A4 H a o) { s with heap:=h',toks:=t' }:=by
 have g:∀b u,H b=some u->b∉ch:=λb u e z=>by rw [(hf b z).1] at e; cases e
 have hn:H a=none:=I.hok.fresh ha;have up:∀b u,H b=some u->A4 H a o b=some u:=λb u e=>by rw [AQ (A0 e hn)]; exact e
 refine I.step (g':=s.gens) (d':=s.drawn) (ch:=ch) (λb f=>?_) (λb o _ _ d e _=>k b o d e) (λb o _ _ d e _=>⟨o.slots,k b o d e⟩) (λb u _ e n=>?_) (λb o d e=>⟨o,k b o d e⟩) (λb xs e=>up _ _ e) (λb o u e=>up _ _ e) (λb ps e=>⟨#[],by rw [up _ _ e]; simp⟩) (λm hm=>?_) (λb u e=>?_) I.bare
 ·obtain⟨f0,f1,f2,f3,f4,f5⟩:=hf b f
  exact⟨f3,f1,f4,f5⟩
 ·rw [AQ (c7 (dA (UF e) ha))]; exact n
 ·obtain⟨o,es,ep,ho,r⟩:=hm
  exact⟨o,es,ep,k _ o (λz=>(hf _ z).2.1 rfl) ho,r⟩
 ·by_cases f:b=a
  ·subst f; rw [AX] at e; cases e; exact new
  ·rw [AQ f] at e
   exact(I.hok b u e).stay (λc v d q=>k c v (d.elim (λz=>by grind) λz=>g c _ z) q) (λc q=>up _ _ q) λc xs q=>up _ _ q
end
def SqK(κ:Bool)(K:Frag)(H:Hp)(a:Ch)(xs:List V):Prop:=match κ with
 | true=>SqL K H a xs
 | false=>SqT K H a xs
theorem SqK.at{κ:Bool}{X:Cx}{zG:List (Ch×Obj)}{σ:L2.St}{H:Hp}{s:FM}{a:Ch}{xs:List V}(I:Inv X zG σ H s)(h:SqK κ X.K H a xs):∃b:List Cn,Vals xs b/\SqAt κ s.heap a b.toArray:=by
 cases κ with
 | true=>obtain⟨b,r,pl,_⟩:=I.list h; exact⟨_,r,pl.isList⟩
 | false=>obtain⟨b,r,p,_⟩:=I.tuple h; exact⟨_,r,p⟩
def ZM (K : Frag) (zX zW : Bool) (a b : Ch) (xs ys : List V) : It :=
  ⟨λi H => SqK zX K H a xs ∧ SqK zW K H b ys ∧ i < xs.length ∧ i < ys.length, λi H x H' => ∃ T p q, x = .ref T ∧ H T = none ∧ H' = A4 H T (.tup [p, q]) ∧ xs[i]? = some p ∧ ys[i]? = some q,
   λi H => SqK zX K H a xs ∧ SqK zW K H b ys ∧ (xs.length ≤ i ∨ ys.length ≤ i)⟩
structure aS (zX zW:Bool) (z TI TO i1 i2 a b:Ch) (k:Nat) (h:cw):Prop where
 z:gJ h z TI TO .none
 ti:eh h TI (.ref i1) (.ref i2)
 to:∃a b,eh h TO a b
 i1:ItAt zX h i1 a k
 i2:ItAt zW h i2 b k
theorem Tb{P:cz}{w:dC}{K:Frag}{es:List c_}{j:Nat}{pos:Pos}(zX zW:Bool)(z TI TO i1 i2 a b:Ch)(xs ys:List V)(D:ZK z TI TO i1 i2 a b)(hTI:TI∉[z,TO,i1,i2]) :
  Turn P w K (.Tuple es j pos) (ZM K zX zW a b xs ys) [z,TI,TO,i1,i2] z (aS zX zW z TI TO i1 i2 a b) where
 mem:=by simp
 obj:=λi h st c d=>by
  simp only [T0,c6,or_false] at d
  rcases d with rfl | rfl | rfl | rfl | rfl
  ·exact⟨_,st.z,λv q=>by cases q⟩
  ·exact⟨_,st.ti,λv q=>by cases q⟩
  ·obtain⟨a,b,e⟩:=st.to
   exact⟨_,e,λv q=>by cases q⟩
  ·exact st.i1.lies
  ·exact st.i2.lies
 keep:=λi h h' st k=>by
  obtain⟨p,q,e⟩:=st.to;exact⟨k z (by simp) _ st.z,k TI (by simp) _ st.ti,⟨p,q,k TO (by simp) _ e⟩,st.i1.mv λo e=>k i1 (by simp) o e,st.i2.mv λo e=>k i2 (by simp) o e⟩
 item:=by
  intro X hP hw hK d i zG s σ H E I hf st hg;subst hP hw hK;obtain⟨ha,f,hi,hj⟩:=hg;obtain⟨us,r1,q1⟩:=ha.at I;obtain⟨ws,r2,q2⟩:=f.at I;obtain⟨u,hu,ru⟩:=r1.get (No hi);obtain⟨v,hv,rv⟩:=r2.get (No hj);obtain⟨p,q,e⟩:=st.to;refine K6 D st.z st.ti e st.i1 st.i2 q1 q2 (x:=u) (y:=v) (by simpa using hu) (by simpa using hv) λh' a1 a2 a3 a4 a5 a6 a7=>⟨_,rfl,?_⟩;refine wpAny_letOwnedTupleGo_zip a1 λh2 b1 b2=>?_;have hT:H s.heap.objs.size=none:=I.hok.fresh (On _)
  have kk:∀c o,c∉[z,TO,i1,i2]->s.heap.get? c=some o->h2.get? c=some o:=λc o d e=>by
   simp only [T0,c6,or_false,not_or] at d;exact b2.extBut _ _ d.1 (a7 c o d.1 d.2.1 d.2.2.1 d.2.2.2 e)
  have I2:Inv X zG σ (A4 H s.heap.objs.size (.tup [xs[i],ys[i]])) { s with heap:=h2 }:=by
   refine I.turnLaid (t':=s.toks) (ch:=[z,TO,i1,i2]) (λc d=>hf c ?_) kk (On _) ?_
   ·simp only [T0,c6,or_false] at d ⊢
    rcases d with rfl | rfl | rfl | rfl <;> simp
   ·have nT:s.heap.objs.size≠z:=fV (UF st.z)
    exact⟨by show 2<=sizeLine; decide,[u,v],.cons ru (.cons rv .nil),⟨_,b2.extBut _ _ nT a5,rfl,_,rfl,rfl,rfl⟩⟩
  have g:eh h2 TI (.ref i1) (.ref i2):=kk _ _ hTI st.ti;refine⟨.ref s.heap.objs.size,_,I2,rfl,⟨_,_,_,rfl,hT,rfl,No hi,No hj⟩,⟨b1,g,⟨_,_,b2.extBut _ _ D.TOz a2⟩,a3.eb b2.extBut D.i1z,a4.eb b2.extBut D.i2z⟩,λc d=>?_⟩;have l:H c=none:=(hf c d).1
  have m:c≠s.heap.objs.size:=λz=>by
   obtain⟨o,ho,_⟩:∃o,s.heap.get? c=some o/\True:=by
    simp only [T0,c6,or_false] at d
    rcases d with rfl | rfl | rfl | rfl | rfl
    ·exact⟨_,st.z,trivial⟩
    ·exact⟨_,st.ti,trivial⟩
    ·exact⟨_,e,trivial⟩
    ·obtain⟨o,q,_⟩:=st.i1.lies; exact⟨o,q,trivial⟩
    ·obtain⟨o,q,_⟩:=st.i2.lies; exact⟨o,q,trivial⟩
   rw [z] at ho;exact eK _ (UF ho)
  rw [AQ m]; exact l
 done:=by
  intro X hP hw hK d i zG s σ H E I hf st hg;subst hP hw hK;obtain⟨ha,f,hi⟩:=hg;obtain⟨us,r1,q1⟩:=ha.at I;obtain⟨ws,r2,q2⟩:=f.at I;obtain⟨p,q,e⟩:=st.to;have l1:=r1.length;have l2:=r2.length;refine Mm (I.ok.hd d) D st.z st.ti e st.i1 st.i2 q1 q2 (hi.imp (λhi=>by simp; omega) λhi=>by simp; omega) λh' kk=>⟨rfl,?_⟩;refine I.turnedL (t':=s.toks) (ch:=[z,TO,i1,i2]) (λc d=>hf c ?_) λc o d e=>?_
  ·simp only [T0,c6,or_false] at d ⊢
   rcases d with rfl | rfl | rfl | rfl <;> simp
  ·simp only [T0,c6,or_false,not_or] at d
   exact kk c o d.1 d.2.1 d.2.2.1 d.2.2.2 e
 self:=λA i s Q E st h=>wpAny_pyIter_zip st.z h
section
variable {X:Cx}
theorem Xi(n a b:Nat)(h1:a<n)(h2:b<n):ZK (n+4) (n+2) (n+3) n (n+1) a b:=by
 constructor <;> (grind)
theorem Xh(n:Nat):(n+2)∉[n+4,n+3,n,n+1]:=by
 grind
theorem Xj(n c:Nat)(h:c∈[n+4,n+2,n+3,n,n+1]):n<=c:=by
 grind
def bY(K:Frag)(ta:TA):TI:=λσ H R=>ta σ H λvs H1=>∃zX zW a b xs ys,vs=[.ref a,.ref b]/\SqK zX K H1 a xs/\SqK zW K H1 b ys/\R (ZM K zX zW a b xs ys) H1
theorem UI{e1 e2:c_}{es:List c_}{j:Nat}{d:Pos}{ta:TA}{p pos:Pos}(hg:Gl X "zip")(hm:X.mg "zip"=none)(ha:PA X [e1,e2] ta)(m:starEach [e1,e2] X.env=[(false,eval e1 X.env),(false,eval e2 X.env)]:=by rfl)(f:starEach [e2] X.env=[(false,eval e2 X.env)]:=by rfl) :
  PI X (.Tuple es j d) (.Call (.Name "zip" p) [e1,e2] [] pos) (bY X.K ta):=by
 intro zG s σ H R I h;refine Call_ (FT I hg hm boot_zip (e9 (thn (ha pos zG s σ H _ I h) λus s1 ⟨vs,H1,I1,r1,q1⟩=>?_) (by rw [m,f]) (by rw [f]; rfl)));obtain⟨zX,zW,a,b,xs,ys,e,h1,h2,q⟩:=q1;subst e;obtain⟨u,v,rfl,ru,rv⟩:=vals2 r1;cases ru;cases rv;obtain⟨us,n,q1⟩:=h1.at I1;obtain⟨ws,r,q2⟩:=h2.at I1;have la:a<s1.heap.objs.size:=by obtain⟨o,e⟩:=q1.lies; exact UF e
 have lb:b<s1.heap.objs.size:=by obtain⟨o,e⟩:=q2.lies; exact UF e
 refine NI q1 q2 λh' l hTI hTO i k t=>?_;refine wpAny_pyIter_zip l ?_;have D:=Xi s1.heap.objs.size a b la lb;refine⟨s1.heap.objs.size+4,[s1.heap.objs.size+4,s1.heap.objs.size+2,s1.heap.objs.size+3,s1.heap.objs.size,s1.heap.objs.size+1],_,ZM X.K zX zW a b xs ys,H1,rfl,I1.kept (t':=s1.toks) t,Tb zX zW _ _ _ _ _ a b xs ys D (Xh s1.heap.objs.size),⟨l,hTI,⟨_,_,hTO⟩,i,k⟩,λc w=>?_,q⟩;have g:s1.heap.objs.size<=c:=Xj s1.heap.objs.size c w;exact I1.fpOk g (I1.hok.fresh g)
end
end L2
namespace Dp
open L2
def Gi(ds es:List D):List D:=gn (λd e=>.tup [d,e]) ds es
section
variable {K:Frag}
theorem MG{U V' M:Ch->Prop}{H:Hp}{d:D}{v:V}{ds:List D}(h:AtT K V' M H d v)(e:IU d=some ds)(uV:∀a,U a->V' a)(vM:∀a,V' a->M a):∃κ a vs,v=.ref a/\Ats K M H ds vs/\∀M' H',Pres M H M' H'->Ext U H H'->SqK κ K H' a vs:=by
 cases d with
 | lst xs =>
  cases e;obtain⟨a,vs,e1,n1,hq,b⟩:=h;refine⟨true,a,vs,e1,b,λM' H' _ ex=>?_⟩
  rcases hq with hq | ⟨o,hq⟩
  ·exact .inl (.inl (ex.keep hq λz=>n1 (uV a z)))
  ·exact .inl (.inr ⟨o,ex.keep hq λz=>n1 (uV a z)⟩)
 | tup xs =>
  cases e;obtain⟨a,vs,e1,hq,b⟩:=h;exact⟨false,a,vs,e1,b,λM' H' pr _=>(hq.pres pr).sq⟩
 | _=>cases e
theorem Pa{M:Ch->Prop}{H:Hp}{d:D}{v:V}{ds:List D}(h:At K M H d v)(e:IU d=some ds):∃κ a vs,v=.ref a/\Ats K M H ds vs/\∀M' H',Pres M H M' H'->SqK κ K H' a vs:=by
 cases d with
 | lst xs =>
  cases e;obtain⟨a,vs,e1,hq,b⟩:=h;exact⟨true,a,vs,e1,b,λM' H' pr=>(hq.pres pr).sq⟩
 | tup xs =>
  cases e;obtain⟨a,vs,e1,hq,b⟩:=h;exact⟨false,a,vs,e1,b,λM' H' pr=>(hq.pres pr).sq⟩
 | _=>cases e
theorem JJ{M:Ch->Prop}{H:Hp}{zX zW:Bool}{a b:Ch}{vs us:List V}{ds es:List D}(f:Ats K M H ds vs)(ht:Ats K M H es us){i:Nat}{M':Ch->Prop}{H':Hp}(pr:Pres M H M' H')(h1:SqK zX K H' a vs)(h2:SqK zW K H' b us)(c:∀a,M' a->∃o,H' a=some o) :
  (∀d,(Gi ds es)[i]?=some d->(ZM K zX zW a b vs us).go i H'/\∀x H2,(ZM K zX zW a b vs us).yld i H' x H2->Grow H' H2/\At K M' H2 d x)/\((Gi ds es).length<=i->(ZM K zX zW a b vs us).stop i H'):=by
 have l1:=f.length;have l2:=ht.length;refine⟨λd hd=>?_,λg=>⟨h1,h2,?_⟩⟩
 ·unfold Gi at hd
  rw [jg] at hd;cases q1:ds[i]? with
  | none=>rw [q1] at hd; simp at hd
  | some d1 =>
   cases q2:es[i]? with
   | none=>rw [q1,q2] at hd; simp at hd
   | some d2 =>
    rw [q1,q2] at hd;have e:D.tup [d1,d2]=d:=cv hd;have i1:i<ds.length:=(cr.mp q1).1;have i2:i<es.length:=(cr.mp q2).1;refine⟨⟨h1,h2,by omega,by omega⟩,λx H2 y=>?_⟩;obtain⟨T,p,q,rfl,hT,rfl,e1,e2⟩:=y;obtain⟨v1,f1,a1⟩:=(f.pres pr).get q1;obtain⟨v2,f2,a2⟩:=(ht.pres pr).get q2;rw [e1] at f1;rw [e2] at f2;cases f1;cases f2;subst e;exact⟨A1 hT,ET c hT ⟨p,[q],rfl,a1,q,[],rfl,a2,rfl⟩⟩
 ·unfold Gi at g
  grind
end
section
variable {X:Cx}{e1 e2:Expr}{es:List Expr}{j:Nat}{tpos p pos:Pos}{ws:Ef}
def VX(ws:Ef):Ef:=λn ρ P=>ws n ρ λds n1=>∃d e xs ys,ds=[d,e]/\IU d=some xs/\IU e=some ys/\P (Gi xs ys) n1
theorem WS(hg:Gl X "zip")(hm:X.mg "zip"=none)(ha:Wm X [e1,e2] ws)(h:starEach [e1,e2] X.env=[(false,eval e1 X.env),(false,eval e2 X.env)]:=by rfl)(c:starEach [e2] X.env=[(false,eval e2 X.env)]:=by rfl) :
  Xd X (.Tuple es j tpos) (.Call (.Name "zip" p) [e1,e2] [] pos) (VX ws):=by
 obtain⟨t,a1,a2⟩:=ha;refine⟨_,UI hg hm a1 h c,λC M H n ρ σ P Rr R w q=>?_⟩;refine a2 C M H n ρ σ _ _ R w λvs H1 ds n1 ee f1 r1 p=>?_;obtain⟨d,e,xs,ys,rfl,hd,he,p⟩:=p;cases r1 with
 | cons r rr =>
  cases rr with
  | cons r' rr =>
   cases rr;have R1:=R.step ee f1;obtain⟨zX,a,us,rfl,h1,s1⟩:=MG (U:=C.U) r hd R.uV R1.vM;obtain⟨zW,b,f,rfl,h2,s2⟩:=MG (U:=C.U) r' he R.uV R1.vM;refine⟨zX,zW,a,b,us,f,rfl,s1 M H1 (Pres.refl _ _) (Ext.refl _ _),s2 M H1 (Pres.refl _ _) (Ext.refl _ _),q _ H1 _ n1 ee f1 (λi M' H' pr ex g=>JJ h1 h2 pr (s1 M' H' pr ex) (s2 M' H' pr ex) g) p⟩
theorem Yk(hg:Gl X "zip")(hm:X.mg "zip"=none)(ha:Xf X [e1,e2] ws)(h:starEach [e1,e2] X.env=[(false,eval e1 X.env),(false,eval e2 X.env)]:=by rfl)(c:starEach [e2] X.env=[(false,eval e2 X.env)]:=by rfl) :
  DI X (.Tuple es j tpos) (.Call (.Name "zip" p) [e1,e2] [] pos) (VX ws):=by
 obtain⟨t,a1,a2⟩:=ha;refine⟨_,UI hg hm a1 h c,λC M H n ρ σ P Rr R w q=>?_⟩;refine a2 C M H n ρ σ _ _ R w λvs H1 ds n1 ee f1 r1 p=>?_;obtain⟨d,e,xs,ys,rfl,hd,he,p⟩:=p;obtain⟨v,r,rfl,r1,v',r',rfl,r2,rr⟩:=r1;cases (show r'=[] from rr);obtain⟨zX,a,us,rfl,h1,s1⟩:=Pa r1 hd;obtain⟨zW,b,f,rfl,h2,s2⟩:=Pa r2 he;exact⟨zX,zW,a,b,us,f,rfl,s1 M H1 (Pres.refl _ _),s2 M H1 (Pres.refl _ _),q _ H1 _ n1 ee f1 (λi M' H' pr g=>JJ h1 h2 pr (s1 M' H' pr) (s2 M' H' pr) g) p⟩
def bX:D->Option Key
 | .int i=>some (.inl i)
 | .str x=>some (.inr x)
 | _=>none
def Hz:List D->Option (List Key)
 | []=>some []
 | d::ds=>match bX d,Hz ds with
  | some k,some ks=>some (k::ks)
  | _,_=>none
theorem G3{K:Frag}{M:Ch->Prop}{H:Hp}:∀{ds:List D} {vs:List V} {ks:List Key},Hz ds=some ks->Ats K M H ds vs->vs=ks.map kOf
 | [],vs,ks,e,h=>by cases e; exact h
 | d::ds,vs,ks,e,h=>by
  obtain⟨v,r,e1,h1,h2⟩:=h;unfold Hz at e
  split at e
  ·rename_i k c a b
   cases e;rw [e1,G3 b h2]
   congr 1
   cases d with
   | int i=>cases a; exact h1
   | str x=>cases a; exact h1.1
   | _=>cases a
  ·cases e
def EV(d e:D)(P:D->Prop):Prop:=match d,e with
 | .int i,.int j=>P (.bl (decide (i<j)))
 | .str i,.str j=>P (.bl (decide (i.cps.toList<j.cps.toList)))
 | .tup xs,.tup ys=>∃ks ls,Hz xs=some ks/\Hz ys=some ls/\CS ks ls=true/\P (.bl (GY ks ls))
 | _,_=>False
def Zn(K:Frag):R2:=λx y H Q=>X8 x y H Q\/Zm K x y H Q
theorem D6{k:Nat}(hr:Room k X.A):OpR X (compareOp .Lt) (Zn X.K):=op_ltU.or (YN hr.units0)
theorem GF:E5 X.K .sh (Zn X.K) EV:=λU M H d e x y P Q c vM f hy w q=>by
 unfold EV at w
 split at w
 ·exact .inl (Xa U M H _ _ x y P Q c vM f hy w q)
 ·exact .inl (Xa U M H _ _ x y P Q c vM f hy w q)
 ·obtain⟨ks,ls,h1,h2,h3,w⟩:=w
  obtain⟨a,vs,rfl,ha,g⟩:=f.tup;obtain⟨b,us,rfl,h,ht⟩:=hy.tup;have e1:=G3 h1 g;have e2:=G3 h2 ht;subst e1 e2;exact .inr ⟨a,b,ks,ls,rfl,rfl,ha.sq,h.sq,h3,q _ H (.bl _) .refl rfl w⟩
 grind
end
end Dp
namespace L2
section
variable {prog:Program}{w:World}{A:Around}{E:Value->Shared->Prop}{s:Shared}
theorem Nd{t sl:Ch}{items:Array Cn}{vl vu:Cn}{lo hi:Option Int}{Q:Cn->FM->Prop}(ht:IsTup s.heap t items)(d:s.heap.IsSliceOf sl vl vu .none)(pl:iF vl lo)(pu:iF vu hi)
  (hw:HT.sIx items.size 0 lo=0/\HT.sIx items.size items.size hi=items.size) (h:Q (.ref t) s):wpAny (model prog w) A (getItem (.ref t) (.ref sl)) Q E s:=by
 obtain⟨os,b,c,e⟩:=id d;have hTs:s.TypeIs (.ref sl) "slice":=⟨os,b,c⟩;unfold getItem
 (try with_reducible refine dw ?_); (first | refine Db (Sc ?_) | skip)
 refine Db (i5 ht.typeIs (by decide) (Db (eO (name:=dk "__getitem__") ht.typeIs dN (fO dN ht.typeIs iV ?_ (ij _ _)))));show wpAny (model prog w) _ (gZ (.ref t) >>= _) _ _ s;refine Db (tupleItemsOf_ ht (Db (iG hTs ?_))); rw [if_pos (by decide)]
 refine Db (HT.sliceApplied_gen d pl pu ?_);have a:(((HT.sIx items.size 0 lo:Nat):Int)==0&&(1:Int)==1&&(HT.sIx items.size items.size hi - HT.sIx items.size 0 lo)==items.size)=true:=by rw [hw.1,hw.2]; simp
 show wpAny (model prog w) _ (if (((HT.sIx items.size 0 lo:Nat):Int)==0&&(1:Int)==1&&(HT.sIx items.size items.size hi - HT.sIx items.size 0 lo)==items.size)=true then _ else _) _ _ s;rw [if_pos a];refine Db (m:=iw _) ?_;unfold iw;refine Db (iG ht.typeIs (Sc ?_));show wpAny (model prog w) _ (if ((fE "tuple"==fE "tuple")=true) then _ else _) _ _ s;rw [if_pos (by decide)]
 first
  | grind
  | exact Db (jB (Sc ⟨_,rfl,Sc h⟩))
  | grind
theorem KC{α β:Type}{f g:α->Option β}:∀{l:List α},(∀a∈l,f a=g a)->l.filterMap f=l.filterMap g
 | [],_=>rfl
 | a::l,h=>by
  rw [f8,f8,h a Op,KC λx b=>h x (Re _ b)]
theorem Tu(l:List Cn):∀(n:Nat),n<=l.length->((dD n).filterMap fun(k:Nat)=>l[n - 1 - k]?)=(l.take n).reverse:=by
 intro n
 induction n with
 | zero=>intro _; simp
 | succ n ih =>
  intro h;have a:n<l.length:=h;rw [g9,f8];have e0:l[n+1 - 1 - 0]?=some l[n]:=by rw [show n+1 - 1 - 0=n by omega,No a]
  simp only [e0];rw [ii]
  have e1:((fun(k:Nat)=>l[n+1 - 1 - k]?)∘Nat.succ)=fun(k:Nat)=>l[n - 1 - k]?:=by
   grind
  rw [e1,ih (by omega),List.take_add_one,No a,List.reverse_append];rfl
theorem Gu(xs:Array Cn):((dD xs.size).filterMap fun(k:Nat)=>xs[(((xs.size:Int) - 1)+(k:Int)*(-1)).toNat]?).toArray=xs.toList.reverse.toArray:=by
 have h:=Tu xs.toList _ (On _);rw [hZ] at h
 have e:(dD xs.size).filterMap (fun(k:Nat)=>xs[((xs.size - 1)+(k:Int)*(-1)).toNat]?)=(dD xs.toList.length).filterMap λk=>xs.toList[xs.toList.length - 1 - k]?:=by
  refine KC λk a=>?_;rw [show ((xs.size - 1)+(k:Int)*(-1)).toNat=xs.size - 1 - k by omega];simp
 rw [e,h]
theorem O7{sl:Ch}{t:Tok}{n:Nat}{Q:Int×Int×Nat->FM->Prop}(c:s.heap.IsSliceOf sl .none .none (.int (-1) t))(h:Q ((n:Int) - 1,-1,n) s):wpAny (model prog w) A (iu (.ref sl) (pure (n:Int))) Q E s:=by
 obtain⟨os,a,d,b⟩:=id c;refine Db (Db (da a b (x:=.none) rfl (Db (da a b (x:=.none) rfl (Db (da a b (x:=.int (-1) t) rfl (Sc ?_)))))));refine Db (HT.slicePart_ (IsPart.int (-1) t) ?_);rw [if_neg (by decide)];show wpAny (model prog w) _ (match fm none none (-1) (n:Int) with | (lo,hi)=>pure (lo,(-1:Int),eV lo hi (-1))) _ _ s;have e1:fm none none (-1) (n:Int)=((n:Int) - 1,-1):=rfl;rw [e1]
 have e2:eV ((n:Int) - 1) (-1) (-1)=n:=by
  unfold eV
  grind
 show wpAny (model prog w) _ (pure _) _ _ s;rw [e2];exact Sc h
theorem Ri{t sl:Ch}{items:Array Cn}{tk:Tok}{Q:Cn->FM->Prop}(ht:IsTup s.heap t items)(f:s.heap.IsSliceOf sl .none .none (.int (-1) tk))(b:items.size<=sizeLine)
  (h:Q (.ref s.heap.objs.size) { s with heap:=s.heap.push { cls:=.type "tuple",data:=.seq items.toList.reverse.toArray } }):wpAny (model prog w) A (getItem (.ref t) (.ref sl)) Q E s:=by
 obtain⟨os,c,d,g⟩:=id f;have hTs:s.TypeIs (.ref sl) "slice":=⟨os,c,d⟩
 have a:sizeOk (.seq items.toList.reverse.toArray):=by
  show items.toList.reverse.toArray.size<=sizeLine
  simpa using b
 unfold getItem
 (try with_reducible refine dw ?_); (first | refine Db (Sc ?_) | skip)
 refine Db (i5 ht.typeIs (by decide) (Db (eO (name:=dk "__getitem__") ht.typeIs dN (fO dN ht.typeIs iV ?_ (ij _ _)))));show wpAny (model prog w) _ (gZ (.ref t) >>= _) _ _ s;refine Db (tupleItemsOf_ ht (Db (iG hTs ?_))); rw [if_pos (by decide)]
 refine Db (O7 f ?_);have e:¬(((items.size:Int) - 1==0&&(-1:Int)==1&&items.size==items.size)=true):=by simp
 show wpAny (model prog w) _ (if ((items.size:Int) - 1==0&&(-1:Int)==1&&items.size==items.size)=true then _ else _) _ _ s;rw [if_neg e,Gu]
 first
  | exact Db (m:=jJ _) (fh (Sc ⟨_,rfl,Sc h⟩) a)
  | omega
  | grind
  | grind
theorem K7(items:Array Cn):slicePick items none none (some (-1))=items.toList.reverse.toArray:=by
 unfold slicePick;have e1:sliceBounds none none (some (-1)) _=((items.size:Int) - 1,-1,-1):=rfl;rw [e1];simp only [sliceRange];rw [← Gu,ii]
 congr 1
 have e2:(if -1 > 0 then if (items.size:Int) - 1 < -1 then (-1 - ((items.size:Int) - 1)+-1 - 1) / -1 else 0 else if (items.size:Int) - 1 > -1 then ((items.size:Int) - 1 - -1 - -1 - 1) / - -1 else 0).toNat=items.size:=by
  grind
 rw [e2];refine KC λk _=>?_
 grind
end
section
variable {X:Cx}{e st:Expr}{te tst:TE}{pos p2:Pos}
def bR(K:Frag):V->Hp->VK->Prop:=λx H Q=>(∃a xs,x=.ref a/\SqL K H a xs/\∀p,H p=none->Q (.ref p) (A4 H p (.lst xs.reverse)))\/∃a xs,x=.ref a/\SqT K H a xs/\∀p,H p=none->Q (.ref p) (A4 H p (.tup xs.reverse))
def bL(K:Frag)(te tst:TE):TE:=λσ H Q=>te σ H λx H1=>tst σ H1 λi H2=>i=.int (-1)/\bR K x H2 Q
theorem YI(he:PE X e te)(d:PE X st tst):PE X (.Subscript e (.Slice none none (some st) p2) pos) (bL X.K te tst):=by
 intro zG s σ H Q I h;refine Subscript_ (thn (he zG s σ H _ I h) λv s1 ⟨x,H1,I1,r1,q1⟩=>?_);refine wpAny_Slice ?_;rw [evalPart_none,evalPart_some];refine Sc (Sc (thn (d zG s1 σ H1 _ I1 q1) λvs s3 ⟨i,H3,I3,r3,q3⟩=>?_));obtain⟨rfl,q3⟩:=q3;obtain⟨t,rfl⟩:=r3;have I4:Inv X zG σ H3 { s3 with heap:=s3.heap.push { cls:=.type "slice",data:=.fields #[.none,.none,.int (-1) t] } }:=I3.kept (t':=s3.toks) λb ob q=>Ev _ q;have j:({ s3 with heap:=s3.heap.push { cls:=.type "slice",data:=.fields #[.none,.none,.int (-1) t] } }:FM).heap.IsSliceOf s3.heap.objs.size .none .none (.int (-1) t):=jw ..;show wpAny (model X.prog X.w) X.A (subscriptTail e (.Slice none none (some st) p2) v (.ref s3.heap.objs.size)) (EP X zG σ Q) X.xe { s3 with heap:=s3.heap.push { cls:=.type "slice",data:=.fields #[.none,.none,.int (-1) t] } }
 rcases q3 with ⟨a,xs,rfl,hq,q⟩ | ⟨a,xs,rfl,hq,q⟩
 ·cases r1
  obtain⟨f,r,ht,g⟩:=I4.list hq;have c:=r.length;refine tail_any (ops:=[.ref a,.ref s3.heap.objs.size]) ht.isList.typeIs i6.lookup ?_ (by with_unfolding_all rfl);refine wpAny_getItem_list_slice ht.isList j .none .none (.int (-1) t) (by decide) ?_ (by rw [c9]; omega);rw [K7];refine⟨.ref _,_,I4.laid (t':=s3.toks) (o:=.lst xs.reverse) (λb ob q=>Ev _ q) (On _) ?_,rfl,q _ (I4.hok.fresh (On _))⟩;exact⟨by rw [gg]; exact g,_,0,r.reverse,cj _ rfl⟩
 ·cases r1
  obtain⟨f,r,ht,g⟩:=I4.tuple hq;have c:=r.length;refine tail_any (ops:=[.ref a,.ref s3.heap.objs.size]) ht.typeIs dN.lookup ?_ (by with_unfolding_all rfl);refine Ri ht j (by rw [c9]; omega) ?_;refine⟨.ref _,_,I4.laid (t':=s3.toks) (o:=.tup xs.reverse) (λb ob q=>Ev _ q) (On _) ?_,rfl,q _ (I4.hok.fresh (On _))⟩;exact⟨by rw [gg]; exact g,_,r.reverse,IsTupN.new _ _⟩
def W1(K:Frag):V->Option Int->Option Int->Hp->VK->Prop:=λx lo hi H Q=>∃a xs,x=.ref a/\SqT K H a xs/\(HT.sIx xs.length 0 lo=0/\HT.sIx xs.length xs.length hi=xs.length)/\Q (.ref a) H
theorem Vh:SlR X (W1 X.K):=by
 intro zG s σ H x v vl vu lo hi sl Q I rx c pl pu h;obtain⟨a,xs,rfl,d,hw,q⟩:=h;cases rx;obtain⟨e,r,ht,f⟩:=I.tuple d;have b:=r.length.symm;exact⟨_,_,dN.lookup,ht.typeIs,Nd ht c pl pu (by grind) ⟨.ref a,H,I,rfl,q⟩⟩
end
section
variable {X:Cx}
def T7(K:Frag):R2:=λx y H Q=>∃a b ys,x=.ref a/\y=.ref b/\SqT K H a []/\SqT K H b ys/\Q (.ref b) H
theorem UX:OpR X (binaryOp .Add) (T7 X.K):=by
 intro zG s σ H x y v u Q I rx ry h;obtain⟨a,b,ys,rfl,rfl,ha,g,q⟩:=h;cases rx;cases ry;obtain⟨i,r1,p1,_⟩:=I.tuple ha;obtain⟨e,r2,p2,_⟩:=I.tuple g;cases r1;obtain⟨⟨cls,dd,data,sl⟩,ho,j,n,hd⟩:=id p1;obtain⟨⟨f,k,data2,l⟩,c,d,n2,hd2⟩:=id p2;subst j hd d hd2;exact concat_meets ⟨_,ho,rfl⟩ ⟨_,c,rfl⟩ jI seq_tuple_add PySem.F.slot_tuple_add PySem.F.entry_tuple_add (PySem.F.args_tuple_add_2 _ _) (tuple_addW0 a b _ _ n n2 dd _ sl _ (by simp)) ⟨ho,c,⟨.ref b,H,I,rfl,q⟩⟩
def bI(b:Bool):Int:=if b=true then 1 else 0
def ao(g:Int->Int->Int):R2:=λx y H Q=>∃k j,x=.bl k/\y=.int j/\Q (.int (g (bI k) j)) H
def b9(g:Int->Int->Int):R2:=λx y H Q=>∃i k,x=.int i/\y=.bl k/\Q (.int (g i (bI k))) H
theorem op_add_bi:OpR X (binaryOp .Add) (ao λi j=>i+j):=by
 intro zG s σ H x y v u Q I rx ry h;obtain⟨k,j,rfl,rfl,q⟩:=h;cases rx;obtain⟨t,rfl⟩:=ry;exact PySem.IntBool.add_bool_int ⟨.int _,H,I.tok _,⟨_,rfl⟩,q⟩
theorem op_sub_bi:OpR X (binaryOp .Sub) (ao λi j=>i - j):=by
 intro zG s σ H x y v u Q I rx ry h;obtain⟨k,j,rfl,rfl,q⟩:=h;cases rx;obtain⟨t,rfl⟩:=ry;exact PySem.IntBool.sub_bool_int ⟨.int _,H,I.tok _,⟨_,rfl⟩,q⟩
theorem R7:OpR X (binaryOp .Sub) (b9 λi j=>i - j):=by
 intro zG s σ H x y v u Q I rx ry h;obtain⟨i,k,rfl,rfl,q⟩:=h;obtain⟨t,rfl⟩:=rx;cases ry;exact PySem.IntBool.sub_int_bool ⟨.int _,H,I.tok _,⟨_,rfl⟩,q⟩
def W0:List V->Hp->VK->Prop:=λxs H Q=>(∃i,xs=[.int i]/\i.natAbs.log2<1920/\Q (.str (toString i)) H)\/∃b,xs=[.bl b]/\Q (.str (if b then "True" else "False")) H
theorem Sq:C2 X (.type "str") W0:=by
 intro zG s σ H xs us Q I r h
 rcases h with h | ⟨b,rfl,q⟩
 ·exact NJ _ s σ H xs us Q I r h
 ·obtain⟨u,rfl,rx⟩:=vals1 r
  cases rx;exact PySem.P.str_of_bool ⟨.str _,H,I.tok _,⟨_,rfl⟩,q⟩
theorem Ta:∀{Ts:List String} {a:List Cn},Vals (Ts.map V.ty) a->a=Ts.map fE
 | [],a,rv=>by cases rv; rfl
 | T::r,a,rv=>by
  cases rv with
  | cons r1 r2 =>
   rw [dG,← Ta r2]
   congr 1
theorem NK:C2 X (.builtin "isinstance") (λxs H Q=>∃(x:V) (t:String) (p:Ch) (Ts:List String) (b:Bool),xs=[x,.ref p]/\F4 X.K H x (.type t)/\t∈["NoneType","bool","int","str","tuple","list"]/\H p=some (.tup (Ts.map V.ty))/\PySem.W.kitAny X.K (.type t) (Ts.map fE)=some b/\Q (.bl b) H):=by
 intro zG s σ H xs us Q I r h;obtain⟨x,t,p,Ts,b,rfl,ty,ht,hp,e,q⟩:=h;obtain⟨u,w',rfl,rx,rt⟩:=vals2 r;cases rt;obtain⟨_,c,rv,⟨⟨cls,dd,data,sl⟩,ho,d,n,hd,_⟩⟩:=(show ObjOk X.prog X.w H s.heap p (.tup (Ts.map V.ty)) from I.hok p _ hp);simp only at d hd;subst d hd;have ev:c=Ts.map fE:=Ta rv;subst ev;have fin:∀tk,EP X zG σ Q (.bool b) { s with toks:=tk }:=λtk=>⟨.bl b,H,I.tok _,rfl,q⟩;cases ty with
 | non=>cases (show u=dO from rx); exact PySem.W.kia_tup PySem.W.kitx_none I.kIn eP ho e (λz=>nomatch z) fin
 | bl y=>cases (show u=iD y from rx); exact PySem.W.kia_tup PySem.W.kitx_bool I.kIn eP ho e (λz=>nomatch z) fin
 | int i=>obtain⟨t,q⟩:=(show ∃t,u=jr i t from rx); cases q; exact PySem.W.kia_tup PySem.W.kitx_int I.kIn eP ho e (λz=>nomatch z) fin
 | str y=>obtain⟨t,q⟩:=(show ∃t,u=jt y t from rx); cases q; exact PySem.W.kia_tup PySem.W.kitx_str I.kIn eP ho e (λz=>nomatch z) fin
 | flt y=>simp at ht
 | @lst a xs ea =>
  cases (show u=cm a from rx);obtain⟨_,_,n,_,h1⟩:=(show ObjOk X.prog X.w H s.heap a (.lst xs) from I.hok a _ ea);exact PySem.W.kia_tup PySem.W.kitx_list I.kIn ⟨_,h1,rfl⟩ ho e (λz=>nomatch z) fin
 | @frz a ob xs ea =>
  cases (show u=cm a from rx);obtain⟨_,_,_,n,_,h1⟩:=(show ObjOk X.prog X.w H s.heap a (.frz ob (.lst xs)) from I.hok a _ ea);exact PySem.W.kia_tup PySem.W.kitx_list I.kIn ⟨_,h1,rfl⟩ ho e (λz=>nomatch z) fin
 | @tup a xs ea =>
  cases (show u=cm a from rx);obtain⟨_,_,_,p⟩:=(show ObjOk X.prog X.w H s.heap a (.tup xs) from I.hok a _ ea);obtain⟨o,h1,h2,_⟩:=p;exact PySem.W.kia_tup PySem.W.kitx_tuple I.kIn ⟨o,h1,h2⟩ ho e (λz=>nomatch z) fin
 | dK ea=>simp at ht
 | dF ea=>simp at ht
 | dT ea=>simp at ht
end
end L2
namespace Dp
open L2
section
variable {K:Frag}{X:Cx}
def Aq(d e:D)(P:D->Prop):Prop:=match d,e with
 | .int i,.int j=>P (.int (i+j))
 | .bl k,.int j=>P (.int (bI k+j))
 | .str i,.str j=>i.length+j.length<=sizeLine/\P (.str (i++j))
 | .tup i,.tup j=>i.length+j.length<=sizeLine/\P (.tup (i++j))
 | .lst i,.lst j=>i.length+j.length<=sizeLine/\P (.lst (i++j))
 | _,_=>False
def W8(K:Frag):R2:=λx y H Q=>T9 K x y H Q\/(ao λi j=>i+j) x y H Q\/T7 K x y H Q
theorem Ak:OpR X (binaryOp .Add) (W8 X.K):=op_addU.or (op_add_bi.or UX)
theorem Ap:E5 X.K .sh (W8 X.K) Aq:=λU M H d e x y P Q c vM f hy w q=>by
 unfold Aq at w
 split at w
 ·exact .inl (NR U M H (.int _) (.int _) x y P Q c vM f hy w q)
 ·rename_i k j
  exact .inr (.inl ⟨k,j,f,hy,q _ H (.int _) .refl rfl w⟩)
 ·exact .inl (NR U M H _ (.str _) x y P Q c vM f hy w q)
 ·rename_i i j
  cases i with
  | nil =>
   obtain⟨a,vs,rfl,ha,h⟩:=f.tup;obtain⟨b,us,rfl,g,ht⟩:=hy.tup;cases (h);exact .inr (.inr ⟨a,b,us,rfl,rfl,ha.sq,g.sq,q _ H (.tup j) .refl ⟨b,us,rfl,g,ht⟩ (by grind)⟩)
  | cons i0 i=>exact .inl (NR U M H _ (.tup j) x y P Q c vM f hy ⟨(by grind),w⟩ q)
 ·exact .inl (NR U M H (.lst _) (.lst _) x y P Q c vM f hy w q)
 grind
def IC(d e:D)(P:D->Prop):Prop:=match d,e with
 | .int i,.int j=>P (.int (i - j))
 | .bl k,.int j=>P (.int (bI k - j))
 | .int i,.bl k=>P (.int (i - bI k))
 | _,_=>False
def Wz:R2:=λx y H Q=>(IY λi j=>.int (i - j)) x y H Q\/(ao λi j=>i - j) x y H Q\/(b9 λi j=>i - j) x y H Q
theorem En:OpR X (binaryOp .Sub) Wz:=op_sub.or (op_sub_bi.or R7)
theorem Ge:E5 K .sh Wz IC:=λU M H d e x y P Q a vM b hy w q=>by
 unfold IC at w
 split at w
 ·exact .inl (VS U M H _ _ x y P Q a vM b hy w q)
 ·rename_i k j
  exact .inr (.inl ⟨k,j,b,hy,q _ H (.int _) .refl rfl w⟩)
 ·rename_i i k
  exact .inr (.inr ⟨i,k,b,hy,q _ H (.int _) .refl rfl w⟩)
 grind
def Uw(ds:List D)(P:D->Prop):Prop:=match ds with
 | [.int i]=>i.natAbs.log2<1920/\(dk (toString i)).length<=sizeLine/\P (.str (toString i))
 | [.bl b]=>P (.str (if b then "True" else "False"))
 | _=>False
theorem Y0:Ft K .sh W0 Uw:=by
 intro U M H ds vs P Q c vM hp w q;unfold Uw at w
 split at w
 ·rename_i i
  obtain⟨v,rfl,a⟩:=Ew hp;rw [a.int];exact .inl ⟨i,rfl,w.1,q _ H (.str _) .refl ⟨rfl,w.2.1⟩ w.2.2⟩
 ·rename_i b
  obtain⟨v,rfl,a⟩:=Ew hp;rw [a.bl];refine .inr ⟨b,rfl,q _ H (.str _) .refl ⟨rfl,?_⟩ w⟩;cases b <;> (decide)
 grind
def CJ(d:D)(lo hi:Option Int)(P:D->Prop):Prop:=match d with
 | .str z=>P (.str (Txt.slice z lo hi))
 | .lst xs=>P (.lst (cutD xs lo hi))
 | .tup xs=>P (.tup (cutD xs lo hi))
 | _=>False
def Zk(K:Frag):V->Option Int->Option Int->Hp->VK->Prop:=λx lo hi H Q=>Zh x lo hi H Q\/Zj K x lo hi H Q\/Zi K x lo hi H Q\/W1 K x lo hi H Q
theorem Cf:SlR X (Zk X.K):=sl_U.or (sl_list.or (sl_tup.or Vh))
theorem RC{M:Ch->Prop}{H:Hp}{ds:List D}{vs:List V}(lo hi:Option Int)(h:Ats K M H ds vs):Ats K M H (cutD ds lo hi) (Ot vs lo hi):=by
 unfold cutD Ot;rw [h.length];exact(h.drop _).take _
theorem Br:cE K .sh (Zk K) CJ:=by
 intro U M H d x lo hi P Q c vM f w q;unfold CJ at w
 split at w
 ·rename_i z
  exact .inl ⟨z,f.str.1,f.str.2,q _ H (.str (Txt.slice z lo hi)) .refl ⟨rfl,cx (Txt.slice_le z lo hi) f.str.2⟩ w⟩
 ·rename_i xs
  obtain⟨a,vs,rfl,_,ha,b⟩:=f;exact .inr (.inl ⟨a,vs,rfl,.inl ha,λp hp=>q _ _ (.lst _) (A1 hp) ((Cy (U:=U) hp (RC lo hi b)).shOf c (by grind)) w⟩)
 ·rename_i xs
  obtain⟨a,vs,rfl,ha,b⟩:=f.tup
  by_cases hw:HT.sIx vs.length 0 lo=0/\HT.sIx vs.length vs.length hi=vs.length
  ·refine .inr (.inr (.inr ⟨a,vs,rfl,ha.sq,hw,?_⟩))
   have e:cutD xs lo hi=xs:=by
    unfold cutD;rw [← b.length,hw.1,hw.2,jh,Nat.sub_zero,b.length,hZ]
   rw [e] at w;exact q _ H (.tup xs) .refl ⟨a,vs,rfl,ha,b⟩ w
  ·exact .inr (.inr (.inl ⟨a,vs,rfl,ha.sq,hw,λp hp=>q _ _ (.tup _) (A1 hp) (ET c hp (RC lo hi b)) w⟩))
 grind
def Rc(wa a:DW):DW:=λn ρ P=>wa n ρ λd n1=>a n1 ρ λi n2=>i=.int (-1)/\match d with
 | .lst xs=>P (.lst xs.reverse) n2
 | .tup xs=>P (.tup xs.reverse) n2
 | _=>False
theorem NC{a st:c_}{zR κs:Kd}{wa b:DW}{pos p2:Pos}(ha:DE X a zR wa)(e:DE X st κs b):DE X (.Subscript a (.Slice none none (some st) p2) pos) .sh (Rc wa b):=by
 obtain⟨t,h1,h2⟩:=ha;obtain⟨u,g1,g2⟩:=e;refine⟨_,YI h1 g1,λC M H n ρ σ P Q R w q=>?_⟩;refine h2 C M H n ρ σ _ _ R w λv H1 d n1 e1 f1 r1 p=>?_;have R1:=R.step e1 f1;have tv:=r1.tpOf R.dom R.vM;refine g2 C M H1 n1 ρ σ _ _ R1 p λi H2 z n2 e2 f2 r2 p2=>?_;have R2':=R1.step e2 f2;have c:=tv.pres (R1.pres e2) e2 R.uV;obtain⟨rfl,p2⟩:=p2;refine⟨J8 r2,?_⟩;cases d with
 | lst xs =>
  obtain⟨a,vs,rfl,_,ha,f⟩:=c;refine .inl ⟨a,vs,rfl,.inl ha,λp hp=>?_⟩;have g:Grow H2 (A4 H2 p (.lst vs.reverse)):=A1 hp;exact q _ _ (.lst xs.reverse) n2 ((e1.trans e2).trans g.ext) (f2.grow g) ((Cy (U:=C.V) hp f.reverse).shOf R2'.dom (by intro z; cases z)) p2
 | tup xs =>
  obtain⟨a,vs,rfl,ha,f⟩:=c.tup;refine .inr ⟨a,vs,rfl,ha.sq,λp hp=>?_⟩;have g:Grow H2 (A4 H2 p (.tup vs.reverse)):=A1 hp;exact q _ _ (.tup xs.reverse) n2 ((e1.trans e2).trans g.ext) (f2.grow g) (ET R2'.dom hp f.reverse) p2
 | _=>exact p2.elim
def YF(d:D):Prop:=match d with
 | .dic _ _=>False
 | .fdi _ _=>False
 | .dit _ _=>False
 | _=>True
def TJ(T1 T2:String)(wa:DW):DW:=λn ρ P=>wa n ρ λd n1=>YF d/\P (.bl (Oa (VZ d) T1||Oa (VZ d) T2)) n1
theorem SS{T1 T2 t:String}(k1:LH K T1)(k2:LH K T2)(ht:t∈["NoneType","bool","int","str","tuple","list","dict"]):PySem.W.kitAny K (.type t) [.type T1,.type T2]=some (Oa t T1||Oa t T2):=by
 unfold PySem.W.kitAny;rw [k1.ans t ht];cases Oa t T1 with
 | true=>rfl
 | false =>
  unfold PySem.W.kitAny;rw [k2.ans t ht];cases Oa t T2 <;> rfl
theorem ND{a:c_}{κ:Kd}{wa:DW}{T1 T2:String}{N1 N2:Str}{j:Nat}{p p1 p2 p3 pos:Pos}(k1:LH X.K T1)(k2:LH X.K T2)(ha:DE X a κ wa)(hg:Gl X "isinstance")(hm:X.mg "isinstance"=none)(c:Gl X N1)(e:X.mg N1=none)(f:bootBuiltins N1=some (.type T1))
  (h:Gl X N2) (i:X.mg N2=none) (k:bootBuiltins N2=some (.type T2))
  (l:N1 ≠ "__name__":=by decide) (m:(N1==("__debug__":Str))=false:=by decide) (o:N2 ≠ "__name__":=by decide) (hd2:(N2==("__debug__":Str))=false:=by decide)
  (he:starEach [a,.Tuple [.Name N1 p1,.Name N2 p2] j p3] X.env=(false,eval a X.env)::starEach [.Tuple [.Name N1 p1,.Name N2 p2] j p3] X.env:=by rfl)
  (r:starEach [.Tuple [.Name N1 p1,.Name N2 p2] j p3] X.env=[(false,eval (.Tuple [.Name N1 p1,.Name N2 p2] j p3) X.env)]:=by rfl)
  (s:starEach [.Name N1 p1,.Name N2 p2] X.env=(false,eval (.Name N1 p1) X.env)::starEach [.Name N2 p2] X.env:=by rfl) (u:starEach [.Name N2 p2] X.env=[(false,eval (.Name N2 p2) X.env)]:=by rfl)
  (x:(backTo pos (starEach [.Tuple [.Name N1 p1,.Name N2 p2] j p3] X.env)).any (·.1)=false:=by rfl):DE X (.Call (.Name "isinstance" p) [a,.Tuple [.Name N1 p1,.Name N2 p2] j p3] [] pos) .sh (TJ T1 T2 wa):=by
 obtain⟨t,h1,h2⟩:=ha;have pT1:PE X (.Name N1 p1) (tC (.ty T1)):=Iv c e f rfl l m;have pT2:PE X (.Name N2 p2) (tC (.ty T2)):=Iv h i k rfl o hd2;refine⟨_,Cv NK hg hm (by decide +kernel) (BB h1 (BB (Pt (BB pT1 (BB pT2 B0 u) s)) B0 r) he) (by decide) (by decide) he x,λC M H n ρ σ P Q R w q=>?_⟩;refine h2 C M H n ρ σ _ _ R w λv H1 d n1 e1 f1 r1 p=>?_;refine⟨(by decide:2<=sizeLine),λtp y=>?_⟩;have g:Grow H1 (A4 H1 tp (.tup [.ty T1,.ty T2])):=A1 y;have tv:=(r1.tpOf R.dom R.vM).pres g.pres (g.ext) R.uV;obtain⟨z,p⟩:=p;have b:VZ d∈["NoneType","bool","int","str","tuple","list"]:=by cases d <;> first | exact z.elim | simp [VZ]
 refine⟨v,VZ d,tp,[T1,T2],_,rfl,QW tv,b,AX,SS k1 k2 (QX d),?_⟩;exact q _ _ (.bl _) n1 (e1.trans g.ext) (f1.grow g) rfl p
def XM:D->D->(D->Prop)->Prop:=av λi j P=>i.length+j.length<=sizeLine/\P (.lst (i++j))
end
end Dp
namespace Nt
open L2 Dp
def BA:W2:=λss n P=>∃m:Int,ss=[.fd,.sh (.int m)]/\1<=m/\m<1073741824/\1<=n/\∀r:Int,0<=r->r<m->P (.int r) (n - 1)
def Wl:W2:=λss n P=>∃s:Int,ss=[.fd,.sh (.int s)]/\1<=n/\∀r:Int,1<=r->r<=1000000->P (.int r) (n - 1)
def GD:Aj:=(Ac (BG (AR (AU (D_ false) (AB 1) (wC (D.int 0)))) (Au (AU Aq (wC (D.int 1)) (AZ BA (AE (Aw 0) (AE (AI (wC (D.int 3))) AY))))) Av)
 (Ac (BG (AR (AU (D_ false) (AB 1) (wC (D.int 1)))) (Au (AU Aq (wC (D.int 1)) (AZ BA (AE (Aw 0) (AE (AI (wC (D.int 12))) AY))))) Av)
 (Au (VY (AR (AU (D_ false) (AB 1) (wC (D.int 2)))) (AU IC (AU (PK Ik λi j=>D.int (i ^ j.toNat)) (wC (D.int 10)) (wC (D.int 6))) (AZ BA (AE (Aw 0) (AE (AI (wC (D.int 5))) AY)))) (AU Aq (wC (D.int 1)) (AZ BA (AE (Aw 0) (AE (AI (AU (PK Ik λi j=>D.int (i ^ j.toNat)) (wC (D.int 10)) (wC (D.int 6)))) AY))))))))
def GC:Aj:=(Ac (Az 2 (AZ BA (AE (Aw 0) (AE (AI (wC (D.int 3))) AY))))
 (Ac (Az 3 (DA (AF (wC (D.str "a")) (AF (wC (D.str "aa")) (AF (wC (D.str "ab")) (AF (wC (D.str "b")) (AF (wC (D.str "far")) (AF (wC (D.str "in")) (AF (wC (D.str "near")) (AF (wC (D.str "out")) (AF (wC (D.str "place")) (AF (wC (D.str "tie")) (AF (wC (D.str "ties")) (AF (wC (D.str "way")) AT))))))))))))))
 (Ac (BG (Gk (AR (AU (D_ false) (AB 2) (wC (D.int 0)))) (AR (AU EV (AB 1) (wC (D.int 13))))) (Ac (Az 4 (AZ BA (AE (Aw 0) (AE (AI (wC (D.int 12))) AY))))
 (Au (B8 KG (AF (BR [some 3,some 4,none] (EJ (AF (AB 1) AT)) (Af 2) CW (AU A8 (AB 0) (AU (PK (λ_ j=>0<j) λi j=>D.int (i % j)) (AU Aq (AB 1) (AB 2)) (wC (D.int 12))))) AT)))) Av)
 (Ac (Az 5 (wC (D.str "abcdefghijklmnopqrstuvwxyz")))
 (Ac (Az 6 (bD "str" Ux (wC (D.str "")) (AF (BR [some 5,some 0,none] (EJ (AF (wC (D.int 8)) AT)) (Af 2) CW (AU A8 (AB 0) (AZ BA (AE (Aw 1) (AE (AI (wC (D.int 26))) AY))))) AT)))
 (Ac (BG (Gk (AR (AU (D_ false) (AB 2) (wC (D.int 1)))) (AR (AU EV (AB 1) (wC (D.int 9))))) (Au (BR [some 6,none] (EJ (AF (AB 1) AT)) (Af 1) CW (F5 CJ (AB 0) A6 (BK (AU Aq (wC (D.int 1)) (AB 1)))))) Av)
 (Ac (Az 7 (AZ BA (AE (Aw 0) (AE (AI (wC (D.int 7))) AY))))
 (Ac (Az 4 (AZ BA (AE (Aw 0) (AE (AI (wC (D.int 26))) AY))))
 (Ac (EI 8 (DA AT))
 (Ac (E6 (EJ (AF (AB 1) AT)) (Af 9) (Ac (Az 10 (AU A8 (AB 5) (AU (PK (λ_ j=>0<j) λi j=>D.int (i % j)) (AU Aq (AB 4) (AB 9)) (wC (D.int 26)))))
 (TF 8 "list" KH (AF (AU Aq (AU Aq (AU Aq (F5 CJ (AB 6) A6 (BK (AB 7))) (AB 10)) (F5 CJ (AB 6) (BK (AU Aq (AB 7) (wC (D.int 1)))) (BK (wC (D.int 7))))) (AU C8 (wC (D.str "z")) (AU (PK (λ_ j=>0<j) λi j=>D.int (i % j)) (AB 9) (wC (D.int 2))))) AT))))
 (Au (B8 KG (AF (BE 8) AT)))))))))))))
def cs(x:Str):List Nat:=x.cps.toList
theorem DY(x:Str):(cs x).length=x.length:=eT
theorem KQ{x y:Str}(h:cs x=cs y):x=y:=by
 obtain⟨a⟩:=x;unfold cs at h
 simp_all
theorem Cs(x y:Str):cs (x++y)=cs x++cs y:=PySem.W.KT.app_list x y
theorem XY{x:Str}{j:Int}(h0:0<=j)(h1:j<=(x.length:Int)):cs (Txt.slice x none (some j))=(cs x).take j.toNat:=by
 have e:x.cps.toList.length=x.length:=by rw [show x.cps.toList.length=x.length from DY x]
 rw [eq_of_beq (slice_closes_to ⟨h0,by omega⟩)];show ((x.cps.toList.drop _).take _)=(x.cps.toList).take _
 grind
theorem Yt{x:Str}{i j:Int}(h0:0<=i)(h1:i<=j)(h2:j<=(x.length:Int)):cs (Txt.slice x (some i) (some j))=((cs x).drop i.toNat).take (j - i).toNat:=by
 have e:x.cps.toList.length=x.length:=by rw [show x.cps.toList.length=x.length from DY x]
 rw [eq_of_beq (slice_closes ⟨h0,h1,by omega⟩)];rfl
def D9(x:Str):Prop:=1<=x.length/\x.length<=8/\∀c∈cs x,97<=c/\c<=122
def rising(xs:List Str):Prop:=xs.Pairwise λx y=>cs x<cs y
theorem Uh(a b:List Nat):ltCps a b=decide (a<b):=ltCps_eq a b
theorem Hw:∀(l:List Str) (p:Str),risingS p l=true->(p::l).Pairwise λa b=>¬cs b<cs a
 | [],p,_=>gu _ _
 | x::r,p,h=>by
  have h':(!ltCps _ _&&risingS x r)=true:=h;rw [cq,Bool.not_eq_true',Uh,decide_eq_false_iff_not] at h';have ih:=Hw r x h'.2;refine dm.mpr ⟨λy hy=>?_,ih⟩
  rcases T0.mp hy with rfl | hy
  ·exact h'.1
  ·exact List.le_trans h'.1 ((dm.mp ih).1 y hy)
theorem F6{l:List Str}(h:sortedS l=true)(nd:l.Nodup):rising l:=by
 have hp:l.Pairwise λa b=>¬cs b<cs a:=by
  cases l with
  | nil=>simp_all
  | cons x r=>exact Hw r x h
 exact(hp.and nd).imp λ{a b} ⟨h1,h2⟩=>gi λh3=>h2 (KQ (List.le_antisymm h1 h3))
theorem Qa:∀(l:List Nat) (i j:Nat),i<j->i<l.length->l.take i<l.take j
 | [],_,_,_,h=>absurd h (Nat.not_lt_zero _)
 | c::r,0,j+1,_,_=>List.nil_lt_cons _ _
 | c::r,i+1,j+1,h1,h2=>List.cons_lt_cons_iff.mpr (.inr ⟨rfl,Qa r i j (by omega) (by simp_all)⟩)
theorem LY{b:BW}{te:DW}{P:List D->Nat->Prop}(I:Nat->Nat->List D->List Slot->Prop)(f:∀n a ρ,I 0 n a ρ->P a n)
  (c:∀(k:Nat) (d:D) (n:Nat) (a:List D) (ρ:List Slot) (nx:List D->Nat->List Slot->Prop),I (k+1) n a ρ->(∀e n' zY,I k n' e zY->nx e n' zY)->b d ρ λzU=>te n zU λy n2=>nx (a++[y]) n2 zU) :
  ∀(ds a:List D) (n:Nat) (ρ:List Slot),I ds.length n a ρ->Ci b CW te P ds a n ρ
 | [],a,n,ρ,h=>f n _ ρ h
 | d::ds,a,n,ρ,h=>c _ d n _ ρ _ h λe n' zY h'=>LY I f c ds _ n' _ h'
theorem By(lo:Int)(n:Nat):(Cu lo n).length=n:=by unfold Cu; grind
theorem Jc{lo:Int}{n:Nat}{d:D}(h:d∈Cu lo n):∃k:Nat,k<n/\d=.int (lo+k):=by
 obtain⟨k,a,rfl⟩:=Rs.mp h;exact⟨k,d8.mp a,rfl⟩
theorem Rw{ss:List Slot}{n:Nat}{Pd:D->Nat->Prop}(h:Wl ss n Pd):GD { nx:=λn _=>Kd.sh=.sh/\Pd .non n,rt:=Pd } n (ss++Uf 0 .no):=by
 obtain⟨s,rfl,hn,p⟩:=h;unfold GD;refine B3 (λ_=>⟨3,rfl,by decide,by decide,by omega,λr h0 h1=>p _ (by omega) (by omega)⟩) λ_=>?_;refine B3 (λ_=>⟨12,rfl,by decide,by decide,by omega,λr h0 h1=>p _ (by omega) (by omega)⟩) λ_=>?_;refine B3 (λ_=>⟨⟨by decide,by decide,by decide⟩,5,rfl,by decide,by decide,by omega,λr h0 h1=>?_⟩) λ_=>⟨⟨by decide,by decide,by decide⟩,_,rfl,by decide,by decide,by omega,λr h0 h1=>?_⟩
 ·have e:((10:Int) ^ (6:Int).toNat)=1000000:=by decide
  exact p _ (by rw [e]; omega) (by rw [e]; omega)
 ·have e:((10:Int) ^ (6:Int).toNat)=1000000:=by decide
  rw [e] at h1;exact p _ (by omega) (by omega)
end Nt
namespace L2
theorem YR{K:Frag}:PySem.W.specialIn K (.builtin "object.__class__") "__get__"=some (some (.builtin "getset_descriptor.__get__")):=by kernel_rfl
theorem UZ{K:Frag}:PySem.W.takesIn K (.builtin "object.__class__")=some true:=by kernel_rfl
section
variable {K:Frag}{nm n1 n2:Str}{C U D U':Addr}
theorem XC.hd(c:XC K nm C U):PySem.W.hasDictIn K C=true:=by
 obtain⟨cd,h1,_,h2,_⟩:=c.cls;unfold PySem.W.hasDictIn
 grind
theorem XC.mro(c:XC K nm C U)(v:Cn):PySem.W.mroIn K C v=some ((cm C::cm U::Ct).contains v):=by
 obtain⟨cd,h1,h2,_⟩:=c.cls;unfold PySem.W.mroIn;rw [h1,Option.bind_some,h2]; rfl
theorem XC.name(c:XC K n1 C U)(d:XC K n2 C U'):n1=n2:=by
 obtain⟨cd,h1,_,_,h2⟩:=c.cls;obtain⟨a,b,_,_,e⟩:=d.cls
 grind
theorem XC.nameU(c:XC K n1 C U)(d:XC K n2 U U'):n2 = "ThinError":=by
 obtain⟨q,N,bs,sn,sub,ab,col,dd,k0,k1,k2,k3,k5,hd,e⟩:=c.up;obtain⟨b,a,_,_,f⟩:=d.cls;unfold PySem.W.clsIn at a;rw [e] at a
 grind
theorem XC.ty(c:XC K nm C U):(PySem.W.clsIn K C).isSome=true/\PySem.W.typeIn K (.ref C)=some (.type "type"):=by
 obtain⟨q,N,bs,sn,sub,ab,col,dd,k0,k1,k2,k3,k5,e⟩:=c.obj;refine⟨by unfold PySem.W.clsIn; rw [e]; rfl,?_⟩;unfold PySem.W.typeIn
 simp_all
theorem XC.kit(c:XC K n1 C U)(d:XC K n2 D U')(h:n2 ≠ "ThinError"):PySem.W.kitOne K (.ref C) (.ref D)=some (decide (n1=n2)):=by
 unfold PySem.W.kitOne
 by_cases e:C=D
 ·subst e
  rw [c.name d];simp
 ·have ne:n1≠n2:=λz=>by
   subst z;have q:=c.at_.symm.trans d.at_
   grind
  have nu:U≠D:=λz=>by subst z; exact h (c.nameU d)
  rw [if_neg (by simp [e])];show (if ((PySem.W.clsIn K D).isSome&&PySem.W.typeIn K _==some _)=true then PySem.W.subIn K _ _ else none)=_;rw [if_pos (by rw [d.ty.1,d.ty.2]; rfl)];show PySem.W.mroIn K C (.ref D)=_;rw [c.mro,IH]
  grind
theorem XC.kitV(c:XC K n1 C U):PySem.W.kitOne K (.ref C) (.type "ValueError")=some true:=by
 show PySem.W.mroIn K C _=_;rw [c.mro];simp [Ct]
end
section
variable {prog:Program}{w:World}{A:Around}{E:Value->Shared->Prop}{s:Shared}{K:Frag}{nm name:Str}{x C U:Addr}{ox:Obj}{od:Option Obj}{tk:Tok}{fill expr:Bool}
theorem Wo{Q:Cn->FM->Prop}(X:K.In s.heap)(c:XC K nm C U)(I:PySem.W.InstAt s.heap x ox C od)
  (h:wpAny (model prog w) A.in1 (gf.«object.__getattribute__» ⟨[.ref x,.str name tk],[]⟩) (λfin s'=>match fin with | .done (.ret v)=>wpAny (model prog w) A (handedOut v) Q E s' | _=>False) (λ_ _=>False) s) :
  wpAny (model prog w) A (getAttrBy (.ref x) (.str name tk) fill expr) Q E s:=by
 have FX:=PySem.F.excAttr_ValueError;have n2:(gA "BaseException.__getattribute__"==gA "object.__getattribute__")=false:=by decide +kernel
 have n1:(onTheHeap (cm C)&&gA "BaseException.__getattribute__"==gA "object.__getattribute__")=false:=by rw [n2]; rfl
 have n0:(expr&&onTheHeap (gA "BaseException.__getattribute__"))=false:=by cases expr <;> rfl
 have sub:PySem.W.Looks (model prog w) s.heap (isInstance (.ref x) (.type "BaseException")) true:=by
  refine I.type.andThen (PySem.W.looks_mroIn X ?_);rw [c.mro]; simp [Ct]
 refine dw (Db (I.type.here (Db ((PySem.W.looks_findIn X c.ga).here ?_))));show wpAny _ _ (if (onTheHeap (cm C)&&gA _==gA _)=true then _ else getAttrByItsOwn _ _ _ _ _ _) _ _ _;refine Db ((PySem.W.looks_findIn X c.gt).here (Db (hX (dw ?_))));unfold callGetattribute boundAndCalled;rw [n0,FX.ga.bind (.ref x)];refine Db (Sc (fj (iL FX.ga.plain PySem.F.entry_bexc_ga (@PySem.W.check_slot (model prog w) _ _ s _ "BaseException" "__getattribute__" (.ref x) [.str name tk] [] _ (by decide +kernel) (by decide +kernel) sub (PySem.F.args_bexc_ga _ _) (dP h (λfin s' z=>?_) λ_ _ z=>z.elim)))))
 rcases fin with (_ | _ | _ | _) | _ <;> first | exact z | exact z.elim
theorem Xk{v:Cn}{Q:Cn->FM->Prop}(X:K.In s.heap)(c:XC K nm C U)(I:PySem.W.InstAt s.heap x ox C od)(hf:PySem.W.findObj K C od name=some (.value v))(hh:PySem.W.handedIn v=true)(h:Q v { s with toks:=s.toks+1 }) :
  wpAny (model prog w) A (getAttr (.ref x) name expr) Q E s:=by
 refine Db (wpAny_mkText (Wo X c I ?_));refine Db (Sc (Db (Sc (Db (PySem.W.Looks.here I.type (Db (PySem.W.Looks.here (PySem.W.looks_find X I hf) (Sc ?_))))))));show wpAny _ _ _ _ _ _;rw [PySem.W.handedOut_of hh]; exact Sc h
theorem S4{g a v:Cn}{Q:Option Cn->FM->Prop}(X:K.In s.heap)(c:XC K nm C U)(I:PySem.W.InstAt s.heap x ox C od)(hf:PySem.W.findObj K C od name=some (.bind g a))(hh:PySem.W.handedIn v=true)
  (h:∀{A:dL} {R:Cn->FM->Prop},R v { s with toks:=s.toks+1 }->wpAny (model prog w) A (call g [a,.ref x,.ref C]) R (λ_ _=>False) { s with toks:=s.toks+1 }) (q:Q (some v) { s with toks:=s.toks+1 }) :
  wpAny (model prog w) A (getAttr? (.ref x) name) Q E s:=by
 refine Db (wpAny_mkText (Db (hX (Wo X c I ?_))));unfold gf.«object.__getattribute__»;refine Db (Sc (Db (Sc (Db (PySem.W.Looks.here I.type (Db (PySem.W.Looks.here (PySem.W.looks_find X I hf) ?_)))))));refine Db (dw (h (Sc ?_)));show wpAny _ _ _ _ _ _;rw [PySem.W.handedOut_of hh]; exact Sc (Sc q)
end
section
variable {K:Frag}{nm:Str}{C U:Addr}
theorem XC.kitX{a:Ch}(c:XC K nm C U):PySem.W.KitX K (.ref a) (.ref C) (λh=>∃ox b,PySem.W.InstAt h a ox C b) where
 ty:=λ_ _ _ ⟨_,_,I⟩=>I.type
 it:=λ_ _ X _=>by
  obtain⟨q,N,bs,sn,sub,ab,col,dd,k0,k1,k2,k3,k5,e⟩:=c.obj;intro A' Q' E' s' k q;exact Db (wpAny_loadPart (k _ _ (X _ _ e)) (Sc q))
 ne:=λh tp f g n sl X d=>by
  obtain⟨q,N,bs,sn,sub,ab,col,dd,k0,k1,k2,k3,k5,e⟩:=c.obj;refine d7.mpr λz=>?_;have z':C=tp:=Value.ref.inj (beq_iff_eq.mp z);subst z';have z2:=congrArg Obj.data (cv ((X _ _ e).symm.trans d))
  grind
 ca:=λ{prog w A E Q s} X J k=>by
  obtain⟨ox,b,I⟩:=J
  have hf:PySem.W.findObj K C b "__class__"=some (.bind (.builtin "getset_descriptor.__get__") (.builtin "object.__class__")):=by
   obtain⟨cd,h1,_⟩:=c.cls;unfold PySem.W.findObj;rw [h1,c.ca];simp [YR,UZ]
  exact S4 X c I hf rfl (λr=>fj (PySem.W.class_get X I (c.mro _) r)) k
end
section
variable {X:Cx}{zG:List (Addr×Obj)}{σ:St}{H:Hp}{s:Shared}{a C U d:Addr}{dx:Option Addr}{u:HO}{nm f:Str}{fs:List (Str×V)}{v:V}{A:Around}{E:Value->Shared->Prop}
theorem XT.inst(xt:XT C dx a u)(I:Inv X zG σ H s)(ea:H a=some u)(hd:∀d,dx=some d->∃o,s.heap.get? d=some o):∃ox b,PySem.W.InstAt s.heap a ox C b:=by
 obtain⟨vs,sl,rfl,h2⟩:=xt;obtain⟨c,_⟩:=(I.hok a _ ea);cases dx with
 | none=>exact⟨_,none,c,rfl,rfl,trivial⟩
 | some d =>
  obtain⟨o,ho⟩:=hd d rfl;exact⟨_,some o,c,rfl,rfl,ho⟩
theorem WB{b:Bool}{Q:Cn->FM->Prop}(I:Inv X zG σ H s)(ea:H a=some u)(xt:XT C (some d) a u)(ed:H d=some (.ext (XF d fs)))(c:XC X.K nm C U)(n:Gg X.K C f)(l:fs.lookup f=some v)
  (h:∀u s',Inv X zG σ H s'->RelV v u->Q u s'):wpAny (model X.prog X.w) A (getAttr (.ref a) f b) Q E s:=by
 obtain⟨vs,sl,rfl,h2⟩:=xt;obtain⟨e,_⟩:=(I.hok a _ ea);obtain⟨⟨mA,nd,r,wi,_⟩,_⟩:=(I.hok d _ ed);obtain⟨od,ho,g⟩:=LZ nd;obtain⟨u',hu,ru⟩:=RelO.some_of (by rw [← l]; exact r f);exact Xk I.kIn c ⟨e,rfl,rfl,ho⟩ (PySem.W.findObj_own c.hd n rfl (by rw [g,hu])) (Sb ru) (h u' _ (I.tok _) ru)
end
def cM(K:Frag)(ta:TE)(f:Str):TE:=λσ H Q=>ta σ H λx H1=>∃a C U d u nm fs v,x=.ref a/\H1 a=some u/\XT C (some d) a u/\H1 d=some (.ext (XF d fs))/\XC K nm C U/\Gg K C f/\fs.lookup f=some v/\Q v H1
section
variable {X:Cx}{e:Expr}{f:Str}{pos:Pos}{ta:TE}
theorem Zz(he:PE X e ta)(b:attributeBase e f X.env (eval e X.env)=eval e X.env):PE X (.Attribute e f pos) (cM X.K ta f):=by
 intro zG s σ H Q I h;refine Wg b (thn (he _ s σ H _ I h) λu s1 ⟨x,H1,I1,rx,a,C,U,d,u0,nm,fs,v,ex,ea,xt,ed,c,n,l,q⟩=>?_);subst ex;obtain rfl:u=cm a:=rx;exact WB I1 ea xt ed c n l λu' s2 I2 ru=>⟨v,H1,I2,ru,q⟩
theorem O0:C2 X (.builtin "isinstance") (λxs H Q=>∃a C U dx u nm y c b,xs=[.ref a,y]/\H a=some u/\XT C dx a u/\(∀d,dx=some d->∃fs,H d=some (.ext (XF d fs)))/\XC X.K nm C U/\(y=.ty c/\PySem.W.kitOne X.K (.ref C) (.type c)=some b\/∃D,y=.ref D/\PySem.W.kitOne X.K (.ref C) (.ref D)=some b)/\Q (.bl b) H):=by
 intro zG s σ H xs us Q I r h;obtain⟨a,C,U,dx,u,nm,y,c,b,rfl,ea,xt,hd,xc,hy,q⟩:=h;obtain⟨u1,u2,rfl,r1,r2⟩:=vals2 r;cases (show u1=cm a from r1)
 have J:=xt.inst I ea λd e=>by
  obtain⟨fs,ho⟩:=hd d e;obtain⟨⟨mA,⟨o,_,_,e2,_⟩,_⟩,_⟩:=(show ObjOk X.prog X.w H s.heap d _ from I.hok d _ ho)
  grind
 rcases hy with ⟨rfl,e⟩ | ⟨D,rfl,e⟩
 ·cases (show u2=fE c from r2)
  exact PySem.W.kia_one xc.kitX I.kIn J e (by grind) λtk=>⟨.bl b,H,I.tok _,rfl,q⟩
 ·cases (show u2=cm D from r2)
  exact PySem.W.kia_one xc.kitX I.kIn J e (by grind) λtk=>⟨.bl b,H,I.tok _,rfl,q⟩
end
end L2
namespace Dp
open L2
def cC(M:Ch->Prop)(H:Hp)(dx:Option Ch)(ks:List Str)(vs:List V):Prop:=dx=none/\ks=[]/\vs=[]\/∃d,dx=some d/\¬M d/\H d=some (.ext (XF d (ks.zip vs)))
abbrev PX:=Str->List Str->List D->Nat->Prop
abbrev WX:=List Slot->Nat->(D->Nat->Prop)->PX->Prop
def LiftX(K:Frag)(F:Option (Ch×Ch))(U M:Ch->Prop)(H:Hp)(Pr:PX)(E:XK):Prop:=∀nm C Uc ks ds vs dx H' n',Ext U H H'->FeedC K F M H' n'->XC K nm C Uc->cC M H' dx ks vs->ks.length=ds.length->Ats K M H' ds vs->Pr nm ks ds n'->E (.ref C) dx H'
def am(K:Frag)(κ:Kd)(W:WX)(np:Nat):Sp:=λvs H Q E=>vs.length=np/\∃(F:Option (Ch×Ch)) (U V' M:Ch->Prop) (n:Nat) (ss:List Slot) (P:D->Nat->Prop) (Pr:PX),Y5 K F U V' M H n ss vs/\W ss n P Pr /\
 (∀v H' d n',Ext U H H'->FeedC K F M H' n'->VR K V' M H H' κ v d->P d n'->Q v H')/\LiftX K F U M H Pr E
section
variable {K:Frag}{C:Fm}{M:Addr->Prop}{H:Hp}{n:Nat}{ρ:List Slot}{σ:L2.St}
theorem Rel.setS(R:Rel K C M H n ρ σ){i:Nat}{s:Slot}{o:Option V}(ho:s.owns=false)(b:∀d,s≠.br d)(h:SlotOk K C.F C.V M H s o):Rel K C M H n (ρ.set i s) (σ.set i o):=by
 have two:∀(j:Nat) (t:Slot),(ρ.set i s)[j]?=some t->t.owns=true->ρ[j]?=some t/\((σ.set i o)[j]?).getD none=(σ[j]?).getD none:=λj t q w=>by
  rcases FD q with ⟨_,_,rfl⟩ | ⟨hj,q⟩
  ·rw [ho] at w; cases w
  ·exact⟨q,GL hj⟩
 refine⟨by rw [fb,fb]; exact R.len,R.sub,R.dom,R.ext,R.fU,R.uV,R.vM,R.feed,λj s q=>?_,R.pin,λj e a q q2=>?_,λj s a q o q2=>?_,λj k s t a q1 o1 q2 o2 z1 z2=>?_,λp hp=>?_⟩
 ·rcases FD q with ⟨rfl,c,rfl⟩ | ⟨hj,q⟩
  ·rw [PZ (by rw [← R.len]; exact c)]
   exact h
  ·rw [GL hj]
   exact R.sl j s q
 ·rcases FD q with ⟨_,_,e⟩ | ⟨hj,q⟩
  ·exact absurd e.symm (b _)
  ·rw [GL hj] at q2
   exact R.br0 j e a q q2
 ·obtain⟨q1,e⟩:=two j s q o
  rw [e] at q2;exact R.new j s a q1 o q2
 ·obtain⟨p1,e1⟩:=two j s q1 o1
  obtain⟨p2,e2⟩:=two k t q2 o2;rw [e1] at z1;rw [e2] at z2;exact R.two j k s t a p1 o1 p2 o2 z1 z2
 ·obtain⟨h1,h2,h3,h4⟩:=R.kept p hp
  refine⟨h1,h2,h3,λj e q=>?_⟩;obtain⟨q1,e2⟩:=two j _ q rfl;rw [e2];exact h4 j e q1
end
def ZP(Φ:Fm->Prop)(X:Cx)(κ:Kd)(st:dE)(w:Aj):Prop:=∃t,PS X st t/\∀(C:Fm) (M:Ch->Prop) (H:Hp) (n:Nat) (ρ:List Slot) (σ:L2.St) (D2:E2) (E:Ends),Φ C->Rel X.K C M H n ρ σ->HG X.K C κ D2 E->w D2 n ρ->t E σ H
def PJ(Φ:Fm->Prop)(X:Cx)(κ:Kd)(st:List dE)(w:Aj):Prop:=∃t,PSs X st t/\∀(C:Fm) (M:Ch->Prop) (H:Hp) (n:Nat) (ρ:List Slot) (σ:L2.St) (D2:E2) (E:Ends),Φ C->Rel X.K C M H n ρ σ->HG X.K C κ D2 E->w D2 n ρ->t E σ H
section
variable {Φ:Fm->Prop}{X:Cx}{κ:Kd}{st:Stmt}{rest:List Stmt}{u v:Aj}{wA:HI}{c:Expr}{pos p:Pos}
theorem U5(h:DS X κ st u):ZP Φ X κ st u:=let ⟨t,a,b⟩:=h; ⟨t,a,λC M H n ρ σ D2 E _=>b C M H n ρ σ D2 E⟩
theorem Q_(h:QR X κ rest u):PJ Φ X κ rest u:=let ⟨t,a,b⟩:=h; ⟨t,a,λC M H n ρ σ D2 E _=>b C M H n ρ σ D2 E⟩
theorem Hm(h1:ZP Φ X κ st u)(h2:PJ Φ X κ rest v):PJ Φ X κ (st::rest) (Ac u v):=by
 obtain⟨t,a1,a2⟩:=h1;obtain⟨t',b1,b2⟩:=h2;exact⟨_,BL a1 b1,λC M H n ρ σ D2 E a R L w=>a2 C M H n ρ σ { D2 with nx:=v D2 } _ a R ⟨λM H n ρ σ R w=>b2 C M H n ρ σ D2 E a R L w,L.rt,L.bk,L.ct⟩ w⟩
theorem G5(h1:ZP Φ X κ st u):PJ Φ X κ [st] u:=by
 obtain⟨t,a1,a2⟩:=h1;exact⟨t,Cb a1,a2⟩
theorem U6{a b:List dE}(d:DT X c wA)(ha:PJ Φ X κ a u)(e:PJ Φ X κ b v):ZP Φ X κ (.If c a b pos) (BG wA u v):=by
 obtain⟨t,a1,a2⟩:=d;obtain⟨t',b1,b2⟩:=ha;obtain⟨f,c1,c2⟩:=e;refine⟨_,Ql a1 b1 c1,λC M H n ρ σ D2 E hC R L w=>?_⟩;refine a2 C M H n ρ σ _ _ R w λb H1 n1 e1 f1 p=>?_;cases b with
 | true=>exact b2 C M H1 n1 ρ σ D2 E hC (R.step e1 f1) L p
 | false=>exact c2 C M H1 n1 ρ σ D2 E hC (R.step e1 f1) L p
end
def Ij(P:cz)(w:dC)(K:Frag)(mg:Str->Option Cn)(base:cw)(nm:Str)(ks:List Str)(k:Nat):Prop:=∃C U,XC K nm C U/\mg nm=some (.ref C) /\
 ((ks=[]/\PySem.W.findIn K (.ref C) "__init__"=some (some (.builtin "ValueError.__init__")))\/∃k1 k2 f fd p0 p1 p2,ks=[k1,k2]/\PySem.W.findIn K (.ref C) "__init__"=some (some (.ref f))/\PySem.W.typeIn K (.ref f)=some (.type "function")/\BD P w K mg base CL k f fd [p0,p1,p2] (HN C k1 k2)/\Binds K fd [p0,p1,p2] [])
def L_(nm:Str)(ks:List Str)(a:Ef):E2->PX->Nat->List Slot->Prop:=λ_ Pr n ρ=>a n ρ λds n1=>(ks=[]/\ds.length<=100/\Pr nm [] [] n1)\/(ks.length=2/\ds.length=2/\Pr nm ks ds n1)
abbrev ZE:=E2->PX->Nat->List Slot->Prop
def bB(X:Cx)(κ:Kd)(st:dE)(w:ZE):Prop:=∃t,ZL X st t/\∀(C:Fm) (M:Ch->Prop) (H:Hp) (n:Nat) (ρ:List Slot) (σ:L2.St) (D2:E2) (E:Ends) (R:XK) (Pr:PX),Rel X.K C M H n ρ σ->HG X.K C κ D2 E->LiftX X.K C.F C.U M H Pr R->w D2 Pr n ρ->t E R σ H
def ag(X:Cx)(κ:Kd)(st:List dE)(w:ZE):Prop:=∃t,Y6 X st t/\∀(C:Fm) (M:Ch->Prop) (H:Hp) (n:Nat) (ρ:List Slot) (σ:L2.St) (D2:E2) (E:Ends) (R:XK) (Pr:PX),Rel X.K C M H n ρ σ->HG X.K C κ D2 E->LiftX X.K C.F C.U M H Pr R->w D2 Pr n ρ->t E R σ H
theorem LiftX.step{K:Frag}{F:Option (Ch×Ch)}{U M:Ch->Prop}{H H1:Hp}{Pr:PX}{E:XK}(h:LiftX K F U M H Pr E)(e:Ext U H H1):LiftX K F U M H1 Pr E:=λnm C Uc ks ds vs dx H' n' e1=>h nm C Uc ks ds vs dx H' n' (e.trans e1)
section
variable {X:Cx}{κ:Kd}{st:Stmt}{u v:ZE}{c e:Expr}{es:List Expr}{pos cpos p:Pos}{nm:Str}{ks:List Str}{k:Nat}{was:Ef}
theorem U4(h1:bB X κ st u):ag X κ [st] u:=by
 obtain⟨t,a1,a2⟩:=h1;exact⟨t,UD a1,a2⟩
theorem Lo(G:Ij X.prog X.w X.K X.mg X.base nm ks k)(hr:Room (k+1) X.A)(hg:Gl X nm)(ha:Xf X (e::es) was)(a:(nm==("__debug__":Str))=false:=by decide)(he:starEach (e::es) X.env=(false,eval e X.env)::starEach es X.env:=by rfl)(b:(backTo cpos (starEach es X.env)).any (·.1)=false:=by rfl)
  (c:(e::es).length<=sizeLine:=by decide):bB X κ (.Raise (some (.Call (.Name nm p) (e::es) [] cpos)) none pos) (L_ nm ks was):=by
 obtain⟨C,U,xc,hm,G⟩:=G;obtain⟨t,a1,a2⟩:=ha
 rcases G with ⟨rfl,hi⟩ | ⟨k1,k2,f,fd,p0,p1,p2,rfl,hi,hf,F,h⟩
 ·refine⟨_,Po xc hi hr.hd hg hm a1 a he b,λC0 M H n ρ σ D2 E R Pr r L l w=>?_⟩
  refine a2 C0 M H n ρ σ _ _ r w λvs H1 ds n1 e1 f1 r1 p=>?_
  rcases p with ⟨_,c,p⟩ | ⟨z,_⟩
  ·exact⟨by rw [r1.length,PySem.sizeLine_eq]; omega,l nm C U [] [] [] none H1 n1 e1 f1 xc (.inl ⟨rfl,rfl,rfl⟩) rfl rfl p⟩
  ·cases z
 ·refine⟨_,Pn xc hi hf F h hr hg hm a1 a he b,λC0 M H n ρ σ D2 E R Pr r L l w=>?_⟩
  refine a2 C0 M H n ρ σ _ _ r w λvs H1 ds n1 e1 f1 r1 p=>?_
  rcases p with ⟨z,_⟩ | ⟨_,c,p⟩
  ·cases z
  ·have hv:=r1.length
   rw [c] at hv
   match vs,hv with
   | [v1,v2],_ =>
    refine⟨v1,v2,rfl,λd hd=>?_⟩;have g:=A1 (o:=.ext (XF d [(k1,v1),(k2,v2)])) hd
    have nd:¬M d:=λz=>by
     obtain⟨o,q⟩:=(r.step e1 f1).dom d z;rw [hd] at q; cases q
    exact l nm C U [k1,k2] ds [v1,v2] (some d) _ n1 (e1.trans g.ext) (f1.grow g) xc (.inr ⟨d,rfl,nd,AX⟩) c.symm (r1.pres g.pres) p
theorem KI{R:XK}{Φ:Fm->Prop}{Pr:PX}{F0:Option (Ch×Ch)}{U0 M0:Ch->Prop}{H0:Hp}{w:ZE}(a:Hr (RX X.prog X.w) X R)(hL:LiftX X.K F0 U0 M0 H0 Pr R)(hΦ:∀C,Φ C->C.F=F0/\C.U=U0/\C.M0=M0/\C.H0=H0)(h:bB X κ st w):ZP Φ X κ st (λD2=>w D2 Pr):=by
 obtain⟨t,a1,a2⟩:=h;refine⟨_,Rx a a1,λC M H n ρ σ D2 E hC r L w=>?_⟩;obtain⟨rfl,rfl,rfl,rfl⟩:=hΦ C hC;refine a2 C M H n ρ σ D2 E R Pr r L (λnm Cc Uc ks ds vs dx H' n' e f xc xd b c p=>?_) w;have less:Pres M H' _ H':=Pres.less r.sub;refine hL nm Cc Uc ks ds vs dx H' n' (r.ext.trans e) (f.pres less λ_ _ _ z=>z) xc ?_ b (c.pres less) p
 rcases xd with z | ⟨d,e1,n1,h1⟩
 ·exact .inl z
 ·exact .inr ⟨d,e1,λz=>n1 (r.sub d z),h1⟩
def cJ(X:Cx)(e:c_)(κ:Kd)(w:Nat->List Slot->(D->Nat->Prop)->PX->Prop):Prop:=∃t,bq X e t/\∀(C:Fm) (M:Ch->Prop) (H:Hp) (n:Nat) (ρ:List Slot) (σ:L2.St) (P:D->Nat->Prop) (Q:VK) (R:XK) (Pr:PX),Rel X.K C M H n ρ σ->LiftX X.K C.F C.U M H Pr R->w n ρ P Pr ->
 (∀v H' d n',Ext C.U H H'->FeedC X.K C.F M H' n'->VR X.K C.V M H H' κ v d->P d n'->Q v H')->t R σ H Q
def ZA(P:cz)(w:dC)(K:Frag)(mg:Str->Option Cn)(base:cw)(x:Str)(k:Nat)(ps:List Str)(κ:Kd)(W:WX):Prop :=
 ∃f fd,BD P w K mg base (RX P w) k f fd ps (am K κ W ps.length)/\mg x=some (.ref f)/\keepIn K (.ref f)=true/\Binds K fd ps []/\∀ss n P Pr,W ss n P Pr->ss.length=ps.length
def TQ(W:WX)(was:S1):Nat->List Slot->(D->Nat->Prop)->PX->Prop:=λn ρ P Pr=>was n ρ λss n1=>W ss n1 P Pr
theorem U9{ps:List Str}{zT:Kd}{W:WX}{x:Str}{was:S1}(G:ZA X.prog X.w X.K X.mg X.base x k ps zT W)(hr:Room k X.A)(hg:Gl X x)(ha:Xe X (e::es) was)
  (a:(x==("__debug__":Str))=false:=by decide) (he:starEach (e::es) X.env=(false,eval e X.env)::starEach es X.env:=by rfl) (b:(backTo pos (starEach es X.env)).any (·.1)=false:=by rfl) :
  cJ X (.Call (.Name x p) (e::es) [] pos) zT (TQ W was):=by
 obtain⟨f,fd,G,hm,c,g,hW⟩:=G;obtain⟨t,h1,h2⟩:=ha;refine⟨_,UL G hr hg hm c g h1 a he b,λC M H n ρ σ P Q R Pr r l w q=>?_⟩;refine h2 C M H n ρ σ _ _ r w λvs H1 ss n1 e1 f1 r1 p=>?_;have R1:=r.step e1 f1;exact⟨(Paired.length r1).trans (hW _ _ _ _ p),_,_,_,M,n1,ss,P,Pr,⟨R1.dom,R1.fU,R1.uV,R1.vM,f1,r1⟩,p,λv H2 d n2 e2 f2 r2 p2=>q v H2 d n2 (e1.trans e2) f2 (VR.back e1 r2) p2,l.step e1⟩
abbrev ZF:=E2->Str->List Str->List D->Nat->List Slot->Prop
def DH(X:Cx)(κ:Kd)(a:List gc)(w:ZF):Prop:=∃t,PH X a t/\∀(C:Fm) (M:Ch->Prop) (H:Hp) (n:Nat) (ρ:List Slot) (σ:L2.St) (D2:E2) (E:Ends) (nm:Str) (Cc Uc:Ch) (ks:List Str) (ds:List D) (vs:List V) (dx:Option Ch),
 Rel X.K C M H n ρ σ->HG X.K C κ D2 E->XC X.K nm Cc Uc->cC M H dx ks vs->ks.length=ds.length->Ats X.K M H ds vs->w D2 nm ks ds n ρ->t E Cc dx σ H
def ZQ(wb:ZE)(wh:ZF):Aj:=λD2 n ρ=>wb D2 (λnm ks ds n'=>wh D2 nm ks ds n' ρ) n ρ
theorem Yi{body:List dE}{h₀:gc}{a:List gc}{wb:ZE}{wh:ZF}(b:X.stack=X.env::X.outer)(c:X.env.frame=some X.env.locals)(d:∀e s,X.xe e s->False)(g:ag X κ body wb)(hh:DH X κ (h₀::a) wh) :
  DS X κ (.Try body (h₀::a) [] [] pos) (ZQ wb wh):=by
 obtain⟨t,a1,a2⟩:=g;obtain⟨th,b1,b2⟩:=hh;exact⟨_,YD b c d a1 b1,λC M H n ρ σ D2 E r L w=>a2 C M H n ρ σ D2 E _ _ r L (λnm Cc Uc ks ds vs dx H' n' e f xc xd h a p=>⟨Cc,rfl,b2 C M H' n' ρ σ D2 E nm Cc Uc ks ds vs dx (r.step e f) L xc xd h a p⟩) w⟩
def TK:ZF:=λ_ _ _ _ _ _=>False
theorem Yl:DH X κ [] TK:=⟨_,YG,λ_ _ _ _ _ _ _ _ _ _ _ _ _ _ _ _ _ _ _ _ _ w=>w.elim⟩
def TL(dn:Str)(i:Nat)(ws:Ch->Aj)(wh:ZF):ZF:=λD2 nm ks ds n ρ=>if nm=dn\/dn = "ThinError" then ∀a,ws a { nx:=λn' zY=>D2.nx n' (zY.set i .no),rt:=D2.rt,bk:=λn' zY=>D2.bk n' (zY.set i .no),ct:=λn' zY=>D2.ct n' (zY.set i .no) } n (ρ.set i (.ex a nm ks ds)) else wh D2 nm ks ds n ρ
theorem WU{i:Nat}{dn y:Str}{b₀:dE}{b:List dE}{f:List gc}{Dc:Ch}{ws:Ch->Aj}{wh:ZF}{np:Pos}(hN:X.N.Nodup)(hi:X.N[i]?=some y)(m:X.env.scope.names.lookup y=some .local)(hg:Gl X dn)(hm:X.mg dn=some (.ref Dc))(hK:nsIn X.K mainGlobals dn=some (some (.ref Dc)))
  (hD:dn = "ThinError"/\ZO X.K Dc\/dn ≠ "ThinError"/\∃U,XC X.K dn Dc U) (j:X.stack=X.env::X.outer) (k:X.env.frame=some X.env.locals)
  (l:∀a,QR (X.hush (X.A.mark (some (.ref a)))) κ (b₀::b) (ws a)) (hr:DH X κ f wh) (hd:(dn==("__debug__":Str))=false:=by decide) :
  DH X κ (.ExceptHandler (some (.Name dn np)) (some y) (b₀::b) pos::f) (TL dn i ws wh):=by
 obtain⟨th,b1,b2⟩:=hr;have ch:∀a,∃t,PSs (X.hush (X.A.mark (some (.ref a)))) (b₀::b) t/\∀(C:Fm) (M:Ch->Prop) (H:Hp) (n:Nat) (ρ:List Slot) (σ:L2.St) (D2:E2) (E:Ends),Rel X.K C M H n ρ σ->HG X.K C κ D2 E->ws a D2 n ρ->t E σ H:=l;refine⟨_,Vr (ts:=λa=>(ch a).choose) hN hi m hg hm (hD.elim (λz=>z.2) fun⟨_,U,c⟩=>c.isX) j k (λa=>(ch a).choose_spec.1) b1 hd,λC M H n ρ σ D2 E nm Cc Uc ks ds vs dx r L xc xd h f w=>⟨nm,Uc,xc,?_⟩⟩;unfold TL at w
 by_cases e:nm=dn\/dn = "ThinError"
 ·rw [if_pos e] at w
  refine .inl ⟨?_,λa u fa xt=>?_⟩
  ·rcases hD with ⟨z,_⟩ | ⟨z,U,c⟩
   ·subst z
    have q:=xc.atU.symm.trans hK;cases q;exact .inr rfl
   ·rcases e with e | e
    ·subst e
     have q:=xc.at_.symm.trans hK;cases q;exact .inl rfl
    ·exact absurd e z
  ·have g:Grow H (A4 H a u):=A1 fa
   have r1:=r.step (g.ext) (r.feed.grow g);have na:¬M a:=λz=>by obtain⟨o,q⟩:=r.dom a z; rw [fa] at q; cases q
   have nd:∀{d:Ch} {o:HO},H d=some o->A4 H a u d=some o:=λ{d o} q=>g.all d o q;refine(ch a).choose_spec.2 C M (A4 H a u) n (ρ.set i (.ex a nm ks ds)) _ { nx:=λn' zY=>D2.nx n' (zY.set i .no),rt:=D2.rt,bk:=λn' zY=>D2.bk n' (zY.set i .no),ct:=λn' zY=>D2.ct n' (zY.set i .no) } _ (r1.setS rfl (λ_ z=>by cases z) ⟨rfl,Cc,Uc,dx,u,vs,xc,⟨na,AX⟩,xt,?_,h,f.pres g.pres⟩) ⟨λM' H' n' zY zZ R' q=>?_,L.rt,λM' H' n' zY zZ R' q=>?_,λM' H' n' zY zZ R' q=>?_⟩ (w a)
   ·rcases xd with z | ⟨d,e1,n1,h1⟩
    ·exact .inl z
    ·exact .inr ⟨d,e1,n1,nd h1⟩
   ·exact L.nx M' H' n' _ _ (R'.setS (s:=.no) rfl (λ_ z=>by cases z) trivial) q
   ·exact L.bk M' H' n' _ _ (R'.setS (s:=.no) rfl (λ_ z=>by cases z) trivial) q
   ·exact L.ct M' H' n' _ _ (R'.setS (s:=.no) rfl (λ_ z=>by cases z) trivial) q
 ·rw [if_neg e] at w
  have e1:nm≠dn:=λz=>e (.inl z);have e2:dn ≠ "ThinError":=λz=>e (.inr z)
  rcases hD with ⟨z,_⟩ | ⟨_,U,c⟩
  ·exact absurd z e2
  ·refine .inr ⟨λz=>?_,λz=>?_,b2 C M H n ρ σ D2 E nm Cc Uc ks ds vs dx r L xc xd h f w⟩
   ·subst z
    exact e1 (xc.name c)
   ·subst z
    exact e2 (xc.nameU c)
end
end Dp
namespace L2
def HX(A:dL)(H:Hp):Prop:=∃a C dx u,A.handled=some (.ref a)/\H a=some u/\XT C dx a u
structure cD (P:cz) (w:dC) (K:Frag) (tg:c_) (J:It) (fp:List Ch) (it:Ch) (tn:Nat->cw->Prop):Prop where
 mem:it∈fp
 obj:∀i h,tn i h->∀b∈fp,∃o,h.get? b=some o/\∀v,o.data≠.cell v
 keep:∀i h h',tn i h->(∀b∈fp,∀o,h.get? b=some o->h'.get? b=some o)->tn i h'
 item:∀(X:Cx),X.prog=P->X.w=w->X.K=K->HX X.A X.H₀->∀(i:Nat) (zG:List (Ch×Obj)) (s:FM) (σ:St) (H:Hp) (E:Cn->FM->Prop),Inv X zG σ H s->(∀b∈fp,Gh X zG H b)->tn i s.heap->J.go i H ->
  wpAny (model P w) X.A (pyNext (.ref it)) (λr s1=>∃u,r=some u /\
   wpAny (model P w) X.A (letOwnedTupleGo tg (.ref it) u) (λ_ s2=>∃x H',Inv X zG σ H' s2/\RelV x u/\J.yld i H x H'/\tn (i+1) s2.heap/\∀b∈fp,H' b=none) E s1) E s
 done:∀(X:Cx),X.prog=P->X.w=w->X.K=K->HX X.A X.H₀->∀(i:Nat) (zG:List (Ch×Obj)) (s:FM) (σ:St) (H:Hp) (E:Cn->FM->Prop),Inv X zG σ H s->(∀b∈fp,Gh X zG H b)->tn i s.heap->J.stop i H ->
  wpAny (model P w) X.A (pyNext (.ref it)) (λr s1=>r=none/\Inv X zG σ H s1) E s
 self:∀(A:dL) (i:Nat) (s:FM) (Q:Cn->FM->Prop) (E:Cn->FM->Prop),tn i s.heap->Q (.ref it) s->wpAny (model P w) A (pyIter (.ref it)) Q E s
end L2
namespace Dp
open L2
end Dp
namespace L2
structure RoomH (k:Nat) (A:dL):Prop where
 dp:A.depth+3*k+5<recursionLimit
 un:A.units+16*k+200<cLine
 gd:A.guards=some []
theorem RoomH.mono{j k:Nat}{A:dL}(r:RoomH k A)(h:j<=k):RoomH j A:=⟨by have:=r.dp; omega,by have:=r.un; omega,r.gd⟩
theorem RoomH.room{k:Nat}{A:dL}(r:RoomH k A):Room k { A with handled:=none }:=⟨rfl,r.dp,r.un,r.gd⟩
theorem Room.held{k:Nat}{A:dL}(r:Room k A)(e:Option Cn):RoomH k (A.mark e):=⟨r.dp,r.un,r.gd⟩
theorem RoomH.deeper{k:Nat}{A:dL}(r:RoomH (k+1) A)(env:Env):RoomH k (A.deeper env):=let q:=r.room.deeper env; ⟨q.dp,q.un,q.gd⟩
structure L7 (P:cz) (w:dC) (K:Frag) (mg:Str->Option Cn) (base:cw) (k:Nat) (f:Ch) (fd:dU) (ps:List Str) (sp:Sp):Prop where
 len:∀vs H Q E,sp vs H Q E->vs.length=ps.length
 run:∀(A:dL) (outer:List Env) (s:FM) (H:Hp) (args:Args) (us:List Cn) (vs:List V) (Q:VK) (E:XK),RoomH k A->HX A H->Env0 P w K mg base A outer s H->iX s fd args (ps.zip us)->Vals vs us->sp vs H Q E ->
  codeAny (model P w) A (.call (.ref f) args) (CR CL outer P w H s Q E) s
theorem Fun.okH{P:cz}{w:dC}{K:Frag}{mg:Str->Option Cn}{base:cw}{x qual:Str}{st:dE}{f:Ch}{fd:dU}{N ps:List Str}{k:Nat}{sp:Sp}(F:Fun K x qual st f fd)(S:Ai N ps (AH st))(len:∀vs H Q E,sp vs H Q E->vs.length=ps.length)
  (c:∀(a:Cn) (A:dL) (outer:List Env) (s:FM) (H:Hp) (vs:List V) (Q:VK) (E:XK),RoomH k (A.deeper (envOfC qual (AH st) s.heap.objs.size f a))->HX A H->sp vs H Q E ->
   ∃t,PSs ((EX CL P w K mg base N qual (AH st) f a A outer s H E).hush (A.deeper (envOfC qual (AH st) s.heap.objs.size f a))) (BX st) t/\t { nx:=λ_ H'=>Q .non H',rt:=Q } (start N vs) H):L7 P w K mg base (k+1) f fd ps sp:=by
 obtain⟨oc,od,kV,doc,pm,an,a,ct,j,rfl,lk,i⟩:=F.ex;refine⟨len,λA outer s H args us vs Q E hr l e0 m r h=>?_⟩;have p:=len _ _ _ _ h;have KX:K.In s.heap:=e0.mod.kin.keeps λb o e=>(e0.bs b o e).1;have lim:s.heap.NoLimit:=e0.mod.nolimit.keeps λb o e=>(e0.bs b o e).1
 have d:∀y∈ps.zip us,(AH st).names.lookup y.1=some .local\/((AH st).names.lookup y.1=some .cell/\((cellsFrom (s.heap.objs.size+1) (AH st).names []).lookup y.1).isSome=true):=fun⟨n,v⟩ hy=>by
  rcases S.par n (gh hy).1 with q | q
  ·exact .inl q
  ·exact .inr ⟨q,PySem.W.cellsFrom_some _ _ _ (.inl q)⟩
 refine codeAny_call_function hr.room.depth (KX _ _ lk) rfl S.co S.gen rfl (PySem.W.codeRec_of KX i) (m _ _ _ _ ?_);refine ir S.kind d λenv he s1 x1=>?_;subst he;refine⟨lim.keeps x1.toInCall.keep,codeAny_func ?_⟩;obtain⟨t,ht,hq⟩:=c a A outer s H vs Q E (hr.deeper _) l h;have I0:Inv (EX CL P w K mg base N qual (AH st) f a { A with handled:=none } outer s H E) [] (start N vs) H s1:=Lh S rfl ⟨e0.frames,e0.mod,e0.bs,e0.bsz,e0.funs,e0.frf,e0.hok,e0.bare⟩ p r x1;have I:Inv ((EX CL P w K mg base N qual (AH st) f a A outer s H E).hush (A.deeper (envOfC qual (AH st) s.heap.objs.size f a))) [] (start N vs) H s1:=I0.hush (A:=A.deeper (envOfC qual (AH st) s.heap.objs.size f a)) (jl e0.frames);refine dP (ht [] s1 (start N vs) H _ I hq) (λfl s' g=>?_) λe s' g=>dh g
 have fin:∀{zZ:St} {H':Hp} {v:V} {u:Cn},Inv ((EX CL P w K mg base N qual (AH st) f a A outer s H E).hush (A.deeper (envOfC qual (AH st) s.heap.objs.size f a))) [] zZ H' s'->RelV v u->Q v H'->CE outer P w H s Q u s' :=
  λ{zZ H' v u} J rv q=>⟨v,H',J.os,J.bare,J.base,J.hok,rv,q⟩
 cases fl with
 | ret u =>
  obtain⟨v,zZ,H',J,rv,q⟩:=g;exact fin J rv q
 | next =>
  obtain⟨zZ,H',J,q⟩:=g;exact fin (v:=V.non) (u:=dO) J rfl q
 | brk =>
  obtain⟨_,_,_,q⟩:=g;exact dh q
 | cont =>
  obtain⟨_,_,_,q⟩:=g;exact dh q
section
variable {X:Cx}{k:Nat}{f:Addr}{fd:FuncData}{ps:List Str}{sp:Sp}{x:Str}{p pos:Pos}{e:Expr}{es:List Expr}{t:TA}
def Xz(A:dL)(sp:Sp)(t:TA):TE:=λσ H Q=>t σ H λvs H1=>HX A H1/\sp vs H1 Q E0
theorem US(F:L7 X.prog X.w X.K X.mg X.base k f fd ps sp)(hr:RoomH k X.A)(hg:Gl X x)(hm:X.mg x=some (.ref f))(c:keepIn X.K (.ref f)=true)(d:Binds X.K fd ps [])
  (ha:PA X (e::es) t) (a:(x==("__debug__":Str))=false:=by decide) (he:starEach (e::es) X.env=(false,eval e X.env)::starEach es X.env:=by rfl) (b:(backTo pos (starEach es X.env)).any (·.1)=false:=by rfl) :
  PE X (.Call (.Name x p) (e::es) [] pos) (Xz X.A sp t):=by
 intro zG s σ H Q I h;refine eN (Dq I hg hm ?_ a);refine PySem.W.callWith_K (h₀:=X.base) I.ok.mod.kin c (thn (ha pos zG s σ H _ I h) λus s1 ⟨vs,H1,I1,r,g,q⟩=>⟨I1.kIn,?_⟩) he b;have i:(us++[]).length=ps.length:=by rw [dS,← r.length]; exact F.len _ _ _ _ q
 have r2:Vals vs (us++[]):=by grind
 refine fj (ft (F.run X.A X.stack s1 H1 ⟨us,[]⟩ (us++[]) vs Q E0 hr g I1.env0 (d s1 us I1.kIn i) r2 q) λr s' hq=>?_);cases r with
 | error e=>exact dh hq
 | ok fl =>
  cases fl with
  | ret u=>exact I1.after hq
  | next=>exact dh hq
  | brk=>exact dh hq
  | cont=>exact dh hq
end
end L2
namespace Dp
open L2
section
variable {X:Cx}{e:Expr}{es:List Expr}{p p1 p2 pos:Pos}{i:Nat}{x f nm:Str}{κ:Kd}
def TV(i:Nat):Nat->List Slot->(Slot->Nat->Prop)->Prop:=λn ρ P=>match ρ[i]? with
 | some (.ex a nm ks ds)=>P (.ex a nm ks ds) n
 | _=>False
theorem aO(i:Nat){x:Str}{pos:Pos}(hN:X.N[i]?=some x:=by rfl)(hv:Sw X.env.scope x:=by first | exact TW rfl | exact dZ (TW rfl) | exact dZ (dZ rfl))(hd:(x==("__debug__":Str))=false:=by decide)
  (b:(x==("__classdict__":Str))=false:=by decide):ah X (.Name x pos) (TV i):=by
 refine⟨_,Em hN hv hd b,λC M H n ρ σ P Q R w q=>?_⟩;unfold TV at w
 split at w
 ·rename_i a nm ks ds hd
  obtain⟨e1,h1⟩:=R.sl i _ hd;exact⟨_,getD_some e1,q _ H (.ex a nm ks ds) n (Ext.refl _ _) R.feed ⟨⟨rfl,h1⟩,rfl⟩ w⟩
 grind
def aj(i:Nat)(f:Str):DW:=λn ρ P=>match ρ[i]? with
 | some (.ex _ _ ks ds)=>∃d,(ks.zip ds).lookup f=some d/\P d n
 | _=>False
theorem JK{K:Frag}{M:Ch->Prop}{H:Hp}{f:Str}{d:D}:∀{ks:List Str} {ds:List D} {vs:List V},Ats K M H ds vs->(ks.zip ds).lookup f=some d->∃v,(ks.zip vs).lookup f=some v/\At K M H d v
 | [],ds,vs,h,e=>by simp at e
 | k::ks,[],vs,h,e=>by simp at e
 | k::ks,d0::ds,vs,h,e=>by
  obtain⟨v,r,rfl,h1,h2⟩:=h;rw [gl,fP] at e ⊢
  split at e
  ·grind
  ·exact JK h2 e
theorem XU(hf:f∈(["word","number","row"]:List Str))(hN:X.N[i]?=some x:=by rfl)(hv:Sw X.env.scope x:=by first | exact TW rfl | exact dZ (TW rfl) | exact dZ (dZ rfl))(hd:(x==("__debug__":Str))=false:=by decide)
  (b:(x==("__classdict__":Str))=false:=by decide) (e:attributeBase (.Name x p) f X.env (eval (.Name x p) X.env)=eval (.Name x p) X.env:=by rfl):DE X (.Attribute (.Name x p) f pos) .sh (aj i f):=by
 refine⟨_,Zz (Em hN hv hd b) e,λC M H n ρ σ P Q R w q=>?_⟩;unfold aj at w
 split at w
 ·rename_i a nm ks ds hd
  obtain⟨d,l,w⟩:=w;obtain⟨e1,Cc,U,dx,u,vs,xc,⟨na,ha⟩,xt,g,j,h⟩:=R.sl i _ hd
  rcases g with ⟨_,rfl,_⟩ | ⟨dd,rfl,nd,c⟩
  ·simp at l
  ·obtain⟨v,lv,hv⟩:=JK h l
   have na:Gg X.K Cc f:=by
    simp only [T0,c6,or_false] at hf
    rcases hf with rfl | rfl | rfl
    ·exact xc.nw
    ·exact xc.nn
    ·exact xc.nr
   exact⟨.ref a,getD_some e1,a,Cc,U,dd,u,nm,_,v,rfl,ha,xt,c,xc,na,lv,q v H d n (Ext.refl _ _) R.feed hv w⟩
 ·exact w.elim
def Xm(i:Nat)(cn:Str):DW:=λn ρ P=>match ρ[i]? with
 | some (.ex _ nm _ _)=>P (.bl (decide (nm=cn))) n
 | _=>False
def S_(i:Nat):DW:=λn ρ P=>match ρ[i]? with
 | some (.ex _ _ _ _)=>P (.bl true) n
 | _=>False
theorem Ym{cn:Str}{D U:Ch}(k:cn ≠ "ThinError")(xd:XC X.K cn D U)(b:Gl X cn)(c:X.mg cn=some (.ref D))(hg:Gl X "isinstance")(hm:X.mg "isinstance"=none)(hN:X.N[i]?=some x:=by rfl)(hv:Sw X.env.scope x:=by first | exact TW rfl | exact dZ (TW rfl) | exact dZ (dZ rfl))(hd:(x==("__debug__":Str))=false:=by decide)
  (e:(x==("__classdict__":Str))=false:=by decide) (f:(cn==("__debug__":Str))=false:=by decide) (he:starEach [.Name x p1,.Name cn p2] X.env=(false,eval (.Name x p1) X.env)::starEach [.Name cn p2] X.env:=by rfl) (g:starEach [.Name cn p2] X.env=[(false,eval (.Name cn p2) X.env)]:=by rfl) (h:(backTo pos (starEach [.Name cn p2] X.env)).any (·.1)=false:=by rfl) :
  DE X (.Call (.Name "isinstance" p) [.Name x p1,.Name cn p2] [] pos) .sh (Xm i cn):=by
 refine⟨_,Cv O0 hg hm (by decide +kernel) (BB (Em hN hv hd e) (BB (Qq (v:=.ref D) b c rfl f) B0 g) he) (by decide) (by decide) he h,λC M H n ρ σ P Q R w q=>?_⟩;unfold Xm at w
 split at w
 ·rename_i a nm ks ds hd
  obtain⟨e1,Cc,U',dx,u,vs,xc,⟨na,ha⟩,xt,l,m,o⟩:=R.sl i _ hd;refine⟨.ref a,getD_some e1,a,Cc,U',dx,u,nm,.ref D,"",_,rfl,ha,xt,λd ed=>?_,xc,.inr ⟨D,rfl,xc.kit xd k⟩,q _ H (.bl _) n (Ext.refl _ _) R.feed rfl w⟩
  rcases l with ⟨z,_⟩ | ⟨dd,z,_,j⟩
  ·grind
  ·rw [z] at ed; cases ed; exact⟨_,j⟩
 grind
theorem WY(b:Gl X "ValueError")(c:X.mg "ValueError"=none)(hg:Gl X "isinstance")(hm:X.mg "isinstance"=none)(hN:X.N[i]?=some x:=by rfl)(hv:Sw X.env.scope x:=by first | exact TW rfl | exact dZ (TW rfl) | exact dZ (dZ rfl))(hd:(x==("__debug__":Str))=false:=by decide)
  (e:(x==("__classdict__":Str))=false:=by decide) (he:starEach [.Name x p1,.Name "ValueError" p2] X.env=(false,eval (.Name x p1) X.env)::starEach [.Name "ValueError" p2] X.env:=by rfl) (f:starEach [.Name "ValueError" p2] X.env=[(false,eval (.Name "ValueError" p2) X.env)]:=by rfl) (g:(backTo pos (starEach [.Name "ValueError" p2] X.env)).any (·.1)=false:=by rfl) :
  DE X (.Call (.Name "isinstance" p) [.Name x p1,.Name "ValueError" p2] [] pos) .sh (S_ i):=by
 refine⟨_,Cv O0 hg hm (by decide +kernel) (BB (Em hN hv hd e) (BB (Iv (v:=.ty "ValueError") b c PyProof.Rows.Boot.«ValueError» rfl) B0 f) he) (by decide) (by decide) he g,λC M H n ρ σ P Q R w q=>?_⟩;unfold S_ at w
 split at w
 ·rename_i a nm ks ds hd
  obtain⟨e1,Cc,U',dx,u,vs,xc,⟨na,ha⟩,xt,j,k,l⟩:=R.sl i _ hd;refine⟨.ref a,getD_some e1,a,Cc,U',dx,u,nm,.ty "ValueError","ValueError",true,rfl,ha,xt,λd ed=>?_,xc,.inl ⟨rfl,xc.kitV⟩,q _ H (.bl _) n (Ext.refl _ _) R.feed rfl w⟩
  rcases j with ⟨z,_⟩ | ⟨dd,z,_,h⟩
  ·rw [z] at ed; cases ed
  ·rw [z] at ed; cases ed; exact⟨_,h⟩
 ·exact w.elim
def ZC(P:cz)(w:dC)(K:Frag)(mg:Str->Option Cn)(base:cw)(x:Str)(k:Nat)(ps:List Str)(κ:Kd)(W:W2):Prop :=
 ∃f fd,L7 P w K mg base k f fd ps (Di K κ W ps.length)/\mg x=some (.ref f)/\keepIn K (.ref f)=true/\Binds K fd ps []/\∀ss n P,W ss n P->ss.length=ps.length
def TR(a:Ch)(i:Nat)(W:W2)(b:S1):DW:=λn ρ P=>(∃nm ks ds,ρ[i]?=some (.ex a nm ks ds))/\b n ρ λss n1=>W ss n1 P
theorem VE{a:Ch}(i:Nat){k:Nat}{ps:List Str}{W:W2}{b:S1}(hh:X.A.handled=some (.ref a))(G:ZC X.prog X.w X.K X.mg X.base x k ps κ W)(hr:RoomH k X.A)(hg:Gl X x)(ha:Xe X (e::es) b)
  (c:(x==("__debug__":Str))=false:=by decide) (he:starEach (e::es) X.env=(false,eval e X.env)::starEach es X.env:=by rfl) (g:(backTo pos (starEach es X.env)).any (·.1)=false:=by rfl) :
  DE X (.Call (.Name x p) (e::es) [] pos) κ (TR a i W b):=by
 obtain⟨f,fd,G,hm,h,j,hW⟩:=G;obtain⟨t,h1,h2⟩:=ha;refine⟨_,US G hr hg hm h j h1 c he g,λC M H n ρ σ P Q R w q=>?_⟩;obtain⟨⟨nm,ks,ds,hi⟩,w⟩:=w;refine h2 C M H n ρ σ _ _ R w λvs H1 ss n1 e1 f1 r1 p=>?_;have R1:=R.step e1 f1;obtain⟨ea,Cc,U',dx,u,l,xc,⟨na,ha⟩,xt,_⟩:=R1.sl i _ hi;refine⟨⟨a,Cc,dx,u,hh,ha,xt⟩,(Paired.length r1).trans (hW _ _ _ p),C.F,C.U,C.V,M,n1,ss,P,⟨R1.dom,R1.fU,R1.uV,R1.vM,f1,r1⟩,p,λv H2 d n2 e2 f2 r2 p2=>?_⟩;exact q v H2 d n2 (e1.trans e2) f2 (VR.back e1 r2) p2
end
theorem bd{P:cz}{w:dC}{K:Frag}{mg:Str->Option Cn}{base:cw}{x qual:Str}{st:dE}{f:Ch}{fd:dU}{N ps:List Str}{k:Nat}{κ:Kd}{W:W2}{wb:Aj}(F:Fun K x qual st f fd)(S:Ai N ps (AH st))(hNp:ps.length<=N.length)
  (b:∀(a:Cn) (A:dL) (outer:List Env) (s:FM) (H:Hp) (E:XK),RoomH k (A.deeper (envOfC qual (AH st) s.heap.objs.size f a))->HX A H->QR ((EX CL P w K mg base N qual (AH st) f a A outer s H E).hush (A.deeper (envOfC qual (AH st) s.heap.objs.size f a))) κ (BX st) wb)
  (hW:∀ss n Pd,ss.length=ps.length->W ss n Pd->wb { nx:=λn _=>κ=.sh/\Pd .non n,rt:=Pd } n (ss++Uf (N.length - ps.length) .no)) :
  L7 P w K mg base (k+1) f fd ps (Di K κ W ps.length):=by
 refine F.okH S (λvs H Q E h=>h.1) (λa A outer s H vs Q E hr c h=>?_);obtain⟨g,F0,U,V',M,n,ss,Pd,ra,hw,q⟩:=h;obtain⟨t,t1,t2⟩:=b a A outer s H E hr c;refine⟨t,t1,?_⟩;have el:vs.length=ss.length:=Paired.length ra.2.2.2.2.2;have R:=HU (N:=N) ra (by omega);refine t2 ⟨M,F0,U,V',H,[],[]⟩ M H n _ _ { nx:=λn _=>κ=.sh/\Pd .non n,rt:=Pd } _ R ⟨λM1 H1 n1 zU zK R1 p=>?_,λv H1 d n1 e1 f1 r1 p=>q v H1 d n1 e1 f1 r1 p,λ_ _ _ _ _ _ z=>z.elim,λ_ _ _ _ _ _ z=>z.elim⟩ ?_
 ·obtain⟨e,p⟩:=p
  subst e;exact q .non H1 .non n1 R1.ext (R1.feed.pres (Pres.less R1.sub) λ_ _ _ z=>z) rfl p
 grind
theorem fnX{P:cz}{w:dC}{K:Frag}{mg:Str->Option Cn}{base:cw}{x qual:Str}{st:dE}{f:Ch}{fd:dU}{N ps:List Str}{k:Nat}{κ:Kd}{W:WX}{wb:PX->Aj}(F:Fun K x qual st f fd)(S:Ai N ps (AH st))(hNp:ps.length<=N.length)
  (c:∀(a:Cn) (A:dL) (outer:List Env) (s:FM) (H:Hp) (E:XK) (Pr:PX) (F0:Option (Ch×Ch)) (U M:Ch->Prop),LiftX K F0 U M H Pr E->Room k (A.deeper (envOfC qual (AH st) s.heap.objs.size f a)) ->
   PJ (λC=>C.F=F0/\C.U=U/\C.M0=M/\C.H0=H) (EX (RX P w) P w K mg base N qual (AH st) f a A outer s H E) κ (BX st) (wb Pr))
  (hW:∀ss n Pd Pr,ss.length=ps.length->W ss n Pd Pr->wb Pr { nx:=λn _=>κ=.sh/\Pd .non n,rt:=Pd } n (ss++Uf (N.length - ps.length) .no)) :
  BD P w K mg base (RX P w) (k+1) f fd ps (am K κ W ps.length):=by
 obtain⟨oc,od,kV,doc,pm,an,a,ct,e,rfl,lk,b⟩:=F.ex;refine XI lk b S (λvs H Q E h=>h.1) λA outer s H vs Q E hr h=>?_;obtain⟨i,F0,U,V',M,n,ss,Pd,Pr,ra,hw,q,l⟩:=h;obtain⟨t,t1,t2⟩:=c a A _ s H E Pr F0 U M l hr;refine⟨t,t1,?_⟩;have el:=Paired.length ra.2.2.2.2.2;have R:=HU (N:=N) ra (by omega);refine t2 _ M H n _ _ { nx:=λn _=>κ=.sh/\Pd .non n,rt:=Pd } _ ⟨rfl,rfl,rfl,rfl⟩ R ⟨λM1 H1 n1 zU zK R1 p=>?_,λv H1 d n1 e1 f1 r1 p=>q v H1 d n1 e1 f1 r1 p,λ_ _ _ _ _ _ z=>z.elim,λ_ _ _ _ _ _ z=>z.elim⟩ ?_
 ·obtain⟨g,p⟩:=p
  subst g;exact q .non H1 .non n1 R1.ext (R1.feed.pres (Pres.less R1.sub) λ_ _ _ z=>z) rfl p
 grind
end Dp
namespace So
open PySem.W
section
variable {O:KeyOrd}{key:Nat->O.α}{N:Nat}{cmp:Nat->Nat->(Bool->Shared->Prop)->Shared->Prop}{s:Shared}{p p0:Array Nat}
def KN(O:KeyOrd)(key:Nat->O.α)(p:Array Nat)(i:Nat):O.α:=key (p.getD i 0)
def Srt(O:KeyOrd)(key:Nat->O.α)(p:Array Nat)(k:Nat):Prop:=∀i j,i<=j->j<k->O.kle (KN O key p i) (KN O key p j)
def aX(O:KeyOrd)(key:Nat->O.α)(p:Array Nat)(k:Nat):Prop:=∀i j,i<=j->j<k->O.kle (KN O key p j) (KN O key p i)
def Xg(O:KeyOrd)(key:Nat->O.α)(N:Nat)(cmp:Nat->Nat->(Bool->FM->Prop)->FM->Prop)(s:FM):Prop:=∀(i j:Nat) (C:Bool->FM->Prop),i<N->j<N->C (O.blt (key i) (key j)) s->cmp i j C s
def Bd(N:Nat)(p:Array Nat):Prop:=0<N/\∀x∈p,x<N
theorem WD(p:Array Nat)(i:Nat):p.getD i 0=(p[i]?).getD 0:=by
 simp
theorem Bd.get(h:Bd N p)(i:Nat):p.getD i 0<N:=by
 rw [WD];cases e:p[i]? with
 | none=>exact h.1
 | some x=>exact h.2 x (Array.mem_of_getElem? e)
theorem Bd.perm{p':Array Nat}(h:Bd N p)(hp:p'.Perm p):Bd N p':=⟨h.1,λx a=>h.2 x (hp.mem_iff.mp a)⟩
theorem Fs{p q:Array Nat}{i j:Nat}(h:p[i]?=q[j]?):KN O key p i=KN O key q j:=by
 unfold KN
 simp_all
theorem L6{src d:Nat}(a:src<p.size)(hd:d<=src)(k:Nat) :
  KN O key (bubble p src d) k=if k=src - d then KN O key p src else if src - d<k/\k<=src then KN O key p (k - 1) else KN O key p k:=by
 have e:=getElem?_bubble a d hd k
 by_cases h1:k=src - d
 ·rw [if_pos h1] at e ⊢; exact Fs e
 ·rw [if_neg h1] at e ⊢
  by_cases h2:src - d<k/\k<=src
  ·rw [if_pos h2] at e ⊢; exact Fs e
  ·rw [if_neg h2] at e ⊢; exact Fs e
theorem Hs{i j:Nat}(hj:j<=p.size)(k:Nat):KN O key (kas_rev p i j) k=if i<=k/\k<j then KN O key p (i+j - 1 - k) else KN O key p k:=by
 have e:=getElem?_mirror_all (i:=i) hj k
 by_cases h1:i<=k/\k<j
 ·rw [if_pos h1] at e ⊢; exact Fs e
 ·rw [if_neg h1] at e ⊢; exact Fs e
theorem Bz{i j:Nat}(hj:j<=p.size)(a:∀k,i<=k->k<j->KN O key p k=KN O key p (j - 1))(k:Nat):KN O key (kas_rev p i j) k=KN O key p k:=by
 rw [Hs hj]
 grind
theorem CZ(p:Array Nat)(i j:Nat):(kas_rev p i j).Perm p:=mirror_perm _ _ _ _
theorem yes{α:Type}{T₁ T₂:KasT α}{Q:α->FM->Prop}(h:T₁.kasWp cmp Q s):(if true=true then T₁ else T₂).kasWp cmp Q s:=by grind
theorem no{α:Type}{T₁ T₂:KasT α}{Q:α->FM->Prop}(h:T₂.kasWp cmp Q s):(if false=true then T₁ else T₂).kasWp cmp Q s:=by grind
theorem QM(hC:Xg O key N cmp s)(d:Bd N p){nrem:Nat}{G:Nat->FM->Prop}:∀(f n:Nat),1<=n->n+f=nrem->Srt O key p n ->
  (∀m,n<=m->m<=nrem->Srt O key p m->(m=nrem\/O.klt (KN O key p m) (KN O key p (m - 1)))->G m s)->(kas_asc p f n).kasWp cmp G s
 | 0,n,_,e,b,h=>h n (On _) (by omega) b (.inl (by omega))
 | f+1,n,h1,e,b,h=>by
  show cmp (p.getD n 0) (p.getD (n - 1) 0) (λc s'=>(if c=true then KasT.ret n else kas_asc p f (n+1)).kasWp cmp G s') s;refine hC _ _ _ (d.get n) (d.get _) ?_;cases a:O.blt (key (p.getD n 0)) (key (p.getD (n - 1) 0)) with
  | true=>exact yes (h n (On _) (by omega) b (.inr a))
  | false =>
   refine no (QM hC d f (n+1) (by omega) (by omega) (λi j g hj=>?_) λm m1 m2 m3 m4=>h m (by omega) m2 m3 m4)
   by_cases k:j<n
   ·exact b i j g k
   ·have l:j=n:=by omega
    subst l
    by_cases o:i=j
    ·subst o; exact eZ _
    ·exact h_ (b i (j - 1) (by omega) (by omega)) a
theorem JA(hC:Xg O key N cmp s){g:Nat}{G:Array Nat×Nat×Nat->FM->Prop}:∀(f:Nat) (p:Array Nat) (n q:Nat),p.Perm p0->Bd N p->g<=p.size->1<=n->n+f=g->aX O key p n->q+1<=n ->
  (∀i,n - (q+1)<=i->i<n->KN O key p i=KN O key p (n - 1)) ->
  (∀p' m q',p'.Perm p0->Bd N p'->p'.size=p.size->n<=m->m<=g->aX O key p' m->q'+1<=m->(∀i,m - (q'+1)<=i->i<m->KN O key p' i=KN O key p' (m - 1))->G (p',m,q') s)->(kas_desc f p n q).kasWp cmp G s
 | 0,p,n,q,hp,t,B,h1,e,v,hq,he,h=>h p n q hp t rfl (On _) (by omega) v hq he
 | f+1,p,n,q,hp,t,B,h1,e,v,hq,he,h=>by
  show cmp (p.getD n 0) (p.getD (n - 1) 0) (λc s'=>(if c=true then (if q > 0 then kas_desc f (kas_rev p (n - (q+1)) n) (n+1) 0 else kas_desc f p (n+1) 0)
   else .ask (p.getD (n - 1) 0) (p.getD n 0) λd=>if d=true then .ret (p,n,q) else kas_desc f p (n+1) (q+1)).kasWp cmp G s') s
  refine hC _ _ _ (t.get n) (t.get _) ?_;cases l:O.blt (key (p.getD n 0)) (key (p.getD (n - 1) 0)) with
  | true =>
   have F:O.klt (KN O key p n) (KN O key p (n - 1)):=l
   have o:∀xs:Array Nat,(∀k,KN O key xs k=KN O key p k)->aX O key xs (n+1):=by
    intro xs E i j w hj;rw [E,E]
    by_cases x:j<n
    ·exact v i j w x
    ·have y:j=n:=by omega
     subst y
     by_cases z:i=j
     ·subst z; exact eZ _
     ·exact h_ (gz F) (v i (j - 1) (by omega) (by omega))
   refine yes ?_;have C:n<=p.size:=by omega
   by_cases A:q > 0
   ·rw [if_pos A]
    refine JA hC f _ (n+1) 0 ((CZ _ _ _).trans hp) (t.perm (CZ _ _ _)) (by rw [kas_rev_size]; exact B) (by omega) (by omega) (o _ (Bz C he)) (by omega) (λi a b=>by congr 1; omega) λp' m q' a1 a2 a3 a4 a5 a6 a7 a8=>h p' m q' a1 a2 (a3.trans (kas_rev_size _ _)) (by omega) a5 a6 a7 a8
   ·rw [if_neg A]
    exact JA hC f _ (n+1) 0 hp t B (by omega) (by omega) (o _ λ_=>rfl) (by omega) (λi a b=>by congr 1; omega) λp' m q' a1 a2 a3 a4 a5 a6 a7 a8=>h p' m q' a1 a2 a3 (by omega) a5 a6 a7 a8
  | false =>
   refine no ?_;show cmp (p.getD (n - 1) 0) (p.getD n 0) (λd s'=>(if d=true then KasT.ret (p,n,q) else kas_desc f p (n+1) (q+1)).kasWp cmp G s') s;refine hC _ _ _ (t.get _) (t.get n) ?_;cases r:O.blt (key (p.getD (n - 1) 0)) (key (p.getD n 0)) with
   | true=>exact yes (h p n q hp t rfl (On _) (by omega) v hq he)
   | false =>
    have u:KN O key p n=KN O key p (n - 1):=jq (O:=O) r l;refine no (JA hC f p (n+1) (q+1) hp t B (by omega) (by omega) (λi j w hj=>?_) (by omega) (λi a b=>?_) λp' m q' a1 a2 a3 a4 a5 a6 a7 a8=>h p' m q' a1 a2 a3 (by omega) a5 a6 a7 a8)
    ·by_cases x:j<n
     ·exact v i j w x
     ·have y:j=n:=by omega
      subst y
      by_cases z:i=j
      ·subst z; exact eZ _
      ·rw [u]; exact v i (j - 1) (by omega) (by omega)
    ·rw [show n+1 - 1=n by omega]
     by_cases D:i=n
     ·subst D; rfl
     ·rw [u]; exact he i (by omega) (by omega)
theorem Ni(hC:Xg O key N cmp s){n a:Nat}{G:Nat×Array Nat->FM->Prop}(hp:p.Perm p0)(c:Bd N p)(f:a<=p.size)(h1:1<=n)(hn:n<=a)(d:aX O key p n)
  (h:∀m p',p'.Perm p0->Bd N p'->p'.size=p.size->1<=m->m<=a->Srt O key p' m->G (m,p') s):(kas_tail3 n a p).kasWp cmp G s:=by
 unfold kas_tail3;rw [KasT.kasWp_bind];have b:n<=p.size:=by omega
 refine QM hC (c.perm (CZ _ _ _)) _ n h1 (by omega) (λi j e hj=>?_) λm m1 m2 m3 _=>h m _ ((CZ _ _ _).trans hp) (c.perm (CZ _ _ _)) (kas_rev_size _ _) (by omega) m2 m3;rw [Hs b,Hs b,if_pos (by omega),if_pos (by omega)];exact d _ _ (by omega) (by omega)
theorem IF(hC:Xg O key N cmp s){n c:Nat}{G:Nat×Array Nat->FM->Prop}(hp:p.Perm p0)(k:Bd N p)(l:c<=p.size)(hn:n+1<=c)(o:aX O key p (n+1))
  (h:∀m p',p'.Perm p0->Bd N p'->p'.size=p.size->1<=m->m<=c->Srt O key p' m->G (m,p') s):(kas_descPart n c p).kasWp cmp G s:=by
 unfold kas_descPart;rw [KasT.kasWp_bind];refine JA (p0:=p0) hC (c - (n+1)) p (n+1) 0 hp k l (by omega) (by omega) o (by omega) (λi a b=>by grind) λp' m q' a1 a2 a3 a4 a5 a6 a7 a8=>?_;have e:m<=p'.size:=by omega
 show (if q' > 0 then kas_tail3 m c (kas_rev p' (m - (q'+1)) m) else kas_tail3 m c p').kasWp cmp G s
 by_cases f:q' > 0
 ·rw [if_pos f]
  refine Ni hC ((CZ _ _ _).trans a1) (a2.perm (CZ _ _ _)) (by rw [kas_rev_size]; omega) (by omega) a5 (λi j g hj=>?_) λm' d b1 b2 b3 b4 b5 b6=>h m' d b1 b2 (b3.trans ((kas_rev_size _ _).trans a3)) b4 b5 b6;rw [Bz e a8,Bz e a8];exact a6 i j g hj
 ·rw [if_neg f]
  exact Ni hC a1 a2 (by omega) (by omega) a5 a6 λm' d b1 b2 b3 b4 b5 b6=>h m' d b1 b2 (b3.trans a3) b4 b5 b6
theorem VI(hC:Xg O key N cmp s){nrem:Nat}{G:Nat×Array Nat->FM->Prop}(hp:p.Perm p0)(e:Bd N p)(D:nrem<=p.size)(h1:1<=nrem)
  (h:∀m p',p'.Perm p0->Bd N p'->p'.size=p.size->1<=m->m<=nrem->Srt O key p' m->G (m,p') s):(kas_count nrem p).kasWp cmp G s:=by
 unfold kas_count;rw [KasT.kasWp_bind];refine QM (nrem:=nrem) hC e (nrem - 1) 1 (On _) (by omega) (λi j o hj=>by have:i=j:=(by omega); subst this; exact eZ _) λn q r b x=>?_
 by_cases f:n=nrem
 ·rw [if_pos (by simpa using f)]
  exact h n p hp e rfl q r b
 ·rw [if_neg (by simpa using f)]
  have t:O.klt (KN O key p n) (KN O key p (n - 1)):=x.resolve_left f
  by_cases u:n > 1
  ·rw [if_pos u]
   show cmp (p.getD 0 0) (p.getD (n - 1) 0) (λc s'=>(if c=true then KasT.ret (n,p) else kas_descPart n nrem (kas_rev p 0 n)).kasWp cmp G s') s;refine hC _ _ _ (e.get _) (e.get _) ?_;cases g:O.blt (key (p.getD 0 0)) (key (p.getD (n - 1) 0)) with
   | true=>exact yes (h n p hp e rfl q r b)
   | false =>
    have d:O.kle (KN O key p (n - 1)) (KN O key p 0):=g;have v:n<=p.size:=by omega
    have a:∀k,0<=k->k<n->KN O key p k=KN O key p (n - 1):=by
     intro k _ E;have a1:=b 0 k (by omega) E;have a2:=b k (n - 1) (by omega) (by omega);exact jq a2 (h_ d a1)
    refine no (IF hC ((CZ _ _ _).trans hp) (e.perm (CZ _ _ _)) (by rw [kas_rev_size]; exact D) (by omega) (λi j o hj=>?_) λm' y b1 b2 b3 b4 b5 b6=>h m' y b1 b2 (b3.trans (kas_rev_size _ _)) b4 b5 b6);rw [Bz v a,Bz v a]
    by_cases z:j<n
    ·rw [a i (by omega) (by omega),a j (by omega) z]; exact eZ _
    ·have A:j=n:=by omega
     subst A
     by_cases l:i=j
     ·subst l; exact eZ _
     ·rw [a i (by omega) (by omega)]; exact gz t
  ·rw [if_neg u]
   have w:n=1:=by omega
   subst w;refine IF hC hp e D (by omega) (λi j o hj=>?_) h
   by_cases l:i=j
   ·subst l; exact eZ _
   ·have B:i=0:=by omega
    have C:j=1:=by omega
    subst B; subst C
    exact gz t
theorem Ji(hC:Xg O key N cmp s)(g:Bd N p){k:Nat}(j:Srt O key p k){G:Nat->FM->Prop}
  (h:∀l,l<=k->(∀i,i<l->O.kle (KN O key p i) (KN O key p k))->(∀i,l<=i->i<k->O.klt (KN O key p k) (KN O key p i))->G l s):∀(f l r:Nat),l<=r->r<=k->r - l<=f ->
  (∀i,i<l->O.kle (KN O key p i) (KN O key p k))->(∀i,r<=i->i<k->O.klt (KN O key p k) (KN O key p i))->(kas_place p k f l r).kasWp cmp G s
 | 0,l,r,m,d,hm,b,c=>by
  have:l=r:=by omega
  subst this;exact h l d b c
 | f+1,l,r,m,d,hm,b,c=>by
  unfold kas_place
  by_cases e:l≥r
  ·rw [if_pos e]
   have:l=r:=by omega
   subst this;exact h l d b c
  ·rw [if_neg e]
   refine hC _ _ _ (g.get _) (g.get _) ?_;cases a:O.blt (key (p.getD k 0)) (key (p.getD ((l+r) / 2) 0)) with
   | true =>
    have n:O.klt (KN O key p k) (KN O key p ((l+r) / 2)):=a;exact yes (Ji hC g j h f l ((l+r) / 2) (by omega) (by omega) (by omega) b λi h1 h2=>KeyOrd.klt_of_klt_of_kle n (j _ _ h1 h2))
   | false =>
    have n:O.kle (KN O key p ((l+r) / 2)) (KN O key p k):=a;exact no (Ji hC g j h f ((l+r) / 2+1) r (by omega) (by omega) (by omega) (λi h1=>h_ (j i ((l+r) / 2) (by omega) (by omega)) n) c)
theorem Fd(hC:Xg O key N cmp s){n:Nat}{G:Array Nat->FM->Prop}(h:∀p',p'.Perm p0->Srt O key p' n->G p' s):∀(f:Nat) (p:Array Nat) (k:Nat),p.Perm p0->Bd N p->n<=p.size->k+f=n->Srt O key p k->(kas_bin f p k).kasWp cmp G s
 | 0,p,k,hp,r,w,e,d=>h p hp (by rw [← e]; exact d)
 | f+1,p,k,hp,r,w,e,d=>by
  rw [show kas_bin (f+1) p k=(kas_place p k k 0 k).bind λl=>kas_bin f (bubble p k (k - l)) (k+1) from rfl,KasT.kasWp_bind];refine Ji hC r d (λl x t u=>?_) k 0 k (TM _) (On _) (by omega) (λi hi=>by omega) λi a b=>by omega
  have g:k<p.size:=by omega
  refine Fd hC h f _ (k+1) ((bubble_perm _ _ _).trans hp) (r.perm (bubble_perm _ _ _)) (by rw [bubble_size]; exact w) (by omega) λi j v hj=>?_;rw [L6 g (by omega),L6 g (by omega),show k - (k - l)=l by omega]
  by_cases m:i=l
  ·rw [if_pos m]
   by_cases c:j=l
   ·rw [if_pos c]; exact eZ _
   ·rw [if_neg c,if_pos (by omega)]
    exact gz (u (j - 1) (by omega) (by omega))
  ·rw [if_neg m]
   by_cases o:l<i/\i<=k
   ·rw [if_pos o,if_neg (by omega),if_pos (by omega)]
    exact d (i - 1) (j - 1) (by omega) (by omega)
   ·rw [if_neg o]
    by_cases c:j=l
    ·rw [if_pos c]; exact t i (by omega)
    ·rw [if_neg c]
     by_cases q:l<j/\j<=k
     ·rw [if_pos q]
      exact d i (j - 1) (by omega) (by omega)
     ·rw [if_neg q]
      exact d i j v (by omega)
theorem sort_ok{n:Nat}(h1:1<=n)(hC:Xg O key n cmp s){G:Array Nat->FM->Prop}(h:∀p,p.Perm (dI (dD n))->Srt O key p n->G p s):(kas_sort n).kasWp cmp G s:=by
 unfold kas_sort;rw [KasT.kasWp_bind];have b:Bd n (dI (dD n)):=⟨h1,λx d=>by grind⟩;have c:(dI (dD n)).size=n:=by simp
 refine VI hC (jX _) b (by omega) h1 λm p' a1 a2 a3 a4 a5 a6=>?_
 by_cases a:m<n
 ·rw [if_pos a,show max m 1=m by omega]
  exact Fd hC h _ p' m a1 a2 (by omega) (by omega) a6
 ·rw [if_neg a]
  exact h p' a1 (by grind)
end
end So
namespace L2
open PySem.W
def YT:Key->Key->Bool
 | .inl i,.inl j=>decide (i<j)
 | .inr x,.inr y=>decide (x.cps.toList<y.cps.toList)
 | .inl _,.inr _=>true
 | .inr _,.inl _=>false
def Cg:List Key->List Key->Bool
 | [],[]=>false
 | [],_::_=>true
 | _::_,[]=>false
 | x::xs,y::ys=>if x=y then Cg xs ys else YT x y
theorem P9:∀x:Key,YT x x=false
 | .inl i=>decide_eq_false (Int.lt_irrefl i)
 | .inr x=>decide_eq_false (gN _)
theorem SI:∀x y z:Key,YT x y=true->YT y z=true->YT x z=true
 | .inl i,.inl j,.inl k,h1,h2=>decide_eq_true (Int.lt_trans (of_decide_eq_true h1) (of_decide_eq_true h2))
 | .inr i,.inr j,.inr k,h1,h2=>decide_eq_true (List.lt_trans (of_decide_eq_true h1) (of_decide_eq_true h2))
 | .inl i,.inl j,.inr k,_,_=>rfl
 | .inl i,.inr j,.inr k,_,_=>rfl
 | .inl i,.inr j,.inl k,_,h=>by cases h
 | .inr i,.inl j,_,h,_=>by cases h
 | .inr i,.inr j,.inl k,_,h=>by cases h
theorem SJ:∀x y:Key,YT x y=false->YT y x=false->x=y
 | .inl i,.inl j,h1,h2=>congrArg _ (by have a:=of_decide_eq_false h1; have b:=of_decide_eq_false h2; omega)
 | .inr x,.inr y,h1,h2=>by
  have e:=List.le_antisymm (of_decide_eq_false h2) (of_decide_eq_false h1);obtain⟨u⟩:=x
  simp_all
 | .inl i,.inr j,h,_=>by cases h
 | .inr i,.inl j,_,h=>by cases h
theorem FQ:∀x:List Key,Cg x x=false
 | []=>rfl
 | x::xs=>by unfold Cg; rw [if_pos rfl]; exact FQ xs
theorem DN:∀x y z:List Key,Cg x y=true->Cg y z=true->Cg x z=true
 | [],[],_,h,_=>by cases h
 | [],_::_,[],_,h=>by cases h
 | [],_::_,_::_,_,_=>rfl
 | _::_,[],_,h,_=>by cases h
 | _::_,_::_,[],_,h=>by cases h
 | x::xs,y::ys,z::zs,h1,h2=>by
  unfold Cg at h1 h2 ⊢
  by_cases e1:x=y
  ·subst e1
   rw [if_pos rfl] at h1
   by_cases e2:x=z
   ·subst e2
    rw [if_pos rfl] at h2 ⊢;exact DN xs ys zs h1 h2
   grind
  ·rw [if_neg e1] at h1
   by_cases e2:y=z
   ·grind
   ·rw [if_neg e2] at h2
    have h3:=SI x y z h1 h2
    by_cases e3:x=z
    ·subst e3
     rw [P9] at h3;cases h3
    grind
theorem DP:∀x y:List Key,Cg x y=false->Cg y x=false->x=y
 | [],[],_,_=>rfl
 | [],_::_,h,_=>by cases h
 | _::_,[],_,h=>by cases h
 | x::xs,y::ys,h1,h2=>by
  unfold Cg at h1 h2
  by_cases e:x=y
  ·subst e
   rw [if_pos rfl] at h1 h2;rw [DP xs ys h1 h2]
  ·rw [if_neg e] at h1
   rw [if_neg (λz=>e z.symm)] at h2;exact absurd (SJ x y h1 h2) e
def R6:KeyOrd:=⟨List Key,Cg,FQ,DN,λa b c h=>by
 cases h1:Cg a b with
 | true=>exact .inl rfl
 | false =>
  cases h2:Cg b a with
  | true=>exact .inr (DN b a c h2 h)
  | false=>rw [← DP a b h1 h2]; exact .inr h,DP⟩
theorem Iy:∀x y:List Key,CS x y=true->GY x y=Cg x y
 | [],[],_=>rfl
 | [],_::_,_=>rfl
 | _::_,[],_=>rfl
 | x::xs,y::ys,h=>by
  have h':(LR x y&&CS xs ys)=true:=h;rw [cq] at h';unfold GY Cg
  by_cases e:x=y
  ·rw [if_pos e,if_pos e]; exact Iy xs ys h'.2
  ·rw [if_neg e,if_neg e]
   cases x with
   | inl i=>cases y with
    | inl j=>rfl
    | inr z=>cases h'.1
   | inr i=>cases y with
    | inl j=>cases h'.1
    | inr z=>rfl
section
variable {prog:Program}{w:World}{A:Around}{E:Value->Shared->Prop}{s:Shared}
theorem Uk{b:Bool}{Q:Bool->FM->Prop}{nx ny:Nat}:∀(ns ms:List Key) (us ws:List Cn) (i:Nat),Vals (ns.map kOf) us->Vals (ms.map kOf) ws->CS ns ms=true->ns.length+ny=ms.length+nx->Q (GY ns ms) s ->
  KatLex prog w A b (decide (nx<ny)) Q (us.zip ws) i s
 | [],[],us,ws,i,h1,h2,_,c,q=>by
  cases h1;cases h2;refine kat_nil ?_;rw [show decide (nx<ny)=false from decide_eq_false (by simp only [eE] at c; omega)];exact q
 | [],m::ms,us,ws,i,h1,h2,_,c,q=>by
  cases h1;rw [List.zip_nil_left];refine kat_nil ?_;rw [show decide (nx<ny)=true from decide_eq_true (by simp only [eE,ZB] at c; omega)];exact q
 | n::ns,[],us,ws,i,h1,h2,_,c,q=>by
  cases h2;rw [List.zip_nil_right];refine kat_nil ?_;rw [show decide (nx<ny)=false from decide_eq_false (by simp only [eE,ZB] at c; omega)];exact q
 | n::ns,m::ms,us,ws,i,h1,h2,d,c,q=>by
  have a:(LR n m&&CS ns ms)=true:=d;rw [cq] at a;have q':Q (if n=m then GY ns ms else ar n m) s:=q;cases h1 with
  | @cons _ u _ ur r1 t1 =>
   cases h2 with
   | @cons _ v _ vr r2 t2 =>
    rw [gl];have ih:n=m->KatLex prog w A b (decide (nx<ny)) Q (ur.zip vr) (i+1) s:=λe=>Uk ns ms ur vr (i+1) t1 t2 a.2 (by simp only [ZB] at c; omega) (by rw [if_pos e] at q'; exact q');cases n with
    | inl x =>
     cases m with
     | inr y=>cases a.1
     | inl y =>
      obtain⟨tu,rfl⟩:=r1;obtain⟨tv,rfl⟩:=r2;refine kat_cons (wpAny_eqBool_int ?_)
      by_cases e:x=y
      ·rw [show (x==y)=true by simpa using e]
       exact kat_yes (ih (by rw [e]))
      ·rw [show (x==y)=false by simpa using e]
       refine kat_no ?_;rw [if_neg (λz=>e (Sum.inl.inj z))] at q';cases hf:(b&&i==0) with
       | true=>exact oneLt_int q'
       | false=>exact kat_one _ _ (jZ (show PySem.W.BoolBack Q (.bool (decide (x<y))) s from q'))
    | inr x =>
     cases m with
     | inl y=>cases a.1
     | inr y =>
      obtain⟨tu,rfl⟩:=r1;obtain⟨tv,rfl⟩:=r2;refine kat_cons (wpAny_eqBool_str ?_)
      by_cases e:x=y
      ·rw [show decide (x=y)=true by simpa using e]
       exact kat_yes (ih (by rw [e]))
      ·rw [show decide (x=y)=false by simpa using e]
       refine kat_no ?_;rw [if_neg (λz=>e (fT z))] at q';cases hf:(b&&i==0) with
       | true=>exact oneLt_str q'
       | false=>exact kat_one _ _ (PySem.P.lt_str (show PySem.W.BoolBack Q (.bool (decide (x.cps.toList<y.cps.toList))) s from q'))
structure RU (h:cw) (ks:List Cn) (keys:List (List Key)):Prop where
 at_:∀(i:Nat) (ns:List Key),keys[i]?=some ns->∃a o its n,ks[i]?=some (.ref a)/\h.get? a=some o/\o.cls=.type "tuple"/\o.data=.seq its n/\Vals (ns.map kOf) its.toList
 len:ks.length=keys.length
 same:∀x∈keys,∀y∈keys,CS x y=true
 ne:∀x∈keys,x≠[]
def ak:Key->String
 | .inl _ => "int"
 | .inr _ => "str"
theorem firsts{h:cw}:∀(ks:List Cn) (keys:List (List Key)) (T:String),ks.length=keys.length->(∀(i:Nat) (ns:List Key),keys[i]?=some ns->∃a o b n,ks[i]?=some (.ref a)/\h.get? a=some o/\o.cls=.type "tuple"/\o.data=.seq b n/\Vals (ns.map kOf) b.toList) ->
  (∀x∈keys,∃k r,x=k::r/\ak k=T)->∃fs:List Cn,KatTups h ks fs/\fs.length=keys.length/\∀v∈fs,typeOf v=pure (.type T)
 | [],[],T,_,_,_=>⟨[],trivial,rfl,λv hv=>by cases hv⟩
 | [],_::_,T,c,_,_=>by cases c
 | _::_,[],T,c,_,_=>by cases c
 | k::ks,x::keys,T,c,h1,h2=>by
  obtain⟨fs,g1,g2,g3⟩:=firsts ks keys T (by simpa using c) (λi ns e=>by
   obtain⟨a,o,b,n,e1,r⟩:=h1 (i+1) ns (by simpa using e);exact⟨a,o,b,n,by simpa using e1,r⟩) λy hy=>h2 y (Re _ hy)
  obtain⟨a,o,b,n,e1,e2,e3,e4,e5⟩:=h1 0 x rfl;have e1:k=.ref a:=by simpa using e1
  subst e1;obtain⟨k,r,rfl,d⟩:=h2 x Op;rw [dG] at e5;cases hits:b.toList with
  | nil=>rw [hits] at e5; cases e5
  | cons f tl =>
   rw [hits] at e5;cases e5 with
   | cons r1 r2 =>
    refine⟨f::fs,KatTups.cons e2 e3 e4 (by rw [← Array.getElem?_toList,hits]; rfl) g1,by rw [ZB,ZB,g2],λv hv=>?_⟩
    rcases T0.mp hv with rfl | hv
    ·cases k with
     | inl i=>obtain⟨t,rfl⟩:=r1; subst d; rfl
     | inr i=>obtain⟨t,rfl⟩:=r1; subst d; rfl
    ·exact g3 v hv
theorem LN{ks:List Cn}{keys:List (List Key)}(K:RU s.heap ks keys)(h2:2<=ks.length){G:Array Nat->FM->Prop}(h:∀p,p.Perm (dI (dD ks.length))->So.Srt R6 (λi=>keys.getD i []) p ks.length->G p s) :
  wpAny (model prog w) A (keyKind' ks.toArray) (λκ s'=>(kas_sort ks.length).kasWp (kas_ask prog w A κ ks) G s') (λ_ _=>False) s:=by
 obtain⟨x0,xr,y⟩:∃x0 xr,keys=x0::xr:=by
  cases e:keys with
  | nil=>have:=K.len; rw [e] at this; simp only [eE] at this; omega
  | cons x r=>exact⟨x,r,rfl⟩
 have m0:x0∈keys:=by rw [y]; exact Op
 obtain⟨k0,r0,e0⟩:∃k r,x0=k::r:=by
  cases e:x0 with
  | nil=>exact absurd e (K.ne x0 m0)
  | cons k r=>exact⟨k,r,rfl⟩
 have m:∀x∈keys,∃k r,x=k::r/\ak k=ak k0:=λx hm=>by
  cases e:x with
  | nil=>exact absurd e (K.ne x hm)
  | cons k r =>
   refine⟨k,r,rfl,?_⟩;have b:=K.same x hm x0 m0;rw [e,e0] at b;have b:(LR k k0&&CS r r0)=true:=b;rw [cq] at b;cases k with
   | inl i=>cases k0 with
    | inl j=>rfl
    | inr j=>cases b.1
   | inr i=>cases k0 with
    | inl j=>cases b.1
    | inr j=>rfl
 obtain⟨fs,g1,g2,g3⟩:=firsts ks keys (ak k0) K.len K.at_ m;refine kat_kind g1 (by rw [g2,← K.len]; omega) (λv hv=>by rw [g3 v hv]; exact Looks.now) (by simp) ?_;refine So.sort_ok (O:=R6) (key:=λi=>keys.getD i []) (by omega) (λi j C hi hj hC=>?_) h;have d:i<keys.length:=by rw [← K.len]; exact hi
 have f:j<keys.length:=by rw [← K.len]; exact hj
 obtain⟨a,o,g,n,e1,e2,e3,e4,e5⟩:=K.at_ i keys[i] (No d);obtain⟨a',o',c,n',q,t,z,u,l⟩:=K.at_ j keys[j] (No f);unfold kas_ask;rw [show ks.getD i dO=.ref a by rw [dW,e1]; rfl,show ks.getD j dO=.ref a' by rw [dW,q]; rfl];have b:=K.same _ (dX d) _ (dX f);refine kat_lt e2 e4 t u (Uk keys[i] keys[j] _ _ 0 e5 l b ?_ ?_)
 ·have l1:=e5.length
  have l2:=l.length;have l3:(keys[i].map kOf).length=keys[i].length:=Go ..;have l4:(keys[j].map kOf).length=keys[j].length:=Go ..;have l5:g.toList.length=g.size:=eT;have l6:c.toList.length=c.size:=eT;omega
 ·rw [Iy _ _ b]
  have g1:keys.getD i []=keys[i]:=by rw [dW,No d]; rfl
  have g2:keys.getD j []=keys[j]:=by rw [dW,No f]; rfl
  have hC':C (Cg (keys.getD i []) (keys.getD j [])) s:=hC;rw [g1,g2] at hC';exact hC'
theorem Gq{v:Cn}{kw:List (Str×Cn)}{Q:Cn->FM->Prop}(a:argsOk "sorted" ⟨[v],kw⟩)(b:∀x,argsOk "list.sort" ⟨[.ref x],kw⟩)
  (c:wpAny (model prog w) A.in1 (collect v) (λvs s1=>vs.length<=sizeLine/\wpAny (model prog w) A.in1.in1 (gf.«list.sort» ⟨[.ref s1.heap.objs.size],kw⟩) (λfin s'=>fin=.done (.ret .none)/\Q (.ref s1.heap.objs.size) s') E { s1 with heap:=s1.heap.push (seqObj "list" vs.toArray 0) }) E s) :
  wpAny (model prog w) A (call (.builtin "sorted") [v] kw) Q E s:=call_function_entry_kw kind_sorted plain_sorted entry_sorted a (Db (Sc (Db (dP c (λvs s1 h=>Db (iy (Db (dw (wpAny_call_entry_kw PyProof.Rows.slot_list_sort ⟨_,cj _ rfl,rfl⟩ PyProof.Rows.entry_list_sort (dP h.2 (λfin s' hf=>⟨_,hf.1,Sc ⟨_,rfl,hf.2⟩⟩) λ_ _ x=>x) (b _)))) h.1)) λ_ _ x=>x))))
def Dk(h:cw)(D:Ch)(vs:List Cn):cw:=((h.update D (d_ λ_=>(#[]:Array Cn))).push (seqObj "tuple" vs.toArray 0)).push (seqObj "list" #[] 0)
theorem HP{h:cw}{D:Ch}{vs:List Cn}{b:Ch}{o:Obj}(a:b≠D)(e:h.get? b=some o):(Dk h D vs).get? b=some o :=
 Ev _ (Ev _ ((dJ _ _ (eF a)).trans e))
theorem JU{h:cw}{D:Ch}{vs:List Cn}{n:Nat}(ho:h.get? D=some (seqObj "list" vs.toArray n)):∃e1,(Dk h D vs).get? D=some (seqObj "list" #[] e1)/\(h.update D (d_ λ_=>(#[]:Array Cn))).get? D=some (seqObj "list" #[] e1):=by
 obtain⟨e1,a⟩:∃e1,(h.update D _).get? D=some (seqObj _ _ e1):=⟨_,gF ho _⟩;exact⟨e1,Ev _ (Ev _ a),a⟩
theorem OP{D:Ch}{vs:List Cn}{n:Nat}{P:PySem.Fin->FM->Prop}{G:Array Nat->Prop}(ho:s.heap.get? D=some (seqObj "list" vs.toArray n))(k:vs.length<64)
  (l:2<=vs.length->wpAny (model prog w) A (keyKind' vs.toArray) (λκ s'=>(kas_sort vs.length).kasWp (kas_ask prog w A κ vs) (λp m=>m={ s with heap:=Dk s.heap D vs }/\G p) s') (λ_ _=>False) { s with heap:=Dk s.heap D vs })
  (h1:vs.length<2->G (dI (dD vs.length))) (j:∀(p:Array Nat) (h':cw) (c:Nat),p.size=vs.length->G p->(∀b o,b≠D->s.heap.get? b=some o->h'.get? b=some o)->h'.get? D=some (seqObj "list" (dI (p.toList.map λi=>vs.getD i dO)) c)->P (.done (.ret .none)) { s with heap:=h' }) :
  wpAny (model prog w) A (gf.«list.sort» ⟨[.ref D],[]⟩) P E s:=by
 obtain⟨e1,a,q⟩:=JU ho
 have fin:∀(p:Array Nat),p.size=vs.length->G p->P (.done (.ret .none)) { s with heap:=(Dk s.heap D vs).update D (d_ λ_=>dI (p.toList.map λi=>vs.getD i dO)) }:=λp hp hg=>by
  obtain⟨c2,r⟩:∃c2,((Dk s.heap D vs).update D (d_ λ_=>dI (p.toList.map λi=>vs.getD i dO))).get? D=some (seqObj "list" (dI (p.toList.map λi=>vs.getD i dO)) c2):=⟨_,gF a λ_=>dI (p.toList.map λi=>vs.getD i dO)⟩;exact j p _ c2 hp hg (λb o u e=>(dJ _ _ (eF u)).trans (HP u e)) r
 rw [list_sort_plain];refine Db (iQ ho rfl ?_);refine Db (fg ho rfl ?_ (by rw [c9,di]; omega) (TM _));refine Db (ia q rfl ?_);refine Db (wpAny_newTuple ?_ (by show vs.length<=_; rw [di]; omega));refine Db (iy ?_ (TM _));refine dw ?_;show wpAny (model prog w) A _ P E { s with heap:=Dk s.heap D vs }
 dsimp only
 by_cases h2:vs.length<2
 ·have d:vs.toArray.size<2:=by rw [c9]; exact h2
  rw [if_pos d,if_pos d];refine Db (Sc ?_);rw [StateT.run_pure];refine Db (Sc ?_)
  dsimp only
  refine Db (ia a rfl ?_);have g:(dI (dD vs.length)).size=vs.length:=by simp
  have f:(arrOf (SortSt.mk' general' (vs.toArray.zip vs.toArray) #[] 7 none)).map (·.2)=dI ((dI (dD vs.length)).toList.map λi=>vs.getD i dO):=by
   refine kat_snds rfl ?_;have e:=kas_range (vs.toArray.zip vs.toArray);rw [show (vs.toArray.zip vs.toArray).size=vs.length by simp] at e;exact e.symm
  rw [f];refine Db (fg a rfl ?_ (TM _) (by rw [c9,Go,eT,g,di]; omega));simp only [bne_self_eq_false,fX,if_false];exact Sc (fin _ g (h1 h2))
 ·have d:¬vs.toArray.size<2:=by rw [c9]; exact h2
  rw [if_neg d,if_neg d];refine Db (dP (l (by omega)) (λκ s0 l=>?_) λ_ _ x=>x.elim)
  refine Db (dP (kat_run (Q:=λh s'=>∃p:Array Nat,p.size=vs.length/\arrOf h=p.map (kas_item (vs.toArray.zip vs.toArray))/\failedOf h=none/\s'={ s with heap:=Dk s.heap D vs }/\G p)
   rfl (by omega) k (λp' h s' a1 a2 a3 a4=>⟨p',a1,a2,a3,a4⟩) l) ?_ λ_ _ e=>e)
  rintro ⟨⟨⟩,h⟩ s' ⟨p,hp,t,hf,rfl,hg⟩
  dsimp only
  have f:=kat_snds rfl t;have g:(dI (p.toList.map λi=>vs.getD i dO)).size=vs.length:=by rw [c9,Go,eT,hp]
  rw [f];refine Db (ia a rfl ?_);refine Db (fg a rfl ?_ (TM _) (cx (jK g) (by rw [di]; omega)));rw [hf];simp only [bne_self_eq_false,fX,if_false];exact Sc (fin p hp hg)
theorem SK{D:Ch}{f:Cn}{vs:List Cn}{n:Nat}{P:PySem.Fin->FM->Prop}(ho:s.heap.get? D=some (seqObj "list" vs.toArray n))(B:vs.length<64)(J:List Cn->FM->Prop)(kS:Ch)(hkS:kS=s.heap.objs.size+1)
  (h0:∀e1,(Dk s.heap D vs).get? D=some (seqObj "list" #[] e1)->J [] { s with heap:=Dk s.heap D vs })
  (m:∀(ks:List Cn) (s':FM) (e:Nat) (v:Cn),J ks s'->s'.heap.get? kS=some (seqObj "list" ks.toArray e)->vs[ks.length]?=some v->wpAny (model prog w) A (call f [v]) (λk a=>a.heap.get? kS=some (seqObj "list" ks.toArray e)/\J (ks++[k]) { a with heap:=a.heap.update kS (d_ (·.push k)) }) (λ_ _=>False) s')
  (u:∀(e1:Nat),(Dk s.heap D vs).get? D=some (seqObj "list" #[] e1)->∀(ks:List Cn) (s':FM),J ks s'->ks.length=vs.length->s'.heap.get? D=some (seqObj "list" #[] e1)/\∃G:Array Nat->Prop,
   (2<=vs.length->wpAny (model prog w) A (keyKind' ks.toArray) (λκ s2=>(kas_sort vs.length).kasWp (kas_ask prog w A κ ks) (λp a=>a=s'/\G p) s2) (λ_ _=>False) s')/\(vs.length<2->G (dI (dD vs.length))) /\
   ∀(p:Array Nat) (h':cw) (c:Nat),p.size=vs.length->G p->(∀b o,b≠D->b≠kS->s'.heap.get? b=some o->h'.get? b=some o)->h'.get? D=some (seqObj "list" (dI (p.toList.map λi=>vs.getD i dO)) c)->(∃o,h'.get? kS=some o)->P (.done (.ret .none)) { s' with heap:=h' }) :
  wpAny (model prog w) A (ksk_tree D f false) P E s:=by
 obtain⟨e1,y,C⟩:=JU ho;have l:((s.heap.update D (d_ λ_=>(#[]:Array Cn))).push (seqObj "tuple" vs.toArray 0)).objs.size=kS:=by rw [size_push',Heap.size_update,hkS]
 have hD:D<s.heap.objs.size:=UF ho;have hDk:D≠kS:=by rw [hkS]; exact c7 (fI hD)
 have F:(Dk s.heap D vs).get? kS=some (seqObj "list" #[] 0):=by rw [← l]; exact cj _ rfl
 unfold ksk_tree;refine Db (iQ ho rfl ?_);refine Db (fg ho rfl ?_ (by rw [c9,di]; omega) (TM _));refine Db (ia C rfl ?_);refine Db (wpAny_newTuple ?_ (by show vs.length<=_; rw [di]; omega));refine Db (iy ?_ (TM _));refine dw ?_;show wpAny (model prog w) A (ksk_rest D f false vs.toArray e1 (.ref ((s.heap.update D (d_ λ_=>(#[]:Array Cn))).push (seqObj "tuple" vs.toArray 0)).objs.size)) P E { s with heap:=Dk s.heap D vs };rw [l];unfold ksk_rest;refine Db (jB ?_)
 first
  | rw [List.forIn_toArray]
  | (rw [← Array.forIn_toList]; simp only [List.toList_toArray])
  | rw [← Array.forIn_toList]
 refine Db (ksk_fold (I:=λi s'=>∃ks e,fo ks=i/\J ks s'/\s'.heap.get? kS=some (seqObj "list" ks.toArray e)) vs 0 _ ⟨[],0,rfl,h0 e1 y,F⟩ (λj x s' O hI=>?_) λs' hI=>?_)
 ·obtain⟨ks,e,h,hJ,q⟩:=hI
  have hj:j<vs.length:=(cr.mp O).1;have h:ks.length=j:=by omega
  refine Db (hX (dP (m ks s' e x hJ q (by rw [h]; exact O)) (λk a r=>?_) λ_ _ hF=>hF.elim));have ea:(dI ks).push k=dI (ks++[k]):=by simp
  obtain⟨c2,t⟩:∃c2,(a.heap.update kS (d_ (·.push k))).get? kS=some (seqObj "list" (dI (ks++[k])) c2):=⟨_,by rw [← ea]; exact gF r.1 (·.push k)⟩
  try dsimp only
  refine Db (fg r.1 rfl ?_ (by rw [c9,di]; omega) (cx (jK (Array.size_push ..)) (by rw [c9,di]; omega)));exact Sc ⟨rfl,ks++[k],c2,by rw [XV,dB]; omega,r.2,t⟩
 ·obtain⟨ks,e,h,hJ,q⟩:=hI
  have h:ks.length=vs.length:=by omega
  obtain⟨hD',G,g2,g1,g3⟩:=u e1 y ks s' hJ h
  try dsimp only
  refine Db (iQ q rfl ?_)
  have tail:∀(st:SortSt) (p:Array Nat),p.size=vs.length->G p->(arrOf st).map (·.2)=dI (p.toList.map λi=>vs.getD i dO)->failedOf st=none->wpAny (model prog w) A (ksk_tail D false e1 (.ref kS) st) P E s':=λst p hp hg z hf=>by
   have H:(dI (p.toList.map λi=>vs.getD i dO)).size=vs.length:=by rw [c9,Go,eT,hp]
   obtain⟨ck,K⟩:∃ck,(s'.heap.update kS (d_ λ_=>(#[]:Array Cn))).get? kS=some (seqObj "list" #[] ck):=⟨_,gF q λ_=>#[]⟩;have hD2:(s'.heap.update kS (d_ λ_=>(#[]:Array Cn))).get? D=some (seqObj "list" #[] e1):=(dJ _ _ (eF hDk)).trans hD';obtain⟨c2,t⟩:∃c2,((s'.heap.update kS (d_ λ_=>(#[]:Array Cn))).update D (d_ λ_=>dI (p.toList.map λi=>vs.getD i dO))).get? D=some (seqObj "list" (dI (p.toList.map λi=>vs.getD i dO)) c2):=⟨_,gF hD2 λ_=>dI (p.toList.map λi=>vs.getD i dO)⟩;unfold ksk_tail
   try dsimp only
   rw [z];refine Db (fg q rfl ?_ (by rw [c9,di]; omega) (TM _));refine Db (ja ?_);refine Db (ia hD2 rfl ?_);refine Db (fg hD2 rfl ?_ (TM _) (cx (jK H) (by rw [di]; omega)));rw [hf];simp only [bne_self_eq_false,fX,if_false];refine Sc (g3 p _ c2 hp hg (λb o L M e=>(dJ _ _ (eF L)).trans ((dJ _ _ (eF M)).trans e)) t ⟨_,(dJ _ _ hDk).trans K⟩)
  unfold ksk_end
  try dsimp only
  simp only [fX,if_false]
  by_cases h2:vs.length<2
  ·have d:vs.toArray.size<2:=by rw [c9]; exact h2
   rw [if_pos d,if_pos d];refine Db (Sc ?_);rw [StateT.run_pure];refine Db (Sc ?_)
   try dsimp only
   refine tail _ (dI (dD vs.length)) (by simp) (g1 h2) (kat_snds h ?_) rfl;have er:=kas_range (ks.toArray.zip vs.toArray);rw [show (ks.toArray.zip vs.toArray).size=vs.length by simp [h]] at er;exact er.symm
  ·have d:¬vs.toArray.size<2:=by rw [c9]; exact h2
   rw [if_neg d,if_neg d];refine Db (dP (g2 (by omega)) (λκ s0 q=>?_) λ_ _ x=>x.elim)
   refine Db (dP (kat_run (Q:=λg s2=>∃p:Array Nat,p.size=vs.length/\arrOf g=p.map (kas_item (ks.toArray.zip vs.toArray))/\failedOf g=none/\s2=s'/\G p)
    h (by omega) B (λp' g s2 a1 a2 a3 a4=>⟨p',a1,a2,a3,a4⟩) q) ?_ λ_ _ e=>e)
   rintro ⟨⟨⟩,g⟩ s2 ⟨p,hp,N,hf,rfl,hg⟩
   try dsimp only
   exact tail g p hp hg (kat_snds h N) hf
end
section
variable {X:Cx}{zG:List (Addr×Obj)}{σ:L2.St}{H:Hp}{s:Shared}{h':Heap}
structure Sx (X:Cx) (zG:List (Ch×Obj)) (D:Ch):Prop where
 new:X.s₀.heap.objs.size<=D
 loc:D≠X.env.locals
 cell:∀x c,X.env.cells.lookup x=some c->c≠D
 pin:∀p∈X.pn++zG,p.1≠D
 fs:D∉X.fs
theorem Inv.mine(I:Inv X zG σ H s){D:Ch}(h:s.heap.objs.size<=D):Sx X zG D:=by
 refine⟨cx I.sz h,λz=>?_,λx c e z=>?_,λp hp z=>?_,I.nofs h⟩
 ·have:=I.lt
  rw [← z] at this;exact absurd this (iK.mpr h)
 ·obtain⟨v,o,ho,_⟩:=I.cell x c e
  have:=UF ho
  rw [z] at this;exact absurd this (iK.mpr h)
 ·obtain⟨e,_⟩:=I.pin p hp
  have:=UF e
  rw [z] at this;exact absurd this (iK.mpr h)
structure KeysAt (K:Frag) (H:Hp) (vs:List V) (keys:List (List Key)):Prop where
 len:vs.length=keys.length
 at_:∀(i:Nat) (ns:List Key),keys[i]?=some ns->∃a,vs[i]?=some (.ref a)/\SqT K H a (ns.map kOf)
 same:∀x∈keys,∀y∈keys,CS x y=true
 ne:∀x∈keys,x≠[]
def L5(keys:List (List Key))(ix:List Nat):Prop:=ix.Perm (dD keys.length)/\∀i j,i<=j->j<keys.length->Cg (keys.getD (ix.getD j 0) []) (keys.getD (ix.getD i 0) [])=false
theorem KeysAt.tups{vs:List V}{us:List Cn}{keys:List (List Key)}(I:Inv X zG σ H s)(r:Vals vs us)(k:KeysAt X.K H vs keys){h':cw}(c:∀b o,s.heap.get? b=some o->h'.get? b=some o):RU h' us keys:=by
 refine⟨λi ns e=>?_,r.length.symm.trans k.len,k.same,k.ne⟩;obtain⟨a,e1,h1⟩:=k.at_ i ns e;obtain⟨u,e2,r2⟩:=r.get e1;cases r2;obtain⟨d,r3,⟨o,ho,f,n,hd⟩,_⟩:=I.tuple h1;exact⟨a,o,_,n,e2,c a o ho,f,hd,by grind⟩
theorem HK:∀{vs:List V} {us:List Cn},Vals vs us->∀i:Nat,RelV (vs.getD i .non) (us.getD i dO)
 | _,_,.nil,i=>by simp [RelV]
 | _,_,.cons r t,0=>by simpa using r
 | _,_,.cons r t,i+1=>by simpa using HK t i
theorem JO{f:Nat->V}{g:Nat->Cn}(h:∀i,RelV (f i) (g i)):∀ix:List Nat,Vals (ix.map f) (ix.map g)
 | []=>.nil
 | i::ix=>.cons (h i) (JO h ix)
theorem getD_list(p:Array Nat)(i:Nat):p.getD i 0=p.toList.getD i 0:=by simp
theorem UV{keys:List (List Key)}{n:Nat}{p:Array Nat}(hn:keys.length=n)(h1:p.Perm (dI (dD n)))(h2:So.Srt R6 (λi=>keys.getD i []) p n):L5 keys p.toList:=by
 subst hn;refine⟨Array.perm_iff_toList_perm.mp h1,λi j a hj=>?_⟩;have h:=h2 i j a hj;unfold So.KN at h;rw [getD_list,getD_list] at h;exact h
theorem Rm{A':dL}{E':Cn->FM->Prop}{vs:List V}{us:List Cn}{keys:List (List Key)}{Q:VK}(I:Inv X zG σ H s)(r:Vals vs us)(h:vs.length<64)(k:KeysAt X.K H vs keys)
  (q:∀(ix:List Nat) (l:Ch),L5 keys ix->H l=none->Q (.ref l) (A4 H l (.lst (ix.map λi=>vs.getD i .non)))) :
  wpAny (model X.prog X.w) A' (gf.«list.sort» ⟨[.ref s.heap.objs.size],[]⟩) (λfin s'=>fin=.done (.ret .none)/\EP X zG σ Q (.ref s.heap.objs.size) s') E' { s with heap:=s.heap.push (seqObj "list" us.toArray 0) }:=by
 have g:=r.length;have d:keys.length=us.length:=k.len.symm.trans g;refine OP (G:=λp=>p.Perm _/\So.Srt R6 (λi=>keys.getD i []) p us.length) (n:=0) (cj _ rfl) (by omega) (λh2=>?_) (λh1=>⟨jX _,λi j m hj=>?_⟩) (λp h' c hp hg hold hD=>⟨rfl,?_⟩)
 ·refine LN (keys:=keys) (k.tups I r λb o e=>?_) h2 (λp a b=>⟨rfl,a,b⟩)
  exact HP (c7 (UF e)) (Ev _ e)
 ·have:i=j:=by omega
  subst this;exact eZ _
 ·have hf:H s.heap.objs.size=none:=I.fresh
  have f:(p.toList.map λi=>vs.getD i .non).length=us.length:=by grind
  refine⟨.ref s.heap.objs.size,A4 H s.heap.objs.size (.lst _),I.laid (t':=s.toks) (λb o e=>hold b o (c7 (UF e)) (Ev _ e)) (On _) ⟨by rw [f,← g,di]; omega,_,c,JO (HK r) p.toList,hD⟩,rfl,q _ _ (UV d hg.1 hg.2) hf⟩
theorem Ov{prog:cz}{w:dC}{A:dL}{E:Cn->FM->Prop}{s:FM}{l:Ch}{vs:List Cn}{Q:List Cn->FM->Prop}(b:IsTup s.heap l vs.toArray)
  (h:Q vs { s with heap:=(s.heap.push (seqObj "list" #[] 0)).update s.heap.objs.size (d_ (·++vs.toArray)) }) (c:vs.length<=sizeLine) :
  wpAny (model prog w) A (collect (.ref l)) Q E s:=by
 obtain⟨o,ho,d,n,hd⟩:=id b;unfold collect;refine Db (wpAny_runValue (codeAny_builtin entry_proto_collect' ?_));show wpAny _ _ (do again (.builtin "list.__iadd__" ⟨[← newList [],.ref l],[]⟩)) _ _ s;refine Db (iy (Sc ⟨gE _ (by decide +kernel),codeAny_builtin entry_list_iadd' ?_⟩));show wpAny _ _ (ip (.ref s.heap.objs.size) (.ref l) (.ref s.heap.objs.size)) _ _ { s with heap:=s.heap.push (seqObj "list" #[] 0) };unfold ip;have a:(s.heap.push (seqObj "list" #[] 0)).get? l=some o:=Ev _ ho;refine Db (iG (T := "tuple") ⟨o,a,d⟩ ?_);have ht:(fE "tuple"==fE "tuple")=true:=by rfl
 rw [if_pos (by rw [ht]; simp)];refine Db (iQ a hd ?_);refine Db (iQ (xs:=#[]) (n:=0) (cj _ rfl) rfl ?_);rw [if_neg (by simp)];refine Db (fg (xs:=#[]) (n:=0) (cj _ rfl) rfl ?_ (TM _) (by show (#[]++vs.toArray).size<=sizeLine+1; simp only [Array.size_append,c9,eE]; omega));refine Sc ?_
 show wpAny (model prog w) A (do
   let o ← load s.heap.objs.size
   match o.data with
   | .seq xs _=>pure xs.toList
   | _=>unsupported "internal:collect") Q E { s with heap:=(s.heap.push (seqObj "list" #[] 0)).update s.heap.objs.size (d_ (·++vs.toArray)) }
 refine Db (wpAny_load (gF (cj _ rfl) _) ?_);show wpAny _ _ (pure ((#[]:Array Cn)++vs.toArray).toList) Q E _;rw [show ((#[]:Array Cn)++vs.toArray).toList=vs by simp];exact Sc h
theorem Ox{h:cw}{g:Array Cn->Array Cn}{b:Ch}{o:Obj}(e:h.get? b=some o):((h.push (seqObj "list" #[] 0)).update h.objs.size (d_ g)).get? b=some o :=
 (dJ _ _ (eF (c7 (UF e)))).trans (Ev _ e)
theorem Ow{κ:Bool}{A':dL}{E':Cn->FM->Prop}{p:Ch}{vs:List V}{Q:List Cn->FM->Prop}(I:Inv X zG σ H s)(h:SqK κ X.K H p vs)(q:∀us s1,Vals vs us->vs.length<=sizeLine->Inv X zG σ H s1->Q us s1) :
  wpAny (model X.prog X.w) A' (collect (.ref p)) Q E' s:=by
 cases κ with
 | true =>
  obtain⟨c,r,pl,a⟩:=I.list h;exact collect_list pl.isList (q _ _ r a (I.kept λb o e=>Ox e)) (by rw [← r.length]; exact a)
 | false =>
  obtain⟨c,r,pl,a⟩:=I.tuple h;exact Ov pl (q _ _ r a (I.kept λb o e=>Ox e)) (by rw [← r.length]; exact a)
def T5(K:Frag):List V->Hp->VK->Prop:=λxs H Q=>∃(κ:Bool) (p:Ch) (vs:List V) (keys:List (List Key)),xs=[.ref p]/\SqK κ K H p vs/\vs.length<64/\KeysAt K H vs keys /\
 ∀(ix:List Nat) (l:Ch),L5 keys ix->H l=none->Q (.ref l) (A4 H l (.lst (ix.map λi=>vs.getD i .non)))
theorem KW:C2 X (.builtin "sorted") (T5 X.K):=by
 intro zG s σ H xs us Q I r h;obtain⟨κ,p,vs,keys,rfl,hq,a,b,q⟩:=h;obtain⟨u,rfl,rx⟩:=vals1 r;cases rx;exact Gq (args_sorted1 _) (λx=>args_list_sort _) (Ow I hq λus s1 r1 c I1=>⟨by rw [← r1.length]; exact c,Rm I1 r1 a b q⟩)
end
section
variable {X:Cx}{tg elt iter:Expr}{ifs:List Expr}{sc:Scope}{pos spos pos':Pos}{N':List Str}{js:List (Option Nat)}{wi:TI}{i:Nat}{x:Str}
theorem Qk(P:X.calm=true)(N':List Str)(js:List (Option Nat))(hi:PI X tg iter wi)
  (hB:G9 sc X.env.scope X.N N' js=true) (hN:X.N.Nodup) (C:X.N[i]?=some x) (E:Loc X.env.scope x)
  (F:swapsWith (.ListComp elt [⟨tg,iter,ifs,0⟩] sc pos) (some (.Name x pos')) spos.line X.env=pure true)
  (R:∀x,foldedSetIterable iter X.env x=pure x:=by intro _; rfl)
  (hf:X.fn x=true\/X.env.scope.names.lookup x=some .local:=by first | exact .inl rfl | exact .inr rfl | assumption) :
  PS X (.Assign [.Name x pos'] (.ListComp elt [⟨tg,iter,ifs,0⟩] sc pos) spos) (Nj (Tg X sc N' js tg elt ifs wi) (IB i)):=by
 intro zG s σ H D I h;have O:CompOk X sc N' js:=CompOk.of hB;obtain⟨cl,j,G,t⟩:=KR (scope:=sc) (env:=X.env) λx E=>I.ok.has x (O.free x E);rw [exec_Assign_Name_used _ _ _ _ F];refine Db (hG (Db ?_));show wpAny _ _ (do let _ ← comprehension (.ListComp elt [⟨tg,iter,ifs,0⟩] sc pos) sc X.env _ (newList []) false (eval iter X.env) (some (assign (.Name x pos') X.env))) _ _ s
 refine Db (dP (wpAny_comprehension_free (Q:=λ_ s'=>SP X zG D .next s') (use:=some (assign (.Name x pos') X.env)) rfl R j O.kind O.names (thn (hi zG s σ H _ I h) λv s1 h1=>thn h1 λS s2 h2=>?_))
  (λ_ s' hq=>Sc (Sc hq)) λ_ _ e=>e)
 obtain⟨it,fp,tn,J,H2,e,I2,T,k,f2,hq⟩:=h2;subst e
 have l:X.K.lookup s2.heap.objs.size=none:=by
  cases q:X.K.lookup s2.heap.objs.size with
  | none=>rfl
  | some o=>exact absurd (UF (I2.kIn _ _ q)) (eK _)
 obtain⟨g,tt,te,W,hg,ht,he,⟨m0,w0⟩,hW⟩:=hq s2.heap.objs.size (I2.hok.fresh (On _)) l cl (s2.heap.objs.size+1) s2 H2 fp;refine fh (wpAny_newFunctionEnv O.cell (by intro y hy; simp at hy) (λh₁ d c=>?_) O.kind)
 dsimp only at d c ⊢
 generalize hH2:s2.heap.push { cls:=.type "list",dict:=none,data:=.seq ([]:List Cn).toArray }=Hh at d c ⊢;have hCe:Hh.objs.size=s2.heap.objs.size+1:=by rw [← hH2,eq]
 have u:∀b∈fp,b<s2.heap.objs.size:=λb f=>by
  obtain⟨o,e,_⟩:=T.obj _ _ k b f;exact UF e
 have old:∀b o,s2.heap.get? b=some o->h₁.get? b=some o:=λb o e=>c.extBut b o (by rw [hCe]; exact c7 (fI (UF e))) (Ev _ (hH2▸Ev _ e));have hD:∃n,h₁.get? s2.heap.objs.size=some { cls:=.type "list",data:=.seq #[] n }:=⟨_,c.extBut _ _ (by rw [hCe]; exact c7 (jM _)) (Ev _ (hH2▸cj _ rfl))⟩
 have I3:∀tk,Inv (A3 X sc N' cl (s2.heap.objs.size+1) s2 H2 fp) [] (Co js σ) (A4 H2 s2.heap.objs.size (.lst [])) { s2 with heap:=h₁,toks:=tk }:=λtk =>
  Od I2 P O G t f2 (λb f=>let ⟨o,e,_⟩:=T.obj _ _ k b f; ⟨o,e⟩) (by rw [← hCe]; exact d) old hD
 have B:tn 0 h₁:=T.keep _ _ _ k λb f o e=>old b o e
 have L:∀b∈fp,A4 H2 s2.heap.objs.size (.lst []) b=none:=λb f=>by
  rw [AQ (c7 (u b f))];exact(f2 b f).1
 have loop:∀tk,codeAny (model X.prog X.w) X.A (.compLoop (.ListComp elt [⟨tg,iter,ifs,0⟩] sc pos) 0 (.ref it) (.ref s2.heap.objs.size) (compEnvC sc cl (s2.heap.objs.size+1) X.env))
   (compPost (model X.prog X.w) X.A X.xe (some (assign (.Name x pos') X.env)) (λ_ s'=>SP X zG D .next s') (.ref s2.heap.objs.size) (s2.heap.objs.size+1)) { s2 with heap:=h₁,toks:=tk }:=λtk=>by
  refine Ls (W:=W) (m0:=m0) (Q:=λv H1=>IB i v σ H1 λzO H2=>D.nx zO H2) I2 f2 u (dq _) T hg ht he hW (λzZ H' s' J' q'=>?_) (I3 tk) B L w0;obtain⟨m,hn,_⟩:=J'.loc;have hCn:H' (s2.heap.objs.size+1)=none:=J'.free;have I4:Inv X zG σ H' s':=J7 (h':=s'.heap) I2 f2 (dq _) J' λb _=>rfl;obtain⟨g1,g2,g3,g4,g5,g6⟩:=I2.fpOk (b:=s2.heap.objs.size+1) (dq _) hCn;show wpAny (model X.prog X.w) X.A (assign (.Name x pos') X.env (.ref s2.heap.objs.size)) (λ_ p=>∃m,p.heap.Ns (s2.heap.objs.size+1) m/\∀h',fq (s2.heap.objs.size+1) p.heap h'->SP X zG D .next { p with heap:=h' }) X.xe s';refine wpAny_assign_Name (LP (v:=.ref s2.heap.objs.size) I4 hN C E rfl (λs5 I5 ⟨a,r,ha⟩=>?_) hf)
  have na:s2.heap.objs.size+1≠a:=by
   rcases ha with rfl | ha
   ·exact g2
   ·exact λz=>g5 _ _ ha z.symm
  refine⟨m,hn.sameBut r na,λh' M=>?_⟩;exact⟨_,H',I5.turned (t':=s5.toks) (it:=s2.heap.objs.size+1) (λb o f e=>M.extBut b o f e) hCn g2 g4 g5 g6,q'⟩
 rw [show (newEnv sc Hh.objs.size X.env.globals cl X.env.qual none .none (some X.env) builtinsNs).locals=s2.heap.objs.size+1 from hCe];show codeAny (model X.prog X.w) X.A (.compStart (.ListComp elt [⟨tg,iter,ifs,0⟩] sc pos) 0 (.ref it) (.ref s2.heap.objs.size) (compEnvC sc cl (s2.heap.objs.size+1) X.env)) _ _;exact codeAny_compStart_list (loop _) (T.self _ 0 _ _ _ B (loop _))
end
end L2
namespace Dp
open L2
section
variable {X:Cx}{zT:Kd}{tg elt iter:Expr}{ifs:List Expr}{sc:Scope}{pos:Pos}{src:Ef}{b:BW}{tt:HI}{te:DW}
theorem Ou(hc:X.calm=true)(N':List Str)(js:List (Option Nat))(hi:Xd X tg iter src)(hg:∀cl C s H fp,DG (A3 X sc N' cl C s H fp) tg b)(ht:∀cl C s H fp,ZG (A3 X sc N' cl C s H fp) ifs tt)(he:∀cl C s H fp,DE (A3 X sc N' cl C s H fp) elt zT te)
  (hB:G9 sc X.env.scope X.N N' js=true) (W:zT≠.tp:=by intro z; cases z)
  (E:∀x,foldedSetIterable iter X.env x=pure x:=by intro _; rfl):∃wi,PI X tg iter wi/\∀(C:Fm) (M:Ch->Prop) (H:Hp) (n:Nat) (ρ:List Slot) (σ:L2.St) (P:D->Nat->Prop) (Q:VK),Rel X.K C M H n ρ σ->BR js src b tt te n ρ P ->
   (∀v H' d n',Ext C.U H H'->FeedC X.K C.F M H' n'->VR X.K C.V M H H' .fr v d->P d n'->Q v H')->Tg X sc N' js tg elt ifs wi σ H Q:=by
 obtain⟨wi,a1,a2⟩:=hi;refine⟨wi,a1,λC M H n ρ σ P Q R w q=>?_⟩;refine a2 C M H n ρ σ _ _ R w λJ H1 ds n1 e1 f1 y w1=>?_;obtain⟨O,w1⟩:=w1;have R1:=R.step e1 f1;intro l B Y cl Ca s0 H0 fp;obtain⟨g,g1,g2⟩:=hg cl Ca s0 H0 fp;obtain⟨tc,c1,c2⟩:=ht cl Ca s0 H0 fp;obtain⟨tx,x1,x2⟩:=he cl Ca s0 H0 fp
 have noU:¬C.U l:=λz=>by
  obtain⟨o,z⟩:=R1.udom l z;rw [B] at z; cases z
 generalize hM':(λb=>M b\/b=l)=M';have M'l:M' l:=by rw [← hM']; exact .inr rfl
 have M'of:∀b,M b->M' b:=λb z=>by rw [← hM']; exact .inl z
 have ofM':∀b,M' b->M b\/b=l:=λb z=>by rw [← hM'] at z; exact z
 have inV:∀b,C.V b\/b=l->M' b:=λb z=>z.elim (λz=>M'of b (R1.vM b z)) λz=>by rw [z]; exact M'l
 have S:js.length=N'.length:=Fb (CompOk.of hB).cap
 refine⟨g,tc,tx,λi m zZ H'=>m=ds.length - i/\i<=ds.length/\∃n' zY k vs,Rel X.K ⟨M',C.F,C.U,λb=>C.V b\/b=l,H1,[],[]⟩ M' H' n' zY zZ/\H' l=some (.lst vs)/\Ats X.K M' H' k vs/\k.length<=i/\Pres M H1 M' H' /\
   Ci b tt te (λk n2=>P (.lst k) n2) (ds.drop i) k n' zY,g1,c1,x1,⟨ds.length,by simp,TM _,n1,G2 js ρ,[],[],?_⟩,?_⟩
 ·have gr:Grow H1 (A4 H1 l (.lst [])):=A1 B
  have pr:Pres M H1 M' (A4 H1 l (.lst [])):=⟨λb o e _=>gr.all b o e,λb z=>(ofM' b z).elim .inl λz=>.inr (by rw [z]; exact B),λb vs e=>gr.all b _ e⟩;refine⟨⟨?_,λa z=>z,λa z=>?_,gr.ext,R1.fU,λa z=>.inl (R1.uV a z),inV,f1.pres pr λf o _ e=>gr.all f.1 o e,?_,λp hp=>absurd hp (by simp),λi d a q z=>Qw R1.sl q z,λi s a q o _=>absurd o (by rw [Er q]; decide),λi j s t a q o _ _ _ _=>absurd o (by rw [Er q]; decide),λp hp=>absurd hp (by simp)⟩,AX,rfl,TM _,pr,w1⟩
  ·unfold G2 Co
   rw [Go,Go]
  ·rcases ofM' a z with z | z
   ·obtain⟨o,z⟩:=R1.dom a z
    exact⟨o,gr.all a o z⟩
   ·subst z
    exact⟨_,AX⟩
  ·refine OR R1.sl pr λd v h=>h.same pr (λa o _ e=>gr.all a o e) λa e n1 z=>z.elim n1 λz=>?_
   subst e;obtain⟨o,w⟩:=h.lies;rw [z,B] at w;cases w
 ·rintro i m zZ H' ⟨rfl,hi,n',zY,k,vs,R',G,u,I,pr,w'⟩
  by_cases A:i<ds.length
  ·have ed:ds.drop i=ds[i]::ds.drop (i+1):=eI A
   rw [ed] at w';obtain⟨go,yl⟩:=(y i M' H' pr R'.ext R'.dom).1 ds[i] (No A);refine .inr ⟨go,λx H2 hy=>?_⟩;obtain⟨gr,Z⟩:=yl x H2 hy;have R2':=R'.step gr.ext (R'.feed.grow gr);refine g2 _ M' H2 n' zY zZ ds[i] x _ _ R2' Z w' λzP zV R3 w3=>?_;refine c2 _ M' H2 n' zP zV _ _ R3 w3 λc H4 n4 e4 f4 w4=>?_;have R4:=R3.step e4 f4;have p4:Pres M' H' M' H4:=gr.pres.trans (R3.pres e4);have l4:H4 l=some (.lst vs):=e4.keep (gr.all _ _ G) noU;cases c with
   | false=>exact⟨ds.length - (i+1),by omega,rfl,A,n4,zP,k,vs,R4,l4,u.pres p4,by omega,pr.trans p4,w4⟩
   | true =>
    refine x2 _ M' H4 n4 zP zV _ _ R4 w4 λyv H5 d5 n5 e5 f5 r5 w5=>?_;have R5:=R4.step e5 f5;have p5:Pres M' H4 M' H5:=R4.pres e5;have l5:H5 l=some (.lst vs):=e5.keep l4 noU;have L:=r5.shOf R4.dom W;have a5:=(u.pres p4).pres p5;have pu:Pres M' H5 M' (A4 H5 l (.lst (vs++[yv]))):=Fw M'l l5;have a0:vs.length=k.length:=u.length;refine⟨vs,l5,by rw [di]; omega,ds.length - (i+1),by omega,rfl,A,n5,zP,k++[d5],vs++[yv],?_,AX,(a5.append (Ats.one L)).pres pu,by rw [XV,dB]; omega,(pr.trans p4).trans (p5.trans pu),w5⟩;refine⟨R5.len,R5.sub,λa z=>?_,λb o e=>?_,R5.fU,R5.uV,R5.vM,?_,λj s E=>?_,λp hp=>absurd hp (by simp),R5.br0,R5.new,R5.two,λp hp=>absurd hp (by simp)⟩
    ·by_cases ha:a=l
     ·subst ha; exact⟨_,AX⟩
     ·rw [AQ ha]; exact R5.dom a z
    ·obtain⟨o',q1,q2⟩:=R5.ext b o e
     by_cases T:b=l
     ·subst T
      have e':H1 b=some o:=e;rw [B] at e'; cases e'
     ·exact⟨o',by rw [AQ T]; exact q1,q2⟩
    ·refine f5.pres pu λf o hf e=>?_
     rw [AQ (λz=>noU (by rw [← z]; exact R1.fU f hf))];exact e
    ·have r:=R5.sl j s E
     cases s with
     | no=>trivial
     | sh d=>obtain⟨v,e1,h2⟩:=r; exact⟨v,e1,h2.pres pu⟩
     | ex a nm ks ds=>obtain⟨e1,h2⟩:=r; exact⟨e1,h2.pres pu⟩
     | br d =>
      obtain⟨v,e1,h2⟩:=r;refine⟨v,e1,h2.same pu (λa o z e=>?_) λ_ _ z=>z⟩;subst z;obtain⟨o3,w⟩:=R5.br0 j d a E e1
      have I:a≠l:=λz=>by
       have w':H1 a=some o3:=w;rw [z,B] at w'; cases w'
      rw [AQ I]; exact e
     | ow d =>
      obtain⟨a,e1,h2,_⟩:=r;exact absurd h2 (R5.new j _ a E rfl e1).1
     | lt a d =>
      obtain⟨e1,h2,_⟩:=r;exact absurd h2 (R5.new j _ a E rfl e1).1
     | fd=>exact r
  ·have e:i=ds.length:=by omega
   subst e;rw [fz] at w';refine .inl ⟨(y _ M' H' pr R'.ext R'.dom).2 (On _),?_⟩;have eb:Ext C.U H1 H':=R'.ext;have less:Pres M' H' M H':=Pres.less M'of;refine q _ H' (.lst k) n' (e1.trans eb) (R'.feed.pres less λ_ _ _ z=>z) (VR.back e1 ?_) w';exact⟨l,rfl,B,vs,G,by rw [hM']; exact u⟩
theorem M_{κ:Kd}{i:Nat}{x:Str}{a c:Pos}(hN:X.N.Nodup)(e:X.N[i]?=some x)(j:Loc X.env.scope x)(g:X.calm=true)(N':List Str)(js:List (Option Nat))(hi:Xd X tg iter src)(hg:∀cl C s H fp,DG (A3 X sc N' cl C s H fp) tg b)(ht:∀cl C s H fp,ZG (A3 X sc N' cl C s H fp) ifs tt)(he:∀cl C s H fp,DE (A3 X sc N' cl C s H fp) elt zT te)
  (hB:G9 sc X.env.scope X.N N' js=true) (f:swapsWith (.ListComp elt [⟨tg,iter,ifs,0⟩] sc pos) (some (.Name x a)) c.line X.env=pure true:=by rfl) (k:zT≠.tp:=by intro z; cases z)
  (h:∀x,foldedSetIterable iter X.env x=pure x:=by intro _; rfl)
  (hf:X.fn x=true\/X.env.scope.names.lookup x=some .local:=by first | exact .inl rfl | exact .inr rfl | assumption):DS X κ (.Assign [.Name x a] (.ListComp elt [⟨tg,iter,ifs,0⟩] sc pos) c) (Az i (BR js src b tt te)):=by
 obtain⟨wi,a1,a2⟩:=Ou g N' js hi hg ht he hB k h;exact⟨_,Qk g N' js a1 hB hN e j f h hf,λC M H n ρ σ D2 E R L w=>a2 C M H n ρ σ _ _ R w λv H' d n' e1 f1 r1 p=>L.nx M H' n' _ _ ((R.step e1 f1).set (r1.shOf R.dom (by grind))) p⟩
end
end Dp
namespace L2
def Zu:R2:=λy x H Q=>∃a o,x=.ref a/\DGet H a y o/\Q (.bl o.isSome) H
def W7:R2:=λy x H Q=>∃a o,x=.ref a/\DGet H a y o/\Q (.bl (!o.isSome)) H
def Zv:R2:=λx y H Q=>∃a v,x=.ref a/\DGet H a y (some v)/\Q v H
theorem UW{X:Cx}{k:Nat}(hr:Room k X.A):OpR X (compareOp .In) Zu:=by
 intro zG s σ H y x iv u Q I ry rx ⟨a,ov,ex,g,q⟩;subst ex;obtain rfl:u=cm a:=rx;exact bi (J9 hr) I g ry λs3 I3=>⟨.bl _,H,I3,rfl,q⟩
theorem LV{X:Cx}{k:Nat}(hr:Room k X.A):OpR X (compareOp .NotIn) W7:=by
 intro zG s σ H y x iv u Q I ry rx ⟨a,ov,ex,g,q⟩;subst ex;obtain rfl:u=cm a:=rx;exact We (J9 hr) I g ry λs3 I3=>⟨.bl _,H,I3,rfl,q⟩
end L2
namespace Dp
open L2
def Bv:List Key->List D->Key->Option D
 | k0::ks,d::ds,k=>if k0=k then some d else Bv ks ds k
 | _,_,_=>none
section
variable {K:Frag}{X:Cx}
theorem Gn{M:Ch->Prop}{H:Hp}{k:Key}:∀{ks:List Key} {ds:List D} {vs:List V},Ats K M H ds vs ->
  match Bv ks ds k with
  | some z=>∃v,E7 (ks.zip vs) k=some v/\At K M H z v
  | none=>E7 (ks.zip vs) k=none
 | [],ds,vs,h=>by exact rfl
 | k0::ks,[],vs,h=>by cases h; exact rfl
 | k0::ks,d::ds,vs,h=>by
  obtain⟨v,r,rfl,h1,h2⟩:=h;have ih:=Gn (k:=k) (ks:=ks) h2;unfold Bv
  by_cases e:k0=k
  ·rw [if_pos e]
   refine⟨v,?_,h1⟩;show E7 ((k0,v)::ks.zip r) k=some v;rw [E_ e]
  ·have:E7 ((k0,v)::ks.zip r) k=E7 _ k:=FA e
   simp_all
def keyOf:D->Option Key
 | .int i=>some (.inl i)
 | .str x=>some (.inr x)
 | _=>none
theorem DQ{U M:Ch->Prop}{H:Hp}{d:D}{v:V}{k:Key}(e:keyOf d=some k)(h:AtT K U M H d v):v=kV k:=by
 cases d with
 | int i=>cases e; exact h
 | str x=>cases e; exact h.str.1
 | _=>cases e
def KL:D->Option (List Key×List D)
 | .dic ks ds=>some (ks,ds)
 | .fdi ks ds=>some (ks,ds)
 | _=>none
theorem KJ{U M:Ch->Prop}{H:Hp}{d:D}{x:V}{ks:List Key}{ds:List D}(e:KL d=some (ks,ds))(h:AtT K U M H d x):∃a vs,x=.ref a/\Rd H a (.dK (ks.zip vs))/\Ats K M H ds vs:=by
 cases d with
 | dic k2 d2=>cases e; obtain⟨a,vs,rfl,_,ha,_,b⟩:=h; exact⟨a,vs,rfl,.inl ha,b⟩
 | fdi k2 d2=>cases e; obtain⟨a,vs,rfl,⟨o,_,ha⟩,_,b⟩:=h; exact⟨a,vs,rfl,.inr ⟨o,ha⟩,b⟩
 | _=>cases e
theorem I_{H:Hp}{a:Ch}{b:List (Key×V)}{k:Key}(e:Rd H a (.dK b)):DGet H a (kV k) (E7 b k):=.inl ⟨_,k,e,rfl,rfl⟩
def M8(neg:Bool)(e d:D)(P:D->Prop):Prop:=∃ks ds k,KL d=some (ks,ds)/\keyOf e=some k/\P (.bl (if neg then !(Bv ks ds k).isSome else (Bv ks ds k).isSome))
def EW(d e:D)(P:D->Prop):Prop:=∃ks ds k z,KL d=some (ks,ds)/\keyOf e=some k/\Bv ks ds k=some z/\P z
theorem Xb:E5 K .sh Zu (M8 false):=λU M H e d y x P Q b vM hy f w q=>by
 obtain⟨ks,ds,k,hd,he,w⟩:=w;obtain⟨a,vs,rfl,ha,g⟩:=KJ hd f;refine⟨a,_,rfl,by rw [DQ he hy]; exact I_ ha,q _ H (.bl _) .refl rfl ?_⟩;have h:=Gn (k:=k) (ks:=ks) g;cases c:Bv ks ds k with
 | none=>simp_all
 | some z=>rw [c] at h w; obtain⟨v,h1,_⟩:=h; simp_all
theorem PB:E5 K .sh W7 (M8 true):=λU M H e d y x P Q b vM hy f w q=>by
 obtain⟨ks,ds,k,hd,he,w⟩:=w;obtain⟨a,vs,rfl,ha,g⟩:=KJ hd f;refine⟨a,_,rfl,by rw [DQ he hy]; exact I_ ha,q _ H (.bl _) .refl rfl ?_⟩;have h:=Gn (k:=k) (ks:=ks) g;cases c:Bv ks ds k with
 | none=>simp_all
 | some z=>rw [c] at h w; obtain⟨v,h1,_⟩:=h; simp_all
theorem Y2:E5 K .sh Zv EW:=λU M H d e x y P Q b vM c hy w q=>by
 obtain⟨ks,ds,k,z,hd,he,f,w⟩:=w;obtain⟨a,vs,rfl,ha,g⟩:=KJ hd c;have h:=Gn (k:=k) (ks:=ks) g;rw [f] at h;obtain⟨v,h1,h2⟩:=h;exact⟨a,v,rfl,by rw [DQ he hy,← h1]; exact I_ ha,q v H z .refl h2 w⟩
variable {a b:Expr}{zR zM:Kd}{wa wb:DW}{pos:Pos}
theorem Fz{k:Nat}(hr:Room k X.A)(ha:DE X a zR wa)(g:DE X b zM wb)(h:Y8 b:=by intro _ _; rfl):DE X (.Subscript a b pos) .sh (AU EW wa wb):=by
 obtain⟨ta,c,d⟩:=ha;obtain⟨tb,e,f⟩:=g;exact⟨_,MY (J9 hr) c e h,λC M H n ρ σ P Q R w q=>Fd Y2 d f C M H n ρ σ P Q R w q⟩
end
def TU(i:Nat)(w:DW):Aj:=λD2 n ρ=>∃a:Int,ρ[i]?=some (.sh (.int a))/\w n ρ λd n1=>∃b:Int,d=.int b/\D2.nx n1 (ρ.set i (.sh (.int (a+b))))
theorem WR{X:Cx}{κ zT:Kd}{e:c_}{wa:DW}{pos:Pos}{i:Nat}{x:Str}{c:Pos}(hN:X.N.Nodup)(hi:X.N[i]?=some x)(f:Loc X.env.scope x)(he:DE X e zT wa)
  (hf:X.fn x=true\/X.env.scope.names.lookup x=some .local:=by first | exact .inl rfl | exact .inr rfl | assumption):DS X κ (.AugAssign (.Name x c) .Add e pos) (TU i wa):=by
 obtain⟨t,a1,a2⟩:=he;refine⟨_,YE hN hi f a1 Ye hf,λC M H n ρ σ D2 E R L w=>?_⟩;obtain⟨a,ha,w⟩:=w;obtain⟨v,e1,h1⟩:=R.sl i _ ha;cases (h1);refine⟨_,getD_some e1,a2 C M H n ρ σ _ _ R w λv H' d n' e1 f1 r1 p=>?_⟩;obtain⟨b,rfl,p⟩:=p;exact⟨a,b,rfl,J8 r1,L.nx M H' n' _ _ ((R.step e1 f1).set (d:=.int _) rfl) p⟩
end Dp
namespace L2
open PySem.W
section
variable {X:Cx}{zG:List (Addr×Obj)}{σ:L2.St}{H:Hp}{s:Shared}{h':Heap}
theorem Inv.adopt2{D e:Ch}{o:HO}(I:Inv X zG σ H s)(m:Sx X zG D)(hn:H D=none)(m2:Sx X zG e)(g:H e=none)(h:D≠e)(k:∀b u,b≠D->b≠e->s.heap.get? b=some u->h'.get? b=some u)(new:ObjOk X.prog X.w (A4 H D o) h' D o):Inv X zG σ (A4 H D o) { s with heap:=h' }:=by
 have a:∀b,b∉[D,e]->b≠D/\b≠e:=λb d=>⟨λz=>d (by rw [z]; exact Op),λz=>d (by rw [z]; exact Re _ (Tk.mpr rfl))⟩
 refine I.step (g':=s.gens) (d':=s.drawn) (t':=s.toks) (ch:=[D,e]) (λb f=>?_) (λb u _ _ d q _=>k b u (a b d).1 (a b d).2 q) (λb u _ _ d q _=>⟨u.slots,k b u (a b d).1 (a b d).2 q⟩) (λb u d q n=>?_)
  (λb u d q=>⟨u,k b u (a b d).1 (a b d).2 q⟩) (λb xs q=>?_) (λb u v q=>?_) (λb ps q=>⟨#[],?_⟩) (λmm hm=>?_) (λb u q=>?_) I.bare
 ·rcases T0.mp f with rfl | f
  ·exact⟨.inr m.new,m.loc,m.cell,m.pin⟩
  ·rw [Tk.mp f]
   exact⟨.inr m2.new,m2.loc,m2.cell,m2.pin⟩
 ·rw [AQ (a b d).1]; exact n
 ·rw [AQ (A0 q hn)]; exact q
 ·rw [AQ (A0 q hn)]; exact q
 ·rw [AQ (A0 q hn),q]; simp
 ·obtain⟨u,es,ep,ho,r⟩:=hm
  exact⟨u,es,ep,k _ u (eF m.loc) (eF m2.loc) ho,r⟩
 ·by_cases f:b=D
  ·subst f; rw [AX] at q; cases q; exact new
  ·rw [AQ f] at q
   refine(I.hok b u q).stay (λc v d q2=>k c v ?_ ?_ q2) (λc q2=>by rw [AQ (A0 q2 hn)]; exact q2) λc xs q2=>by rw [AQ (A0 q2 hn)]; exact q2
   ·grind
   grind
def Xt(K:Frag)(sp:Sp)(te:TE):TE:=λσ H Q=>te σ H λx H1=>∃(κ:Bool) (l:Ch) (vs:List V) (keys:List (List Key)) (J:List V->Hp->Prop),x=.ref l/\SqK κ K H1 l vs/\vs.length<64/\J [] H1 /\
 (∀ks H2 v,J ks H2->vs[ks.length]?=some v->sp [v] H2 (λk H3=>J (ks++[k]) H3) E0) /\
 ∀ks H2,J ks H2->ks.length=vs.length->KeysAt K H2 ks keys/\∀(ix:List Nat) (l:Ch),L5 keys ix->H2 l=none->Q (.ref l) (A4 H2 l (.lst (ix.map λi=>vs.getD i .non)))
theorem UN{k:Nat}{f:Ch}{fd:dU}{pn fn:Str}{sp:Sp}{te:TE}{e:c_}{p fp kp pos:Pos}(F:BD X.prog X.w X.K X.mg X.base CL k f fd [pn] sp)(hr:Room (k+2) X.A)(hg:Gl X "sorted")(hm:X.mg "sorted"=none)
  (R:Gl X fn) (S:X.mg fn=some (.ref f)) (T:Binds X.K fd [pn] []) (he:PE X e te) (U:starEach [e] X.env=[(false,eval e X.env)]:=by rfl) (W:(fn==("__debug__":Str))=false:=by decide) :
  PE X (.Call (.Name "sorted" p) [e] [⟨some "key",.Name fn fp,kp⟩] pos) (Xt X.K sp te):=by
 intro zG s σ H Q I h;refine eN (FT I hg hm ie ?_)
 refine callWith_kw (thn (BB he B0 U pos zG s σ H (λvs H1=>∃x,vs=[x]/\∃(κ:Bool) (l:Ch) (vs:List V) (keys:List (List Key)) (J:List V->Hp->Prop),x=.ref l/\SqK κ X.K H1 l vs/\vs.length<64/\J [] H1 /\
   (∀ks H2 v,J ks H2->vs[ks.length]?=some v->sp [v] H2 (λk H3=>J (ks++[k]) H3) E0) /\
   ∀ks H2,J ks H2->ks.length=vs.length->KeysAt X.K H2 ks keys/\∀(ix:List Nat) (l:Ch),L5 keys ix->H2 l=none->Q (.ref l) (A4 H2 l (.lst (ix.map λi=>vs.getD i .non)))) I ?first) λus s1 ⟨xs,H1,I1,r1,q1⟩=>kws_cons (Dq I1 R S (kws_nil ?_) W)) (by rw [U]; rfl) (by rw [U]; rfl)
 case first =>
  show te σ H _;refine cast (congrArg (te σ H) ?_) h
  funext x H1
  refine propext ⟨λz=>⟨x,rfl,z⟩,fun⟨y,e,z⟩=>?_⟩;cases e;exact z
 obtain⟨x,rfl,κ,l,vs,keys,J,rfl,hq,Y,j0,C,E⟩:=q1;obtain⟨u,rfl,ru⟩:=vals1 r1;cases ru;show wpAny (model X.prog X.w) X.A (call (.builtin "sorted") [.ref l] [(dk "key",.ref f)]) _ _ s1;refine Gq (ksk_s1 _ _) (λx=>ksk_l1 _ _) (Ow I1 hq λus s2 r2 hz I2=>⟨by rw [← r2.length]; exact hz,?_⟩);rw [ksk_t1];have Z:=r2.length;generalize hD:s2.heap.objs.size=D;have L:(s2.heap.push (seqObj "list" us.toArray 0)).objs.size=D+1:=by rw [size_push',hD]
 have hoD:(s2.heap.push (seqObj "list" us.toArray 0)).get? D=some (seqObj "list" us.toArray 0):=by rw [← hD]; exact cj _ rfl
 have mD:Sx X zG D:=I2.mine (by rw [hD]; exact On _);have mK:Sx X zG (D+2):=I2.mine (by rw [hD]; exact Nat.le_add_right _ _);have nD:H1 D=none:=I2.hok.fresh (by rw [hD]; exact On _);have nK:H1 (D+2)=none:=I2.hok.fresh (by rw [hD]; exact Nat.le_add_right _ _);have M:D≠D+2:=c7 (fI (jM D));have B:∀b,Sx X zG b->b∉Lj X.stack:=λb m z=>(T0.mp (I2.stkSub b z)).elim m.loc m.fs
 refine SK (s:={ s2 with heap:=s2.heap.push (seqObj "list" us.toArray 0) }) (n:=0) hoD (by rw [← Z]; exact Y)
  (λks s'=>∃kV H',Vals kV ks/\J kV H'/\Inv X zG σ H' s'/\H' D=none/\H' (D+2)=none/\s'.heap.get? D=(Dk (s2.heap.push (seqObj "list" us.toArray 0)) D us).get? D) (D+2) (by show D+2=(s2.heap.push _).objs.size+1; rw [L]) (λe1 N=>?_) (λks s' e v hJ hk hv=>?_) λe1 N ks s' hJ g=>?_
 ·refine⟨[],H1,.nil,j0,?_,nD,nK,rfl⟩
  exact I2.kept (t':=s2.toks) λb o q=>HP (by rw [← hD]; exact c7 (UF q)) (Ev _ q)
 ·obtain⟨kV,H',rk,hJ,I',n1,n2,hD'⟩:=hJ
  have hi:ks.length<us.length:=(cr.mp hv).1;have O:vs[kV.length]?=some (vs[kV.length]'(by rw [rk.length]; omega)):=No _;obtain⟨u',e2,ru⟩:=r2.get O;rw [rk.length,hv] at e2;cases e2;have a0:=C kV H' _ hJ O;have E1:Env0 X.prog X.w X.K X.mg X.base X.A.in1.in1 X.stack s' H':=I'.env0.in1.in1;refine fj (ft (F.run X.A.in1.in1 X.stack s' H' ⟨[v],[]⟩ [v] _ _ E0 (hr.in1).in1 E1 (by simpa using T s' [v] I'.kIn rfl) (.cons ru .nil) a0) λr d t=>?_);cases r with
  | error e=>exact dh t
  | ok fl =>
   cases fl with
   | next=>exact dh t
   | brk=>exact dh t
   | cont=>exact dh t
   | ret u =>
    obtain⟨w',H3,os,bare,un,a1,a2,q3⟩:=id t
    obtain⟨oD,eD⟩:∃o,s'.heap.get? D=some o:=by
     obtain⟨c,hc,_⟩:=JU hoD;exact⟨_,hD'.trans hc⟩
    have kD:d.heap.get? D=some oD:=un.keep D oD eD n1 (B D mD) (by simp);have kK:d.heap.get? (D+2)=some (seqObj "list" ks.toArray e):=un.keep _ _ hk n2 (B _ mK) (by simp);have f1:H3 D=none:=un.free D oD eD n1 (by simp);have f2:H3 (D+2)=none:=un.free _ _ hk n2 (by simp);have I3:Inv X zG σ H3 d:=I'.call' os un a1 bare (λb z=>absurd z (by simp));refine⟨kK,kV++[w'],H3,rk.append (.cons a2 .nil),q3,?_,f1,f2,?_⟩
    ·exact I3.turned (t':=d.toks) (λb o T q=>(dJ _ _ (eF T)).trans q) f2 mK.loc (.inr mK.new) mK.cell mK.pin
    ·show (d.heap.update (D+2) _).get? D=_
     rw [dJ _ _ (eF M),kD,← eD,hD']
 ·obtain⟨kV,H',rk,hJ,I',n1,n2,hD'⟩:=hJ
  obtain⟨P,q⟩:=E kV H' hJ (by rw [rk.length,g,Z]);have a3:keys.length=us.length:=by rw [← P.len,rk.length,g]
  refine⟨hD'.trans N,λp=>p.Perm (dI (dD us.length))/\So.Srt R6 (λi=>keys.getD i []) p us.length,λh2=>?_,λh1=>⟨jX _,λi j a5 hj=>?_⟩,λp h' c hp hg hold hDn _=>⟨rfl,?_⟩⟩
  ·have ts:=LN (prog:=X.prog) (w:=X.w) (A:=X.A.in1.in1) (keys:=keys) (P.tups I' rk λb o e=>e) (by omega) (G:=λp d=>d=s'/\p.Perm (dI (dD us.length))/\So.Srt R6 (λi=>keys.getD i []) p us.length) (λp a b=>⟨rfl,by rw [← g]; exact a,by rw [← g]; exact b⟩)
   rw [g] at ts;exact ts
  ·have:i=j:=by omega
   subst this;exact eZ _
  ·have a4:(p.toList.map λi=>vs.getD i .non).length=us.length:=by rw [Go,eT,hp]
   refine⟨.ref D,A4 H' D (.lst (p.toList.map λi=>vs.getD i .non)),I'.adopt2 mD n1 mK n2 M hold ⟨by rw [a4,← Z,di]; omega,_,c,JO (HK r2) p.toList,hDn⟩,rfl,q _ _ (UV a3 hg.1 hg.2) n1⟩
theorem N_{α β:Type}{F:α->β->Prop}:∀{l₁:List α} {l₂:List β} {j:Nat} {a:α} {b:β},Paired F l₁ l₂->l₁[j]?=some a->l₂[j]?=some b->F a b
 | _,_,_,_,_,.nil,h,_=>by simp at h
 | _,_,0,_,_,.cons r t,h1,h2=>by
  grind
 | _,_,j+1,_,_,.cons r t,h1,h2=>N_ (j:=j) t (by simp_all) (by simp_all)
end
end L2
namespace Dp
open L2
end Dp
namespace L2
def F3(H:Hp)(L:List Ch)(f:Ch->Obj):Hp:=λb=>if b∈L then (H b).map (HO.frz (f b)) else H b
theorem DR{H:Hp}{L:List Ch}{f:Ch->Obj}{b:Ch}(h:b∉L):F3 H L f b=H b:=by unfold F3; rw [if_neg h]
theorem Mz{H:Hp}{L:List Ch}{f:Ch->Obj}{b:Ch}{o:HO}(h:b∈L)(e:H b=some o):F3 H L f b=some (.frz (f b) o):=by unfold F3; grind
section
variable {X:Cx}{zG:List (Addr×Obj)}{σ:L2.St}{H:Hp}{s:Shared}
theorem Inv.frz{L:List Ch}(I:Inv X zG σ H s)(hL:∀b∈L,∃a,H b=some (.dK a)):∃f,Inv X zG σ (F3 H L f) s:=by
 have keep:∀(f:Ch->Obj) b o,H b=some o->(∀a,o≠.dK a)->F3 H L f b=some o:=λf b o e n=>by
  rw [DR (λhm=>by grind)];exact e
 refine⟨λb=>(s.heap.get? b).getD { cls:=.none,data:=.fields #[] },?_⟩;refine I.step (g':=s.gens) (d':=s.drawn) (t':=s.toks) (h':=s.heap) (ch:=[]) (λ_ z=>nomatch z) (λ_ _ _ _ _ e _=>e) (λb o _ _ _ e _=>⟨o.slots,e⟩) (λb o _ e n=>?_) (λb o _ e=>⟨o,e⟩) (λb xs e=>keep _ b _ e λ_ z=>by cases z) (λb o u e=>keep _ b _ e λ_ z=>by cases z) (λb ps e=>⟨#[],by grind⟩) (λ_ h=>h) (λb u e=>?_) I.bare
 ·unfold F3
  simp_all
 ·by_cases d:b∈L
  ·obtain⟨a,e2⟩:=hL b d
   rw [Mz d e2] at e;cases e;obtain⟨z,y,vs,r,ob,es,ep,e3,c⟩:=(show ObjOk X.prog X.w H s.heap b (.dK a) from I.hok b _ e2);exact⟨by rw [e3]; rfl,z,y,vs,r,ob,es,ep,e3,c⟩
  ·rw [DR d] at e
   exact(I.hok b u e).stay (λ_ _ _ q=>q) (λc q=>keep _ c _ q λ_ z=>by cases z) λc xs q=>keep _ c _ q λ_ z=>by cases z
def bO(t:TE):TE:=λσ H Q=>t σ H λv H1=>∃L:List Ch,(∀b∈L,∃a,H1 b=some (.dK a))/\∀f:Ch->Obj,Q v (F3 H1 L f)
theorem UO{e:c_}{t:TE}(h:PE X e t):PE X e (bO t):=by
 intro zG s σ H Q I hq;refine thn (h _ s σ H _ I hq) λu s1 ⟨v,H1,I1,r,L,hL,q⟩=>?_;obtain⟨f,I2⟩:=I1.frz hL;exact⟨v,_,I2,r,q f⟩
end
end L2
namespace Dp
open L2
def D8:D->Option (List Key)
 | .tup xs=>Hz xs
 | _=>none
def HH(kf:D->Option (List Key))(xs:List D):Prop:=xs.Pairwise λa b=>∀ka kb,kf a=some ka->kf b=some kb->Cg kb ka=false
def Keyed(kf:D->Option (List Key))(xs:List D):Prop:=(∀x∈xs,∃k,kf x=some k/\k≠[])/\∀x∈xs,∀y∈xs,∀ka kb,kf x=some ka->kf y=some kb->CS ka kb=true
theorem range_getD(xs:List D):(dD xs.length).map (λi=>xs.getD i .non)=xs:=by
 apply List.ext_getElem
 ·simp
 simp_all
theorem Qt{kf:D->Option (List Key)}{xs:List D}{keys:List (List Key)}{ix:List Nat}(b:keys.length=xs.length)(d:∀(i:Nat) (x:D),xs[i]?=some x->∃k,keys[i]?=some k/\kf x=some k)(h:L5 keys ix) :
  (ix.map λi=>xs.getD i .non).Perm xs/\HH kf (ix.map λi=>xs.getD i .non):=by
 obtain⟨hp,f⟩:=h;constructor
 ·have:=hp.map λi=>xs.getD i D.non
  rw [b,range_getD] at this;exact this
 ·unfold HH
  rw [jC];intro i j hi hj a ka kb ea eb;rw [List.getElem_map] at ea eb;rw [Go] at hi hj;have il:ix.length=keys.length:=by rw [hp.length_eq,fJ]
  have g:∀i (h:i<ix.length) k,kf (xs.getD ix[i] .non)=some k->keys.getD (ix.getD i 0) []=k:=λi h k e=>by
   have hm:ix[i]<keys.length:=d8.mp (hp.mem_iff.mp (dX h));have c:ix[i]<xs.length:=by rw [← b]; exact hm
   obtain⟨k',e1,e2⟩:=d ix[i] xs[ix[i]] (No c);have e3:xs.getD ix[i] .non=xs[ix[i]]:=by rw [dW,No c]; rfl
   rw [e3,e2] at e;have e4:ix.getD i 0=ix[i]:=by rw [dW,No h]; rfl
   rw [e4,dW,e1];exact cv e
  have:=f i j (jG a) (by rw [← il]; exact hj)
  rw [g i hi ka ea,g j hj kb eb] at this;exact this
theorem Hj{kf:D->Option (List Key)}:∀{xs:List D},(∀x∈xs,∃k,kf x=some k/\k≠[])->∃keys:List (List Key),keys.length=xs.length/\(∀(i:Nat) (x:D),xs[i]?=some x->∃k,keys[i]?=some k/\kf x=some k/\k≠[])
 | [],_=>⟨[],rfl,λi x e=>by simp at e⟩
 | x::xs,h=>by
  obtain⟨k,e1,e2⟩:=h x Op;obtain⟨keys,l,g⟩:=Hj (xs:=xs) λy hy=>h y (Re _ hy);refine⟨k::keys,by simp_all,λi y e=>?_⟩;cases i with
  | zero =>
   simp_all
  | succ i =>
   simp_all
section
variable {K:Frag}{M:Addr->Prop}{H:Hp}
theorem Ats.getD:∀{ds:List D} {vs:List V},Ats K M H ds vs->∀i:Nat,At K M H (ds.getD i .non) (vs.getD i .non)
 | [],vs,h,i=>by cases (h); simp [At]
 | d::ds,vs,h,0=>by
  obtain⟨v,r,e,h1,h2⟩:=h
  grind
 | d::ds,vs,h,i+1=>by
  obtain⟨v,r,e,h1,h2⟩:=h;subst e
  simpa using Ats.getD h2 i
theorem Ats.pick{ds:List D}{vs:List V}(h:Ats K M H ds vs):∀ix:List Nat,Ats K M H (ix.map λi=>ds.getD i .non) (ix.map λi=>vs.getD i .non)
 | []=>rfl
 | i::ix=>⟨_,_,rfl,h.getD i,Ats.pick h ix⟩
theorem Ld{kf:D->Option (List Key)}{ds:List D}{vs:List V}{keys:List (List Key)}(c:∀d k v,d∈ds->kf d=some k->At K M H d v->∃a,v=.ref a/\SqT K H a (k.map kOf))(l:Ats K M H ds vs)(hK:Keyed kf ds)(m:keys.length=ds.length)(n:∀(i:Nat) (x:D),ds[i]?=some x->∃k,keys[i]?=some k/\kf x=some k/\k≠[]):KeysAt K H vs keys:=by
 have b:∀(i:Nat) (ns:List Key),keys[i]?=some ns->∃x,ds[i]?=some x/\kf x=some ns/\ns≠[]:=λi ns e=>by
  have hi:i<ds.length:=by rw [← m]; exact(cr.mp e).1
  obtain⟨k,e1,e2,e3⟩:=n i ds[i] (No hi);rw [e] at e1;cases e1;exact⟨ds[i],No hi,e2,e3⟩
 refine⟨l.length.trans m.symm,λi ns e=>?_,λx f y hy=>?_,λx f=>?_⟩
 ·obtain⟨d,e1,e2,_⟩:=b i ns e
  obtain⟨v,e3,h3⟩:=l.get e1;obtain⟨a,rfl,h4⟩:=c d ns v (dj e1) e2 h3;exact⟨a,e3,h4⟩
 ·obtain⟨i,hi⟩:=iB.mp f
  obtain⟨j,hj⟩:=iB.mp hy;obtain⟨d,e1,e2,_⟩:=b i x hi;obtain⟨d',g,h,_⟩:=b j y hj;exact hK.2 d (dj e1) d' (dj g) x y e2 h
 ·obtain⟨i,hi⟩:=iB.mp f
  obtain⟨d,e1,e2,e3⟩:=b i x hi;exact e3
theorem Le{d:D}{k:List Key}{v:V}(e:D8 d=some k)(h:At K M H d v):∃a,v=.ref a/\SqT K H a (k.map kOf):=by
 cases d with
 | tup xs =>
  obtain⟨a,vs,e1,hn,b⟩:=h
  have:=G3 (e) b
  subst this;exact⟨a,e1,hn.sq⟩
 | _=>cases e
def Hk(ds:List D)(P:D->Prop):Prop:=∃d xs,ds=[d]/\IU d=some xs/\xs.length<64/\Keyed D8 xs/\∀a:List D,a.Perm xs->HH D8 a->P (.lst a)
theorem RI:Ft K .fr (T5 K) Hk:=by
 intro U M H ds vs P Q j vM hp w q;obtain⟨d,xs,rfl,e,c,hK,w⟩:=w;obtain⟨v,rfl,m⟩:=Ew hp;obtain⟨κ,a,us,rfl,f,sq⟩:=MG m e (λ_ z=>z) vM;obtain⟨keys,g,h⟩:=Hj hK.1;refine⟨κ,a,us,_,rfl,sq M H (Pres.refl _ _) (Ext.refl _ _),by rw [f.length]; exact c,Ld (λd k v _=>Le) f hK g h,λix l ho hn=>?_⟩;obtain⟨o1,o2⟩:=Qt (kf:=D8) g (λi x e=>by obtain⟨k,a,b,_⟩:=h i x e; simp_all) ho;exact q _ _ _ (A1 hn) (Cy hn (f.pick ix)) (w _ o1 o2)
end
section
variable {X:Cx}{a e:Expr}{zR:Kd}{wa:DW}{pos p fp kp:Pos}
def TB(W:W2)(wa:DW):DW:=λn ρ P=>wa n ρ λd n1=>∃(xs:List D) (rk:D->D),IU d=some xs/\xs.length<64/\(∀x∈xs,∀Pd:D->Nat->Prop,Pd (rk x) n1->W [.sh x] n1 Pd)/\Keyed (λx=>D8 (rk x)) xs /\
 ∀a:List D,a.Perm xs->HH (λx=>D8 (rk x)) a->P (.lst a) n1
theorem U_{k:Nat}{fn pn:Str}{W:W2}(G:Got X.prog X.w X.K X.mg X.base fn k [pn] .sh W)(hr:Room (k+2) X.A)(hg:Gl X "sorted")(hm:X.mg "sorted"=none)(I:Gl X fn)(he:DE X e zR wa)
  (u:starEach [e] X.env=[(false,eval e X.env)]:=by rfl) (J:(fn==("__debug__":Str))=false:=by decide):DE X (.Call (.Name "sorted" p) [e] [⟨some "key",.Name fn fp,kp⟩] pos) .fr (TB W wa):=by
 obtain⟨f,fd,F,L,a1,hb,hW⟩:=G;obtain⟨t,h1,h2⟩:=he;refine⟨_,UN F hr hg hm I L hb h1 u J,λC M H n ρ σ P Q R w q=>?_⟩;refine h2 C M H n ρ σ _ _ R w λv H1 d n1 e1 f1 r1 p=>?_;obtain⟨xs,rk,hd,N,hw,hK,w⟩:=p;have R1:=R.step e1 f1;obtain⟨κ,l,us,rfl,u,sq⟩:=MG (U:=C.U) (r1.tpOf R.dom R.vM) hd R.uV R1.vM;obtain⟨keys,hl,hk⟩:=Hj hK.1;have j:=u.length;refine⟨κ,l,us,keys,λks H2=>Ext C.U H1 H2/\FeedC X.K C.F M H2 n1/\ks.length<=xs.length/\∀(i:Nat) (k:V),ks[i]?=some k->∃x,xs[i]?=some x/\At X.K M H2 (rk x) k,rfl,sq M H1 (Pres.refl _ _) (Ext.refl _ _),by rw [j]; exact N,⟨Ext.refl _ _,f1,TM _,λi k z=>absurd (show (none:Option V)=some k from z) (λh=>nomatch h)⟩,λks H2 v hJ hv=>?_,λks H2 hJ O=>?_⟩
 ·obtain⟨ex,m,S,o⟩:=hJ
  have R2':=R1.step ex m;have hi:ks.length<xs.length:=by rw [← j]; exact(cr.mp hv).1
  have B:xs[ks.length]?=some xs[ks.length]:=No hi;obtain⟨v',e2,hA⟩:=(u.pres (R1.pres ex)).get B;rw [hv] at e2;cases e2;refine⟨rfl,C.F,C.U,C.V,M,n1,[.sh xs[ks.length]],λd n=>d=rk xs[ks.length]/\n=n1,⟨R2'.dom,R2'.fU,R2'.uV,R2'.vM,m,.cons ⟨⟨v,rfl,hA⟩,rfl⟩ .nil⟩,hw _ (dX hi) _ ⟨rfl,rfl⟩,λr H3 d n' E f3 vr hd=>?_⟩;obtain⟨rfl,rfl⟩:=hd;refine⟨ex.trans E,f3,by rw [XV,dB]; omega,λi k c=>?_⟩
  by_cases T:i<ks.length
  ·rw [fk T] at c
   obtain⟨x,h3,h4⟩:=o i k c;exact⟨x,h3,h4.pres (R2'.pres E)⟩
  ·rw [eB (by omega)] at c
   have Y:i=ks.length:=by
    have:=(cr.mp c).1
    rw [dB] at this;omega
   subst Y;rw [Nat.sub_self] at c;cases (show some r=some k from c);exact⟨_,B,vr⟩
 ·obtain⟨ex,m,S,o⟩:=hJ
  have R2':=R1.step ex m;have Z:ks.length=xs.length:=by rw [O,j]
  have a0:Ats X.K M H2 (xs.map rk) ks:=by
   have go:∀(xs:List D) (ks:List V),ks.length=xs.length->(∀(i:Nat) (k:V),ks[i]?=some k->∃x,xs[i]?=some x/\At X.K M H2 (rk x) k)->Ats X.K M H2 (xs.map rk) ks:=by
    intro xs
    induction xs with
    | nil=>intro ks h _; exact f_.mp h
    | cons x xs ih =>
     intro ks h hh;cases ks with
     | nil=>cases h
     | cons k ks =>
      obtain⟨x',e3,h3⟩:=hh 0 k rfl;cases (show some x=some x' from e3)
      exact⟨k,ks,rfl,h3,ih ks (by simpa using h) λi k' e4=>by
       obtain⟨y,e5,h5⟩:=hh (i+1) k' (by simpa using e4);exact⟨y,by simpa using e5,h5⟩⟩
   exact go xs ks Z o
  have hK2:Keyed D8 (xs.map rk):=by
   refine⟨λy hy=>?_,λy hy z hz ka kb ea eb=>?_⟩
   ·obtain⟨x,hx,rfl⟩:=Rs.mp hy
    exact hK.1 x hx
   ·obtain⟨x,hx,rfl⟩:=Rs.mp hy
    obtain⟨x',s,rfl⟩:=Rs.mp hz;exact hK.2 x hx x' s ka kb ea eb
  refine⟨Ld (λd k v _=>Le) a0 hK2 (by rw [hl,Go]) λi x e=>?_,λix l ho hn=>?_⟩
  ·rw [dR] at e
   obtain⟨x',s,rfl⟩:=fS.mp e;exact hk i x' s
  ·obtain⟨o1,o2⟩:=Qt (kf:=λx=>D8 (rk x)) hl (λi x e=>by obtain⟨k,a,b,_⟩:=hk i x e; exact⟨k,a,b⟩) ho
   have g:Grow H2 (A4 H2 l (.lst (ix.map λi=>us.getD i .non))):=A1 hn;refine q _ _ (.lst (ix.map λi=>xs.getD i .non)) n1 ((e1.trans ex).trans g.ext) (m.grow g) (VR.back (e1.trans ex) ?_) (w _ o1 o2);exact Cy hn ((u.pres (R1.pres ex)).pick ix)
def XX:Key->D
 | .inl i=>.int i
 | .inr x=>.str x
def Qz:Key->Prop
 | .inl _=>True
 | .inr x=>x.length<=sizeLine
theorem Yq{K:Frag}{M:Ch->Prop}{H:Hp}{k:Key}(h:Qz k):At K M H (XX k) (kOf k):=by
 cases k with
 | inl i=>exact rfl
 | inr x=>exact⟨rfl,h⟩
end
end Dp
namespace L2
end L2
namespace Dp
open L2
def L9(c:HI)(wb:Aj):Aj:=λD2 n ρ=>∃W:Nat->Nat->List Slot->Prop,(∃m,W m n ρ)/\∀m n ρ,W m n ρ ->
 c n ρ λb n1=>if b=true then ∃N:Nat->List Slot->Prop,(∀n' zY,N n' zY->∃m',m'<m/\W m' n' zY)/\wb { D2 with nx:=N,ct:=N,bk:=D2.nx } n1 ρ else D2.nx n1 ρ
section
variable {X:Cx}{κ:Kd}{c:Expr}{body:List Stmt}{wc:HI}{wb:Aj}{pos:Pos}
theorem Ol(hp:iA (model X.prog X.w) X.A X.env X.xe)(a:DT X c wc)(d:QR X κ body wb):DS X κ (.While c body [] pos) (L9 wc wb):=by
 obtain⟨tc,c1,c2⟩:=a;obtain⟨tb,b1,b2⟩:=d;refine⟨_,UE hp c1 b1,λC M H n ρ σ D2 E R L w=>?_⟩;obtain⟨W,⟨m0,w0⟩,turn⟩:=w;refine⟨λm zZ H'=>∃M' n' zY,Rel X.K C M' H' n' zY zZ/\W m n' zY,⟨m0,M,n,ρ,R,w0⟩,?_⟩;rintro m zZ H' ⟨M',n',zY,R',w'⟩;refine c2 C M' H' n' zY zZ _ _ R' (turn m n' zY w') λb H2 n2 e f p=>?_;have R2:=R'.step e f;cases b with
 | true =>
  rw [if_pos rfl] at p ⊢;obtain⟨N,hN,p⟩:=p;refine⟨λzV H3=>∃M3 n3 zP,Rel X.K C M3 H3 n3 zP zV/\N n3 zP,λzV H3 ⟨M3,n3,zP,R3,w3⟩=>?_,?_⟩
  ·obtain⟨m',hm,w4⟩:=hN n3 zP w3
   exact⟨m',hm,M3,n3,zP,R3,w4⟩
  ·exact b2 C M' H2 n2 zY zZ { D2 with nx:=N,ct:=N,bk:=D2.nx } _ R2 ⟨λM4 H4 n4 zS zQ R4 w4=>⟨M4,n4,zS,R4,w4⟩,L.rt,λM4 H4 n4 zS zQ R4 w4=>L.nx M4 H4 n4 zS zQ R4 w4,λM4 H4 n4 zS zQ R4 w4=>⟨M4,n4,zS,R4,w4⟩⟩ p
 | false =>
  rw [if_neg (by decide)] at p ⊢;exact L.nx M' H2 n2 zY zZ R2 p
theorem Rb{D2:E2}{n:Nat}{ρ:List Slot}(I:Nat->Nat->List Slot->Prop)(m0:Nat)(h0:I m0 n ρ)
  (a:∀m n ρ (N:Nat->List Slot->Prop),I m n ρ->(∀m' n' zY,m'<m->I m' n' zY->N n' zY)->wc n ρ λb n1=>if b=true then wb { D2 with nx:=N,ct:=N,bk:=D2.nx } n1 ρ else D2.nx n1 ρ)
  (mono:∀n ρ (P Q:Bool->Nat->Prop),(∀b n1,P b n1->Q b n1)->wc n ρ P->wc n ρ Q):L9 wc wb D2 n ρ:=by
 refine⟨I,⟨m0,h0⟩,λm n ρ h=>?_⟩;refine mono n ρ _ _ (λb n1 p=>?_) (a m n ρ (λn' zY=>∃m',m'<m/\I m' n' _) h λm' n' zY hm hi=>⟨m',hm,hi⟩);cases b with
 | true=>exact⟨_,λ_ _ z=>z,p⟩
 | false=>exact p
end
end Dp
namespace L2
open PySem.W
end L2
namespace Dp
open L2
end Dp
namespace Nt
open L2 Dp
def JG:W2:=λss n P=>∃m:Nat,ss=[.fd,.sh (.int m)]/\1<=m/\m<=26/\11<=n/\∀(xs:List Str) (n':Nat),xs.length=m->(∀x∈xs,D9 x)->rising xs->n - 11<=n'->P (.lst (xs.map .str)) n'
def words:List Str:=["a","aa","ab","b","far","in","near","out","place","tie","ties","way"]
def wordAt(i:Nat):Str:=words.getD i "a"
theorem PL:∀i,i<12->D9 (wordAt i):=by
 have h:∀i∈dD 12,1<=(wordAt i).length/\(wordAt i).length<=8/\∀c∈cs (wordAt i),97<=c/\c<=122:=by decide +kernel
 exact λi hi=>h i (d8.mpr hi)
theorem RY:∀i j,i<12->j<12->wordAt i=wordAt j->i=j:=by
 have h:∀i∈dD 12,∀j∈dD 12,cs (wordAt i)=cs (wordAt j)->i=j:=by decide +kernel
 exact λi j hi hj e=>h i (d8.mpr hi) j (d8.mpr hj) (congrArg cs e)
def letters:Str := "abcdefghijklmnopqrstuvwxyz"
theorem Jy(i:Nat)(h:i<26):(cs letters)[i]?=some (97+i):=by
 have h2:∀i∈dD 26,(cs letters)[i]?=some (97+i):=by decide +kernel
 simp_all
theorem Hc{α β:Type}{f:α->β}:∀{l:List α},l.Nodup->(∀a∈l,∀b∈l,f a=f b->a=b)->(l.map f).Nodup
 | [],_,_=>e6
 | a::l,h,hf=>by
  rw [dM] at h;rw [dG,dM];refine⟨λhm=>?_,Hc h.2 λx d y hy=>hf x (Re _ d) y (Re _ hy)⟩;obtain⟨b,c,e⟩:=Rs.mp hm;exact h.1 (hf a Op b (Re _ c) e.symm▸c)
theorem V3{f m j k:Nat}{M:Nat}(hM:m<=M)(hj:j<m)(c:k<m)(e:(f+j) % M=(f+k) % M):j=k:=by
 have h:∀a b,a<=b->b<m->(f+a) % M=(f+b) % M->a=b:=λa b h1 h2 e=>by
  have:=Nat.sub_mod_eq_zero_of_mod_eq e.symm
  rw [Nat.mod_eq_of_lt (by omega)] at this;omega
 rcases Nat.le_total j k with h1 | h1
 ·grind
 grind
theorem HA(ss:List Str):O8 (ss.map .str)=some ss:=by
 induction ss with
 | nil=>rfl
 | cons y r ih =>
  rw [dG];unfold O8
  grind
theorem V8:∀(zs:List Str),cs (Txt.join (dk "") zs)=zs.flatMap cs:=by
 intro zs;show cs (Builtin.Str.glued _ zs)=_;rw [StrLaws.glued_eq_join]
 induction zs with
 | nil=>rfl
 | cons x r ih =>
  cases r with
  | nil=>rw [g0,List.flatMap_nil,dS]; rfl
  | cons y r =>
   show cs (x++dk ""++Str.join _ _)=_;rw [Cs,Cs,ih];show cs x++[]++_=_
   grind
theorem UY{zs:List Str}(h:∀z∈zs,z.length=1):(zs.flatMap cs).length=zs.length:=by
 induction zs with
 | nil=>rfl
 | cons x r ih =>
  rw [g0,XV,ih λz a=>h z (Re _ a),DY,h x Op,ZB];omega
theorem Nl:∀(ys:List Str),(∀y∈ys,y.length=1)->(ys.map (·.length)).sum=ys.length
 | [],_=>rfl
 | y::r,h=>by
  rw [dG,jm,Nl r λz a=>h z (Re _ a),h y Op,ZB];omega
theorem drawn{P:List D->Nat->Prop}{m n:Nat}{s:Slot}(hn:m<=n)(h:∀zs:List Str,zs.length=m->(∀z∈zs,z.length=1/\∀c∈cs z,97<=c/\c<=122)->P (zs.map .str) (n - m)) :
  Ci (Af 2) CW (AU A8 (AB 0) (AZ BA (AE (Aw 1) (AE (AI (wC (D.int 26))) AY)))) P (Cu 0 m) [] n [.sh (.str letters),.fd,s]:=by
 refine LY (λk n' b ρ=>k<=m/\n'=n - (m - k)/\(∃zs:List Str,b=zs.map .str/\zs.length=m - k/\∀z∈zs,z.length=1/\∀c∈cs z,97<=c/\c<=122)/\∃s,ρ=[.sh (.str letters),.fd,s]) ?_ ?_ _ _ _ _ ?_
 ·grind
 ·rintro k d n' b ρ nx ⟨i,rfl,⟨zs,rfl,j,f⟩,s,rfl⟩ e
  refine⟨26,rfl,by decide,by decide,by omega,λr h0 h1=>?_⟩;obtain⟨q,rfl⟩:∃q:Nat,r=(q:Int):=⟨r.toNat,by omega⟩;have hq:q<26:=by omega
  refine⟨97+q,AO (Jy q hq),e _ _ _ ⟨by omega,by omega,⟨zs++[⟨#[97+q]⟩],by rw [de]; rfl,by grind,λz a=>?_⟩,_,rfl⟩⟩
  rcases cu.mp a with a | a
  ·exact f z a
  ·rw [Tk.mp a]
   refine⟨rfl,λc g=>?_⟩
   have:c=97+q:=by simpa [cs] using g
   omega
 ·rw [By]
  simp_all
theorem S5(i:Nat)(h:i<12):words[i]?=some (wordAt i):=by
 have a:i<words.length:=h;unfold wordAt
 simp_all
theorem EO{b:BW}{body:Aj}{D2:E2}{all:List D}(I:List D->Nat->List Slot->Prop)(c:∀n ρ,I all n ρ->D2.nx n ρ)
  (a:∀(pre:List D) (d:D) (post:List D) (n:Nat) (ρ:List Slot) (nx:Nat->List Slot->Prop),all=pre++d::post->I pre n ρ->(∀n' zY,I (pre++[d]) n' zY->nx n' zY)->b d ρ λzU=>body { D2 with nx:=nx,ct:=nx,bk:=D2.nx } n zU) :
  ∀(ds pre:List D) (n:Nat) (ρ:List Slot),all=pre++ds->I pre n ρ->Bm b body D2 ds n ρ
 | [],pre,n,ρ,e,h=>by
  rw [dS] at e;subst e;exact c n ρ h
 | d::ds,pre,n,ρ,e,h=>a _ d ds n ρ _ e h λn' zY h'=>EO I c a ds _ n' _ (by grind) h'
theorem Iq{lo:Int}{n:Nat}{pre post:List D}{d:D}(h:Cu lo n=pre++d::post):d=.int (lo+(pre.length:Int))/\pre.length<n:=by
 have a:=congrArg fo h;rw [By] at a;have e:(Cu lo n)[pre.length]?=some d:=by grind
 unfold Cu at e
 simp_all
theorem Z7{r:Int}(h:r=0\/r=1):MulOk "z" r/\(Txt.mul "z" r).length<=1/\∀c∈cs (Txt.mul "z" r),97<=c/\c<=122:=by
 rcases h with rfl | rfl
 ·exact⟨⟨rfl,⟨λh=>absurd (by decide) h,λh=>absurd (by decide) h⟩⟩,by decide,by decide⟩
 ·exact⟨⟨rfl,⟨λ_ h=>absurd h (by decide),λ_ h=>absurd h (by decide)⟩⟩,by decide,by decide⟩
def nameAt(x:Str)(a f k:Nat):Str:=Txt.slice x none (some (a:Int))++⟨#[97+(f+k) % 26]⟩++Txt.slice x (some ((a:Int)+1)) (some 7)++Txt.mul "z" ((k:Int) % 2)
theorem Hd{x:Str}{a f k:Nat}(b:x.length=8)(ha:a<7):cs (nameAt x a f k)=(cs x).take a++(97+(f+k) % 26)::(((cs x).drop (a+1)).take (6 - a)++cs (Txt.mul "z" ((k:Int) % 2))):=by
 unfold nameAt;rw [Cs,Cs,Cs,XY (by omega) (by omega),Yt (by omega) (by omega) (by omega)];have e3:(7 - ((a:Int)+1)).toNat=6 - a:=by omega
 rw [e3,eR,eR];rfl
theorem OK{x:Str}{a f k:Nat}(b:x.length=8)(i:∀c∈cs x,97<=c/\c<=122)(ha:a<7):D9 (nameAt x a f k):=by
 have e:=Hd (f:=f) (k:=k) b ha;obtain⟨_,d,g⟩:=Z7 (r:=k % 2) (by omega)
 have j:(nameAt x a f k).length=7+(Txt.mul "z" (k % 2)).length:=by
  rw [← DY,e,XV,ZB,XV,eg,eg,fu,DY,DY];omega
 refine⟨by omega,by omega,λc h=>?_⟩
 grind
theorem P4{x:Str}{a f m j k:Nat}(b:x.length=8)(ha:a<7)(hm:m<=26)(hj:j<m)(d:k<m)(e:nameAt x a f j=nameAt x a f k):j=k:=by
 have e1:=congrArg cs e;rw [Hd b ha,Hd b ha] at e1;have c:((cs x).take a).length=a:=by rw [eg,DY]; omega
 have e2:=congrArg (λl=>l[a]?) e1;rw [eB (by omega),eB (by omega),c] at e2
 grind
theorem Ru{ss:List Slot}{n:Nat}{Pd:D->Nat->Prop}(h:JG ss n Pd):GC { nx:=λn _=>Kd.fr=.sh/\Pd .non n,rt:=Pd } n (ss++Uf 9 .no):=by
 obtain⟨m,rfl,P,I,hn,p⟩:=h;unfold GC;refine⟨3,rfl,by decide,by decide,by omega,λway Q R=>⟨(by decide:12<=sizeLine),?_⟩⟩;have last:∀(n':Nat),n - 1<=n'->(Ac (Az 5 (wC (D.str "abcdefghijklmnopqrstuvwxyz")))
 (Ac (Az 6 (bD "str" Ux (wC (D.str "")) (AF (BR [some 5,some 0,none] (EJ (AF (wC (D.int 8)) AT)) (Af 2) CW (AU A8 (AB 0) (AZ BA (AE (Aw 1) (AE (AI (wC (D.int 26))) AY))))) AT)))
 (Ac (BG (Gk (AR (AU (D_ false) (AB 2) (wC (D.int 1)))) (AR (AU EV (AB 1) (wC (D.int 9))))) (Au (BR [some 6,none] (EJ (AF (AB 1) AT)) (Af 1) CW (F5 CJ (AB 0) A6 (BK (AU Aq (wC (D.int 1)) (AB 1)))))) Av)
 (Ac (Az 7 (AZ BA (AE (Aw 0) (AE (AI (wC (D.int 7))) AY))))
 (Ac (Az 4 (AZ BA (AE (Aw 0) (AE (AI (wC (D.int 26))) AY))))
 (Ac (EI 8 (DA AT))
 (Ac (E6 (EJ (AF (AB 1) AT)) (Af 9) (Ac (Az 10 (AU A8 (AB 5) (AU (PK (λ_ j=>0<j) λi j=>D.int (i % j)) (AU Aq (AB 4) (AB 9)) (wC (D.int 26)))))
 (TF 8 "list" KH (AF (AU Aq (AU Aq (AU Aq (F5 CJ (AB 6) A6 (BK (AB 7))) (AB 10)) (F5 CJ (AB 6) (BK (AU Aq (AB 7) (wC (D.int 1)))) (BK (wC (D.int 7))))) (AU C8 (wC (D.str "z")) (AU (PK (λ_ j=>0<j) λi j=>D.int (i % j)) (AB 9) (wC (D.int 2))))) AT))))
 (Au (B8 KG (AF (BE 8) AT)))))))))) { nx:=λn _=>Kd.fr=.sh/\Pd .non n,rt:=Pd } n' [.fd,.sh (.int m),.sh (.int way),.sh (.lst (words.map .str)),.no,.no,.no,.no,.no,.no,.no]:=by
  intro n' S;refine⟨rfl,8,rfl,⟨by decide,by decide⟩,by rw [By]; decide,?_⟩;refine drawn (m:=8) (by omega) λzs B C=>?_;have o:∀z∈zs,z.length=1:=λz J=>(C z J).1;have hj:=V8 zs;have l:(Txt.join (dk "") zs).length=8:=by rw [← DY,hj,UY o,B]
  have A:∀c∈cs (Txt.join (dk "") zs),97<=c/\c<=122:=λc A=>by
   rw [hj] at A;obtain⟨z,J,K⟩:=f6.mp A;exact(C z J).2 c K
  refine⟨_,_,zs,rfl,rfl,HA zs,by rw [Nl zs o,show (dk "").length=0 from rfl]; omega,by omega,?_⟩;generalize Txt.join (dk "") zs=x at l A;have E:(cs x).length=8:=by rw [DY,l]
  have tail:∀(n2:Nat),n' - 8<=n2->(Ac (Az 7 (AZ BA (AE (Aw 0) (AE (AI (wC (D.int 7))) AY))))
 (Ac (Az 4 (AZ BA (AE (Aw 0) (AE (AI (wC (D.int 26))) AY))))
 (Ac (EI 8 (DA AT))
 (Ac (E6 (EJ (AF (AB 1) AT)) (Af 9) (Ac (Az 10 (AU A8 (AB 5) (AU (PK (λ_ j=>0<j) λi j=>D.int (i % j)) (AU Aq (AB 4) (AB 9)) (wC (D.int 26)))))
 (TF 8 "list" KH (AF (AU Aq (AU Aq (AU Aq (F5 CJ (AB 6) A6 (BK (AB 7))) (AB 10)) (F5 CJ (AB 6) (BK (AU Aq (AB 7) (wC (D.int 1)))) (BK (wC (D.int 7))))) (AU C8 (wC (D.str "z")) (AU (PK (λ_ j=>0<j) λi j=>D.int (i % j)) (AB 9) (wC (D.int 2))))) AT))))
 (Au (B8 KG (AF (BE 8) AT))))))) { nx:=λn _=>Kd.fr=.sh/\Pd .non n,rt:=Pd } n2 [.fd,.sh (.int m),.sh (.int way),.sh (.lst (words.map .str)),.no,.sh (.str letters),.sh (.str x),.no,.no,.no,.no]:=by
   intro n2 T;refine⟨7,rfl,by decide,by decide,by omega,λa U V=>⟨26,rfl,by decide,by decide,by omega,λfirst W X=>⟨(by decide:0<=sizeLine),(m:Int),rfl,⟨by omega,by omega⟩,?_⟩⟩⟩;obtain⟨a,rfl⟩:∃q:Nat,a=(q:Int):=⟨a.toNat,by omega⟩;obtain⟨f,rfl⟩:∃q:Nat,first=(q:Int):=⟨first.toNat,by omega⟩
   have F:a<7:=by omega
   refine EO (all:=Cu 0 ((m:Int)).toNat) (λpre n3 ρ=>n3=n2 - 1 - 1/\∃s9 t,ρ=[.fd,.sh (.int m),.sh (.int way),.sh (.lst (words.map .str)),.sh (.int f),.sh (.str letters),.sh (.str x),.sh (.int a),.ow (.lst (((dD pre.length).map λk=>nameAt x a f k).map .str)),s9,t]) ?_ ?_ _ [] _ _ rfl ⟨rfl,_,_,rfl⟩
   ·rintro n3 ρ ⟨rfl,s9,t,rfl⟩
    have el:(Cu 0 ((m:Int)).toNat).length=m:=by rw [By]; omega
    refine⟨_,_,rfl,HA _,by rw [Go,fJ,el]; omega,λu hp L=>p u _ ?_ ?_ ?_ (by omega)⟩
    ·rw [hp.length_eq,Go,fJ,el]
    ·intro y hy
     obtain⟨k,_,rfl⟩:=Rs.mp (hp.mem_iff.mp hy);exact OK l A F
    ·refine F6 L (hp.nodup_iff.mpr (Hc List.nodup_range λj hj k b e=>?_))
     rw [el] at hj b;exact P4 l F I (d8.mp hj) (d8.mp b) e
   ·rintro pre d post n3 ρ nx G ⟨rfl,s9,t,rfl⟩ v
    obtain⟨rfl,b⟩:=Iq G;have H:(pre++[D.int (0+(pre.length:Int))]).length=pre.length+1:=by rw [XV,dB]
    rw [H] at v;generalize pre.length=k at b v ⊢;have w:(f+k) % 26<26:=jD _ (by decide);have ei:((f:Int)+(0+(k:Int))) % 26=(((f+k) % 26:Nat):Int):=by omega
    have ek:(0+(k:Int)) % 2=(k:Int) % 2:=by omega
    obtain⟨N,B,_⟩:=Z7 (r:=(0+(k:Int)) % 2) (by omega);have l1:=Txt.slice_le x none (some (a:Int));have l2:=Txt.slice_le x (some ((a:Int)+1)) (some 7);have la:=i_ (Txt.slice x none (some (a:Int))) ⟨#[97+(f+k) % 26]⟩;have lb:=i_ (Txt.slice x none (some (a:Int))++⟨#[97+(f+k) % 26]⟩) (Txt.slice x (some ((a:Int)+1)) (some 7));have ls:(⟨#[97+(f+k) % 26]⟩:Str).length=1:=rfl;have Y:=PySem.sizeLine_eq;refine⟨by show (0:Int)<26; decide,97+(f+k) % 26,by rw [ei]; exact AO (Jy _ w),?_⟩;refine⟨_,rfl,rfl,by omega,by omega,by show (0:Int)<2; decide,N,by omega,by omega,?_⟩;refine⟨_,_,rfl,rfl,by rw [Go,Go,fJ]; omega,v _ _ ⟨rfl,.sh (.int (0+(k:Int))),.sh (.str ⟨#[97+(f+k) % 26]⟩),?_⟩⟩;rw [ek,List.range_succ,de,de];rfl
  refine B3 (λc1=>B3 (λc2=>?_) λc2=>tail _ (On _)) λc1=>B3 (λc2=>absurd c2 (by decide)) λ_=>tail _ (On _)
  have Z:m<9:=by
   have:(m:Int)<9:=of_decide_eq_true c2
   omega
  refine⟨(m:Int),rfl,⟨by omega,by omega⟩,by rw [By]; omega,?_⟩;refine GX (g:=λd=>match d with | .int k=>.str (Txt.slice x none (some (1+k))) | _=>.non) (λρ=>∃s,ρ=[.sh (.str x),s]) ?_ _ _ _ _ ?_ ⟨_,rfl⟩ ?_
  ·rintro d ρ ⟨s,rfl⟩
   exact⟨_,rfl⟩
  ·rintro d hd ρ n' P' ⟨s,rfl⟩ hp
   obtain⟨k,b,rfl⟩:=Jc hd;exact hp
  ·have e:[]++(Cu 0 ((m:Int)).toNat).map (λd=>match d with | .int k=>D.str (Txt.slice x none (some (1+k))) | _=>.non)=((dD m).map λk:Nat=>Txt.slice x none (some (1+(k:Int)))).map .str:=by
    unfold Cu;rw [cy,fA,fA,gH];refine iW λk _=>?_
    have:(0+(k:Int))=k:=by omega
    simp only [Function.comp,this]
   have ct:∀k:Nat,k<m->cs (Txt.slice x none (some (1+(k:Int))))=(cs x).take (1+k):=λk b=>by
    rw [XY (by omega) (by omega),show (1+(k:Int)).toNat=1+k by omega]
   rw [e];refine p _ _ (by rw [Go,fJ]) ?_ ?_ (by omega)
   ·intro y hy
    obtain⟨k,b,rfl⟩:=Rs.mp hy;have b:=d8.mp b
    have hl:(Txt.slice x none (some (1+(k:Int)))).length=1+k:=by
     rw [← DY,ct k b,eg,E]; omega
    exact⟨by omega,by omega,λc h=>A c (iR (by rw [← ct k b]; exact h))⟩
   ·unfold rising
    rw [fK];refine jS ?_ List.pairwise_lt_range;intro i j hi hj a0;rw [ct i (d8.mp hi),ct j (d8.mp hj)];exact Qa _ _ _ (by omega) (by rw [E]; have:=d8.mp hj; omega)
 refine B3 (λc1=>B3 (λc2=>?_) λc2=>last _ (On _)) λc1=>B3 (λc2=>absurd c2 (by decide)) λ_=>last _ (On _)
 have O:m<13:=by
  have:(m:Int)<13:=of_decide_eq_true c2
  omega
 refine⟨12,rfl,by decide,by decide,by omega,λfirst h0 h1=>?_⟩;obtain⟨f,rfl⟩:∃f:Nat,first=(f:Int):=⟨first.toNat,by omega⟩
 refine⟨(m:Int),rfl,⟨by omega,by omega⟩,by rw [By]; omega,?_⟩;refine GX (g:=λd=>match d with | .int k=>.str (wordAt ((f+k.toNat) % 12)) | _=>.non) (λρ=>∃s,ρ=[.sh (.lst (words.map .str)),.sh (.int f),s]) ?_ _ _ _ _ ?_ ⟨_,rfl⟩ ?_
 ·rintro d ρ ⟨s,rfl⟩
  exact⟨_,rfl⟩
 ·rintro d hd ρ n' P' ⟨s,rfl⟩ hp
  obtain⟨k,b,rfl⟩:=Jc hd;refine⟨by show (0:Int)<12; decide,D.str (wordAt ((f+k) % 12)),?_,?_⟩
  ·have w:(f+k) % 12<12:=jD _ (by decide)
   have ei:((f:Int)+(0+(k:Int))) % 12=(((f+k) % 12:Nat):Int):=by omega
   rw [ei];exact AO (by rw [dR,S5 _ w]; rfl)
  ·have e:(0+(k:Int)).toNat=k:=by omega
   simp only [e] at hp;exact hp
 ·have e:[]++(Cu 0 ((m:Int)).toNat).map (λd=>match d with | .int k=>D.str (wordAt ((f+k.toNat) % 12)) | _=>.non)=((dD m).map λk=>wordAt ((f+k) % 12)).map .str:=by
   unfold Cu;rw [cy,fA,fA,gH];refine iW λk _=>?_
   have:(0+(k:Int)).toNat=k:=by omega
   simp only [Function.comp,this]
  refine⟨_,(dD m).map λk=>wordAt ((f+k) % 12),rfl,by rw [e]; exact HA _,by rw [Go,fJ]; omega,λu hp L=>p u _ ?_ ?_ ?_ (by omega)⟩
  ·rw [hp.length_eq,Go,fJ]
  ·intro x hx
   obtain⟨k,_,rfl⟩:=Rs.mp (hp.mem_iff.mp hx);exact PL _ (jD _ (by decide))
  ·refine F6 L (hp.nodup_iff.mpr (Hc List.nodup_range λj hj k b e=>?_))
   exact V3 (M:=12) (by omega) (d8.mp hj) (d8.mp b) (RY _ _ (jD _ (by decide)) (jD _ (by decide)) e)
structure BP where
 a:Str
 b:Str
 len:Int
structure Net where
 ps:List Str
 ts:List BP
def Aa(t:BP):D:=.tup [.str t.a,.str t.b,.int t.len]
def enc(N:Net):D:=.tup [.tup (N.ps.map .str),.tup (N.ts.map Aa)]
def Bw(s t:BP):Prop:=cs s.a<cs t.a\/(s.a=t.a/\cs s.b<cs t.b)
structure Net.Ok (N:Net):Prop where
 names:∀x∈N.ps,D9 x
 rise:rising N.ps
 tin:∀t∈N.ts,t.a∈N.ps/\t.b∈N.ps/\cs t.a<cs t.b/\1<=t.len/\t.len<=1000000
 trise:N.ts.Pairwise Bw
def Wj:W2:=λss n P=>∃most a:Nat,ss=[.fd,.sh (.int most),.sh (.int a)]/\1<=most/\most<=26/\1500<=n/\∀(N:Net) (n':Nat),N.Ok->1<=N.ps.length->N.ps.length<=most->N.ts.length<=a->n - 1500<=n'->P (enc N) n'
def Kc:Aj:=(Ac (Az 3 (AZ JG (AE (Aw 0) (AE (AI (AU Aq (wC (D.int 1)) (AZ BA (AE (Aw 0) (AE (AI (AB 1)) AY))))) AY))))
 (Ac (Az 4 (AU Aq (wC (D.int 1)) (AZ BA (AE (Aw 0) (AE (AI (wC (D.int 3))) AY)))))
 (Ac (Az 5 (AZ BA (AE (Aw 0) (AE (AI (wC (D.int 4))) AY))))
 (Ac (EI 6 (DA AT))
 (Ac (E6 (EJ (AF (B8 Ce (AF (AB 3) AT)) AT)) (Af 7) (E6 (TC (AF (AU Aq (AB 7) (wC (D.int 1))) (AF (B8 Ce (AF (AB 3) AT)) AT))) (Af 8) (BG (Gk (AR (AU Sg (AZ BA (AE (Aw 0) (AE (AI (wC (D.int 4))) AY))) (AB 4))) (AR (AU EV (B8 Ce (AF (BE 6) AT)) (AB 2)))) (TF 6 "list" KH (AF (BN (AF (AU A8 (AB 3) (AB 7)) (AF (AU A8 (AB 3) (AB 8)) (AF (AZ Wl (AE (Aw 0) (AE (AI (AB 5)) AY))) AT)))) AT)) Av)))
 (Au (BN (AF (B8 B6 (AF (AB 3) AT)) (AF (B8 B6 (AF (BE 6) AT)) AT)))))))))
structure Ix where
 i:Nat
 j:Nat
 len:Int
def Ix.tie(xs:List Str)(t:Ix):BP:=⟨xs.getD t.i "",xs.getD t.j "",t.len⟩
def Yc(s t:Ix):Prop:=s.i<t.i\/(s.i=t.i/\s.j<t.j)
theorem getD_at{xs:List Str}{i:Nat}(h:i<xs.length):xs[i]?=some (xs.getD i ""):=by
 simp_all
theorem getD_mem{xs:List Str}{i:Nat}(h:i<xs.length):xs.getD i ""∈xs:=dj (getD_at h)
theorem MN{xs:List Str}(h:rising xs){i j:Nat}(a:i<j)(hj:j<xs.length):cs (xs.getD i "")<cs (xs.getD j ""):=by
 have h2:=jC.mp h i j (by omega) hj a;have e1:xs.getD i ""=xs[i]:=by rw [dW,No _]; rfl
 simp_all
theorem YS{xs:List Str}{ts:List Ix}(hn:∀x∈xs,D9 x)(hr:rising xs)(ht:∀t∈ts,t.i<t.j/\t.j<xs.length/\1<=t.len/\t.len<=1000000)(hp:ts.Pairwise Yc):Net.Ok ⟨xs,ts.map (Ix.tie xs)⟩:=by
 refine⟨hn,hr,λt h=>?_,?_⟩
 ·obtain⟨u,hu,rfl⟩:=Rs.mp h
  obtain⟨h1,h2,h3,h4⟩:=ht u hu;exact⟨getD_mem (show u.i<xs.length by omega),getD_mem h2,MN hr h1 h2,h3,h4⟩
 ·show (ts.map (Ix.tie xs)).Pairwise Bw
  rw [fK];refine jS (λ{s t} b a h=>?_) hp;obtain⟨h1,h2,_⟩:=ht s b;obtain⟨g1,g2,_⟩:=ht t a
  rcases h with h | ⟨h,h'⟩
  ·exact .inl (MN hr h (by omega))
  ·refine .inr ⟨?_,MN hr h' g2⟩
   show xs.getD s.i ""=xs.getD t.i "";rw [h]
theorem X6{ss:List Slot}{n:Nat}{Pd:D->Nat->Prop}(h:Wj ss n Pd):Kc { nx:=λn _=>Kd.sh=.sh/\Pd .non n,rt:=Pd } n (ss++Uf 6 .no):=by
 obtain⟨most,a,rfl,z,A,hn,p⟩:=h;unfold Kc;refine⟨_,rfl,by omega,by omega,by omega,λr h0 h1=>?_⟩;refine⟨(1+r).toNat,by rw [show (((1+r).toNat:Nat):Int)=1+r by omega],by omega,by omega,by omega,λxs n1 G B hr C=>?_⟩;refine⟨3,rfl,by decide,by decide,by omega,λe f0 f1=>⟨4,rfl,by decide,by decide,by omega,λb s0 s1=>⟨(by decide:0<=sizeLine),?_⟩⟩⟩;have u:(xs.map D.str).length=xs.length:=Go ..;refine⟨_,_,rfl,rfl,_,rfl,⟨by omega,by omega⟩,?_⟩
 refine EO (all:=Cu 0 (((xs.map D.str).length:Int)).toNat) (λpre m ρ=>n1 - 1 - 1 - 52*pre.length<=m/\∃(ts:List Ix) (s7 s8:Slot),(∀t∈ts,t.i<t.j/\t.j<xs.length/\1<=t.len/\t.len<=1000000)/\ts.Pairwise Yc/\ts.length<=a/\(∀t∈ts,t.i<pre.length)/\ts.length<=26*pre.length /\
  ρ=[.fd,.sh (.int most),.sh (.int a),.sh (.lst (xs.map .str)),.sh (.int (1+e)),.sh (.int b),.ow (.lst ((ts.map (Ix.tie xs)).map Aa)),s7,s8]) ?_ ?_ _ [] _ _ rfl ⟨by simp,[],_,_,(λ_ h=>by cases h),jz,TM _,(λ_ h=>by cases h),TM _,rfl⟩
 ·rintro m ρ ⟨hm,ts,s7,s8,h1,h2,h3,h4,h5,rfl⟩
  have el:(Cu 0 (((xs.map D.str).length:Int)).toNat).length=xs.length:=by rw [By]; omega
  rw [el] at hm;refine⟨(by decide:2<=sizeLine),p ⟨xs,ts.map (Ix.tie xs)⟩ m (YS B hr h1 h2) (by show 1<=xs.length; omega) (by show xs.length<=most; omega) (by show (ts.map (Ix.tie xs)).length<=a; rw [Go]; exact h3) (by omega)⟩
 ·rintro pre d post m ρ nx k ⟨hm,ts,s7,s8,h1,h2,h3,h4,h5,rfl⟩ f
  obtain⟨rfl,v⟩:=Iq k;have l:(pre++[D.int (0+(pre.length:Int))]).length=pre.length+1:=by rw [XV,dB]
  rw [l] at f;generalize pre.length=one at v f hm h4 h5 ⊢;rw [u] at v;refine⟨_,_,rfl,rfl,_,_,rfl,⟨by omega,by omega,by omega,by omega⟩,?_⟩
  refine EO (all:=Cu (0+(one:Int)+1) ((((xs.map D.str).length:Int)) - (0+(one:Int)+1)).toNat) (λpre m ρ=>n1 - 1 - 1 - 52*one - 2*pre.length<=m/\∃(ts:List Ix) (s8:Slot),(∀t∈ts,t.i<t.j/\t.j<xs.length/\1<=t.len/\t.len<=1000000)/\ts.Pairwise Yc/\ts.length<=a/\(∀t∈ts,t.i<one\/(t.i=one/\t.j<one+1+pre.length))/\ts.length<=26*one+pre.length /\
   ρ=[.fd,.sh (.int most),.sh (.int a),.sh (.lst (xs.map .str)),.sh (.int (1+e)),.sh (.int b),.ow (.lst ((ts.map (Ix.tie xs)).map Aa)),.sh (.int (0+(one:Int))),s8]) ?_ ?_ _ [] _ _ rfl ⟨by simpa using hm,ts,_,h1,h2,h3,λt ht=>.inl (h4 t ht),by simpa using h5,rfl⟩
  ·rintro m ρ ⟨hm,ts,s8,h1,h2,h3,h4,h5,rfl⟩
   rw [By] at hm h5;refine f _ _ ⟨by omega,ts,_,_,h1,h2,h3,λt ht=>?_,by omega,rfl⟩
   rcases h4 t ht with h | h <;> omega
  ·rintro o d2 w m ρ x g ⟨hm,ts,s8,h1,h2,h3,h4,h5,rfl⟩ c
   obtain⟨rfl,y⟩:=Iq g;rw [XV,dB] at c;generalize o.length=q at y c hm h4 h5 ⊢;have hq:one+1+q<xs.length:=by omega
   have skip:x (m - 1) [.fd,.sh (.int most),.sh (.int a),.sh (.lst (xs.map .str)),.sh (.int (1+e)),.sh (.int b),.ow (.lst ((ts.map (Ix.tie xs)).map Aa)),.sh (.int (0+(one:Int))),.sh (.int (0+(one:Int)+1+(q:Int)))]:=by
    refine c _ _ ⟨by omega,ts,_,h1,h2,h3,λt ht=>?_,by omega,rfl⟩
    rcases h4 t ht with h | h
    ·exact .inl h
    ·exact .inr (by omega)
   refine⟨4,rfl,by decide,by decide,by omega,λdr d0 d1=>?_⟩;refine B3 (λc1=>⟨_,_,rfl,rfl,B3 (λc2=>?_) λc2=>skip⟩) λc1=>B3 (λc2=>absurd c2 (by decide)) λ_=>skip
   have E:ts.length<a:=by
    have:(((ts.map (Ix.tie xs)).map Aa).length:Int)<(a:Int):=of_decide_eq_true c2
    rw [Go,Go] at this;omega
   refine⟨_,rfl,rfl,D.str (xs.getD one ""),?_,D.str (xs.getD (one+1+q) ""),?_,b,rfl,by omega,λlen l1 l2=>⟨(by decide:3<=sizeLine),_,_,rfl,rfl,?_,?_⟩⟩
   ·rw [show (0+(one:Int))=((one:Nat):Int) by omega]
    exact AO (by rw [dR,getD_at v]; rfl)
   ·rw [show (0+(one:Int)+1+(q:Int))=((one+1+q:Nat):Int) by omega]
    exact AO (by rw [dR,getD_at hq]; rfl)
   ·rw [Go,Go,PySem.sizeLine_eq]; omega
   ·refine c _ _ ⟨by omega,ts++[⟨one,one+1+q,len⟩],.sh (.int (0+(one:Int)+1+(q:Int))),λt ht=>?_,?_,by rw [XV,dB]; omega,λt ht=>?_,by rw [XV,dB]; omega,?_⟩
    ·rcases cu.mp ht with ht | ht
     ·exact h1 t ht
     ·rw [Tk.mp ht]
      exact⟨by show one<one+1+q; omega,hq,l1,l2⟩
    ·rw [List.pairwise_append]
     refine⟨h2,gu _ _,λs F t ht=>?_⟩;rw [Tk.mp ht]
     rcases h4 s F with h | h
     ·exact .inl h
     ·exact .inr h
    ·rcases cu.mp ht with ht | ht
     ·rcases h4 t ht with h | h
      ·exact .inl h
      ·exact .inr (by omega)
     ·rw [Tk.mp ht]
      exact .inr ⟨rfl,by show one+1+q<one+1+(q+1); omega⟩
    ·rw [de,de]
     rfl
def Ex(ts:List BP)(p:Str):List (Str×Int):=ts.flatMap λt=>(if t.a=p then [(t.b,t.len)] else [])++(if t.b=p then [(t.a,t.len)] else [])
def Z6(ts:List BP)(p:Str):D:=.fdi ((Ex ts p).map λx=>.inr x.1) ((Ex ts p).map λx=>.int x.2)
def HM(N:Net):D:=.dic (N.ps.map .inr) (N.ps.map (Z6 N.ts))
def QQ:W2:=λss n P=>∃N:Net,ss=[.sh (enc N)]/\N.Ok/\N.ps.length<=1000/\N.ts.length<=1000/\P (HM N) n
def kv(x:Str×Int):Key×V:=(.inr x.1,.int x.2)
structure Stp (H:Hp) (d:Ch) (as:List (Str×Ch)) (tb:Str->List (Key×V)) (H':Hp):Prop where
 old:∀b o,H b=some o->H' b=some o
 new:H d=none
 top:H' d=some (.dK (as.map λx=>(.inr x.1,.ref x.2)))
 inn:∀x∈as,H x.2=none/\x.2≠d/\H' x.2=some (.dK (tb x.1))
 ads:(as.map (·.2)).Nodup
 nms:(as.map (·.1)).Nodup
theorem Il{as:List (Str×Ch)}(hn:(as.map (·.1)).Nodup){p:Str}{a:Ch}(h:(p,a)∈as):E7 (as.map λx=>((.inr x.1:Key),V.ref x.2)) (.inr p)=some (.ref a):=by
 induction as with
 | nil=>cases h
 | cons x r ih =>
  rw [dG,dM] at hn
  rcases T0.mp h with e | h
  ·rw [← e]
   exact E_ rfl
  ·exact(FA λe=>hn.1 (by rw [fT e]; exact Rs.mpr ⟨_,h,rfl⟩)).trans (ih hn.2 h)
theorem Pm{as:List (Str×Ch)}{p:Str}{v:V}(h:p∉as.map (·.1)):putK (as.map λx=>((.inr x.1:Key),V.ref x.2)) (.inr p) v=(as.map λx=>((.inr x.1:Key),V.ref x.2))++[(.inr p,v)]:=by
 unfold putK
 simp_all
theorem Qj{xs:List (Str×Int)}{p:Str}{l:Int}(h:p∉xs.map (·.1)):putK (xs.map kv) (.inr p) (.int l)=(xs++[(p,l)]).map kv:=by
 unfold putK;rw [if_neg,de]
 ·rfl
 ·rw [em]
  rintro ⟨y,hy,e⟩;obtain⟨x,a,rfl⟩:=Rs.mp hy;exact h (Rs.mpr ⟨x,a,fT (of_decide_eq_true e)⟩)
theorem Stp.more{H H':Hp}{d q:Ch}{as:List (Str×Ch)}{tb:Str->List (Key×V)}{p:Str}(s:Stp H d as tb H')(hq:H' q=none)(hp:p∉as.map (·.1))(ht:tb p=[]) :
  Stp H d (as++[(p,q)]) tb (A4 (A4 H' q (.dK [])) d (.dK (putK (as.map λx=>((.inr x.1:Key),V.ref x.2)) (.inr p) (.ref q)))):=by
 have nq:q≠d:=λe=>by rw [e,s.top] at hq; cases hq
 have hHq:H q=none:=by
  cases c:H q with
  | none=>rfl
  | some o=>rw [s.old q o c] at hq; cases hq
 refine⟨λb o e=>?_,s.new,?_,λx f=>?_,?_,?_⟩
 ·have n1:b≠d:=λz=>by rw [z,s.new] at e; cases e
  have n2:b≠q:=λz=>by rw [z,hHq] at e; cases e
  rw [AQ n1,AQ n2];exact s.old b o e
 ·rw [AX,Pm hp,de]; rfl
 ·rcases cu.mp f with f | f
  ·obtain⟨h1,h2,h3⟩:=s.inn x f
   have n2:x.2≠q:=λz=>by rw [z,hq] at h3; cases h3
   exact⟨h1,h2,by rw [AQ h2,AQ n2]; exact h3⟩
  ·rw [Tk.mp f]
   exact⟨hHq,nq,by rw [AQ nq,AX,ht]⟩
 ·rw [de,fL]
  refine⟨s.ads,dM.mpr ⟨(λh=>by cases h),e6⟩,λa ha b g e=>?_⟩;obtain⟨x,f,rfl⟩:=Rs.mp ha;have g:b=q:=Tk.mp g;obtain⟨h1,h2,h3⟩:=s.inn x f;rw [e,g,hq] at h3;cases h3
 ·rw [de,fL]
  refine⟨s.nms,dM.mpr ⟨(λh=>by cases h),e6⟩,λa ha b g e=>?_⟩;have g:b=p:=Tk.mp g;exact hp (by rw [← g,← e]; exact ha)
theorem SG{as:List (Str×Ch)}(hn:(as.map (·.1)).Nodup){p:Str}{a b:Ch}(h1:(p,a)∈as)(h2:(p,b)∈as):a=b:=by
 have:=(Il hn h1).symm.trans (Il hn h2)
 grind
theorem SE{as:List (Str×Ch)}(hn:(as.map (·.2)).Nodup){p q:Str}{a:Ch}(h1:(p,a)∈as)(h2:(q,a)∈as):p=q:=by
 induction as with
 | nil=>cases h1
 | cons x r ih =>
  rw [dG,dM] at hn
  rcases T0.mp h1 with e1 | g1
  ·rcases T0.mp h2 with e2 | g2
   ·grind
   ·exact absurd (Rs.mpr ⟨_,g2,by rw [← e1]⟩) hn.1
  ·rcases T0.mp h2 with e2 | g2
   ·exact absurd (Rs.mpr ⟨_,g1,by rw [← e2]⟩) hn.1
   ·exact ih hn.2 g1 g2
theorem Stp.put{H H':Hp}{d a:Ch}{as:List (Str×Ch)}{tb tb2:Str->List (Key×V)}{p:Str}{kvs:List (Key×V)}(s:Stp H d as tb H')(ha:(p,a)∈as)(h1:tb2 p=kvs)(h2:∀q,q≠p->tb2 q=tb q) :
  Stp H d as tb2 (A4 H' a (.dK kvs)):=by
 obtain⟨i1,i2,i3⟩:=s.inn _ ha;refine⟨λb o e=>?_,s.new,?_,λx c=>?_,s.ads,s.nms⟩
 ·have n1:b≠a:=λz=>by grind
  rw [AQ n1];exact s.old b o e
 ·rw [AQ (eF i2)]
  exact s.top
 ·obtain⟨g1,g2,g3⟩:=s.inn x c
  refine⟨g1,g2,?_⟩
  by_cases e:x.2=a
  ·have:=SE s.ads (show (x.1,a)∈as by grind) ha
   rw [e,AX,this,h1]
  ·have:x.1≠p:=λz=>e (SG s.nms (show (p,x.2)∈as by grind) ha)
   rw [AQ e,h2 _ this];exact g3
theorem OH(ts:List BP)(t:BP)(p:Str):Ex (ts++[t]) p=Ex ts p++((if t.a=p then [(t.b,t.len)] else [])++(if t.b=p then [(t.a,t.len)] else [])):=by
 unfold Ex
 simp_all
theorem Mn{ts:List BP}{p q:Str}(h:q∈(Ex ts p).map (·.1)):∃t∈ts,(t.a=p/\t.b=q)\/(t.b=p/\t.a=q):=by
 obtain⟨x,c,rfl⟩:=Rs.mp h;obtain⟨t,ht,c⟩:=f6.mp c;refine⟨t,ht,?_⟩
 rcases cu.mp c with c | c
 ·simp_all
 simp_all
theorem Qv(ts:List BP)(p:Str):(Ex ts p).length<=2*ts.length:=by
 induction ts with
 | nil=>exact TM _
 | cons t r ih =>
  unfold Ex at ih ⊢;rw [g0,XV,XV];have h1:(if t.a=p then [(t.b,t.len)] else []).length<=1:=by grind
  grind
theorem U2{ts:List BP}{t:BP}(hp:(ts++[t]).Pairwise Bw)(d:∀s∈ts++[t],cs s.a<cs s.b):t.b∉(Ex ts t.a).map (·.1)/\t.a∉(Ex ts t.b).map (·.1):=by
 rw [List.pairwise_append] at hp
 have key:∀s∈ts,¬((s.a=t.a/\s.b=t.b)\/(s.b=t.a/\s.a=t.b)):=λs c e=>by
  have h1:=hp.2.2 s c t (Tk.mpr rfl);have h2:=d s (eo _ c);have h3:=d t (dH _ (Tk.mpr rfl))
  rcases e with ⟨e1,e2⟩ | ⟨e1,e2⟩
  ·unfold Bw at h1
   grind
  grind
 refine⟨λh=>?_,λh=>?_⟩
 ·obtain⟨s,c,e⟩:=Mn h
  exact key s c e
 ·obtain⟨s,c,e⟩:=Mn h
  exact key s c (e.elim (λz=>.inr ⟨z.2,z.1⟩) λz=>.inl ⟨z.2,z.1⟩)
theorem MM{xs:List Str}(h:rising xs):xs.Nodup:=h.imp λ{a b} c e=>by grind
theorem Pz{xs:List Str}(h:xs.Nodup){i:Nat}(hi:i<xs.length):xs[i]∉xs.take i:=by
 have e:xs=xs.take i++xs[i]::xs.drop (i+1):=by
  simp_all
 intro hm;rw [e,fL] at h;exact h.2.2 _ hm _ Op rfl
theorem Stp.at_{K:Frag}{M:Ch->Prop}{H H':Hp}{d:Ch}{as:List (Str×Ch)}{N:Net}(i:∀a,M a->∃o,H a=some o)(s:Stp H d as (λp=>(Ex N.ts p).map kv) H')(hp:as.map (·.1)=N.ps)(f:Ch->Obj):At K M (F3 H' (as.map (·.2)) f) (HM N) (.ref d):=by
 have nd:∀b,H b=none->¬M b:=λb e m=>by obtain⟨o,h⟩:=i b m; rw [h] at e; cases e
 have c:∀as:List (Str×Ch),(as.map λx=>((.inr x.1:Key),V.ref x.2))=((as.map (·.1)).map (.inr:Str->Key)).zip (as.map λx=>V.ref x.2):=λas=>by
  grind
 refine⟨d,as.map λx=>.ref x.2,rfl,⟨nd d s.new,by rw [DR (λhm=>by obtain⟨x,g,e⟩:=Rs.mp hm; exact(s.inn x g).2.1 e),s.top,c,hp]⟩,by rw [Go,Go],?_⟩;rw [← hp]
 have go:∀bs:List (Str×Ch),(∀x∈bs,x∈as)->Ats K M (F3 H' (as.map (·.2)) f) ((bs.map (·.1)).map (Z6 N.ts)) (bs.map λx=>V.ref x.2):=λbs=>by
  induction bs with
  | nil=>intro _; rfl
  | cons x r ih =>
   intro g;refine⟨.ref x.2,r.map λx=>V.ref x.2,rfl,?_,ih λy hy=>g y (Re _ hy)⟩;obtain⟨g1,g2,g3⟩:=s.inn x (g x Op)
   have zip2:∀xs:List (Str×Int),xs.map kv=(xs.map λx=>(.inr x.1:Key)).zip (xs.map λx=>V.int x.2):=λxs=>by
    induction xs with
    | nil=>rfl
    | cons x r ih=>rw [dG,ih]; rfl
   refine⟨x.2,(Ex N.ts x.1).map λx=>V.int x.2,rfl,⟨f x.2,nd _ g1,by rw [Mz (Rs.mpr ⟨x,g x Op,rfl⟩) g3,zip2]⟩,by rw [Go,Go],?_⟩;generalize Ex N.ts x.1=xs
   induction xs with
   | nil=>rfl
   | cons x r ih=>exact⟨.int x.2,_,rfl,rfl,ih⟩
 exact go as λ_ h=>h
end Nt
namespace L2
theorem YZ{P:cz}{w:dC}{k:Key}{u:Cn}(h:(BV P w).is k u=true):RelV (kV k) u:=by
 rcases BZ h with ⟨i,t,rfl,rfl⟩ | ⟨x,t,rfl,rfl⟩
 ·exact⟨t,rfl⟩
 ·exact⟨t,rfl⟩
theorem NA{X:Cx}{zG:List (Ch×Obj)}{σ:L2.St}{H:Hp}{s:FM}{d:Ch}{o:Obj}{a:List (Key×V)}{es:Array DictEntry}{ep:Nat}(I:Inv X zG σ H s)(h:H d=some (.frz o (.dK a)))(hd:o.data=.dict es ep) :
  ∃ws,KV a ws/\s.heap.DictAt (BV X.prog X.w) d ws ep:=by
 obtain⟨e0,_,_,ws,kv,o',b,c,e1,e2,e3,e4⟩:=(I.hok d _ h);rw [e0] at e1;cases e1;rw [hd] at e3;cases e3;exact⟨ws,kv,o,es,e0,e2,hd,e4⟩
end L2
namespace Dp
open L2
theorem Ya(k:Key):kV k=kOf k:=by cases k <;> rfl
section
variable {K:Frag}{C:Fm}{M:Addr->Prop}{H:Hp}{n:Nat}{ρ:List Slot}{σ:L2.St}
theorem Rel.hold(R:Rel K C M H n ρ σ){p:Ch}{o:HO}(hp:H p=none):Rel K C (λb=>M b\/b=p) (A4 H p o) n ρ σ:=by
 have g:Grow H (A4 H p o):=A1 hp;have pr:Pres M H _ (A4 H p o):=Ga hp;refine⟨R.len,λa z=>.inl (R.sub a z),λa z=>?_,R.ext.trans g.ext,R.fU,R.uV,λa z=>.inl (R.vM a z),(R.feed.grow g).more p λf hf q=>?_,λi s q=>(R.sl i s q).pres pr (λ_ z=>.inl z) g.ext R.uV,λq hq=>(R.pin q hq).trans pr,R.br0,R.new,R.two,λq hq=>?_⟩
 ·rcases z with z | z
  ·obtain⟨u,h1⟩:=R.dom a z
   exact⟨u,g.all a u h1⟩
  ·rw [z]; exact⟨o,AX⟩
 ·obtain⟨_,_,_,_,_,h3,_⟩:=R.feed f hf
  have:=h3.2
  grind
 ·obtain⟨h1,h2,h3,h4⟩:=R.kept q hq
  exact⟨g.all _ _ h1,.inl h2,h3,h4⟩
end
def J_(ks:List Key)(k:Key):Bool:=ks.any λk0=>decide (k0=k)
theorem hasK_iff{ks:List Key}{k:Key}:J_ ks k=true↔k∈ks:=by
 unfold J_
 simp_all
def Dn(ks:List Key)(k:Key):List Key:=if J_ ks k=true then ks else ks++[k]
def EL{α:Type}(ks:List Key)(ds:List α)(k:Key)(d:α):List α:=if J_ ks k=true then gn (λk0 d0=>if k0=k then d else d0) ks ds else ds++[d]
theorem Wh{ks:List Key}{vs:List V}(c:ks.length=vs.length)(k:Key):((ks.zip vs).any λkv=>decide (kv.1=k))=J_ ks k:=by
 rw [e_,em,hasK_iff];constructor
 ·rintro ⟨⟨a,b⟩,hm,e⟩
  have e:=of_decide_eq_true e;rw [← e];exact(gh hm).1
 ·intro h
  obtain⟨i,hi,e⟩:=List.mem_iff_getElem.mp h;exact⟨(ks[i],vs[i]'(by omega)),List.mem_iff_getElem.mpr ⟨i,by grind,by grind⟩,by grind⟩
theorem UB{ks:List Key}{vs:List V}(c:ks.length=vs.length)(k:Key)(v:V):putK (ks.zip vs) k v=(Dn ks k).zip (EL ks vs k v):=by
 unfold putK Dn EL;rw [Wh c]
 by_cases h:J_ ks k=true
 ·have go:∀(ks:List _) (vs:List V),((ks.zip vs).map λkv=>if kv.1=k then (kv.1,v) else kv)=ks.zip (gn (λk0 d0=>if k0=k then v else d0) ks vs):=by
   intro ks
   induction ks with
   | nil=>intro vs; rfl
   | cons a ks ih =>
    intro vs;cases vs with
    | nil=>rfl
    | cons b vs =>
     show (if a=k then (a,v) else (a,b))::_=(a,if a=k then v else b)::_;exact List.cons_eq_cons.mpr ⟨by split <;> rfl,ih vs⟩
  simp_all
 ·rw [if_neg h,if_neg h,if_neg h,List.zip_append c]
  rfl
theorem Ats.put{K:Frag}{M:Ch->Prop}{H:Hp}{k:Key}{d:D}{v:V}(hd:At K M H d v):∀{ks:List Key} {ds:List D} {vs:List V},Ats K M H ds vs->Ats K M H (gn (λk0 d0=>if k0=k then d else d0) ks ds) (gn (λk0 d0=>if k0=k then v else d0) ks vs)
 | [],ds,vs,h=>rfl
 | a::ks,[],vs,h=>by cases (h); rfl
 | a::ks,e::ds,vs,h=>by
  obtain⟨u,r,rfl,h1,h2⟩:=h;refine⟨_,_,rfl,?_,Ats.put hd h2⟩
  grind
theorem Ats.putX{K:Frag}{M:Ch->Prop}{H:Hp}{k:Key}{d:D}{v:V}{ks:List Key}{ds:List D}{vs:List V}(hd:At K M H d v)(h:Ats K M H ds vs):Ats K M H (EL ks ds k d) (EL ks vs k v):=by
 unfold EL
 split
 ·exact Ats.put hd h
 ·exact h.append (Ats.one hd)
theorem Qi{α:Type}{ks:List Key}{ds:List α}{k:Key}{d:α}(a:ks.length=ds.length):(Dn ks k).length=(EL ks ds k d).length:=by
 unfold Dn EL
 grind
theorem LL:∀{ks:List Key} {ds:List D} {k:Key},k∉ks->Bv ks ds k=none
 | [],ds,k,_=>by rfl
 | a::ks,[],k,_=>rfl
 | a::ks,d::ds,k,h=>by
  unfold Bv;rw [if_neg (λe=>h (by grind))];exact LL λz=>h (Re _ z)
theorem LK:∀{ks:List Key} {ds:List D} {k:Key},ks.length=ds.length->k∈ks->∃z,Bv ks ds k=some z
 | [],ds,k,_,h=>by cases h
 | a::ks,[],k,h,_=>by cases h
 | a::ks,d::ds,k,b,h=>by
  unfold Bv
  by_cases e:a=k
  ·simp_all
  ·rw [if_neg e]
   exact LK (by simp_all) ((T0.mp h).resolve_left λz=>e z.symm)
theorem TY{ks:List Key}{ds:List D}{k:Key}{d:D}(b:ks.length=ds.length)(j:Key):Bv (Dn ks k) (EL ks ds k d) j=if j=k then some d else Bv ks ds j:=by
 unfold Dn EL
 by_cases h':J_ ks k=true
 ·have h:=hasK_iff.mp h'
  rw [if_pos h',if_pos h']
  have go:∀(ks:List Key) (ds:List D),ks.length=ds.length->(j=k->k∈ks)->Bv ks (gn (λk0 d0=>if k0=k then d else d0) ks ds) j=if j=k then some d else Bv ks ds j:=by
   intro ks
   induction ks with
   | nil =>
    intro ds _ hm
    by_cases e:j=k
    ·exact absurd (hm e) c6
    ·rw [if_neg e]; cases ds <;> rfl
   | cons a ks ih =>
    intro ds b hm;cases ds with
    | nil=>cases b
    | cons e ds =>
     show (if a=j then some (if a=k then d else e) else Bv ks _ j)=if j=k then some d else if a=j then some e else Bv ks ds j
     by_cases e1:a=j
     ·rw [if_pos e1,if_pos e1]
      by_cases e2:j=k
      ·rw [if_pos e2,if_pos (e1.trans e2)]
      ·rw [if_neg e2,if_neg (λz=>e2 (e1.symm.trans z))]
     ·rw [if_neg e1,if_neg e1]
      refine ih ds (by simpa using b) λz=>(T0.mp (hm z)).resolve_left λw=>e1 (w.symm.trans z.symm)
  exact go ks ds b λ_=>h
 ·have h:k∉ks:=λz=>h' (hasK_iff.mpr z)
  rw [if_neg h',if_neg h']
  have go:∀(ks:List Key) (ds:List D),ks.length=ds.length->k∉ks->Bv (ks++[k]) (ds++[d]) j=if j=k then some d else Bv ks ds j:=by
   intro ks
   induction ks with
   | nil =>
    intro ds b _;cases ds with
    | nil =>
     show (if k=j then some d else none)=if j=k then some d else none
     by_cases e:j=k
     ·rw [if_pos e,if_pos e.symm]
     ·rw [if_neg e,if_neg (λz=>e z.symm)]
    | cons e ds=>cases b
   | cons a ks ih =>
    intro ds b hm;cases ds with
    | nil=>cases b
    | cons e ds =>
     show (if a=j then some e else Bv (ks++[k]) (ds++[d]) j)=if j=k then some d else if a=j then some e else Bv ks ds j
     rw [ih ds (by simpa using b) λz=>hm (Re _ z)]
     by_cases e1:a=j
     ·rw [if_pos e1,if_pos e1,if_neg (λz=>hm (by rw [← z,← e1]; exact Op))]
     ·rw [if_neg e1,if_neg e1]
  exact go ks ds b h
section
variable {X:Cx}{a b e:Expr}{κ zR zM:Kd}{wa wb:DW}{pos pos':Pos}
def TN(wk wv:DW):DW:=λn ρ P=>wk n ρ λk n1=>wv n1 ρ λd n2=>∃key,keyOf k=some key/\P (.dic [key] [d]) n2
theorem VC(ha:DE X a zR wa)(h:DE X b zM wb)(i:zM≠.tp:=by intro z; cases z):DE X (.Dict [some a] [b] pos) .fr (TN wa wb):=by
 obtain⟨t,h1,h2⟩:=ha;obtain⟨u,g1,g2⟩:=h;refine⟨_,Vs (UG h1 g1 Vm) rfl rfl (gR _ _) (by show 1<=15; decide),λC M H n ρ σ P Q R w q=>λp hp=>?_⟩;have R1:=R.hold (o:=.dK []) hp
 have np:¬C.U p:=λz=>by
  obtain⟨o,w⟩:=R.dom p (R.vM p (R.uV p z));rw [hp] at w; cases w
 refine h2 C _ _ n ρ σ _ _ R1 w λx H2 k n1 e1 f1 r1 p1=>?_;have R2:=R1.step e1 f1;refine g2 C _ _ n1 ρ σ _ _ R2 p1 λy H3 d n2 e2 f2 r2 p2=>?_;obtain⟨key,e,p2⟩:=p2;have R3:=R2.step e2 f2;have g:At X.K (λb=>M b\/b=p) H3 d y:=r2.shOf R2.dom i;have c:H3 p=some (.dK []):=e2.keep (e1.keep AX np) np;have j:x=kV key:=DQ e (r1.tpOf R1.dom R1.vM);refine⟨c,[(key,y)],by rw [j]; rfl,by show 1<=15; decide,?_⟩;show Q (.ref p) (A4 H3 p (.dK [(key,y)]));refine q _ _ (.dic [key] [d]) n2 (λb o eb=>?_) ?_ ⟨p,rfl,hp,[y],AX,rfl,?_⟩ p2
 ·have nb:b≠p:=A0 eb hp
  obtain⟨o1,z1,k1,t1⟩:=e1 b o (by rw [AQ nb]; exact eb);obtain⟨o2,z2,k2,t2⟩:=e2 b o1 z1;exact⟨o2,by rw [AQ nb]; exact z2,λnu=>(k2 nu).trans (k1 nu),λvs z=>(t2 vs ((t1 vs z).trans z)).trans (t1 vs z)⟩
 ·refine f2.pres ⟨λb o eb nb=>by rw [AQ (λz=>nb (.inr z))]; exact eb,λb z=>.inl (.inl z),λb vs eb=>by rw [AQ (λz=>by rw [z,c] at eb; cases eb)]; exact eb⟩ λf o hf eb=>?_
  rw [AQ (λz=>np (by rw [← z]; exact R.fU f hf))];exact eb
 ·exact⟨y,[],rfl,g.pres (Fw (.inr rfl) c),rfl⟩
def NZ(i:Nat)(wk wv:DW):Aj:=λD2 n ρ=>∃ks ds,ρ[i]?=some (.ow (.dic ks ds))/\wv n ρ λd n1=>wk n1 ρ λk n2=>∃key,keyOf k=some key/\ks.length<sizeLine/\D2.nx n2 (ρ.set i (.ow (.dic (Dn ks key) (EL ks ds key d))))
theorem WQ{i k:Nat}{x:c_}(hr:Room k X.A)(q:PE X x (CH i))(ha:DE X a zR wa)(r:DE X b zM wb)(s:zM≠.tp:=by intro z; cases z)
  (B:swapsWith b (some (.Subscript x a pos')) pos.line X.env=pure false:=by rfl):DS X κ (.Assign [.Subscript x a pos'] b pos) (NZ i wa wb):=by
 obtain⟨t,h1,h2⟩:=ha;obtain⟨u,g1,g2⟩:=r;refine⟨_,Ir (J9 hr) q h1 g1 B,λC M H n ρ σ D2 E R L w=>?_⟩;obtain⟨ks,ds,hd,w⟩:=w;refine g2 C M H n ρ σ _ _ R w λv H1 d n1 e1 f1 r1 p=>?_;have R1:=R.step e1 f1;obtain⟨ad,ea,m,nv,tt⟩:=R1.sl i _ hd;refine⟨.ref ad,getD_some ea,?_⟩;refine h2 C M H1 n1 ρ σ _ _ R1 p λy H2 kk n2 e2 f2 r2 p=>?_;obtain⟨key,c,D,p⟩:=p;have R2:=R1.step e2 f2;obtain⟨F,f,m',G,h⟩:=R2.sl i _ hd;rw [ea] at f;cases f;obtain⟨vs,hH,o,g⟩:=h;have j:At X.K M H2 d v:=(r1.shOf R.dom s).pres (R1.pres e2);have l:ks.length=vs.length:=by rw [o,g.length]
 refine⟨ad,_,rfl,by rw [DQ c (r2.tpOf R1.dom R1.vM)]; exact DPut.k hH (by rw [List.length_zip]; omega),L.nx M _ n2 _ σ (R2.mut (e:=.dic (Dn ks key) (EL ks ds key d)) hd ea ⟨EL ks vs key v,by rw [AX,UB l],Qi o,(g.putX j).pres (Fw m' hH)⟩) p⟩
def G4(neg:Bool)(d e:D)(P:D->Prop):Prop:=e=.non/\P (.bl (if neg then !Oc d else Oc d))
theorem O9{K:Frag}:E5 K .sh (λx y H Q=>y=.non/\Q (.bl (decide (x=.non))) H) (G4 false):=λU M H d e x y P Q a vM b hy w q=>by
 obtain⟨rfl,w⟩:=w;exact⟨hy,q _ H _ .refl (by rw [Ob b]; rfl) w⟩
theorem VQ{K:Frag}:E5 K .sh (λx y H Q=>y=.non/\Q (.bl (!decide (x=.non))) H) (G4 true):=λU M H d e x y P Q a vM b hy w q=>by
 obtain⟨rfl,w⟩:=w;exact⟨hy,q _ H _ .refl (by rw [Ob b]; rfl) w⟩
variable {apos cpos:Pos}{f:Expr}{κf:Kd}{wf:DW}
def QU(wa wk:DW):DW:=λn ρ P=>wa n ρ λd n1=>∃ks ds,KL d=some (ks,ds)/\wk n1 ρ λk n2=>∃key,keyOf k=some key/\P ((Bv ks ds key).getD .non) n2
def QT(wa wk wx:DW):DW:=λn ρ P=>wa n ρ λd n1=>∃ks ds,KL d=some (ks,ds)/\wk n1 ρ λk n2=>wx n2 ρ λz n3=>∃key,keyOf k=some key/\P ((Bv ks ds key).getD z) n3
theorem TX{U M:Ch->Prop}{H:Hp}{K:Frag}{d z:D}{x v:V}{ks:List Key}{ds:List D}{key:Key}(e:KL d=some (ks,ds))(h:AtT K U M H d x)(f:At K M H z v):∃a o,x=.ref a/\DGet H a (kV key) o/\At K M H ((Bv ks ds key).getD z) (o.getD v):=by
 obtain⟨a,vs,rfl,ha,b⟩:=KJ e h;refine⟨a,_,rfl,I_ ha,?_⟩;have h:=Gn (k:=key) (ks:=ks) b;cases c:Bv ks ds _ with
 | none=>simp_all
 | some y=>rw [c] at h; obtain⟨u,h1,h2⟩:=h; grind
theorem Us{U M:Ch->Prop}{H:Hp}{K:Frag}{d:D}{x:V}{ks:List Key}{ds:List D}(e:KL d=some (ks,ds))(h:AtT K U M H d x):∃a,x=.ref a/\a_ H a:=by
 obtain⟨a,vs,rfl,ha,b⟩:=KJ e h;exact⟨a,rfl,.inl ⟨_,ha⟩⟩
theorem Wa{k:Nat}(hr:Room k X.A)(ha:DE X a zR wa)(f:DE X b zM wb)(m:M1 X a "get" apos b cpos:=by exact⟨rfl,rfl,rfl,rfl⟩):DE X (.Call (.Attribute a "get" apos) [b] [] cpos) .sh (QU wa wb):=by
 obtain⟨t,h1,h2⟩:=ha;obtain⟨u,g1,g2⟩:=f;refine⟨_,UQ (J9 hr) h1 g1 m,λC M H n ρ σ P Q R w q=>?_⟩;refine h2 C M H n ρ σ _ _ R w λv H1 d n1 e1 f1 r1 p=>?_;obtain⟨ks,ds,hd,p⟩:=p;have R1:=R.step e1 f1;obtain⟨ad,rfl,hI⟩:=Us hd (r1.tpOf R.dom R.vM);refine⟨ad,rfl,hI,?_⟩;refine g2 C M H1 n1 ρ σ _ _ R1 p λy H2 kk n2 e2 f2 r2 p=>?_;obtain⟨key,c,p⟩:=p;have R2:=R1.step e2 f2;have e:=(r1.tpOf R.dom R.vM).pres (R1.pres e2) e2 R.uV;obtain⟨h,o,ex,g,i⟩:=TX (key:=key) hd e (z:=.non) (v:=.non) rfl;cases ex;exact⟨o,by rw [DQ c (r2.tpOf R1.dom R1.vM)]; exact g,q _ H2 _ n2 (e1.trans e2) f2 i p⟩
theorem WZ{k:Nat}(hr:Room k X.A)(ha:DE X a zR wa)(h:DE X b zM wb)(hf:DE X f κf wf)(i:κf≠.tp:=by intro z; cases z)(m:M2 X a "get" apos b f cpos:=by exact⟨rfl,rfl,rfl,rfl⟩):DE X (.Call (.Attribute a "get" apos) [b,f] [] cpos) .sh (QT wa wb wf):=by
 obtain⟨t,h1,h2⟩:=ha;obtain⟨u,g1,g2⟩:=h;obtain⟨u2,k1,k2⟩:=hf;refine⟨_,UP (J9 hr) h1 g1 k1 m,λC M H n ρ σ P Q R w q=>?_⟩;refine h2 C M H n ρ σ _ _ R w λv H1 d n1 e1 f1 r1 p=>?_;obtain⟨ks,ds,hd,p⟩:=p;have R1:=R.step e1 f1;obtain⟨ad,rfl,hI⟩:=Us hd (r1.tpOf R.dom R.vM);refine⟨ad,rfl,hI,?_⟩;refine g2 C M H1 n1 ρ σ _ _ R1 p λy H2 kk n2 e2 f2 r2 p=>?_;have R2:=R1.step e2 f2;refine k2 C M H2 n2 ρ σ _ _ R2 p λz H3 dz n3 e3 f3 r3 p=>?_;obtain⟨key,c,p⟩:=p;have R3:=R2.step e3 f3;have e:=((r1.tpOf R.dom R.vM).pres (R1.pres e2) e2 R.uV).pres (R2.pres e3) e3 R.uV;have hy:=(r2.tpOf R1.dom R1.vM).pres (R2.pres e3) e3 R.uV;obtain⟨j,o,ex,g,l⟩:=TX (key:=key) hd e (r3.shOf R2.dom i);cases ex;exact⟨o,by rw [DQ c hy]; exact g,q _ H3 _ n3 ((e1.trans e2).trans e3) f3 l p⟩
end
end Dp
namespace L2
open AutoSeq1 (wpAny_loadPart')
end L2
namespace Dp
open L2
section
theorem Rq{k n:Nat}(h:k<n):seqIndex? (k:Int) n=some k:=by
 refine(Mv ?_).1;unfold S0
 grind
end
def Wq(i:Nat)(we:DW):Aj:=λD2 n ρ=>∃xs,ρ[i]?=some (.ow (.lst xs))/\we n ρ λd n1=>∃(k:Nat) (x:D),d=.int (k:Int)/\xs[k]?=some x/\k<2 ^ 60/\D2.nx n1 (ρ.set i (.ow (.lst (xs.eraseIdx k))))
section
variable {X:Cx}{κ zT:Kd}{e:Expr}{we:DW}{pos p apos cpos:Pos}{x:Str}{i:Nat}
theorem WO(h:PE X (.Name x p) (CH i))(ha:DE X e zT we)
  (c:attributeBase (.Name x p) "pop" X.env (eval (.Name x p) X.env)=eval (.Name x p) X.env:=by rfl)
  (g:((backTo cpos (starEach [e] X.env)).all (λx=>!x.1)&&(backToKw cpos (keywordEach [] X.env)).all (λx=>x.1.isSome)
   && decide ([e].length+([]:List gL).length+(if ([]:List gL).isEmpty then 0 else 1)<30))=true:=by rfl)
  (f:(apos.endLine==cpos.line)=true:=by rfl) (j:starEach [e] X.env=(false,eval e X.env)::starEach [] X.env:=by rfl) (b:(backTo cpos (starEach [] X.env)).any (·.1)=false:=by rfl)
  (r:swapsWith (.Call (.Attribute (.Name x p) "pop" apos) [e] [] cpos) none pos.line X.env=pure false:=by rfl) :
  DS X κ (.Expr (.Call (.Attribute (.Name x p) "pop" apos) [e] [] cpos) pos) (Wq i we):=by
 obtain⟨t,a1,a2⟩:=ha;refine⟨_,Qm (UT PySem.F.plainAttrs_list PySem.F.slot_list_pop PySem.F.type_list_pop Ue h (BB a1 B0 j) c g f j b) r,λC M H n ρ σ D2 E R L w=>?_⟩;obtain⟨xs,hi,w⟩:=w;obtain⟨a,e1,m,nv,tt⟩:=R.sl i _ hi;refine⟨.ref a,getD_some e1,QA (show au "list" (.lst xs) from rfl) (tt.att nv),?_⟩;refine a2 C M H n ρ σ _ _ R w λv H1 d n1 ee f1 r1 p=>?_;obtain⟨k,y,rfl,u,A,p⟩:=p;have R1:=R.step ee f1;obtain⟨a',l,m',z,vs,hH,q⟩:=R1.sl i _ hi;rw [e1] at l;cases l;obtain⟨v',ev,hv⟩:=q.get u;have s:k<vs.length:=(cr.mp ev).1;refine⟨a,vs,(k:Int),k,v',rfl,by rw [J8 r1],hH,by omega,by omega,Rq s,ev,?_⟩;exact L.nx M _ n1 _ σ (R1.mut (e:=.lst (xs.eraseIdx k)) hi e1 (o:=.lst (vs.eraseIdx k)) ⟨vs.eraseIdx k,AX,(q.eraseIdx k).pres (Fw m' hH)⟩) p
end
end Dp
namespace L2
end L2
namespace Dp
open L2
end Dp
namespace L2
open AutoSeq1 (wpAny_loadPart')
theorem boot_enumerate:bootBuiltins "enumerate"=some (.type "enumerate"):=by decide +kernel
section
variable {prog:Program}{w:World}{A:Around}{E:Value->Shared->Prop}{s:Shared}
theorem Sl{κ:Bool}(hh:A.handled=none)(it l:Ch)(c:l≠it)(items:Array Cn):Draws prog w A it [it,l] items.size (λi v=>items[i]?=some v) (λi h=>ItAt κ h it l i/\SqAt κ h l items) where
 live:=λ_ _ st=>let ⟨o,ho,_⟩:=st.1.lies; ⟨o,ho⟩
 frame:=λ_ _ _ st k=>⟨st.1.mv λo e=>k it (by simp) o e,st.2.mv λo e=>k l (by simp) o e⟩
 item:=λi s Q E hi st hQ=>Fy st.1 st.2 (x:=items[i]) (by simp [hi]) λh' a b=>hQ _ h' s.toks (by simp [hi]) ⟨a,st.2.eb b.extBut c⟩ b
 done:=λs Q E st hE=>G6 hh st.1 st.2 (by simp) hE
theorem QE{κ:Bool}(hh:A.handled=none)(it l:Ch)(items:Array Cn)(k:Nat)(a:items[k]?=none):Draws prog w A it [it,l] k (λ_ _=>True) (λi h=>ItAt κ h it l i/\SqAt κ h l items/\i=k) where
 live:=λ_ _ st=>let ⟨o,ho,_⟩:=st.1.lies; ⟨o,ho⟩
 frame:=λ_ _ _ st k=>⟨st.1.mv λo e=>k it (by simp) o e,st.2.1.mv λo e=>k l (by simp) o e,st.2.2⟩
 item:=λi s Q E hi st hQ=>absurd st.2.2 (c7 hi)
 done:=λs Q E st hE=>G6 hh st.1 st.2.1 a hE
theorem Ua(κ:Bool)(l:Ch)(items:Array Cn):Meets (gf.«enumerate.__new__» ⟨[.type "enumerate",.ref l],[]⟩) (λ_ R s=>SqAt κ s.heap l items /\
   R (.ok (.ret (.ref (s.heap.push (IA κ l)).objs.size))) { s with heap:=(s.heap.push (IA κ l)).push { cls:=.type "enumerate",data:=.fields #[.none,.bool false,.ref s.heap.objs.size,rawInt 0,.none,.none] } }) :=
 .of_wp λprog w A R s h=>by
  obtain⟨hp,g,d,tk,os⟩:=s; obtain⟨hl,h⟩:=h
  have hsub:=sub_enumerate;cases κ with
  | true =>
   have hL:jb (gG ⟨hp,g,d,tk,os⟩) l items:=hl;obtain⟨⟨c,dct,dt,sl⟩,ho,hc,n,hd⟩:=id hL;replace hc:c=.type "list":=hc;replace hd:dt=.seq items n:=hd;subst hc hd
   wp_walk using fG ho
   refine wpAny_stack_any λst=>Sc ?_
   split
   ·rename_i c _ _ _ _ _
    cases (c==fE "enumerate") <;> (wp_walk using fG ho,e8 hL; exact⟨_,rfl,h⟩)
   ·(wp_walk using fG ho,e8 hL; exact⟨_,rfl,h⟩)
  | false =>
   have hL:jR (gG ⟨hp,g,d,tk,os⟩) l items:=hl;obtain⟨⟨c,dct,dt,sl⟩,ho,hc,n,hd⟩:=id hL;replace hc:c=.type "tuple":=hc;replace hd:dt=.seq items n:=hd;subst hc hd
   wp_walk using fG ho
   refine wpAny_stack_any λst=>Sc ?_
   split
   ·rename_i c _ _ _ _ _
    cases (c==fE "enumerate") <;> (wp_walk using fG ho,ef hL; exact⟨_,rfl,h⟩)
   ·(wp_walk using fG ho,ef hL; exact⟨_,rfl,h⟩)
theorem LA{κ:Bool}{l:Ch}{items:Array Cn}{Q:Cn->FM->Prop}(c:SqAt κ s.heap l items)
  (h:∀h',IsEnum h' (s.heap.objs.size+1) s.heap.objs.size 0 .none->ItAt κ h' s.heap.objs.size l 0->(∀b o,s.heap.get? b=some o->h'.get? b=some o)->Q (.ref (s.heap.objs.size+1)) { s with heap:=h' }) :
  wpAny (model prog w) A (call (.type "enumerate") [.ref l]) Q E s:=by
 refine callType_new F.called_enumerate (by decide) (F.typeCall_enumerate_1 _) (F.newCall_enumerate_1 _) (λobj=>F.args_object_init_2 obj _) F.entry_enumerate_new (Ua κ l items) ⟨c,?_⟩;have a:(s.heap.push (IA κ l)).objs.size=s.heap.objs.size+1:=eq ..;have g1:((s.heap.push (IA κ l)).push { cls:=.type "enumerate",data:=.fields #[.none,.bool false,.ref s.heap.objs.size,rawInt 0,.none,.none] }).get? (s.heap.push (IA κ l)).objs.size=some _:=cj _ rfl;rw [a] at g1;refine⟨⟨_,by rw [a]; exact g1,rfl⟩,?_⟩;rw [a];exact h _ g1 ((J5 κ s.heap l).mv λo e=>Ev _ e) λb o e=>Ev _ (Ev _ e)
end
def ZN(K:Frag)(κ:Bool)(a:Ch)(xs:List V):It :=
 ⟨λi H=>SqK κ K H a xs/\i<xs.length,λi H x H'=>∃T p,x=.ref T/\H T=none/\H'=A4 H T (.tup [.int i,p])/\xs[i]?=some p,λi H=>SqK κ K H a xs/\xs.length<=i⟩
structure ZD (κ:Bool) (e it a:Ch) (k:Nat) (h:cw):Prop where
 e:∃old,IsEnum h e it (k:Int) old
 i:ItAt κ h it a k
theorem Rh{P:cz}{w:dC}{K:Frag}{es:List c_}{j:Nat}{pos:Pos}(κ:Bool)(e it a:Ch)(xs:List V)(ei:e≠it)(ae:a≠e)(ai:a≠it) :
  Turn P w K (.Tuple es j pos) (ZN K κ a xs) [e,it] e (ZD κ e it a) where
 mem:=by simp
 obj:=λi h st c b=>by
  simp only [T0,c6,or_false] at b
  rcases b with rfl | rfl
  ·obtain⟨o,q⟩:=st.e
   exact⟨_,q,λv q=>by cases q⟩
  ·exact st.i.lies
 keep:=λi h h' st k=>by
  obtain⟨o,q⟩:=st.e;exact⟨⟨o,k e (by simp) _ q⟩,st.i.mv λo e=>k it (by simp) o e⟩
 item:=by
  intro X hP hw hK b i zG s σ H E I hf st hg;subst hP hw hK;obtain⟨ha,hi⟩:=hg;obtain⟨us,r1,q1⟩:=ha.at I;obtain⟨u,hu,ru⟩:=r1.get (No hi);obtain⟨old,ee⟩:=st.e;have l1:=r1.length;refine wpAny_pyNext_enum_itemD (Sl (κ:=κ) (A:=X.A.in1) (I.ok.hd b) it a ai us.toArray) ee ⟨st.i,q1⟩ (by simp; omega) ei (by simp [ei,ae.symm]) λx h' tk hp a1 a2 a3 a4 a5=>⟨_,rfl,?_⟩
  have d:x=u:=by
   have e2:us[i]?=some x:=by simpa using hp
   rw [hu] at e2;exact(cv e2).symm
  subst d;refine wpAny_letOwnedTupleGo_enum a1 λh2 b1 b2=>?_;have hT:H s.heap.objs.size=none:=I.hok.fresh (On _)
  have kk:∀c o,c∉[e,it]->s.heap.get? c=some o->h2.get? c=some o:=λc o b z=>by
   simp only [T0,c6,or_false,not_or] at b;exact b2.extBut _ _ b.1 (a5 c o b.1 b.2 z)
  have I2:Inv X zG σ (A4 H s.heap.objs.size (.tup [.int i,xs[i]])) { s with heap:=h2,toks:=tk+1 }:=by
   refine I.turnLaid (t':=tk+1) (ch:=[e,it]) hf kk (On _) ?_;have nT:s.heap.objs.size≠e:=fV (UF ee);exact⟨by show 2<=sizeLine; decide,[.int i tk,x],.cons ⟨_,rfl⟩ (.cons ru .nil),⟨_,b2.extBut _ _ nT a3,rfl,_,rfl,rfl,rfl⟩⟩
  refine⟨.ref s.heap.objs.size,_,I2,rfl,⟨_,_,rfl,hT,rfl,No hi⟩,⟨⟨_,b1⟩,a2.1.eb b2.extBut ei.symm⟩,λc b=>?_⟩;have f:H c=none:=(hf c b).1
  have g:c≠s.heap.objs.size:=λz=>by
   obtain⟨o,ho⟩:∃o,s.heap.get? c=some o:=by
    simp only [T0,c6,or_false] at b
    rcases b with rfl | rfl
    ·exact⟨_,ee⟩
    ·obtain⟨o,q,_⟩:=st.i.lies; exact⟨o,q⟩
   rw [z] at ho;exact eK _ (UF ho)
  rw [AQ g]; exact f
 done:=by
  intro X hP hw hK b i zG s σ H E I hf st hg;subst hP hw hK;obtain⟨ha,hi⟩:=hg;obtain⟨us,r1,q1⟩:=ha.at I;obtain⟨old,ee⟩:=st.e;have l1:=r1.length;refine wpAny_pyNext_enum_endD (QE (κ:=κ) (A:=X.A.in1) (I.ok.hd b) it a us.toArray i (by simp; omega)) ee ⟨st.i,q1,rfl⟩ λh' kk=>⟨rfl,?_⟩;refine I.turnedL (t':=s.toks) (ch:=[e,it]) hf λc o b e=>?_;simp only [T0,c6,or_false,not_or] at b;exact kk c o b.2 e
 self:=λA i s Q E st h=>by
  obtain⟨old,ee⟩:=st.e;exact wpAny_pyIter_enum ee h
section
variable {X:Cx}{e1:Expr}{es:List Expr}{j:Nat}{tpos p pos:Pos}{te:TE}
def aC(K:Frag)(te:TE):TI:=λσ H R=>te σ H λv H1=>∃κ a xs,v=.ref a/\SqK κ K H1 a xs/\R (ZN K κ a xs) H1
theorem Vq(hg:Gl X "enumerate")(hm:X.mg "enumerate"=none)(he:PE X e1 te)(d:starEach [e1] X.env=[(false,eval e1 X.env)]:=by rfl) :
  PI X (.Tuple es j tpos) (.Call (.Name "enumerate" p) [e1] [] pos) (aC X.K te):=by
 intro zG s σ H R I h;refine eN (FT I hg hm boot_enumerate ?_);refine e9 ?_ d rfl;rw [d];refine gC (thn (he zG s σ H _ I h) λu s1 ⟨x,H1,I1,r1,κ,a,xs,ex,hq,q⟩=>gy ?_);subst ex;cases r1;obtain⟨us,i,q1⟩:=hq.at I1;have la:a<s1.heap.objs.size:=by obtain⟨o,e⟩:=q1.lies; exact UF e
 refine LA q1 λh' f hi k=>?_;refine wpAny_pyIter_enum f ?_;refine⟨s1.heap.objs.size+1,[s1.heap.objs.size+1,s1.heap.objs.size],_,ZN X.K κ a xs,H1,rfl,I1.kept (t':=s1.toks) k,Rh κ _ _ a xs (by show (_:Nat)≠(_:Nat); omega) (c7 (fI la)) (c7 la),⟨⟨_,f⟩,hi⟩,λc g=>?_,q⟩
 have b:s1.heap.objs.size<=c:=by
  simp only [T0,c6,or_false] at g
  rcases g with rfl | rfl
  ·exact dq _
  ·exact On _
 exact I1.fpOk b (I1.hok.fresh b)
end
end L2
namespace Dp
open L2
def FW:Nat->List D->List D
 | _,[]=>[]
 | k,x::r=>.tup [.int (k:Int),x]::FW (k+1) r
theorem Lm:∀(k:Nat) (ds:List D),(FW k ds).length=ds.length
 | _,[]=>rfl
 | k,x::r=>by show (FW (k+1) r).length+1=r.length+1; rw [Lm (k+1) r]
theorem Ln:∀(k:Nat) (ds:List D) (i:Nat),(FW k ds)[i]?=(ds[i]?).map λx=>.tup [.int ((k+i:Nat):Int),x]
 | _,[],i=>by simp [FW]
 | k,x::r,0=>rfl
 | k,x::r,i+1=>by
  show (FW (k+1) r)[i]?=(r[i]?).map _;rw [Ln (k+1) r i,show k+1+i=k+(i+1) by omega]
section
variable {K:Frag}
theorem Oj{M:Ch->Prop}{H:Hp}{κ:Bool}{a:Ch}{vs:List V}{ds:List D}(e:Ats K M H ds vs){i:Nat}{M':Ch->Prop}{H':Hp}(pr:Pres M H M' H')(h1:SqK κ K H' a vs)(b:∀a,M' a->∃o,H' a=some o) :
  (∀d,(FW 0 ds)[i]?=some d->(ZN K κ a vs).go i H'/\∀x H2,(ZN K κ a vs).yld i H' x H2->Grow H' H2/\At K M' H2 d x)/\((FW 0 ds).length<=i->(ZN K κ a vs).stop i H'):=by
 have l1:=e.length;refine⟨λd hd=>?_,λf=>⟨h1,by rw [Lm] at f; omega⟩⟩;rw [Ln,Nat.zero_add] at hd;cases q1:ds[i]? with
 | none=>rw [q1] at hd; cases hd
 | some d1 =>
  rw [q1] at hd;have c:D.tup [.int (i:Int),d1]=d:=cv hd;have i1:i<ds.length:=(cr.mp q1).1;refine⟨⟨h1,by omega⟩,λx H2 y=>?_⟩;obtain⟨T,p,rfl,hT,rfl,e1⟩:=y;obtain⟨v1,f1,a1⟩:=(e.pres pr).get q1;rw [e1] at f1;cases f1;subst c;exact⟨A1 hT,ET b hT ⟨.int (i:Int),[p],rfl,rfl,p,[],rfl,a1,rfl⟩⟩
end
section
variable {X:Cx}{e1:Expr}{es:List Expr}{j:Nat}{tpos p pos:Pos}{κ:Kd}{wa:DW}
def QV(wa:DW):Ef:=λn ρ P=>wa n ρ λd n1=>∃xs,IU d=some xs/\P (FW 0 xs) n1
theorem RA(hg:Gl X "enumerate")(hm:X.mg "enumerate"=none)(h:DE X e1 κ wa)(c:κ≠.tp:=by intro z; cases z)(e:starEach [e1] X.env=[(false,eval e1 X.env)]:=by rfl) :
  DI X (.Tuple es j tpos) (.Call (.Name "enumerate" p) [e1] [] pos) (QV wa):=by
 obtain⟨t,a1,a2⟩:=h;refine⟨_,Vq hg hm a1 e,λC M H n ρ σ P Rr R w q=>?_⟩;refine a2 C M H n ρ σ _ _ R w λv H1 d n1 ee f1 r1 p=>?_;obtain⟨xs,hd,p⟩:=p;obtain⟨zX,a,us,rfl,h1,s1⟩:=Pa (r1.shOf R.dom c) hd;exact⟨zX,a,us,rfl,s1 M H1 (Pres.refl _ _),q _ H1 _ n1 ee f1 (λi M' H' pr b=>Oj h1 pr (s1 M' H' pr) b) p⟩
end
def Wv(i:Nat)(b:BW)(body:Aj):Aj:=λD2 n ρ=>∃d ds,ρ[i]?=some (.br d)/\IU d=some ds/\Bm b body D2 ds n ρ
section
variable {X:Cx}{κ:Kd}{tg:Expr}{body:List Stmt}{b:BW}{wb:Aj}{pos p:Pos}{x:Str}{i:Nat}
theorem Rel.lessKp{K:Frag}{C:Fm}{q:Ch×HO}{M:Ch->Prop}{H:Hp}{n:Nat}{ρ:List Slot}{σ:L2.St}(R:Rel K { C with kp:=q::C.kp } M H n ρ σ):Rel K C M H n ρ σ :=
 ⟨R.len,R.sub,R.dom,R.ext,R.fU,R.uV,R.vM,R.feed,R.sl,R.pin,R.br0,R.new,R.two,λp hp=>R.kept p (Re _ hp)⟩
theorem WP(hp:iA (model X.prog X.w) X.A X.env X.xe)(t:X.calm=true)(h:PE X (.Name x p) (CH i))(hg:DG X tg b)(B:QR X κ body wb)
  (D:∀y,foldedSetIterable (.Name x p) X.env y=pure y:=by intro _; rfl):DS X κ (.For tg (.Name x p) body [] pos) (Wv i b wb):=by
 obtain⟨g,g1,g2⟩:=hg;obtain⟨tb,b1,b2⟩:=B;refine⟨_,Jh hp t (Pq h) g1 b1 D,λC M H n ρ σ D2 E R L w=>?_⟩;obtain⟨d,ds,hi,hd,w⟩:=w;obtain⟨v,e1,hAt⟩:=R.sl i _ hi;cases d with
 | tup r =>
  cases hd;obtain⟨a,vs,rfl,hn,k⟩:=hAt;refine⟨.ref a,getD_some e1,.inr (.inl ⟨a,rfl,⟨vs,hn.sq⟩,?_⟩)⟩;obtain⟨c,ek⟩:∃c,c=C.kp:=⟨_,rfl⟩;have R1:Rel X.K { C with kp:=c } M H n ρ σ:=by rw [ek]; exact R
  have less:∀{M H n ρ σ},Rel X.K { C with kp:=c } M H n ρ σ->Rel X.K C M H n ρ σ:=λR=>by rw [ek] at R; exact R
  have st:∀M' H' n' zY zZ,Rel X.K { C with kp:=c,zG:=(M,H)::C.zG } M' H' n' zY zZ->SqT X.K H' a vs:=λM' H' n' zY zZ R'=>(hn.pres (R'.pin (M,H) Op)).sq;refine⟨λi m zZ H'=>m=ds.length - i/\i<=ds.length/\∃M' n' zY,Rel X.K { C with kp:=c,zG:=(M,H)::C.zG } M' H' n' zY zZ/\Bm b wb D2 (ds.drop i) n' zY,⟨ds.length,by simp,TM _,M,n,ρ,R1.pinned,w⟩,?_⟩;rintro i m zZ H' ⟨rfl,s,M',n',zY,R',w'⟩;have pr:Pres M H M' H':=R'.pin (M,H) Op;have hq:=st M' H' n' zY zZ R'
  by_cases f:i<ds.length
  ·have ed:ds.drop i=ds[i]::ds.drop (i+1):=eI f
   rw [ed] at w';obtain⟨v,ev,hv⟩:=(k.pres pr).get (No f);refine .inr ⟨⟨vs,v,hq,ev⟩,λzO H2=>∃M2 n2 zN,Rel X.K { C with kp:=c,zG:=(M,H)::C.zG } M2 H2 n2 zN zO/\Bm b wb D2 (ds.drop (i+1)) n2 zN,λzO H2 ⟨M2,n2,zN,R2',w2⟩=>⟨ds.length - (i+1),by omega,rfl,f,M2,n2,zN,R2',w2⟩,λy H2 hy=>?_⟩;obtain⟨e2,hy⟩:=hy;subst e2
   have:some v=some y:=ev.symm.trans (hy vs hq)
   cases this;refine g2 _ M' H2 n' zY zZ ds[i] v _ _ R' hv w' λzP zV R3 w3=>?_;refine b2 _ M' H2 n' zP zV { D2 with nx:=Bm b wb D2 (ds.drop (i+1)),ct:=Bm b wb D2 (ds.drop (i+1)),bk:=D2.nx } _ R3 ⟨λM4 H4 n4 zS zQ R4 w4=>⟨M4,n4,zS,R4,w4⟩,L.rt,λM4 H4 n4 zS zQ R4 w4=>L.nx M4 H4 n4 zS zQ (less R4.unpin) w4,λM4 H4 n4 zS zQ R4 w4=>⟨M4,n4,zS,R4,w4⟩⟩ w3
  ·have e:i=ds.length:=by omega
   subst e;rw [fz] at w';exact .inl ⟨⟨vs,hq,by rw [k.length]; exact On _⟩,L.nx M' H' n' zY zZ (less R'.unpin) w'⟩
 | lst r =>
  cases hd;obtain⟨a,vs,rfl,nV,hH,k⟩:=hAt
  obtain⟨o,ho,l⟩:∃o,H a=some o/\∀H':Hp,H' a=some o->SqL X.K H' a vs:=by
   rcases hH with z | ⟨u,z⟩
   ·exact⟨_,z,λH' e=>.inl (.inl e)⟩
   ·exact⟨_,z,λH' e=>.inl (.inr ⟨u,e⟩)⟩
  refine⟨.ref a,getD_some e1,.inl ⟨a,rfl,⟨vs,l H ho⟩,?_⟩⟩
  obtain⟨c,R1,less,st⟩:∃c,Rel X.K { C with kp:=c } M H n ρ σ/\(∀{M H n ρ σ},Rel X.K { C with kp:=c } M H n ρ σ->Rel X.K C M H n ρ σ)/\(∀M' H' n' zY zZ,Rel X.K { C with kp:=c,zG:=(M,H)::C.zG } M' H' n' zY zZ->SqL X.K H' a vs):=by
   by_cases hM:M a
   ·refine⟨(a,o)::C.kp,⟨R.len,R.sub,R.dom,R.ext,R.fU,R.uV,R.vM,R.feed,R.sl,R.pin,R.br0,R.new,R.two,λq hq=>?_⟩,λR=>R.lessKp,λM' H' n' zY zZ R'=>l H' (R'.kept (a,o) Op).1⟩
    rcases T0.mp hq with rfl | hq
    ·refine⟨ho,hM,nV,λj e q z=>?_⟩
     obtain⟨u,hu⟩:=R.br0 i _ a hi e1
     have:=(R.new j _ a q rfl z).2
     rw [hu] at this;cases this
    ·exact R.kept q hq
   ·exact⟨C.kp,R,λR=>R,λM' H' n' zY zZ R'=>l H' ((R'.pin (M,H) Op).1 a o ho hM)⟩
  refine⟨λi m zZ H'=>m=ds.length - i/\i<=ds.length/\∃M' n' zY,Rel X.K { C with kp:=c,zG:=(M,H)::C.zG } M' H' n' zY zZ/\Bm b wb D2 (ds.drop i) n' zY,⟨ds.length,by simp,TM _,M,n,ρ,R1.pinned,w⟩,?_⟩;rintro i m zZ H' ⟨rfl,s,M',n',zY,R',w'⟩;have pr:Pres M H M' H':=R'.pin (M,H) Op;have hq:=st M' H' n' zY zZ R'
  by_cases f:i<ds.length
  ·have ed:ds.drop i=ds[i]::ds.drop (i+1):=eI f
   rw [ed] at w';obtain⟨v,ev,hv⟩:=(k.pres pr).get (No f);refine .inr ⟨⟨vs,v,hq,ev⟩,λzO H2=>∃M2 n2 zN,Rel X.K { C with kp:=c,zG:=(M,H)::C.zG } M2 H2 n2 zN zO/\Bm b wb D2 (ds.drop (i+1)) n2 zN,λzO H2 ⟨M2,n2,zN,R2',w2⟩=>⟨ds.length - (i+1),by omega,rfl,f,M2,n2,zN,R2',w2⟩,λy H2 hy=>?_⟩;obtain⟨e2,hy⟩:=hy;subst e2
   have:some v=some y:=ev.symm.trans (hy vs hq)
   cases this;refine g2 _ M' H2 n' zY zZ ds[i] v _ _ R' hv w' λzP zV R3 w3=>?_;refine b2 _ M' H2 n' zP zV { D2 with nx:=Bm b wb D2 (ds.drop (i+1)),ct:=Bm b wb D2 (ds.drop (i+1)),bk:=D2.nx } _ R3 ⟨λM4 H4 n4 zS zQ R4 w4=>⟨M4,n4,zS,R4,w4⟩,L.rt,λM4 H4 n4 zS zQ R4 w4=>L.nx M4 H4 n4 zS zQ (less R4.unpin) w4,λM4 H4 n4 zS zQ R4 w4=>⟨M4,n4,zS,R4,w4⟩⟩ w3
  ·have e:i=ds.length:=by omega
   subst e;rw [fz] at w';exact .inl ⟨⟨vs,hq,by rw [k.length]; exact On _⟩,L.nx M' H' n' zY zZ (less R'.unpin) w'⟩
 | _=>cases hd
end
end Dp
namespace L2
open PySem.W
end L2
namespace Dp
open L2
end Dp
namespace L2
def bz(d:Ch)(o:Obj)(a:List (Key×V)):It :=
 ⟨λi H=>H d=some (.frz o (.dK a))/\i<a.length,λi H x H'=>H'=H/\∃p,a[i]?=some p/\x=kV p.1,λi H=>H d=some (.frz o (.dK a))/\a.length<=i⟩
theorem Rg{P:cz}{w:dC}{K:Frag}{tg:c_}(d it:Ch)(o:Obj)(a:List (Key×V))(es:Array DictEntry)(ep:Nat)(f:o.data=.dict es ep) :
  Turn P w K tg (bz d o a) [it] it (λi h=>h.IsKeyIter it d i a.length ep) where
 mem:=by simp
 obj:=λi h st c g=>by
  rw [Tk.mp g];obtain⟨u,hu,_,hd⟩:=st;exact⟨u,hu,λv q=>by rw [hd] at q; cases q⟩
 keep:=λi h h' st k=>st.at λu e=>k it (by simp) u e
 item:=by
  intro X hP hw hK g i zG s σ H E I hf st hg;subst hP hw hK;obtain⟨hH,hi⟩:=hg;obtain⟨ws,kv,D⟩:=NA I hH f
  have m:=kv.length;have n:i<ws.length:=by omega
  rw [m] at st;obtain⟨k,v,p⟩:∃k v,ws[i]=(k,v):=⟨_,_,rfl⟩;have x:ws[i]?=some (k,v):=by rw [No n,p]
  have hp:a[i]?=some a[i]:=No hi;obtain⟨ek,rv⟩:=N_ kv hp x;have ek:a[i].1=k:=ek;refine wpAny_pyNext_dict_item st D x λkey h' j hit l=>⟨_,rfl,?_⟩;obtain⟨u,hu,r,t⟩:=id hit;refine Oe hu r t (by decide) ?_;have I2:Inv X zG σ H { s with heap:=h' }:=I.turnedL (t':=s.toks) (ch:=[it]) hf λc o g e=>l.extBut c o (λz=>g (by rw [z]; exact Tk.mpr rfl)) e;exact⟨_,H,I2,YZ (by rw [← ek] at j; exact j),⟨rfl,_,hp,rfl⟩,by rw [m]; exact hit,λb y=>(hf b y).1⟩
 done:=by
  intro X hP hw hK g i zG s σ H E I hf st hg;subst hP hw hK;obtain⟨hH,hi⟩:=hg;obtain⟨ws,kv,D⟩:=NA I hH f
  have m:=kv.length;rw [m] at st;refine wpAny_pyNext_dict_end (I.ok.hd g) st D (List.getElem?_eq_none (by omega)) λh' ext=>⟨rfl,?_⟩;exact I.turnedL (t':=s.toks) (ch:=[it]) hf λc o g e=>ext c o (λz=>g (by rw [z]; exact Tk.mpr rfl)) e
 self:=λA i s Q E st h=>wpAny_pyIter_keyiter st h
def aB(te:TE):TI:=λσ H R=>te σ H λx H1=>∃d o a,x=.ref d/\H1 d=some (.frz o (.dK a))/\R (bz d o a) H1
theorem Vp{X:Cx}{e tg:c_}{te:TE}(he:PE X e te):PI X tg e (aB te):=by
 intro zG s σ H R I h;refine thn (he zG s σ H _ I h) λu s1 ⟨x,H1,I1,r1,d,o,f,ex,hd,q⟩=>?_;subst ex;cases r1;obtain⟨_,lo,_⟩:=G7 I1.hok (.inr ⟨o,hd⟩)
 obtain⟨es,ep,a⟩:∃es ep,o.data=.dict es ep:=by
  obtain⟨e0,_,_,ws,kv,o',g,i,e1,e2,e3,e4⟩:=(show ObjOk X.prog X.w H1 s1.heap d (.frz o (.dK f)) from I1.hok d _ hd);rw [e0] at e1;cases e1;exact⟨g,i,e3⟩
 obtain⟨ws,kv,D⟩:=NA I1 hd a
 have j:=kv.length;refine wpAny_pyIter_dict lo D ?_;refine⟨s1.heap.objs.size,[s1.heap.objs.size],_,bz d o f,H1,rfl,I1.kept (t':=s1.toks) λb o e=>Ev _ e,Rg d _ o f es ep a,⟨_,cj _ rfl,rfl,by rw [j]; rfl⟩,λc k=>?_,q⟩;rw [Tk.mp k];exact I1.fpOk (On _) (I1.hok.fresh (On _))
end L2
namespace Dp
open L2
section
variable {X:Cx}{a tg:Expr}{zR:Kd}{wa:DW}
def Ws(wa:DW):Ef:=λn ρ P=>wa n ρ λd n1=>∃ks ds,d=.fdi ks ds/\(∀k∈ks,Qz k)/\P (ks.map XX) n1
theorem WT(ha:DE X a zR wa):DI X tg a (Ws wa):=by
 obtain⟨t,a1,a2⟩:=ha;refine⟨_,Vp a1,λC M H n ρ σ P Rr R w q=>?_⟩;refine a2 C M H n ρ σ _ _ R w λv H1 d n1 ee f1 r1 p=>?_;obtain⟨ks,ds,rfl,b,p⟩:=p;have R1:=R.step ee f1;obtain⟨ad,vs,rfl,⟨o,nM,hd⟩,g,h⟩:∃a vs,v=.ref a/\NdF M H1 a ks vs/\ks.length=ds.length/\Ats X.K M H1 ds vs:=r1.tpOf R.dom R.vM;have k:=h.length;refine⟨ad,o,_,rfl,hd,q _ _ _ n1 ee f1 (λi M' H' pr j=>?_) p⟩;have c:H' ad=some (.frz o (.dK (ks.zip vs))):=(pr.nd nM hd).2;have zl:(ks.zip vs).length=ks.length:=by rw [List.length_zip]; omega
 refine⟨λe he=>?_,λf=>⟨c,by rw [Go] at f; omega⟩⟩;have hi:i<ks.length:=by have:=(cr.mp he).1; rw [Go] at this; exact this
 refine⟨⟨c,by omega⟩,λx H2 y=>?_⟩;obtain⟨rfl,pp,hp,rfl⟩:=y
 have e2:(ks.zip vs)[i]?=some (ks[i],vs[i]'(by omega)):=by
  rw [List.getElem?_zip_eq_some];exact⟨No hi,No (by omega)⟩
 rw [e2] at hp;cases hp
 have e3:e=XX ks[i]:=by
  rw [dR,No hi] at he;exact(cv he).symm
 subst e3;refine⟨.refl,?_⟩;rw [Ya];exact Yq (b _ (dX hi))
def Wu(wa:DW):DW:=λn ρ P=>wa n ρ λd n1=>∃ks ds,d=.dic ks ds/\CT ds=true/\P (.fdi ks ds) n1
mutual
theorem At.frz{K:Frag}{M:Ch->Prop}{H:Hp}{a:Ch}{f:Ch->Obj}{c:List (Key×V)}(ha:H a=some (.dK c)):∀{d:D} {v:V},FP d=true->At K M H d v->At K M (F3 H [a] f) d v
 | .non,v,_,h=>h
 | .bl b,v,_,h=>h
 | .int i,v,_,h=>h
 | .str x,v,_,h=>h
 | .tup ds,v,hn,h=>by
  obtain⟨b,vs,e,n2,g⟩:=h;refine⟨b,vs,e,?_,Ats.frz ha hn g⟩;unfold NdT at n2 ⊢;rw [DR λz=>by rw [Tk.mp z,ha] at n2; cases n2];exact n2
 | .lst ds,v,hn,h=>by
  obtain⟨b,vs,e,⟨n1,n2⟩,g⟩:=h;refine⟨b,vs,e,⟨n1,?_⟩,Ats.frz ha hn g⟩;rw [DR λz=>by rw [Tk.mp z,ha] at n2; cases n2];exact n2
 | .dic _ _,v,hn,h=>by cases hn
 | .fdi _ _,v,hn,h=>by cases hn
 | .dit _ _,v,hn,h=>by cases hn
theorem Ats.frz{K:Frag}{M:Ch->Prop}{H:Hp}{a:Ch}{f:Ch->Obj}{b:List (Key×V)}(ha:H a=some (.dK b)):∀{ds:List D} {vs:List V},CT ds=true->Ats K M H ds vs->Ats K M (F3 H [a] f) ds vs
 | [],vs,_,h=>h
 | d::ds,vs,hn,h=>by
  obtain⟨v,r,e,h1,h2⟩:=h;have hn:(FP d&&CT ds)=true:=hn;rw [cq] at hn;exact⟨v,r,e,At.frz ha hn.1 h1,Ats.frz ha hn.2 h2⟩
end
theorem Yn(ha:DE X a .fr wa):DE X a .sh (Wu wa):=by
 obtain⟨t,a1,a2⟩:=ha;refine⟨_,UO a1,λC M H n ρ σ P Q R w q=>?_⟩;refine a2 C M H n ρ σ _ _ R w λv H1 d n1 e1 f1 r1 p=>?_;obtain⟨ks,ds,rfl,e,p⟩:=p;obtain⟨b,rfl,i,vs,hH,j,k⟩:=r1;refine⟨[b],λc l=>by rw [Tk.mp l]; exact⟨_,hH⟩,λf=>?_⟩;have nM:¬M b:=λz=>by obtain⟨o,w⟩:=R.dom b z; rw [i] at w; cases w
 have out:∀{c:Ch},c≠b->F3 H1 [b] f c=H1 c:=λh=>DR λz=>h (Tk.mp z);refine q _ _ (.fdi ks ds) n1 (λc o ec=>?_) ?_ ⟨b,vs,rfl,⟨f b,nM,Mz (Tk.mpr rfl) hH⟩,j,Ats.frz hH e ?_⟩ p
 ·have nb:c≠b:=A0 ec i
  obtain⟨o1,z1,k1⟩:=e1 c o ec;exact⟨o1,by rw [out nb]; exact z1,k1⟩
 ·intro g hg
  obtain⟨at_,rest,cells,h1,h2,⟨n3,h3⟩,h4⟩:=f1 g hg;exact⟨at_,rest,cells,by rw [out λz=>by rw [z,hH] at h1; cases h1]; exact h1,h2,⟨n3,by rw [out λz=>by rw [z,hH] at h3; cases h3]; exact h3⟩,h4⟩
 ·exact k.pres (Pres.less (M':=M) λ_ z=>.inl z)
end
end Dp
namespace L2
open PySem.W
structure ce (prog:cz) (w:dC) (A:dL) (I d:Ch) (n:Nat) (base:cw) (key:Nat->Ch) (val:Nat->Cn) (ch:Ch->Prop) (St:Nat->cw->Prop):Prop where
 new:∀b,ch b->base.get? b=none
 item:∀(i:Nat) (s:FM) (Q:Option Cn->FM->Prop) (E:Cn->FM->Prop),i<n->St i s.heap->(∀b o,base.get? b=some o->s.heap.get? b=some o)->(∃o,s.heap.get? d=some o) ->
  (∀h' tk a o c,h'.get? a=some o->o.cls=.type "tuple"->o.data=.seq #[.ref (key i),val i] c->St (i+1) h'->(∀b o,¬ch b->s.heap.get? b=some o->h'.get? b=some o)->Q (some (.ref a)) { s with heap:=h',toks:=tk })->wpAny (model prog w) A (pyNext (.ref I)) Q E s
 done:∀(s:FM) (Q:Option Cn->FM->Prop) (E:Cn->FM->Prop),St n s.heap->(∀b o,base.get? b=some o->s.heap.get? b=some o)->(∀h' tk,(∀b o,¬ch b->s.heap.get? b=some o->h'.get? b=some o)->Q none { s with heap:=h',toks:=tk })->wpAny (model prog w) A (pyNext (.ref I)) Q E s
 frame:∀i h h',St i h->fq d h h'->St i h'
 dch:¬ch d
end L2
namespace Dp
open L2
end Dp
namespace L2
end L2
namespace Dp
open L2
end Dp
namespace L2
end L2
namespace Dp
open L2
end Dp
namespace L2
end L2
namespace Dp
open L2
end Dp
namespace L2
end L2
namespace Dp
open L2
end Dp
namespace L2
section
variable {X:Cx}{c e:Expr}
theorem Qy{K:Frag}{C U:Ch}{nm:Str}(c:XC K nm C U):∀{Ds:List Ch} {ns:List Str},Paired (fun(D:Ch) (n:Str)=>n ≠ "ThinError"/\∃U',XC K n D U') Ds ns->PySem.W.kitAny K (.ref C) (Ds.map cm)=some (decide (nm∈ns))
 | [],_,.nil=>by simp [PySem.W.kitAny]
 | D::Ds,_,@Paired.cons _ _ _ _ n _ ns ⟨h1,U',h2⟩ r=>by
  rw [dG];unfold PySem.W.kitAny;rw [c.kit h2 h1]
  by_cases e:nm=n
  ·simp [e]
  ·simp only [e,decide_false]
   rw [Qy c r];simp [e]
theorem Na:∀{Ds:List Ch} {us:List Cn},Vals (Ds.map V.ref) us->us=Ds.map cm
 | [],_,r=>by rw [jP] at r; cases r; rfl
 | D::Ds,_,r=>by
  rw [dG] at r;cases r with
  | cons h t=>rw [dG,Na t]; cases h; rfl
theorem Sr:C2 X (.builtin "isinstance") (λxs H Q=>∃a C U dx u nm t Ds ns,xs=[.ref a,.ref t]/\H a=some u/\XT C dx a u/\(∀d,dx=some d->∃fs,H d=some (.ext (XF d fs)))/\XC X.K nm C U/\H t=some (.tup (Ds.map V.ref))/\Paired (fun(D:Ch) (n:Str)=>n ≠ "ThinError"/\∃U',XC X.K n D U') Ds ns/\Q (.bl (decide (nm∈ns))) H):=by
 intro zG s σ H xs us Q I r h;obtain⟨a,C,U,dx,u,nm,t,Ds,ns,rfl,ea,xt,hd,xc,ht,hn,q⟩:=h;obtain⟨u1,u2,rfl,r1,r2⟩:=vals2 r;cases (show u1=cm a from r1);cases (show u2=cm t from r2)
 have J:=xt.inst I ea λd e=>by
  obtain⟨fs,ho⟩:=hd d e;obtain⟨⟨mA,⟨o,_,_,e2,_⟩,_⟩,_⟩:=(show ObjOk X.prog X.w H s.heap d _ from I.hok d _ ho);exact⟨o,e2⟩
 obtain⟨_,i,rv,o,ho,g,n,b,c,f⟩:=(show ObjOk X.prog X.w H s.heap t _ from I.hok t _ ht);obtain⟨cls,dd,data,sl⟩:=o;simp only at g b c f;subst g b c f;have e:=Na rv;subst e;exact PySem.W.kia_tup xc.kitX I.kIn J ho (Qy xc hn) (by intro z; cases z) λtk=>⟨.bl _,H,I.tok _,rfl,q⟩
end
end L2
namespace Dp
open L2
section
variable {X:Cx}{κ:Kd}{e:Expr}{es:List Expr}{pos p p1 tpos:Pos}{i:Nat}{x:Str}
def Wp(i:Nat)(w:Nat->List Slot->(D->Nat->Prop)->PX->Prop):ZE:=λD2 Pr n ρ=>w n ρ (λd n1=>D2.nx n1 (ρ.set i (.sh d))) Pr
theorem WL{zT:Kd}{w:Nat->List Slot->(D->Nat->Prop)->PX->Prop}{a:Pos}(hN:X.N.Nodup)(hi:X.N[i]?=some x)(b:Loc X.env.scope x)(h:cJ X e zT w)(c:zT≠.tp:=by intro z; cases z)(f:swapsWith e (some (.Name x a)) pos.line X.env=pure false:=by rfl)
  (hf:X.fn x=true\/X.env.scope.names.lookup x=some .local:=by first | exact .inl rfl | exact .inr rfl | assumption):bB X κ (.Assign [.Name x a] e pos) (Wp i w):=by
 obtain⟨t,a1,a2⟩:=h;refine⟨_,Vl hN hi b a1 f hf,λC M H n ρ σ D2 E R Pr r L l w=>?_⟩;exact a2 C M H n ρ σ _ _ R Pr r l w λv H' d n' e1 f1 r1 p=>L.nx M H' n' _ _ ((r.step e1 f1).set (r1.shOf r.dom c)) p
def CN(X:Cx)(es:List c_)(ns:List Str):Prop:=∃Ds:List Ch,PA X es (λ_ H Q=>Q (Ds.map V.ref) H)/\Paired (fun(D:Ch) (n:Str)=>n ≠ "ThinError"/\∃U',XC X.K n D U') Ds ns
theorem Yv:CN X [] []:=⟨[],B0,.nil⟩
theorem F1{cn:Str}{ns:List Str}{D U:Ch}(d:cn ≠ "ThinError")(xd:XC X.K cn D U)(a:Gl X cn)(b:X.mg cn=some (.ref D))(hr:CN X es ns)(e:starEach (.Name cn p::es) X.env=(false,eval (.Name cn p) X.env)::starEach es X.env:=by rfl)(c:(cn==("__debug__":Str))=false:=by decide) :
  CN X (.Name cn p::es) (cn::ns):=by
 obtain⟨Ds,h1,h2⟩:=hr;exact⟨D::Ds,BB (Qq (v:=.ref D) a b rfl c) h1 e,.cons ⟨d,U,xd⟩ h2⟩
def S9(i:Nat)(ns:List Str):DW:=λn ρ P=>match ρ[i]? with
 | some (.ex _ nm _ _)=>P (.bl (decide (nm∈ns))) n
 | _=>False
theorem WW{ns:List Str}{j}(h:CN X es ns)(s:es.length<=100)(hg:Gl X "isinstance")(hm:X.mg "isinstance"=none)(hN:X.N[i]?=some x:=by rfl)(hv:Sw X.env.scope x:=by first | exact TW rfl | exact dZ (TW rfl) | exact dZ (dZ rfl))(hd:(x==("__debug__":Str))=false:=by decide)
  (c:(x==("__classdict__":Str))=false:=by decide) (hn:ns.length<=100:=by decide) (he:starEach [.Name x p1,.Tuple es j tpos] X.env=(false,eval (.Name x p1) X.env)::starEach [.Tuple es j tpos] X.env:=by rfl) (e:starEach [.Tuple es j tpos] X.env=[(false,eval (.Tuple es j tpos) X.env)]:=by rfl) (f:(backTo pos (starEach [.Tuple es j tpos] X.env)).any (·.1)=false:=by rfl) :
  DE X (.Call (.Name "isinstance" p) [.Name x p1,.Tuple es j tpos] [] pos) .sh (S9 i ns):=by
 obtain⟨Ds,h1,h2⟩:=h;refine⟨_,Cv Sr hg hm (by decide +kernel) (BB (Em hN hv hd c) (BB (Pt h1) B0 e) he) (by decide) (by decide) he f,λC M H n ρ σ P Q R w q=>?_⟩;unfold S9 at w
 split at w
 ·rename_i a nm ks ds hd
  obtain⟨e1,Cc,U',dx,u,vs,xc,⟨na,ha⟩,xt,l,m,v⟩:=R.sl i _ hd;have r:(Ds.map V.ref).length<=sizeLine:=by rw [Go,Paired.length h2,di]; omega
  refine⟨.ref a,getD_some e1,r,λt ht=>?_⟩;have g:Grow H (A4 H t (.tup (Ds.map V.ref))):=A1 ht;have nt:∀b o,H b=some o->A4 H t (.tup (Ds.map V.ref)) b=some o:=λb o q=>by rw [AQ (λz=>by subst z; rw [ht] at q; cases q)]; exact q
  refine⟨a,Cc,U',dx,u,nm,t,Ds,ns,rfl,nt _ _ ha,xt,λd ed=>?_,xc,AX,h2,q _ _ (.bl _) n g.ext (R.feed.grow g) rfl w⟩
  rcases l with ⟨z,_⟩ | ⟨dd,z,_,k⟩
  ·rw [z] at ed; cases ed
  ·rw [z] at ed; cases ed; exact⟨_,nt _ _ k⟩
 ·exact w.elim
end
section
variable {X:Cx}{κ:Kd}{tg iter:Expr}{src:Ef}{body:List Stmt}{pos:Pos}{b:BW}{wb:Aj}
theorem WM{Φ:Fm->Prop}(hΦ:∀C p,Φ C->Φ { C with zG:=p })(hp:iA (model X.prog X.w) X.A X.env X.xe)(c:X.calm=true)(hi:DI X tg iter src)(hg:DG X tg b)(d:PJ Φ X κ body wb)
  (f:∀x,foldedSetIterable iter X.env x=pure x:=by intro _; rfl):ZP Φ X κ (.For tg iter body [] pos) (E6 src b wb):=by
 obtain⟨wi,a1,a2⟩:=hi;obtain⟨g,g1,g2⟩:=hg;obtain⟨tb,b1,b2⟩:=d;refine⟨_,Jh hp c a1 g1 b1 f,λC M H n ρ σ D2 E hC R L w=>?_⟩;refine a2 C M H n ρ σ _ _ R w λJ H1 ds n1 e1 f1 y w1=>?_;have R1:=R.step e1 f1;refine⟨λi m zZ H'=>m=ds.length - i/\i<=ds.length/\∃M' n' zY,Rel X.K { C with zG:=(M,H1)::C.zG } M' H' n' zY zZ/\Bm b wb D2 (ds.drop i) n' zY,⟨ds.length,by simp,TM _,M,n1,ρ,R1.pinned,w1⟩,?_⟩;rintro i m zZ H' ⟨rfl,hi,M',n',zY,R',w'⟩;have pr:Pres M H1 M' H':=R'.pin (M,H1) Op
 by_cases a:i<ds.length
 ·have ed:ds.drop i=ds[i]::ds.drop (i+1):=eI a
  rw [ed] at w';obtain⟨go,yl⟩:=(y i M' H' pr R'.dom).1 ds[i] (No a);refine .inr ⟨go,λzO H2=>∃M2 n2 zN,Rel X.K { C with zG:=(M,H1)::C.zG } M2 H2 n2 zN zO/\Bm b wb D2 (ds.drop (i+1)) n2 zN,λzO H2 ⟨M2,n2,zN,R2',w2⟩=>⟨ds.length - (i+1),by omega,rfl,a,M2,n2,zN,R2',w2⟩,λx H2 hy=>?_⟩;obtain⟨gr,h⟩:=yl x H2 hy;have R2':=R'.step gr.ext (R'.feed.grow gr);refine g2 _ M' H2 n' zY zZ ds[i] x _ _ R2' h w' λzP zV R3 w3=>?_;refine b2 _ M' H2 n' zP zV { D2 with nx:=Bm b wb D2 (ds.drop (i+1)),ct:=Bm b wb D2 (ds.drop (i+1)),bk:=D2.nx } _ (hΦ C _ hC) R3 ⟨λM4 H4 n4 zS zQ R4 w4=>⟨M4,n4,zS,R4,w4⟩,L.rt,λM4 H4 n4 zS zQ R4 w4=>L.nx M4 H4 n4 zS zQ R4.unpin w4,λM4 H4 n4 zS zQ R4 w4=>⟨M4,n4,zS,R4,w4⟩⟩ w3
 ·have e:i=ds.length:=by omega
  subst e;rw [fz] at w';exact .inl ⟨(y _ M' H' pr R'.dom).2 (On _),L.nx M' H' n' zY zZ R'.unpin w'⟩
end
section
variable {X:Cx}{zT:Kd}{tg elt iter:Expr}{ifs:List Expr}{sc:Scope}{pos:Pos}{src:Ef}{b:BW}{tt:HI}{te:DW}
theorem U7{κ:Kd}{i:Nat}{x:Str}{c e:Pos}(hN:X.N.Nodup)(f:X.N[i]?=some x)(k:Loc X.env.scope x)(h:X.calm=true)(N':List Str)(js:List (Option Nat))(hi:Xd X tg iter src)(hg:∀cl C s H fp,DG (A3 X sc N' cl C s H fp) tg b)(ht:∀cl C s H fp,ZG (A3 X sc N' cl C s H fp) ifs tt)(he:∀cl C s H fp,DE (A3 X sc N' cl C s H fp) elt zT te)
  (hB:G9 sc X.env.scope X.N N' js=true) (g:swapsWith (.ListComp elt [⟨tg,iter,ifs,0⟩] sc pos) (some (.Name x c)) e.line X.env=pure true:=by rfl) (l:zT≠.tp:=by intro z; cases z)
  (j:∀x,foldedSetIterable iter X.env x=pure x:=by intro _; rfl)
  (hf:X.fn x=true\/X.env.scope.names.lookup x=some .local:=by first | exact .inl rfl | exact .inr rfl | assumption):DS X κ (.Assign [.Name x c] (.ListComp elt [⟨tg,iter,ifs,0⟩] sc pos) e) (EI i (BR js src b tt te)):=by
 obtain⟨wi,a1,a2⟩:=Ou h N' js hi hg ht he hB l j;refine⟨_,Qk h N' js a1 hB hN f k g j hf,λC M H n ρ σ D2 E R L w=>?_⟩;refine a2 C M H n ρ σ _ _ R w λv H' d n' e1 f1 r1 p=>?_;obtain⟨a,rfl,h1,h2⟩:=r1;exact L.nx _ H' n' _ _ (R.setOw e1 f1 h1 h2) p
end
abbrev Fu(K:Frag)(x:Str)(st:dE)(f:Ch)(fd:dU):Prop:=Fun K x x st f fd
theorem F_{P:cz}{w:dC}{K:Frag}{mg:Str->Option Cn}{base:cw}{x:Str}{st:dE}{f:Ch}{fd:dU}{N ps:List Str}{k:Nat}{κ:Kd}{W:W2}{wb:Aj}(F:Fu K x st f fd)(S:Ai N ps (AH st))
  (b:∀{a:Cn} {A:dL} {outer:List Env} {s:FM} {H:Hp} {E:XK},Room k (A.deeper (envOfC x (AH st) s.heap.objs.size f a))->QR (EX CL P w K mg base N x (AH st) f a A outer s H E).nox κ (BX st) wb)
  (hW:∀{ss n Pd},W ss n Pd->wb { nx:=λn _=>κ=.sh/\Pd .non n,rt:=Pd } n (ss++Uf (N.length - ps.length) .no)) (hNp:ps.length<=N.length:=by decide) :
  BD P w K mg base CL (k+1) f fd ps (Di K κ W ps.length):=be F S hNp (λ_ _ _ _ _ _ h=>b h) (λ_ _ _ _ h=>hW h)
section
variable {X:Cx}
theorem cg{m:Nat}(hr:Room m X.A){e:c_}{es:List c_}{k:Nat}{ps:List Str}{κ:Kd}{W:W2}{x:Str}{p pos:Pos}{a:S1}(G:Got X.prog X.w X.K X.mg X.base x k ps κ W)(ha:Xe X (e::es) a)(d:k<=m:=by decide)(hg:Gl X x:=by rfl)
  (b:(x==("__debug__":Str))=false:=by decide) (he:starEach (e::es) X.env=(false,eval e X.env)::starEach es X.env:=by rfl) (c:(backTo pos (starEach es X.env)).any (·.1)=false:=by rfl):DE X (.Call (.Name x p) (e::es) [] pos) κ (AZ W a):=Bn G (hr.mono d) hg ha b he c
variable {tg iter elt:Expr}{ifs:List Expr}{sc:Scope}{pos:Pos}{b:BW}{tt:HI}{te:DW}{zT:Kd}{src:Ef}
theorem Ks(N':List Str)(js:List (Option Nat))(hi:Xd X tg iter src)(hg:∀{cl C s H fp},DG (A3 X sc N' cl C s H fp) tg b)(ht:∀{cl C s H fp},ZG (A3 X sc N' cl C s H fp) ifs tt)(he:∀{cl C s H fp},DE (A3 X sc N' cl C s H fp) elt zT te)
  (hB:G9 sc X.env.scope X.N N' js=true) (a:X.calm=true:=by rfl) (c:zT≠.tp:=by intro z; cases z) (d:∀x,foldedSetIterable iter X.env x=pure x:=by intro _; rfl):DE X (.ListComp elt [⟨tg,iter,ifs,0⟩] sc pos) .fr (BR js src b tt te):=Wc a N' js hi (λ_ _ _ _ _=>hg) (λ_ _ _ _ _=>ht) (λ_ _ _ _ _=>he) hB c d
end
end Dp
namespace K14
open L2 Dp Nt
def top(i:Nat):dE:=PySem.Challenge.pw_thinnet_k14_papers_of_ways_bent.main.body.getD i (.Pass ⟨0,0,0,0⟩)
def XH(s:dE):dE:=match s with
 | .ClassDef _ _ _ b _ _ _ _ _ _ _=>b.getD 0 (.Pass ⟨0,0,0,0⟩)
 | _=>.Pass ⟨0,0,0,0⟩
abbrev GQ:dE:=top 10
abbrev Dx:dE:=top 11
abbrev FJ:dE:=top 12
abbrev HR:dE:=top 13
abbrev GO:dE:=top 14
abbrev GN:dE:=top 15
abbrev FI:dE:=top 16
abbrev HS:dE:=top 17
abbrev GP:dE:=top 18
abbrev FG:dE:=top 20
abbrev Ck:dE:=top 21
abbrev FH:dE:=top 23
abbrev FE:dE:=top 25
abbrev FF:dE:=top 26
abbrev FL:dE:=top 28
abbrev Dl:dE:=top 29
abbrev Ei:dE:=top 30
abbrev Dz:dE:=top 31
abbrev D0:dE:=top 32
abbrev GS:dE:=top 33
abbrev Ej:dE:=top 34
abbrev C4:dE:=top 35
abbrev Ek:dE:=top 36
abbrev DF:dE:=top 37
abbrev GR:dE:=top 38
abbrev FN:dE:=top 39
abbrev DM:dE:=top 40
abbrev D1:dE:=top 41
abbrev FK:dE:=top 42
abbrev D4:dE:=top 43
abbrev DL:dE:=top 44
abbrev Dy:dE:=top 45
abbrev C3:dE:=top 46
abbrev Cm:dE:=top 47
abbrev DJ:dE:=top 48
abbrev DK:dE:=top 49
abbrev El:dE:=top 50
abbrev CY:dE:=top 51
abbrev Jb:dE:=top 52
abbrev B_:dE:=XH (top 2)
abbrev CM:dE:=XH (top 3)
structure Txt (K:Frag) (mg:Str->Option Cn):Prop where
 Gak:mg "ValueError"=none
 Gai:mg "all"=none
 Gam:mg "bool"=none
 Gah:mg "enumerate"=none
 Gal:mg "int"=none
 Gaa:mg "isinstance"=none
 Gac:mg "len"=none
 Gae:mg "list"=none
 Gad:mg "range"=none
 Gaf:mg "repr"=none
 Gag:mg "sorted"=none
 Gaj:mg "str"=none
 Gab:mg "tuple"=none
 Gan:mg "zip"=none
 x_NoPaper:∃C U,XC K "NoPaper" C U/\mg "NoPaper"=some (.ref C)
 x_NoLine:∃C U,XC K "NoLine" C U/\mg "NoLine"=some (.ref C)
 x_TooMany:∃C U,XC K "TooMany" C U/\mg "TooMany"=some (.ref C)
 x_Twice:∃C U,XC K "Twice" C U/\mg "Twice"=some (.ref C)
 x_NoPlace:∃C U,XC K "NoPlace" C U/\mg "NoPlace"=some (.ref C)
 x_NoTie:∃C U,XC K "NoTie" C U/\mg "NoTie"=some (.ref C)
 x_NoRow:∃C U,XC K "NoRow" C U/\mg "NoRow"=some (.ref C)
 x_ThinError:∃U,ZO K U/\mg "ThinError"=some (.ref U)/\nsIn K mainGlobals "ThinError"=some (some (.ref U))
section
variable {P:Program}{w:World}{K:Frag}{mg:Str->Option Value}{base:Heap}
theorem j1:Ai ["_law_feed_here","_law_many","_law_digit","_law_at","_law_cell","_law_first"] ["_law_feed_here","_law_many"] (AH Dl):=⟨rfl,rfl,rfl,by decide +kernel,rfl,by decide +kernel,by decide +kernel⟩
theorem Vz{f:Ch}{fd:dU}(F:Fun K "_law_next" "_law_next" Dl f fd)(ml:mg "len"=none):BD P w K mg base CL 1 f fd ["_law_feed_here","_law_many"] (Di K .sh BA 2):=by
 refine F.ok j1 (λvs H Q E h=>h.1) (λD A outer s H vs Q E hr h=>?_);obtain⟨Y,F0,U,V',M,n,ss,Pd,ra,⟨m,rfl,S,y,hn,hP⟩,q⟩:=h;obtain⟨T,fU,uV,vM,G,pa⟩:=ra;cases pa with
 | cons r1 pa =>
 cases pa with
 | cons r2 pa =>
 cases pa;obtain⟨⟨f0,c⟩,e0,hF⟩:=r1.1;cases e0;obtain⟨v2,e2,h2⟩:=r2.1;cases e2;cases (show _=V.int m from h2);obtain⟨a,r,cells,hf,v,I,J,L,W⟩:=G (f0,c) hF
 have fin:∀(a' r' z:Int) (H':Hp),(∀b o,H b=some o->b≠f0->H' b=some o)->H' f0=some (.lst [.ref c,.int a',.int r'])->0<=a'->a'<=a+1->0<=z->z<m->Q (.int z) H':=by
  intro a' r' z H' C B h0 h1 N O;refine q (.int z) H' (.int z) (n - 1) (λb o e=>?_) (λg hg=>?_) rfl (hP z N O)
  ·by_cases l:b=f0
   ·subst l
    exact⟨_,B,λnu=>absurd (fU (b,c) hF) nu,λvs z=>by rw [z,hf] at e; cases e⟩
   ·exact⟨o,C b o e l,λ_=>rfl,λ_ _=>rfl⟩
  ·have:g=(f0,c):=cv (hg.symm.trans hF)
   subst this;exact⟨a',r',cells,B,v,⟨I.1,C c _ I.2 v⟩,J,h0,by omega⟩
 have hu:(A.deeper (envOfC "_law_next" (AH Dl) s.heap.objs.size f D)).units<cLine:=hr.units0;have d:∀{H':Hp} {xs:List V},H' f0=some (.lst xs)->SqL K H' f0 xs:=λh=>SqL.of h;have ed:∀z:Int,0<=z % m/\z % m<m:=λz=>⟨Int.emod_nonneg _ (by omega),Int.emod_lt_of_pos _ (by omega)⟩
 refine⟨_,BL (Ql (Gv XD (Eu ix_list (pv 0) A_ (λ_ _=>rfl)) A_ (Ag _))
   (BL (FO (i:=2) j1.nd rfl (TW rfl) (CA D5 (Eu ix_list (pv 0) A_ (λ_ _=>rfl)) (pv 1)))
   (BL (MW (CA Ma (Eu ix_list (pv 0) A_ (λ_ _=>rfl)) (pv 1)) (Ps (pv 0) A_ set_list))
   (Cb (GV (pv 2))))) MV)
  (BL (FO (i:=3) j1.nd rfl (TW rfl) (Eu ix_list (pv 0) A_ (λ_ _=>rfl)))
  (BL (MW (CA op_add (pv 3) A_) (Ps (pv 0) A_ set_list))
  (BL (FO (i:=4) j1.nd rfl (TW rfl) (N6 (Gv (R8 hu) (Eu ix_list (pv 0) A_ (λ_ _=>rfl)) (Pu B0) (Ag _))
   (Eu ix_list (Eu ix_list (pv 0) A_ (λ_ _=>rfl)) (CA D5 (pv 3) (Cv As rfl ml PySem.boot_len (BB (Eu ix_list (pv 0) A_ (λ_ _=>rfl)) B0))) (λ_ _=>rfl)) A_))
  (BL (Ql (PW.pt (T_ (Gv Z2 (pv 4) (CA Eo A_ A_) (Ag _)) (Qh (Gv op_lt (pv 3) (Cv As rfl ml PySem.boot_len (BB (Eu ix_list (pv 0) A_ (λ_ _=>rfl)) B0)) (Ag _)))))
   (BL (MW (CA Ma (pv 4) (pv 1)) (Ps (pv 0) A_ set_list))
   (Cb (GV (CA D5 (pv 4) (pv 1))))) MV)
  (BL (FO (i:=5) j1.nd rfl (TW rfl) (CA D5 (CA op_mul (CA op_add (CA op_add (CA op_add (CA D5 (pv 4) A_) (CA op_mul (CA op_mul A_ (pv 3)) (pv 3))) (CA op_mul A_ (pv 3))) A_) A_) A_))
  (Cb (GV (CA D5 (CA Ma (CA D5 (CA op_mul (CA op_add (pv 5) (CA op_mul A_ (pv 3))) A_) A_) A_) (pv 1))))))))),?_⟩
 refine⟨_,rfl,f0,_,2,_,rfl,rfl,d hf,rfl,_,_,rfl,rfl,_,rfl,?_⟩;refine B3 (λc1=>?_) (λc1=>?_)
 ·refine⟨_,rfl,f0,_,2,_,rfl,rfl,d hf,rfl,_,rfl,_,_,rfl,rfl,(by show (0:Int)<m; omega),?_⟩
  refine⟨_,rfl,f0,_,2,_,rfl,rfl,d hf,rfl,_,rfl,_,_,rfl,rfl,⟨(by show (0:Int)<m; omega),y⟩,_,rfl,f0,_,2,2,rfl,rfl,hf,rfl,?_⟩;refine⟨_,rfl,?_⟩;exact fin a _ _ _ (λb o e l=>by rw [AQ l]; exact e) AX L (by omega) (ed _).1 (ed _).2
 ·-- at=feed[1]; feed[1]=at+1
  refine⟨_,rfl,f0,_,1,_,rfl,rfl,d hf,rfl,?_⟩;refine⟨_,rfl,_,_,rfl,rfl,_,rfl,f0,_,1,1,rfl,rfl,hf,rfl,?_⟩;generalize hH1:A4 H f0 (.lst ([V.ref c,V.int a,V.int r].set 1 (V.int (a+1))))=H1;have f1:H1 f0=some (.lst [.ref c,.int (a+1),.int r]):=by rw [← hH1]; exact AX
  have k1:∀b o,H b=some o->b≠f0->H1 b=some o:=λb o e l=>by rw [← hH1,AQ l]; exact e
  have t:H1 c=some (.lst (cells.map V.int)):=k1 c _ I.2 v
  have rest:∀(z:Int) (H2:Hp),(∀b o,H1 b=some o->H2 b=some o) ->
    (Rl (ZY (Ze (Qb (EK (IY λi j=>V.bl (decide (j<=i))) (CH 4) (EK (rI Ik λi j=>V.int (i ^ j.toNat)) (tC (V.int 10)) (tC (V.int 18))))) (Qb (EK (IY λi j=>V.bl (decide (i<j))) (CH 3) (al (λxs H Q=>∃x n,xs=[x]/\Y9 K x H n/\Q (V.int n) H) (Qc (EK (X9 K) (CH 0) (tC (V.int 0))) Ve))))) (Rl (Nj (EK (rI Wn λi j=>V.int (i / j)) (CH 4) (CH 1)) (aD (CH 0) (tC (V.int 2)) W3)) (Va (EK (rI (λ_ j=>0<j) λi j=>V.int (i % j)) (CH 4) (CH 1)))) Wx) (Rl (Nj (EK (rI (λ_ j=>0<j) λi j=>V.int (i % j)) (EK (rI CMul λi j=>V.int (i*j)) (EK (IY λi j=>V.int (i+j)) (EK (IY λi j=>V.int (i+j)) (EK (IY λi j=>V.int (i+j)) (EK (rI (λ_ j=>0<j) λi j=>V.int (i % j)) (CH 4) (tC (V.int 1000003))) (EK (rI CMul λi j=>V.int (i*j)) (EK (rI CMul λi j=>V.int (i*j)) (tC (V.int 41)) (CH 3)) (CH 3))) (EK (rI CMul λi j=>V.int (i*j)) (tC (V.int 17)) (CH 3))) (tC (V.int 3))) (tC (V.int 51749))) (tC (V.int 999917))) (IB 5)) (Va (EK (rI (λ_ j=>0<j) λi j=>V.int (i % j)) (EK (rI Wn λi j=>V.int (i / j)) (EK (rI (λ_ j=>0<j) λi j=>V.int (i % j)) (EK (rI CMul λi j=>V.int (i*j)) (EK (IY λi j=>V.int (i+j)) (CH 5) (EK (rI CMul λi j=>V.int (i*j)) (tC (V.int 8111)) (CH 3))) (tC (V.int 39373))) (tC (V.int 2097143))) (tC (V.int 3))) (CH 1)))))
     { nx:=λ_ H'=>Q .non H',rt:=Q } [some (.ref f0),some (.int m),none,some (.int a),some (.int z),none] H2:=by
   intro z H2 k2;have f2:=k2 _ _ f1;have c2:=k2 _ _ t
   have lastWay:∀H3:Hp,H3=H2->(Rl (Nj (EK (rI (λ_ j=>0<j) λi j=>V.int (i % j)) (EK (rI CMul λi j=>V.int (i*j)) (EK (IY λi j=>V.int (i+j)) (EK (IY λi j=>V.int (i+j)) (EK (IY λi j=>V.int (i+j)) (EK (rI (λ_ j=>0<j) λi j=>V.int (i % j)) (CH 4) (tC (V.int 1000003))) (EK (rI CMul λi j=>V.int (i*j)) (EK (rI CMul λi j=>V.int (i*j)) (tC (V.int 41)) (CH 3)) (CH 3))) (EK (rI CMul λi j=>V.int (i*j)) (tC (V.int 17)) (CH 3))) (tC (V.int 3))) (tC (V.int 51749))) (tC (V.int 999917))) (IB 5)) (Va (EK (rI (λ_ j=>0<j) λi j=>V.int (i % j)) (EK (rI Wn λi j=>V.int (i / j)) (EK (rI (λ_ j=>0<j) λi j=>V.int (i % j)) (EK (rI CMul λi j=>V.int (i*j)) (EK (IY λi j=>V.int (i+j)) (CH 5) (EK (rI CMul λi j=>V.int (i*j)) (tC (V.int 8111)) (CH 3))) (tC (V.int 39373))) (tC (V.int 2097143))) (tC (V.int 3))) (CH 1))))
     { nx:=λ_ H'=>Q .non H',rt:=Q } [some (.ref f0),some (.int m),none,some (.int a),some (.int z),none] H3:=by
    intro H3 e3;subst e3;have l:CMul (41*a) a:=.inr ⟨by omega,by omega⟩;refine⟨_,rfl,_,_,rfl,rfl,(by show (0:Int)<1000003; decide),_,rfl,_,_,rfl,rfl,.inl ⟨by decide,by decide⟩,_,rfl,_,_,rfl,rfl,l,_,_,rfl,rfl,_,rfl,_,_,rfl,rfl,.inl ⟨by decide,by decide⟩,_,_,rfl,rfl,_,_,rfl,rfl,_,_,rfl,rfl,.inr ⟨by decide,by decide⟩,_,_,rfl,rfl,(by show (0:Int)<999917; decide),?_⟩;refine⟨_,rfl,_,rfl,_,_,rfl,rfl,.inl ⟨by decide,by decide⟩,_,_,rfl,rfl,_,_,rfl,rfl,.inr ⟨by decide,by decide⟩,_,_,rfl,rfl,(by show (0:Int)<2097143; decide),_,_,rfl,rfl,⟨by decide,by decide⟩,_,rfl,_,_,rfl,rfl,(by show (0:Int)<m; omega),?_⟩;exact fin (a+1) r _ _ (λb o e l=>k2 b o (k1 b o e l)) f2 (by omega) (by omega) (ed _).1 (ed _).2
   refine⟨_,rfl,_,_,rfl,rfl,⟨by decide,by decide,by decide⟩,_,_,rfl,rfl,_,rfl,?_⟩;refine B3 (λc3=>?_) (λc3=>?_)
   ·refine⟨_,rfl,_,rfl,f0,_,0,_,rfl,rfl,d f2,rfl,_,_,rfl,.inl ⟨_,SqL.of c2,rfl⟩,_,_,rfl,rfl,_,rfl,?_⟩
    refine B3 (λc4=>?_) (λc4=>lastWay H2 rfl);refine⟨_,rfl,_,rfl,_,_,rfl,rfl,⟨(by show (0:Int)<m; omega),y⟩,_,rfl,f0,_,2,2,rfl,rfl,f2,rfl,?_⟩;refine⟨_,rfl,_,rfl,_,_,rfl,rfl,(by show (0:Int)<m; omega),?_⟩;exact fin (a+1) _ _ _ (λb o e l=>by rw [AQ l]; exact k2 b o (k1 b o e l)) AX (by omega) (by omega) (ed _).1 (ed _).2
   ·refine B3 (λc4=>absurd c4 (by simp)) (λ_=>lastWay H2 rfl)
  refine⟨_,rfl,f0,_,0,_,rfl,rfl,d f1,rfl,(by show 0<=sizeLine; decide),λp hp=>?_⟩;have kp:∀b o,H1 b=some o->A4 H1 p (.lst []) b=some o:=λb o e=>by rw [AQ (A0 e hp)]; exact e
  refine⟨c,p,_,rfl,rfl,SqL.of (kp _ _ t),SqL.of AX,_,rfl,?_⟩;cases cells with
  | nil=>exact BQ (rest 0 _ kp)
  | cons z0 cs =>
   refine Bi ?_;have R:(((z0::cs).map V.int).length:Int)=(cs.length:Int)+1:=by simp
   have u:(0:Int)<(((z0::cs).map V.int).length:Int):=by omega
   obtain⟨z,X⟩:∃z,atI ((z0::cs).map V.int) (a % (((z0::cs).map V.int).length:Int))=some (.int z):=by
    have h1:=Int.emod_nonneg a (show (((z0::cs).map V.int).length:Int)≠0 by omega);have h2:=Int.emod_lt_of_pos a u;generalize a % (((z0::cs).map V.int).length:Int)=j at h1 h2;obtain⟨k,rfl⟩:∃k:Nat,j=(k:Int):=⟨j.toNat,by omega⟩;have C:k<(z0::cs).length:=by rw [Go] at h2; omega
    refine⟨(z0::cs)[k],AO ?_⟩;rw [dR,No C];rfl
   refine⟨_,rfl,f0,_,0,_,rfl,rfl,d (kp _ _ f1),rfl,_,rfl,_,rfl,f0,_,0,_,rfl,rfl,d (kp _ _ f1),rfl,_,_,rfl,.inl ⟨_,SqL.of (kp _ _ t),rfl⟩,_,_,rfl,rfl,u,c,_,_,_,rfl,rfl,SqL.of (kp _ _ t),X,?_⟩;exact rest z _ kp
end
end K14
namespace Nt
open L2 Dp
abbrev EE(Pd:D->Nat->Prop):E2:={ nx:=λn _=>Kd.sh=.sh/\Pd .non n,rt:=Pd }
theorem BO{b:BW}{te:DW}{P:List D->Nat->Prop}(g:D->D)(I:List Slot->Prop):∀(ds a:List D) (n:Nat) (ρ:List Slot),
  (∀d∈ds,∀(ρ:List Slot) (n:Nat) (nx:D->Nat->List Slot->Prop),I ρ->(∀zY,I zY->nx (g d) n zY)->b d ρ λzU=>te n zU λy n2=>nx y n2 zU)->I ρ->P (a++ds.map g) n->Ci b CW te P ds a n ρ
 | [],a,n,ρ,_,_,h=>by rw [jP,dS] at h; exact h
 | d::ds,a,n,ρ,ht,hρ,h=>ht d Op ρ n _ hρ λzY c =>
  BO g I ds _ n _ (λd hd=>ht d (Re _ hd)) c (by simp_all)
theorem Og{α:Type}{l:List α}{p:α->Bool}{P:D->Prop}(h:P (.bl (l.all p))):Oh [.lst (l.map λa=>.bl (p a))] P :=
 ⟨_,_,rfl,HB p l,by simp_all⟩
theorem Kf{b1 b2:Bool}{P:D->Nat->Prop}{n:Nat}{k:(D->Nat->Prop)->Prop}(a:b1=true->P (.bl b2) n->k P)(h:P (.bl (b1&&b2)) n):(match (.bl b1:D) with | .bl true=>k P | .bl false=>P (.bl false) n | _=>False):=VM a h
abbrev Wb(g:D->Bool):W2:=W9 1 λds=>.bl (g (ds.getD 0 .non))
theorem Wb.out{g:D->Bool}{ss:List Slot}{n:Nat}{P:D->Nat->Prop}(h:Wb g ss n P):∃d,ss=[.sh d]/\P (.bl (g d)) n:=by
 obtain⟨ds,a,rfl,h⟩:=h
 match ds,a with
 | [d],_=>simp_all
def S6:D->Bool
 | .int _=>true
 | _=>false
def G1:D->Bool
 | .int i=>decide (1<=i)&&decide (i<=1000000)
 | _=>false
def tupleOfB(k:Int):D->Bool
 | .tup xs=>((xs.length:Int)==k)
 | _=>false
def CC:D->Bool
 | .str x=>(decide (1<=x.length)&&decide (x.length<=8))&&(cs x).all λc=>decide (97<=c)&&decide (c<=122)
 | _=>false
def He(d e:D):Option Bool:=match d,e with
 | .int i,.int j=>some (decide (i<j))
 | .str i,.str j=>some (decide (cs i<cs j))
 | .tup xs,.tup ys=>match Hz xs,Hz ys with
  | some ks,some ls=>if CS ks ls then some (GY ks ls) else none
  | _,_=>none
 | _,_=>none
theorem Q5{d e:D}{b:Bool}{P:D->Prop}(h:He d e=some b)(p:P (.bl b)):EV d e P:=by
 unfold He at h
 split at h
 ·cases h; exact p
 ·cases h; exact p
 ·split at h
  ·rename_i ks ls h1 h2
   split at h
   ·rename_i a
    cases h;exact⟨ks,ls,h1,h2,a,p⟩
   ·cases h
  ·cases h
 ·cases h
def Kh:List D->Bool
 | x::y::r=>(He x y==some true)&&Kh (y::r)
 | _=>true
abbrev NS:W2:=Wb S6
abbrev L4:W2:=Wb CC
abbrev Fq:W2:=λss n P=>∃k d,ss=[.sh (.int k),.sh d]/\P (.bl (tupleOfB k d)) n
abbrev DB:W2:=λss n P=>∃d xs,ss=[.sh d]/\IU d=some xs/\xs.length<=1000/\(∀x∈xs,∀y∈xs,∃b,He x y=some b)/\P (.bl (Kh xs)) n
def QK:Aj:=(Au (HJ (Eh "int" (AB 0)) (Xn (Eh "bool" (AB 0)))))
def LB:Aj:=(Au (HJ (Eh "tuple" (AB 1)) (AU (D_ false) (B8 Ce (AF (AB 1) AT)) (AB 0))))
def O5:Aj:=(Au (B8 Oh (AF (BR [none,none] (VX (AF (AB 0) (AF (F5 CJ (AB 0) (BK (wC (D.int 1))) A6) AT))) (E9 2 (Ay (Af 0) (Ay (Af 1) Cj))) CW (AU EV (AB 0) (AB 1))) AT)))
section
variable {ss:List Slot}{n:Nat}{Pd:D->Nat->Prop}
theorem N0(h:NS ss n Pd):QK (EE Pd) n (ss++Uf 0 .no):=by
 obtain⟨d,rfl,q⟩:=h.out;cases d <;> exact q
theorem Jg(h:Fq ss n Pd):LB (EE Pd) n (ss++Uf 0 .no):=by
 obtain⟨k,d,rfl,h⟩:=h;cases d with
 | tup xs=>exact⟨_,_,rfl,rfl,h⟩
 | _=>exact h
theorem Rn(x:Str):(Dp.signs x).length=x.length:=by unfold Dp.signs; rw [Go]; exact DY x
theorem Ys{α:Type}(xs:List α):Dp.cutD xs (some 1) none=xs.drop 1:=by
 unfold Dp.cutD;rw [HT.sIx_none,show 1=((1:Nat):Int) from rfl,HT.sIx_nat]
 by_cases h:1<=xs.length
 ·rw [gj h]
  exact jc (by simp_all)
 grind
theorem RH:∀xs:List D,((Gi xs (xs.drop 1)).all λd=>match d with | .tup [a,b]=>He a b==some true | _=>false)=Kh xs
 | []=>rfl
 | [x]=>rfl
 | x::y::r=>by
  have ih:=RH (y::r);show ((Gi _ (y::r)).all _)=_;unfold Gi Kh;rw [List.zipWith_cons_cons,fB]
  congr 1
theorem VU{xs ys:List D}{d:D}(h:d∈Gi xs ys):∃a∈xs,∃b∈ys,d=.tup [a,b]:=by
 unfold Gi at h;obtain⟨i,hi⟩:=List.getElem?_of_mem h;rw [jg] at hi;cases q1:xs[i]? with
 | none=>simp_all
 | some a =>
  cases q2:ys[i]? with
  | none=>simp_all
  | some b =>
   rw [q1,q2] at hi;exact⟨a,dj q1,b,dj q2,(cv hi).symm⟩
theorem MU(h:DB ss n Pd):O5 (EE Pd) n (ss++Uf 0 .no):=by
 obtain⟨d,xs,rfl,hd,j,c,h⟩:=h
 have go:(Gi xs (xs.drop 1)).length<=10000000/\Ci (E9 2 (Ay (Af 0) (Ay (Af 1) Cj))) CW (AU EV (AB 0) (AB 1)) (λe n2=>Oh [.lst e] λz=>Pd z n2) (Gi xs (xs.drop 1)) [] n [.no,.no]:=by
  refine⟨by unfold Gi; rw [List.length_zipWith]; omega,?_⟩;refine BO (λd=>.bl (match d with | .tup [a,b]=>He a b==some true | _=>false)) (λρ=>∃s t,ρ=[s,t]) _ _ _ _ ?_ ⟨_,_,rfl⟩ ?_
  ·rintro z f ρ m nx ⟨s,t,rfl⟩ g
   obtain⟨a,ha,b,i,rfl⟩:=VU f;obtain⟨r,hr⟩:=c a ha b (gS i);refine⟨rfl,rfl,?_⟩;show EV a b λy=>nx y m [.sh a,.sh b];refine Q5 hr ?_
   simp_all
  ·rw [cy]
   refine Og (p:=fun(d:D)=>match d with | .tup [a,b]=>He a b==some true | _=>false) ?_;rw [RH];exact h
 cases d with
 | lst ys =>
  cases hd;exact⟨_,_,xs,xs.drop 1,rfl,rfl,by rw [Ys]; rfl,go⟩
 | tup ys =>
  cases hd;exact⟨_,_,xs,xs.drop 1,rfl,rfl,by rw [Ys]; rfl,go⟩
 | _=>cases hd
end
def IT:D->Bool
 | .tup [a,b,c]=>(CC a&&CC b)&&((He a b==some true)&&G1 c)
 | _=>false
def Iu:D->Bool
 | .tup xs=>decide (xs.length<=24)&&(xs.all CC&&Kh xs)
 | _=>false
def EA(ps:List Str):D->Bool
 | .tup [.str a,.str b,_]=>ps.any (·==a)&&ps.any (·==b)
 | _=>false
def FY:D->D
 | .tup (a::b::_)=>.tup [a,b]
 | d=>d
def Ww(ps:List Str):D->Bool
 | .tup ts=>decide (ts.length<=60)&&(ts.all IT&&(ts.all (EA ps)&&Kh (ts.map FY)))
 | _=>false
def strsOf(xs:List D):List Str:=(O8 xs).getD []
def PN(p t:D):Bool:=match p with
 | .tup xs=>Ww (strsOf xs) t
 | _=>false
def P1:D->Bool
 | .tup [p,t]=>Iu p&&PN p t
 | _=>false
abbrev RR:W2:=Wb P1
theorem VO{α:Type}(p:α->Bool)(l:List α):(l.map p).all id=l.all p:=by simp_all
theorem nameB_iff{d:D}:CC d=true↔∃x,d=.str x/\D9 x:=by
 cases d with
 | str x =>
  simp [CC,D9];constructor
  ·simp_all
  simp_all
 | _=>exact⟨(λh=>by cases h),fun⟨x,e,_⟩=>(by cases e)⟩
theorem Nm{x:Str}(h:∀c∈cs x,c<1114112):PyData.strOk x=true:=by
 unfold PyData.strOk;rw [← Array.all_toList,d9];intro c a;exact decide_eq_true (h c a)
theorem Jz{x:Str}(h:D9 x):D7 (.str x):=⟨rfl,Nm λc a=>by have:=h.2.2 c a; omega,TM _⟩
theorem OX{ps:List Str}(h:∀p∈ps,D9 p):CT (ps.map .str)=true/\fi (Bk (ps.map .str))=true/\eY (Bk (ps.map .str))=0:=by
 induction ps with
 | nil=>exact⟨rfl,rfl,rfl⟩
 | cons p r ih =>
  obtain⟨h1,h2,h3⟩:=ih λq hq=>h q (Re _ hq);refine⟨by assumption,?_,?_⟩
  ·rw [dG,Bk,fi,h2,Bool.and_true]
   exact(Jz (h p Op)).2.1
  assumption
theorem ER{ps:List Str}(h:∀p∈ps,D9 p):D7 (.tup (ps.map .str)):=by
 obtain⟨h1,h2,h3⟩:=OX h;refine⟨h1,h2,?_⟩;show eY _+1<=100
 simp_all
theorem Iw(x y:Str):He (.str x) (.str y)=some (decide (cs x<cs y)):=rfl
theorem OJ{xs:List D}(h:xs.all CC=true):∃ps:List Str,xs=ps.map .str/\∀p∈ps,D9 p:=by
 induction xs with
 | nil=>simp_all
 | cons d r ih =>
  rw [fB,cq] at h;obtain⟨ps,e,hp⟩:=ih h.2;obtain⟨x,rfl,a⟩:=nameB_iff.mp h.1;refine⟨x::ps,by grind,λp hq=>?_⟩
  grind
theorem B9(ps:List Str):strsOf (ps.map .str)=ps:=by unfold strsOf; rw [HA]; rfl
section
theorem bF{d:D}(h:tupleOfB 3 d=true):∃a b c,d=.tup [a,b,c]:=by
 cases d with
 | tup xs =>
  have:=eq_of_beq h
  match xs,this with
  | [a,b,c],_=>grind
  | [],h=>cases h
  | [_],h=>cases h
  | [_,_],h=>cases h
  | _::_::_::_::r,h=>grind
 | _=>cases h
theorem Xr{d:D}(h:tupleOfB 2 d=true):∃a b,d=.tup [a,b]:=by
 cases d with
 | tup xs =>
  have:=eq_of_beq h
  match xs,this with
  | [a,b],_=>grind
  | [],h=>cases h
  | [_],h=>cases h
  | _::_::_::r,h=>grind
 | _=>cases h
theorem bT{d:D}(h:tupleOfB 3 d=false):IT d=false:=by
 cases d with
 | tup xs =>
  match xs,h with
  | [a,b,c],h=>cases h
  | [],_=>rfl
  | [_],_=>rfl
  | [_,_],_=>rfl
  | _::_::_::_::r,_=>rfl
 | _=>rfl
theorem Z4{d:D}(h:tupleOfB 2 d=false):P1 d=false:=by
 cases d with
 | tup xs =>
  match xs,h with
  | [a,b],h=>cases h
  | [],_=>rfl
  | [_],_=>rfl
  | _::_::_::r,_=>rfl
 | _=>rfl
theorem MC{d:D}(h:IT d=true):∃x y l,d=.tup [.str x,.str y,.int l]/\D9 x/\D9 y/\cs x<cs y/\1<=l/\l<=1000000:=by
 cases d with
 | tup xs =>
  match xs,h with
  | [a,b,c],h =>
   have h':((CC a&&CC b)&&((He a b==some true)&&G1 c))=true:=h;simp only [cq] at h';obtain⟨x,rfl,f⟩:=nameB_iff.mp h'.1.1;obtain⟨y,rfl,hy⟩:=nameB_iff.mp h'.1.2;have e:=eq_of_beq h'.2.1;have e:=of_decide_eq_true (cv e);cases c with
   | int l =>
    have hn:(decide _&&decide _)=true:=h'.2.2;rw [cq,decide_eq_true_eq,decide_eq_true_eq] at hn;exact⟨x,y,l,rfl,f,hy,e,hn.1,hn.2⟩
   | _=>cases h'.2.2
  | [],h=>cases h
  | [_],h=>cases h
  | [_,_],h=>cases h
  | _::_::_::_::r,h=>cases h
 | _=>cases h
end
mutual
def fine(B:Nat):D->Prop
 | .int i=>i.natAbs<=B
 | .str x=>∀c∈cs x,c<1114112
 | .tup ds=>EU B ds
 | .lst ds=>EU B ds
 | .dic _ _=>False
 | .fdi _ _=>False
 | .dit _ _=>False
 | _=>True
def EU(B:Nat):List D->Prop
 | []=>True
 | d::ds=>fine B d/\EU B ds
end
mutual
def szD:D->Nat
 | .int _=>200
 | .str x=>x.length
 | .tup ds=>B7 ds
 | .lst ds=>B7 ds
 | _=>0
def B7:List D->Nat
 | []=>0
 | d::ds=>szD d+1+B7 ds
end
mutual
def Cr:D->Nat
 | .tup ds=>C9 ds+1
 | .lst ds=>C9 ds+1
 | _=>0
def C9:List D->Nat
 | []=>0
 | d::ds=>max (Cr d) (C9 ds)
end
theorem fines_iff{B:Nat}:∀{ds:List D},EU B ds↔∀d∈ds,fine B d
 | []=>⟨(λ_ d h=>by cases h),λ_=>trivial⟩
 | d::ds=>by
  have ih:=@fines_iff B ds;constructor
  ·rintro ⟨h1,h2⟩ e he
   rcases T0.mp he with rfl | he
   ·exact h1
   ·exact ih.mp h2 e he
  ·exact λh=>⟨h d Op,ih.mpr λe he=>h e (Re _ he)⟩
theorem dps_le{k:Nat}:∀{ds:List D},C9 ds<=k↔∀d∈ds,Cr d<=k
 | []=>⟨(λ_ d h=>by cases h),λ_=>TM _⟩
 | d::ds=>by
  have ih:=@dps_le k ds;show max (Cr d) (C9 ds)<=k↔_;rw [Nat.max_le,ih];constructor
  ·rintro ⟨h1,h2⟩ e he
   rcases T0.mp he with rfl | he
   ·exact h1
   ·exact h2 e he
  ·exact λh=>⟨h d Op,λe he=>h e (Re _ he)⟩
theorem Bl:∀(xs ys:List D),B7 (xs++ys)=B7 xs+B7 ys
 | [],ys=>by simp [B7]
 | d::xs,ys=>by
  rw [f7];show szD d+1+B7 (xs++ys)=szD d+1+B7 xs+B7 ys;rw [Bl xs ys]; omega
theorem Io:∀(xs:List D),B7 xs.reverse=B7 xs
 | []=>rfl
 | d::xs=>by
  rw [gI,Bl,Io xs];show B7 xs+(szD d+1+0)=szD d+1+B7 xs;omega
theorem Nk(xs:List D)(k:Nat):B7 (xs.take k)<=B7 xs:=by
 have:=Bl (xs.take k) (xs.drop k)
 rw [gO] at this;omega
theorem Ti(xs:List D)(k:Nat):B7 (xs.drop k)<=B7 xs:=by
 have:=Bl (xs.take k) (xs.drop k)
 rw [gO] at this;omega
theorem MD{xs:List D}{d:D}(h:d∈xs):szD d+1<=B7 xs:=by
 obtain⟨a,b,rfl⟩:=List.append_of_mem h;rw [Bl];show _<=_+(szD d+1+B7 b);omega
theorem BU:∀(xs:List D),xs.length<=B7 xs
 | []=>TM _
 | d::xs=>by
  have:=BU xs
  show xs.length+1<=szD d+1+B7 xs;omega
theorem B5(xs:List D)(lo hi:Option Int):B7 (Dp.cutD xs lo hi)<=B7 xs:=cx (Nk _ _) (Ti _ _)
theorem BY{xs:List D}{lo hi:Option Int}{d:D}(h:d∈Dp.cutD xs lo hi):d∈xs:=gS (iR h)
theorem Sf{B C:Nat}(h:B<=C):∀(n:Nat),(∀d:D,sizeOf d<=n->fine B d->fine C d)/\∀ds:List D,sizeOf ds<=n->EU B ds->EU C ds:=by
 intro n
 induction n with
 | zero =>
  refine⟨λd hd _=>?_,λds hd _=>?_⟩
  ·cases d <;> simp at hd
  ·cases ds <;> simp at hd
 | succ n ih =>
  refine⟨λd hd hf=>?_,λds hd hf=>?_⟩
  ·cases d with
   | int i=>exact cx (show i.natAbs<=B from hf) h
   | str x=>exact hf
   | tup ds=>exact ih.2 ds (by simp at hd; omega) hf
   | lst ds=>exact ih.2 ds (by simp at hd; omega) hf
   | dic ks ds=>exact(show False from hf).elim
   | fdi ks ds=>exact(show False from hf).elim
   | dit ks ds=>exact(show False from hf).elim
   | non=>trivial
   | bl b=>trivial
  ·cases ds with
   | nil=>trivial
   | cons d ds=>exact⟨ih.1 d (by simp at hd; omega) hf.1,ih.2 ds (by simp at hd; omega) hf.2⟩
theorem fine.mono{B C:Nat}{d:D}(hf:fine B d)(h:B<=C):fine C d:=(Sf h _).1 d (On _) hf
mutual
theorem M5{B:Nat}(hB:B<10 ^ 45):∀{d:D},fine B d->FP d=true/\(toPy d).showable=true/\(toPy d).canLay0=true/\(toPy d).depth=Cr d/\(toPy d).leavesShort 60=true/\(toPy d).weight<=szD d
 | .non,_=>⟨rfl,rfl,rfl,rfl,rfl,On _⟩
 | .bl b,_=>⟨rfl,rfl,rfl,rfl,rfl,On _⟩
 | .int i,h=>by
  have h':i.natAbs<=B:=h;have e:i.natAbs<10 ^ 45:=fD h' hB;have h2:i.natAbs<2 ^ 150:=iI e (by decide)
  have g:i.natAbs.log2<150:=by
   by_cases h0:i.natAbs=0
   ·rw [h0]; decide
   ·exact(Nat.log2_lt h0).mpr h2
  refine⟨rfl,?_,rfl,rfl,?_,?_⟩
  ·show decide (i.natAbs.log2<1920)=true
   exact decide_eq_true (by omega)
  ·show decide ((jx (.int i)).length<=60)=true
   refine decide_eq_true ?_
   have:=int_text_length_le10 (a:=i) (k:=45) (by decide) e
   show (dk (toString i)).length<=60;rw [PySem.ofString_length];omega
  ·show (if i==0 then 0 else i.natAbs.log2+1)<=200
   split <;> omega
 | .str x,h=>by
  have h':∀c∈cs x,c<1114112:=h;refine⟨rfl,rfl,Nm h',rfl,?_,On _⟩;show (x.cps.toList.all λc=>decide (c<16 ^ 8))=true;rw [d9];intro c f;exact decide_eq_true (iI (h' c f) (by decide))
 | .tup ds,h=>by
  obtain⟨h1,h2,h3,h4,h5,h6⟩:=KD hB (ds:=ds) h;refine⟨h1,h2,h3,?_,h5,h6⟩;show eY (Bk ds)+1=C9 ds+1;rw [h4]
 | .lst ds,h=>by
  obtain⟨h1,h2,h3,h4,h5,h6⟩:=KD hB (ds:=ds) h;refine⟨h1,h2,h3,?_,h5,h6⟩;show eY (Bk ds)+1=C9 ds+1;rw [h4]
 | .dic ks ds,h=>(show False from h).elim
 | .fdi ks ds,h=>(show False from h).elim
 | .dit ks ds,h=>(show False from h).elim
theorem KD{B:Nat}(hB:B<10 ^ 45):∀{ds:List D},EU B ds->CT ds=true/\PyData.showableAll (Bk ds)=true/\fi (Bk ds)=true/\eY (Bk ds)=C9 ds/\ji 60 (Bk ds)=true/\PyData.weightAll (Bk ds)<=B7 ds
 | [],_=>⟨rfl,rfl,rfl,rfl,rfl,On _⟩
 | d::ds,h=>by
  obtain⟨h1,h2,h3,h4,h5,h6⟩:=M5 hB (d:=d) h.1;obtain⟨g1,g2,g3,g4,g5,g6⟩:=KD hB (ds:=ds) h.2;refine⟨?_,?_,?_,?_,?_,?_⟩
  ·show (FP d&&CT ds)=true
   rw [h1,g1]; rfl
  ·show ((toPy d).showable&&PyData.showableAll (Bk ds))=true
   rw [h2,g2]; rfl
  ·show ((toPy d).canLay0&&fi (Bk ds))=true
   rw [h3,g3]; rfl
  ·show max (toPy d).depth (eY (Bk ds))=max (Cr d) (C9 ds)
   rw [h4,g4]
  ·show ((toPy d).leavesShort 60&&ji 60 (Bk ds))=true
   rw [h5,g5]; rfl
  ·show (toPy d).weight+1+PyData.weightAll (Bk ds)<=szD d+1+B7 ds
   omega
end
theorem Np{B:Nat}{d:D}(hB:B<10 ^ 45)(h:fine B d)(hd:Cr d<=100)(a:szD d<=270000):Gr d:=by
 obtain⟨h1,h2,h3,h4,h5,h6⟩:=M5 hB h;refine⟨h1,h2,by rw [h4]; exact hd,?_⟩
 have:=PyData.shown_le 60 (by decide) (toPy d) h5
 rw [PySem.sizeLine_eq]
 have:62*(toPy d).weight<=62*270000:=Nat.mul_le_mul_left _ (by omega)
 omega
theorem Ip{B:Nat}{d:D}(hB:B<10 ^ 45)(h:fine B d)(hd:Cr d<=100)(a:szD d<=200000):Gr d:=Np hB h hd (by omega)
theorem CI{B:Nat}{d:D}(hB:B<10 ^ 45)(h:fine B d)(hd:Cr d<=100):D7 d:=by
 obtain⟨h1,h2,h3,h4,h5,h6⟩:=M5 hB h;exact⟨h1,h3,by rw [h4]; exact hd⟩
def VT:W2:=λss n P=>∃(d:D) (B:Nat),ss=[.fd,.sh d]/\fine B d/\2000000<=B/\B<10 ^ 40/\szD d<=80000/\2<=n/\∀(e:D) (n':Nat),fine (B+1) e->szD e<=2*szD d+250->Cr e<=Cr d+1->n - 2<=n'->P e n'
def Kb:Aj:=(Ac (EI 2 (DA (AF (wC D.non) (AF (wC (D.bl true)) (AF (wC (D.int 0)) (AF (wC (D.int 1)) (AF (Eg (wC (D.int 1))) (AF (wC (D.str "a")) (AF (wC (D.str "b")) (AF (BN AT) (AF (DA AT) (AF (AU (PK Ik λi j=>D.int (i ^ j.toNat)) (wC (D.int 10)) (wC (D.int 6))) (AF (AU Aq (AU (PK Ik λi j=>D.int (i ^ j.toNat)) (wC (D.int 10)) (wC (D.int 6))) (wC (D.int 1))) (AF (wC (D.str "abcdefghi")) (AF (wC (D.str "B")) (AF (AB 1) AT))))))))))))))))
 (Ac (BG (AR (TJ "tuple" "list" (AB 1))) (Ac (Az 3 (AZ BA (AE (Aw 0) (AE (AI (AU Aq (B8 Ce (AF (AB 1) AT)) (wC (D.int 1)))) AY))))
 (Ac (EI 2 (AU XM (BE 2) (DA (AF (B8 M6 (AF (AB 1) AT)) (AF (B8 B6 (AF (AB 1) AT)) (AF (Rc (AB 1) (Eg (wC (D.int 1)))) (AF (AU Aq (F5 CJ (AB 1) A6 (BK (AB 3))) (F5 CJ (AB 1) (BK (AU Aq (AB 3) (wC (D.int 1)))) A6)) AT)))))))
 (TF 2 "list" KH (AF (AU Aq (AU Aq (F5 CJ (AB 1) A6 (BK (AB 3))) (F5 CJ (AB 1) (BK (AB 3)) (BK (AU Aq (AB 3) (wC (D.int 1)))))) (F5 CJ (AB 1) (BK (AB 3)) A6)) AT)))) Av)
 (Ac (BG (AR (Eh "int" (AB 1))) (EI 2 (AU XM (BE 2) (DA (AF (AU Aq (AB 1) (wC (D.int 1))) (AF (AU IC (AB 1) (wC (D.int 1))) (AF (AU Uy (AB 1) (wC (D.int 1))) (AF (B8 Uw (AF (AB 1) AT)) (AF (AU IC (wC (D.int 0)) (AB 1)) AT)))))))) Av)
 (Au (AU A8 (BE 2) (AZ BA (AE (Aw 0) (AE (AI (B8 Ce (AF (BE 2) AT))) AY))))))))
theorem Li(i:Int):∀c∈cs (dk (toString i)),c<1114112:=by
 intro c a
 by_cases h:c=45\/(48<=c/\c<=57)
 ·omega
 ·exact absurd a (int_text_free' c (by omega) i)
theorem Lr(xs:List D)(a:Int)(h:0<=a):B7 (Dp.cutD xs none (some a))+B7 (Dp.cutD xs (some a) (some (a+1)))<=B7 xs:=by
 obtain⟨k,rfl⟩:∃k:Nat,a=k:=⟨a.toNat,by omega⟩
 have e1:Dp.cutD xs none (some k)=xs.take (min k xs.length):=by
  unfold Dp.cutD;rw [HT.sIx_none,HT.sIx_nat,jh,Nat.sub_zero]
 have e2:Dp.cutD xs (some (k:Int)) (some ((k:Int)+1))=(xs.drop (min k xs.length)).take (min (k+1) xs.length - min k xs.length):=by
  unfold Dp.cutD;rw [show ((k:Int)+1)=(k+1:Nat) by omega,HT.sIx_nat,HT.sIx_nat]
 rw [e1,e2];have h1:=Bl (xs.take (min k xs.length)) (xs.drop (min k xs.length));rw [gO] at h1;have h2:=Nk (xs.drop (min k xs.length)) (min (k+1) xs.length - min k xs.length);omega
section
variable {ss:List Slot}{n:Nat}{Pd:D->Nat->Prop}
theorem X5(h0:VT ss n Pd):Kb (EE Pd) n (ss++Uf 2 .no):=by
 obtain⟨d,B,rfl,hf,hB1,hB2,f,hn,p⟩:=h0
 have good:∀(zs:List D),(∀z∈zs,fine (B+1) z/\szD z<=2*szD d+250/\Cr z<=Cr d+1)->1<=zs.length->zs.length<=100->∀(m:Nat) (s3:Slot),n - 1<=m ->
   (Au (AU A8 (BE 2) (AZ BA (AE (Aw 0) (AE (AI (B8 Ce (AF (BE 2) AT))) AY))))) (EE Pd) m [.fd,.sh d,.ow (.lst zs),s3]:=by
  intro zs g h1 h2 m s3 hm;refine⟨_,_,rfl,rfl,(zs.length:Int),rfl,by omega,by omega,by omega,λr h0 h1=>?_⟩;obtain⟨k,rfl⟩:∃k:Nat,r=(k:Int):=⟨r.toNat,by omega⟩;have j:k<zs.length:=by omega
  refine⟨zs[k],AO (No j),?_⟩;obtain⟨g1,g2,g3⟩:=g zs[k] (dX j);exact p _ _ g1 g2 g3 (by omega)
 have self:fine (B+1) d/\szD d<=2*szD d+250/\Cr d<=Cr d+1:=⟨hf.mono (by omega),by omega,by omega⟩
 have base:∀z∈[D.non,.bl true,.int 0,.int 1,.int (-1),.str "a",.str "b",.tup [],.lst [],.int (10 ^ (6:Int).toNat),.int (10 ^ (6:Int).toNat+1),.str "abcdefghi",.str "B",d],fine (B+1) z/\szD z<=2*szD d+250/\Cr z<=Cr d+1:=by
  have sg:∀x∈[("a":Str),"b","abcdefghi","B"],(∀c∈cs x,c<1114112)/\x.length<=9:=by decide +kernel
  have hi:∀i:Int,i.natAbs<=1000001->fine (B+1) (.int i):=λi h=>show i.natAbs<=B+1 by omega
  intro z b;simp only [T0,c6,or_false] at b
  rcases b with rfl | rfl | rfl | rfl | rfl | rfl | rfl | rfl | rfl | rfl | rfl | rfl | rfl | rfl
  ·exact⟨trivial,TM _,TM _⟩
  ·exact⟨trivial,TM _,TM _⟩
  ·exact⟨hi _ (by decide),by show 200<=_; omega,TM _⟩
  ·exact⟨hi _ (by decide),by show 200<=_; omega,TM _⟩
  ·exact⟨hi _ (by decide),by show 200<=_; omega,TM _⟩
  ·exact⟨(sg _ (by simp)).1,cx (sg _ (by simp)).2 (by omega),TM _⟩
  ·exact⟨(sg _ (by simp)).1,cx (sg _ (by simp)).2 (by omega),TM _⟩
  ·exact⟨trivial,TM _,by show 0+1<=_; omega⟩
  ·exact⟨trivial,TM _,by show 0+1<=_; omega⟩
  ·exact⟨hi _ (by decide),by show 200<=_; omega,TM _⟩
  ·exact⟨hi _ (by decide),by show 200<=_; omega,TM _⟩
  ·exact⟨(sg _ (by simp)).1,cx (sg _ (by simp)).2 (by omega),TM _⟩
  ·exact⟨(sg _ (by simp)).1,cx (sg _ (by simp)).2 (by omega),TM _⟩
  ·exact self
 have more:∀(zs ys:List D),(∀z∈zs,fine (B+1) z/\szD z<=2*szD d+250/\Cr z<=Cr d+1)->(∀z∈ys,fine (B+1) z/\szD z<=2*szD d+250/\Cr z<=Cr d+1)->∀z∈zs++ys,fine (B+1) z/\szD z<=2*szD d+250/\Cr z<=Cr d+1:=λzs ys h1 h2 z f=>(cu.mp f).elim (h1 z) (h2 z);unfold Kb;refine⟨1,rfl,(by decide:0<=sizeLine),(by decide:0<=sizeLine),⟨by decide,by decide,by decide⟩,⟨by decide,by decide,by decide⟩,(by decide:14<=sizeLine),?_⟩;have q:=PySem.sizeLine_eq;cases d with
 | non=>exact⟨trivial,good _ base (by simp) (by simp) n .no (by omega)⟩
 | str x=>exact⟨trivial,good _ base (by simp) (by simp) n .no (by omega)⟩
 | bl k =>
  refine⟨trivial,?_⟩;have lb:D7 (.bl k):=CI (B:=B) (by omega) hf (TM _);have l1:D7 (.int 1):=CI (B:=B) (d:=.int 1) (by omega) (show (1:Int).natAbs<=B by omega) (TM _);refine⟨lb,l1,(by decide:5<=sizeLine),(by show 14+5<=sizeLine; decide),?_⟩;refine good _ (more _ _ base ?_) (by simp) (by simp) n .no (by omega);intro z b;simp only [T0,c6,or_false] at b;have j:(bI k).natAbs<=1:=by cases k <;> decide
  rcases b with rfl | rfl | rfl | rfl | rfl
  ·exact⟨show (bI k+1).natAbs<=B+1 by omega,by show 200<=_; omega,TM _⟩
  ·exact⟨show (bI k - 1).natAbs<=B+1 by omega,by show 200<=_; omega,TM _⟩
  ·exact⟨trivial,TM _,TM _⟩
  ·have:∀k:Bool,(∀c∈cs (if k then ("True":Str) else "False"),c<1114112)/\(if k then ("True":Str) else "False").length<=5:=by decide +kernel
   exact⟨(this k).1,cx (this k).2 (by omega),TM _⟩
  ·exact⟨show (0 - bI k).natAbs<=B+1 by omega,by show 200<=_; omega,TM _⟩
 | int i =>
  refine⟨trivial,?_⟩;have hi:i.natAbs<=B:=hf;have lb:D7 (.int i):=CI (B:=B) (by omega) hf (TM _);have l1:D7 (.int 1):=CI (B:=B) (d:=.int 1) (by omega) (show (1:Int).natAbs<=B by omega) (TM _)
  have e:i.natAbs.log2<1920:=by
   by_cases h0:i.natAbs=0
   ·rw [h0]; decide
   ·exact iI ((Nat.log2_lt h0).mpr (iI (fD hi hB2) (by decide:10 ^ 40<2 ^ 150))) (by decide)
  have o:(dk (toString i)).length<=41:=by
   rw [PySem.ofString_length];exact int_text_length_le10 (k:=40) (by decide) (fD hi hB2)
  refine⟨lb,l1,e,by omega,(by decide:5<=sizeLine),(by show 14+5<=sizeLine; decide),?_⟩;refine good _ (more _ _ base ?_) (by simp) (by simp) n .no (by omega);intro z b;simp only [T0,c6,or_false] at b
  rcases b with rfl | rfl | rfl | rfl | rfl
  ·exact⟨show (i+1).natAbs<=B+1 by omega,by show 200<=_; omega,TM _⟩
  ·exact⟨show (i - 1).natAbs<=B+1 by omega,by show 200<=_; omega,TM _⟩
  ·exact⟨trivial,TM _,TM _⟩
  ·exact⟨Li i,by show (dk (toString i)).length<=_; omega,TM _⟩
  ·exact⟨show (0 - i).natAbs<=B+1 by omega,by show 200<=_; omega,TM _⟩
 | tup xs =>
  have s:=BU xs;have l:B7 xs<=80000:=f;refine⟨trivial,_,_,rfl,rfl,(xs.length:Int)+1,rfl,by omega,by omega,by omega,λa h0 h1=>?_⟩
  have fx:∀(ys:List D),(∀y∈ys,y∈xs)->B7 ys<=2*B7 xs->(fine (B+1) (.tup ys)/\szD (.tup ys)<=2*szD (.tup xs)+250/\Cr (.tup ys)<=Cr (.tup xs)+1)/\fine (B+1) (.lst ys)/\szD (.lst ys)<=2*szD (.tup xs)+250/\Cr (.lst ys)<=Cr (.tup xs)+1:=λys hy t=>by
   have f1:EU (B+1) ys:=fines_iff.mpr λy h=>fines_iff.mp self.1 y (hy y h);have f2:B7 ys<=2*B7 xs+250:=by omega
   have:=dps_le.mpr λy h=>dps_le.mp (On (C9 xs)) y (hy y h)
   have f3:C9 ys+1<=C9 xs+1+1:=by omega
   exact⟨⟨f1,f2,f3⟩,f1,f2,f3⟩
  have c1:=B5 xs none (some a);have c2:=B5 xs (some (a+1)) none;have c3:=B5 xs (some a) (some (a+1));have c4:=B5 xs (some a) none;have d1:=BU (Dp.cutD xs none (some a));have d2:=BU (Dp.cutD xs (some (a+1)) none);have d3:=BU (Dp.cutD xs (some a) (some (a+1)));have d4:=BU (Dp.cutD xs (some a) none);have e1:(Dp.cutD xs none (some a)++Dp.cutD xs (some a) (some (a+1))).length=_:=XV;refine⟨1,rfl,rfl,by omega,(by decide:4<=sizeLine),(by show 14+4<=sizeLine; decide),_,rfl,rfl,by omega,by omega,_,_,rfl,rfl,(by show 14+4<sizeLine; decide),?_⟩;refine good _ (more _ _ (more _ _ base ?_) ?_) (by simp) (by simp) (n - 1) (.sh (.int a)) (On _)
  ·intro z b
   simp only [T0,c6,or_false] at b
   rcases b with rfl | rfl | rfl | rfl
   ·exact(fx xs (λ_ h=>h) (by omega)).2
   ·exact(fx xs (λ_ h=>h) (by omega)).1
   ·exact(fx xs.reverse (λy h=>gU.mp h) (by rw [Io]; omega)).1
   ·exact(fx _ (λy h=>(cu.mp h).elim BY BY) (by rw [Bl]; omega)).1
  ·intro z b
   rw [Tk.mp b];refine(fx _ (λy h=>(cu.mp h).elim (λh=>(cu.mp h).elim BY BY) BY) ?_).1;rw [Bl,Bl]
   have:=Lr xs a h0
   omega
 | lst xs =>
  have s:=BU xs;have l:B7 xs<=80000:=f;refine⟨trivial,_,_,rfl,rfl,(xs.length:Int)+1,rfl,by omega,by omega,by omega,λa h0 h1=>?_⟩
  have fx:∀(ys:List D),(∀y∈ys,y∈xs)->B7 ys<=2*B7 xs->(fine (B+1) (.tup ys)/\szD (.tup ys)<=2*szD (.lst xs)+250/\Cr (.tup ys)<=Cr (.lst xs)+1)/\fine (B+1) (.lst ys)/\szD (.lst ys)<=2*szD (.lst xs)+250/\Cr (.lst ys)<=Cr (.lst xs)+1:=λys hy t=>by
   have f1:EU (B+1) ys:=fines_iff.mpr λy h=>fines_iff.mp self.1 y (hy y h);have f2:B7 ys<=2*B7 xs+250:=by omega
   have:=dps_le.mpr λy h=>dps_le.mp (On (C9 xs)) y (hy y h)
   have f3:C9 ys+1<=C9 xs+1+1:=by omega
   exact⟨⟨f1,f2,f3⟩,f1,f2,f3⟩
  have c1:=B5 xs none (some a);have c2:=B5 xs (some (a+1)) none;have c3:=B5 xs (some a) (some (a+1));have c4:=B5 xs (some a) none;have d1:=BU (Dp.cutD xs none (some a));have d2:=BU (Dp.cutD xs (some (a+1)) none);have d3:=BU (Dp.cutD xs (some a) (some (a+1)));have d4:=BU (Dp.cutD xs (some a) none);have e1:(Dp.cutD xs none (some a)++Dp.cutD xs (some a) (some (a+1))).length=_:=XV;refine⟨1,rfl,rfl,by omega,(by decide:4<=sizeLine),(by show 14+4<=sizeLine; decide),_,rfl,rfl,by omega,by omega,_,_,rfl,rfl,(by show 14+4<sizeLine; decide),?_⟩;refine good _ (more _ _ (more _ _ base ?_) ?_) (by simp) (by simp) (n - 1) (.sh (.int a)) (On _)
  ·intro z b
   simp only [T0,c6,or_false] at b
   rcases b with rfl | rfl | rfl | rfl
   ·exact(fx xs (λ_ h=>h) (by omega)).2
   ·exact(fx xs (λ_ h=>h) (by omega)).1
   ·exact(fx xs.reverse (λy h=>gU.mp h) (by rw [Io]; omega)).2
   ·exact(fx _ (λy h=>(cu.mp h).elim BY BY) (by rw [Bl]; omega)).2
  ·intro z b
   rw [Tk.mp b];refine(fx _ (λy h=>(cu.mp h).elim (λh=>(cu.mp h).elim BY BY) BY) ?_).2;rw [Bl,Bl]
   have:=Lr xs a h0
   omega
 | dic ks xs=>exact(show False from hf).elim
 | fdi ks xs=>exact(show False from hf).elim
 | dit ks xs=>exact(show False from hf).elim
end
def Hq(j:Nat):W2:=λss n P=>∃(d:D) (B i:Nat),ss=[.fd,.sh d,.sh (.int i)]/\i<=j/\fine B d/\2000000<=B/\B<10 ^ 40/\szD d<=80000/\2*j+4<=n/\∀(e:D) (n':Nat),fine (B+1) e->szD e<=2*szD d+250->Cr e<=Cr d+1->n - (2*j+4)<=n'->P e n'
def IJ(Kq:W2):Aj:=(Ac (BG (CG (Be (AR (TJ "tuple" "list" (AB 1)))) (CG (AR (AU (D_ false) (B8 Ce (AF (AB 1) AT)) (wC (D.int 0)))) (CG (AR (AU (D_ false) (AB 2) (wC (D.int 0)))) (AR (AU (D_ false) (AZ BA (AE (Aw 0) (AE (AI (wC (D.int 5))) AY))) (wC (D.int 0))))))) (Au (AZ VT (AE (Aw 0) (AE (AI (AB 1)) AY)))) Av)
 (Ac (Az 3 (AZ BA (AE (Aw 0) (AE (AI (B8 Ce (AF (AB 1) AT))) AY))))
 (Ac (Az 4 (AZ Kq (AE (Aw 0) (AE (AI (AU A8 (AB 1) (AB 3))) (AE (AI (AU IC (AB 2) (wC (D.int 1)))) AY)))))
 (Au (AU Aq (AU Aq (F5 CJ (AB 1) A6 (BK (AB 3))) (VY (AR (Eh "list" (AB 1))) (DA (AF (AB 4) AT)) (BN (AF (AB 4) AT)))) (F5 CJ (AB 1) (BK (AU Aq (AB 3) (wC (D.int 1)))) A6))))))
theorem Yr(xs:List D)(a:Nat):Dp.cutD xs none (some (a:Int))=xs.take (min a xs.length):=by
 unfold Dp.cutD;rw [HT.sIx_none,HT.sIx_nat,jh,Nat.sub_zero]
theorem VF(xs:List D)(a:Nat):Dp.cutD xs (some (a:Int)) none=xs.drop (min a xs.length):=by
 unfold Dp.cutD;rw [HT.sIx_none];exact jc (by simp_all)
theorem Pl{xs:List D}{a:Nat}(h:a<xs.length)(e:D):B7 (Dp.cutD xs none (some (a:Int))++[e]++Dp.cutD xs (some ((a:Int)+1)) none)+szD xs[a]=B7 xs+szD e:=by
 have e2:Dp.cutD xs (some (a+1)) none=xs.drop (a+1):=by
  rw [show ((a:Int)+1)=(a+1:Nat) by omega,VF,gj (by omega)]
 rw [Yr xs a,e2,gj (by omega),Bl,Bl];have h1:=Bl (xs.take a) (xs.drop a);rw [gO,eI h] at h1;have h2:B7 (xs[a]::xs.drop (a+1))=szD _+1+B7 _:=rfl;have h3:B7 [e]=szD e+1+0:=rfl;omega
section
variable {ss:List Slot}{n:Nat}{Pd:D->Nat->Prop}
theorem Qf{Wr:W2}{j:Nat}(f:∀ss n P,j≠0->Hq (j - 1) ss n P->Wr ss n P)(h0:Hq j ss n Pd):IJ Wr (EE Pd) n (ss++Uf 2 .no):=by
 obtain⟨d,B,i,rfl,hi,hf,hB1,hB2,o,hn,p⟩:=h0;have odd:∀m:Nat,n - 1<=m->VT [.fd,.sh d] m Pd:=λm hm=>⟨d,B,rfl,hf,hB1,hB2,o,by omega,λe n' h1 h2 h3 h4=>p e n' h1 h2 h3 (by omega)⟩;unfold IJ;have v:=PySem.sizeLine_eq;cases d with
 | non=>exact⟨trivial,odd n (by omega)⟩
 | bl b=>exact⟨trivial,odd n (by omega)⟩
 | int k=>exact⟨trivial,odd n (by omega)⟩
 | str x=>exact⟨trivial,odd n (by omega)⟩
 | dic ks xs=>exact(show False from hf).elim
 | fdi ks xs=>exact(show False from hf).elim
 | dit ks xs=>exact(show False from hf).elim
 | tup xs =>
  have w:=BU xs;have q:B7 xs<=80000:=o;refine⟨trivial,_,_,rfl,rfl,?_⟩;refine B3 (λ_=>odd n (by omega)) λc1=>?_;have s:xs.length≠0:=λz=>c1 (by show ((xs.length:Int)==0)=true; rw [z]; rfl);refine B3 (λ_=>odd n (by omega)) λc2=>?_;have hj:i≠0:=λz=>c2 (by show ((i:Int)==0)=true; rw [z]; rfl);refine⟨5,rfl,by decide,by decide,by omega,λr r0 r1=>?_⟩;refine B3 (λ_=>odd (n - 1) (by omega)) λ_=>?_;refine⟨_,_,rfl,rfl,(xs.length:Int),rfl,by omega,by omega,by omega,λa a0 a1=>?_⟩;obtain⟨a,rfl⟩:∃k:Nat,a=(k:Int):=⟨a.toNat,by omega⟩;have ha:a<xs.length:=by omega
  refine⟨xs[a],AO (No ha),?_⟩;have g:xs[a]∈xs:=dX ha;have t:=MD g;refine f _ _ _ (by omega) ⟨xs[a],B,i - 1,by rw [show (((i - 1:Nat)):Int)=(i:Int) - 1 by omega],by omega,fines_iff.mp hf _ g,hB1,hB2,by omega,by omega,λe n' f1 f2 f3 f4=>?_⟩;have l:=Pl ha e;have d1:=BU (Dp.cutD xs none (some (a:Int)));have d2:=BU (Dp.cutD xs (some ((a:Int)+1)) none);have c1:=B5 xs none (some (a:Int));have c2:=B5 xs (some ((a:Int)+1)) none;have e1:(Dp.cutD xs none (some (a:Int))++[e]).length=_:=XV;have e2:[e].length=1:=rfl
  have c:∀y∈Dp.cutD xs none (some (a:Int))++[e]++Dp.cutD xs (some ((a:Int)+1)) none,y∈xs\/y=e:=λy hy=>by
   rcases cu.mp hy with hy | hy
   ·rcases cu.mp hy with hy | hy
    ·exact .inl (BY hy)
    ·exact .inr (Tk.mp hy)
   ·exact .inl (BY hy)
  have u:=dps_le.mp (On (C9 xs)) _ g;refine⟨(by decide:1<=sizeLine),by omega,by omega,p (.tup _) _ ?_ ?_ ?_ (by omega)⟩
  ·exact fines_iff.mpr λy hy=>(c y hy).elim (λh=>(fines_iff.mp hf y h).mono (by omega)) λh=>by rw [h]; exact f1
  ·show B7 _<=2*B7 xs+250
   omega
  ·show C9 _+1<=C9 xs+1+1
   have:=dps_le (k:=C9 xs+1).mpr λy hy=>(c y hy).elim (λh=>Nat.le_succ_of_le (dps_le.mp (On (C9 xs)) y h)) λh=>by rw [h]; omega
   omega
 | lst xs =>
  have w:=BU xs;have q:B7 xs<=80000:=o;refine⟨trivial,_,_,rfl,rfl,?_⟩;refine B3 (λ_=>odd n (by omega)) λc1=>?_;have s:xs.length≠0:=λz=>c1 (by show ((xs.length:Int)==0)=true; rw [z]; rfl);refine B3 (λ_=>odd n (by omega)) λc2=>?_;have hj:i≠0:=λz=>c2 (by show ((i:Int)==0)=true; rw [z]; rfl);refine⟨5,rfl,by decide,by decide,by omega,λr r0 r1=>?_⟩;refine B3 (λ_=>odd (n - 1) (by omega)) λ_=>?_;refine⟨_,_,rfl,rfl,(xs.length:Int),rfl,by omega,by omega,by omega,λa a0 a1=>?_⟩;obtain⟨a,rfl⟩:∃k:Nat,a=(k:Int):=⟨a.toNat,by omega⟩;have ha:a<xs.length:=by omega
  refine⟨xs[a],AO (No ha),?_⟩;have g:xs[a]∈xs:=dX ha;have t:=MD g;refine f _ _ _ (by omega) ⟨xs[a],B,i - 1,by rw [show (((i - 1:Nat)):Int)=(i:Int) - 1 by omega],by omega,fines_iff.mp hf _ g,hB1,hB2,by omega,by omega,λe n' f1 f2 f3 f4=>?_⟩;have l:=Pl ha e;have d1:=BU (Dp.cutD xs none (some (a:Int)));have d2:=BU (Dp.cutD xs (some ((a:Int)+1)) none);have c1:=B5 xs none (some (a:Int));have c2:=B5 xs (some ((a:Int)+1)) none;have e1:(Dp.cutD xs none (some (a:Int))++[e]).length=_:=XV;have e2:[e].length=1:=rfl
  have c:∀y∈Dp.cutD xs none (some (a:Int))++[e]++Dp.cutD xs (some ((a:Int)+1)) none,y∈xs\/y=e:=λy hy=>by
   rcases cu.mp hy with hy | hy
   ·rcases cu.mp hy with hy | hy
    ·exact .inl (BY hy)
    ·exact .inr (Tk.mp hy)
   ·exact .inl (BY hy)
  have u:=dps_le.mp (On (C9 xs)) _ g;refine⟨(by decide:1<=sizeLine),by omega,by omega,p (.lst _) _ ?_ ?_ ?_ (by omega)⟩
  ·exact fines_iff.mpr λy hy=>(c y hy).elim (λh=>(fines_iff.mp hf y h).mono (by omega)) λh=>by rw [h]; exact f1
  ·show B7 _<=2*B7 xs+250
   omega
  ·show C9 _+1<=C9 xs+1+1
   have:=dps_le (k:=C9 xs+1).mpr λy hy=>(c y hy).elim (λh=>Nat.le_succ_of_le (dps_le.mp (On (C9 xs)) y h)) λh=>by rw [h]; omega
   omega
end
def Mo(a b:Int):D->Bool
 | .int i=>decide (a<=i)&&decide (i<=b)
 | _=>false
def OO(ps:List Str)(d:D):Bool:=IT d&&EA ps d
abbrev JH:W2:=λss n P=>∃d a b,ss=[.sh d,.sh (.int a),.sh (.int b)]/\P (.bl (Mo a b d)) n
abbrev RS:W2:=λss n P=>∃(ps:List Str) (d:D),ss=[.sh (.tup (ps.map .str)),.sh d]/\(∀p∈ps,D9 p)/\P (.bl (OO ps d)) n
def NM:Aj:=(Au (HJ (Eh "int" (AB 0)) (HJ (Xn (Eh "bool" (AB 0))) (JN Sg Sg (AB 1) (AB 0) (AB 2)))))
def Ke:Aj:=(Ac (BG (CG (Be (AR (Eh "str" (AB 0)))) (Be (AR (JN EV EV (wC (D.int 0)) (B8 Ce (AF (AB 0) AT)) (wC (D.int 9)))))) (Au (wC (D.bl false))) Av)
 (Au (B8 Oh (AF (BR [none] (BI (AB 0)) (Af 0) CW (AU (ZI λi j P=>P (D.bl (!(d6 j i 0 j.length 1).isEmpty))) (AB 0) (wC (D.str "abcdefghijklmnopqrstuvwxyz")))) AT))))
def LC:Aj:=(Ac (BG (CG (Be (AR (Eh "tuple" (AB 1)))) (CG (AR (AU (D_ true) (B8 Ce (AF (AB 1) AT)) (wC (D.int 3)))) (Be (AR (AZ JH (AE (AI (AU A8 (AB 1) (wC (D.int 2)))) (AE (AI (wC (D.int 1))) (AE (AI (AU (PK Ik λi j=>D.int (i ^ j.toNat)) (wC (D.int 10)) (wC (D.int 6)))) AY)))))))) (Au (wC (D.bl false))) Av)
 (Ac (BG (CG (Be (AR (AZ L4 (AE (AI (AU A8 (AB 1) (wC (D.int 0)))) AY)))) (Be (AR (AZ L4 (AE (AI (AU A8 (AB 1) (wC (D.int 1)))) AY))))) (Au (wC (D.bl false))) Av)
 (Au (HJ (AU (DV false) (AU A8 (AB 1) (wC (D.int 0))) (AB 0)) (HJ (AU (DV false) (AU A8 (AB 1) (wC (D.int 1))) (AB 0)) (AU EV (AU A8 (AB 1) (wC (D.int 0))) (AU A8 (AB 1) (wC (D.int 1)))))))))
def O6:Aj:=(Au (AU (DV true) (wC (D.bl false)) (BR [some 0,none] (EJ (AF (AU IC (B8 Ce (AF (AB 0) AT)) (wC (D.int 1))) AT)) (Af 1) CW (AU EV (AU A8 (AB 0) (AB 1)) (AU A8 (AB 0) (AU Aq (AB 1) (wC (D.int 1))))))))
def LD:Aj:=(Ac (BG (CG (Be (AR (Eh "tuple" (AB 0)))) (CG (AR (AU (D_ true) (B8 Ce (AF (AB 0) AT)) (wC (D.int 2)))) (Be (AR (Eh "tuple" (AU A8 (AB 0) (wC (D.int 0)))))))) (Au (wC (D.bl false))) Av)
 (Ac (BG (CG (Be (AR (Eh "tuple" (AU A8 (AB 0) (wC (D.int 1)))))) (CG (AR (AU (f2 λi j=>D.bl (decide (j<i))) (B8 Ce (AF (AU A8 (AB 0) (wC (D.int 0))) AT)) (wC (D.int 24)))) (AR (AU (f2 λi j=>D.bl (decide (j<i))) (B8 Ce (AF (AU A8 (AB 0) (wC (D.int 1))) AT)) (wC (D.int 60)))))) (Au (wC (D.bl false))) Av)
 (Ac (BG (CG (AR (AU (DV false) (wC (D.bl false)) (BR [none] (BI (AU A8 (AB 0) (wC (D.int 0)))) (Af 0) CW (AZ L4 (AE (AI (AB 0)) AY))))) (Be (AR (AZ DB (AE (AI (AU A8 (AB 0) (wC (D.int 0)))) AY))))) (Au (wC (D.bl false))) Av)
 (Ac (BG (AR (AU (DV false) (wC (D.bl false)) (BR [some 0,none] (BI (AU A8 (AB 0) (wC (D.int 1)))) (Af 1) CW (AZ RS (AE (AI (AU A8 (AB 0) (wC (D.int 0)))) (AE (AI (AB 1)) AY)))))) (Au (wC (D.bl false))) Av)
 (Au (AZ DB (AE (AI (BR [none] (BI (AU A8 (AB 0) (wC (D.int 1)))) (Af 0) CW (F5 CJ (AB 0) A6 (BK (wC (D.int 2)))))) AY)))))))
theorem SR{α:Type}(p:α->Bool)(l:List α):CT (l.map λa=>D.bl (p a))=true/\fi (Bk (l.map λa=>D.bl (p a)))=true/\eY (Bk (l.map λa=>D.bl (p a)))=0:=by
 induction l with
 | nil=>exact⟨rfl,rfl,rfl⟩
 | cons a r ih =>
  assumption
theorem Yh(b:Bool):GA (.bl b) (.bl false)=!b:=by cases b <;> rfl
theorem Yz{α:Type}(p:α->Bool)(l:List α):((l.map λa=>D.bl (p a)).any λy=>GA y (.bl false))=!(l.all p):=by
 induction l with
 | nil=>rfl
 | cons a r ih=>rw [dG,List.any_cons,fB,ih,Yh,Bool.not_and]
theorem ES{α:Type}{p:α->Bool}{l:List α}{neg:Bool}{P:D->Prop}(h:P (.bl (if neg then l.all p else !(l.all p)))):DV neg (.bl false) (.lst (l.map λa=>.bl (p a))) P:=by
 obtain⟨h1,h2,h3⟩:=SR p l;refine⟨⟨rfl,rfl,TM _⟩,⟨h1,h2,?_⟩,_,rfl,?_⟩
 ·show eY _+1<=100
  simp_all
 ·rw [Yz,Bool.not_not]
  exact h
theorem OS(c:Nat):(!(d6 letters ⟨#[c]⟩ 0 letters.length 1).isEmpty)=(decide (97<=c)&&decide (c<=122)):=by
 rw [PySem.StrLaws.found_one _ c]
 by_cases h:97<=c/\c<=122
 ·have:∀c<123,97<=c->letters.cps.toList.contains c=true:=by decide +kernel
  grind
 ·have a:∀x∈letters.cps.toList,97<=x/\x<=122:=by decide +kernel
  have:letters.cps.toList.contains c=false:=by
   grind
  simp_all
theorem Ug(qs:List Str)(ts:List D):ts.all (OO qs)=(ts.all IT&&ts.all (EA qs)):=by
 unfold OO
 induction ts with
 | nil=>rfl
 | cons t r ih=>rw [fB,fB,fB,ih]; cases IT t <;> cases EA qs t <;> cases r.all _ <;> rfl
theorem L0:∀xs:List D,((dD (xs.length - 1)).all λi=>He (xs.getD i .non) (xs.getD (i+1) .non)==some true)=Kh xs
 | []=>rfl
 | [x]=>rfl
 | x::y::r=>by
  show ((dD (r.length+1)).all _)=((He x y==some _)&&Kh _);rw [g9,fB,jO,← L0 _];rfl
section
variable {ss:List Slot}{n:Nat}{Pd:D->Nat->Prop}
theorem MQ(h:JH ss n Pd):NM (EE Pd) n (ss++Uf 0 .no):=by
 obtain⟨d,a,b,rfl,q⟩:=h;cases d with
 | int i=>exact Kf (k:=λP=>P _ n) (λ_ h=>h) q
 | _=>exact q
theorem Jf(h0:L4 ss n Pd):Ke (EE Pd) n (ss++Uf 0 .no):=by
 obtain⟨d,rfl,h⟩:=h0.out;clear h0;cases d with
 | str x =>
  have h':Pd (.bl ((decide (1<=x.length)&&decide (x.length<=8))&&(cs x).all λc=>decide (97<=c)&&decide (c<=122))) n:=h;refine⟨_,_,rfl,rfl,?_⟩;show (match (.bl (decide ((0:Int)<(x.length:Int))):D) with | .bl true=>_ | .bl false=>_ | _=>False)
  by_cases h1:1<=x.length
  ·have i1:decide ((0:Int)<(x.length:Int))=true:=decide_eq_true (by omega)
   rw [i1];show (if (!decide ((x.length:Int)<9))=true then _ else _)
   by_cases h2:x.length<=8
   ·have i2:decide ((x.length:Int)<9)=true:=decide_eq_true (by omega)
    rw [decide_eq_true h1,decide_eq_true h2,fM,fM] at h';rw [i2];refine BQ ⟨by rw [Rn]; omega,?_⟩;refine BO (λd=>match d with | .str z=>.bl (!(d6 letters z 0 letters.length 1).isEmpty) | _=>.non) (λρ=>∃s,ρ=[s]) _ _ _ _ ?_ ⟨_,rfl⟩ ?_
    ·rintro d hd ρ m nx ⟨s,rfl⟩ a
     obtain⟨c,b,rfl⟩:=Rs.mp hd;exact a _ ⟨_,rfl⟩
    ·rw [cy]
     unfold Dp.signs;rw [fA];show Oh [.lst (x.cps.toList.map λc=>.bl (!(d6 letters ⟨#[c]⟩ 0 letters.length 1).isEmpty))] λz=>Pd z n;refine Og (p:=λc=>!(d6 letters ⟨#[c]⟩ 0 letters.length 1).isEmpty) ?_;rw [show (λc=>!(d6 letters ⟨#[c]⟩ 0 letters.length 1).isEmpty)=λc=>decide (97<=c)&&decide (c<=122) from funext OS];exact h'
   ·have i2:decide ((x.length:Int)<9)=false:=decide_eq_false (by omega)
    rw [decide_eq_true h1,decide_eq_false h2,iZ,gP] at h';rw [i2];exact Bi h'
  ·have i1:decide ((0:Int)<(x.length:Int))=false:=decide_eq_false (by omega)
   rw [decide_eq_false h1,gP,gP] at h';rw [i1];exact Bi h'
 | _=>exact h
theorem Nz(h:DB ss n Pd):O6 (EE Pd) n (ss++Uf 0 .no):=by
 obtain⟨d,xs,rfl,hd,j,b,h⟩:=h
 have go:((Cu 0 ((xs.length:Int) - 1).toNat).length<=10000000)/\Ci (Af 1) CW (AU EV (AU A8 (AB 0) (AB 1)) (AU A8 (AB 0) (AU Aq (AB 1) (wC (D.int 1))))) (λc n2=>DV true (.bl false) (.lst c) λz=>Pd z n2) (Cu 0 ((xs.length:Int) - 1).toNat) [] n [.sh d,.no]:=by
  refine⟨by rw [By]; omega,?_⟩;refine BO (λe=>.bl (match e with | .int i=>He (xs.getD i.toNat .non) (xs.getD (i.toNat+1) .non)==some true | _=>false)) (λρ=>∃s,ρ=[.sh d,s]) _ _ _ _ ?_ ⟨_,rfl⟩ ?_
  ·rintro z g ρ m nx ⟨s,rfl⟩ f
   obtain⟨k,l,rfl⟩:=Jc g;have e0:(0+(k:Int))=(k:Int):=by omega
   have k1:k<xs.length:=by omega
   have k2:k+1<xs.length:=by omega
   have a:nx (.bl (He xs[k] xs[k+1]==some true)) m [.sh d,.sh (.int (0+(k:Int)))]:=by
    have:=f [.sh d,.sh (.int (0+(k:Int)))] ⟨_,rfl⟩
    rw [e0] at this ⊢;show nx (.bl _) m _;have t:nx (.bl (He (xs.getD k .non) (xs.getD (k+1) .non)==some true)) m [.sh d,.sh (.int (k:Int))]:=this;rw [dW,dW,No k1,No k2] at t;exact t
   obtain⟨r,hr⟩:=b _ (dX k1) _ (dX k2);have a1:atI xs (0+(k:Int))=some xs[k]:=by rw [e0]; exact AO (No k1)
   have a2:atI xs (0+(k:Int)+1)=some xs[k+1]:=by rw [e0,show ((k:Int)+1)=((k+1:Nat):Int) by omega]; exact AO (No k2)
   have fin:EV xs[k] xs[k+1] λy=>nx y m [.sh d,.sh (.int (0+(k:Int)))]:=by
    refine Q5 hr ?_;rw [hr] at a;cases r <;> exact a
   cases d with
   | lst ys=>cases hd; exact⟨_,a1,_,a2,fin⟩
   | tup ys=>cases hd; exact⟨_,a1,_,a2,fin⟩
   | _=>cases hd
  ·rw [cy]
   refine ES (p:=fun(e:D)=>match e with | .int i=>He (xs.getD i.toNat .non) (xs.getD (i.toNat+1) .non)==some true | _=>false) ?_;show Pd (.bl ((Cu 0 ((xs.length:Int) - 1).toNat).all _)) n;unfold Cu;rw [jO,show ((xs.length:Int) - 1).toNat=xs.length - 1 by omega]
   have e:((fun(e:D)=>match e with | .int i=>He (xs.getD i.toNat .non) (xs.getD (i.toNat+1) .non)==some true | _=>false)∘fun(i:Nat)=>D.int (0+(i:Int)))=λi=>He (xs.getD i .non) (xs.getD (i+1) .non)==some true:=by
    funext i
    show (He (xs.getD (0+(i:Int)).toNat .non) (xs.getD ((0+(i:Int)).toNat+1) .non)==some true)=_;rw [show (0+(i:Int)).toNat=i by omega]
   rw [e,L0];exact h
 cases d with
 | lst ys=>cases hd; exact⟨_,_,rfl,rfl,_,rfl,⟨by omega,by omega⟩,go⟩
 | tup ys=>cases hd; exact⟨_,_,rfl,rfl,_,rfl,⟨by omega,by omega⟩,go⟩
 | _=>cases hd
theorem Kw(h0:RS ss n Pd):LC (EE Pd) n (ss++Uf 0 .no):=by
 obtain⟨ps,d,rfl,f,h⟩:=h0;cases d with
 | tup xs =>
  refine⟨_,_,rfl,rfl,?_⟩;show if (!((xs.length:Int)==3))=true then _ else _
  cases h3:((xs.length:Int)==3) with
  | false =>
   have h':Pd (.bl (IT (.tup xs)&&EA ps (.tup xs))) n:=h;rw [bT (d:=.tup xs) h3] at h';exact Bi h'
  | true =>
   obtain⟨a,b,c,e⟩:=bF (d:=.tup xs) h3;cases e;have h':Pd (.bl (((CC a&&CC b)&&((He a b==some true)&&G1 c))&&EA ps (.tup [a,b,c]))) n:=h;refine BQ ⟨_,rfl,(⟨by decide,by decide,by decide⟩:Ik 10 6),c,1,_,rfl,?_⟩;show if (!Mo 1 ((10:Int) ^ (6:Int).toNat) c)=true then _ else _
   have ec:Mo 1 ((10:Int) ^ (6:Int).toNat) c=G1 c:=by cases c <;> rfl
   rw [ec];cases i:G1 c with
   | false =>
    rw [i] at h';simp only [iZ,gP] at h';exact Bi h'
   | true =>
    rw [i] at h';refine BQ ⟨_,rfl,[a],rfl,rfl,?_⟩;show if (!CC a)=true then _ else _
    cases ha:CC a with
    | false=>rw [ha] at h'; exact Bi h'
    | true =>
     refine BQ ⟨_,rfl,[b],rfl,rfl,?_⟩;show if (!CC b)=true then _ else _
     cases g:CC b with
     | false=>rw [ha,g] at h'; exact Bi h'
     | true =>
      rw [ha,g] at h';obtain⟨x,rfl,j⟩:=nameB_iff.mp ha;obtain⟨y,rfl,hy⟩:=nameB_iff.mp g;rw [Iw] at h'
      have h2:Pd (.bl (decide (cs x<cs y)&&(ps.any (·==x)&&ps.any (·==y)))) n:=by
       cases hd:decide (cs x<cs y) with
       | false=>rw [hd] at h'; exact h'
       | true=>rw [hd] at h'; exact h'
      rw [Bool.and_comm,Bool.and_assoc] at h2;have e1:∀x:Str,((ps.map D.str).any λz=>GA z (.str x))=ps.any (·==x):=λx=>by rw [jQ]; rfl
      rw [← e1,← e1] at h2;refine BQ ⟨_,rfl,Jz j,ER f,_,rfl,?_⟩;refine Kf (b1:=(ps.map D.str).any λz=>GA z (.str x)) (b2:=((ps.map D.str).any λz=>GA z (.str y))&&decide (cs x<cs y)) (P:=Pd) (n:=n) (k:=λP=>_) (λ_ hp=>⟨_,rfl,Jz hy,ER f,_,rfl,?_⟩) h2;exact Kf (b1:=(ps.map D.str).any λz=>GA z (.str y)) (b2:=decide (cs x<cs y)) (P:=Pd) (n:=n) (k:=λP=>_) (λ_ hp=>⟨_,rfl,_,rfl,hp⟩) hp
 | _=>exact h
theorem Kx(h0:RR ss n Pd):LD (EE Pd) n (ss++Uf 0 .no):=by
 obtain⟨d,rfl,h⟩:=h0.out;clear h0;cases d with
 | tup xs =>
  refine⟨_,_,rfl,rfl,?_⟩;show if (!((xs.length:Int)==2))=true then _ else _
  cases h2:((xs.length:Int)==2) with
  | false =>
   rw [Z4 (d:=.tup xs) h2] at h;exact Bi h
  | true =>
   obtain⟨p,t,e⟩:=Xr (d:=.tup xs) h2;cases e;have h':Pd (.bl (Iu p&&PN p t)) n:=h;refine BQ ⟨_,rfl,?_⟩;cases p with
   | tup ps =>
    refine⟨_,rfl,?_⟩;cases t with
    | tup ts =>
     have h':Pd (.bl ((decide (ps.length<=24)&&(ps.all CC&&Kh ps))&&(decide (ts.length<=60)&&(ts.all IT&&(ts.all (EA (strsOf ps))&&Kh (ts.map FY)))))) n:=h;refine⟨_,rfl,_,_,rfl,rfl,?_⟩;show if decide ((24:Int)<(ps.length:Int))=true then _ else _
     by_cases j:ps.length<=24
     ·rw [decide_eq_true j,fM] at h'
      rw [decide_eq_false (show ¬(24:Int)<(ps.length:Int) by omega)];refine BQ ⟨_,rfl,_,_,rfl,rfl,?_⟩;show if decide ((60:Int)<(ts.length:Int))=true then _ else _
      by_cases k:ts.length<=60
      ·rw [decide_eq_true k,fM] at h'
       rw [decide_eq_false (show ¬(60:Int)<(ts.length:Int) by omega)];refine BQ ⟨_,rfl,by show ps.length<=10000000; omega,?_⟩;refine BO (λd=>.bl (CC d)) (λρ=>∃s,ρ=[s]) _ _ _ _ ?_ ⟨_,rfl⟩ ?_
       ·rintro d hd ρ m nx ⟨s,rfl⟩ b
        exact⟨[d],rfl,rfl,b _ ⟨_,rfl⟩⟩
       rw [cy];refine ES ?_;show if (!ps.all CC)=true then _ else _
       cases hn:ps.all CC with
       | false=>rw [hn] at h'; exact Bi h'
       | true =>
        rw [hn,fM] at h';obtain⟨qs,rfl,f⟩:=OJ hn;rw [B9] at h';refine BQ ⟨_,rfl,_,_,rfl,rfl,by omega,λx c y hy=>?_,?_⟩
        ·obtain⟨p,_,rfl⟩:=Rs.mp c
         obtain⟨q,_,rfl⟩:=Rs.mp hy;exact⟨_,Iw p q⟩
        show if (!Kh (qs.map .str))=true then _ else _
        cases ha:Kh (qs.map .str) with
        | false=>rw [ha] at h'; exact Bi h'
        | true =>
         rw [ha,fM] at h';refine BQ ⟨_,rfl,by show ts.length<=10000000; omega,?_⟩;refine BO (λd=>.bl (OO qs d)) (λρ=>∃s,ρ=[.sh (.tup [.tup (qs.map .str),.tup ts]),s]) _ _ _ _ ?_ ⟨_,rfl⟩ ?_
         ·rintro d hd ρ m nx ⟨s,rfl⟩ b
          exact⟨_,rfl,qs,d,rfl,f,b _ ⟨_,rfl⟩⟩
         rw [cy];refine ES ?_;show if (!ts.all (OO qs))=true then _ else _
         rw [Ug];rw [← Bool.and_assoc] at h';cases he:(ts.all IT&&ts.all (EA qs)) with
         | false=>rw [he] at h'; exact Bi h'
         | true =>
          rw [he,fM] at h';rw [cq] at he;have a:∀t∈ts,IT t=true:=d9.mp he.1;refine BQ ⟨_,rfl,by show ts.length<=10000000; omega,?_⟩;refine BO FY (λρ=>∃s,ρ=[s]) _ _ _ _ ?_ ⟨_,rfl⟩ ?_
          ·rintro d hd ρ m nx ⟨s,rfl⟩ b
           obtain⟨x,y,l,rfl,c,hy,_⟩:=MC (a d hd);exact b _ ⟨_,rfl⟩
          rw [cy];refine⟨_,_,rfl,rfl,by rw [Go]; omega,λx c y hy=>?_,h'⟩;obtain⟨t,g,rfl⟩:=Rs.mp c;obtain⟨u,i,rfl⟩:=Rs.mp hy;obtain⟨x1,y1,l1,rfl,_⟩:=MC (a t g);obtain⟨x2,y2,l2,rfl,_⟩:=MC (a u i);exact⟨_,rfl⟩
      ·rw [decide_eq_false k,gP,iZ] at h'
       rw [decide_eq_true (show (60:Int)<(ts.length:Int) by omega)];exact Bi h'
     ·rw [decide_eq_false j,gP] at h'
      rw [decide_eq_true (show (24:Int)<(ps.length:Int) by omega)];exact Bi h'
    | _=>have h2:Pd (.bl (Iu (.tup ps)&&false)) n:=h'; rw [iZ] at h2; exact h2
   | _=>exact h'
 | _=>exact h
end
def item(d:D):Prop:=fine 1000001 d/\szD d<=450/\Cr d<=1
theorem GK{k:Nat}:∀{ds:List D},(∀d∈ds,szD d+1<=k)->B7 ds<=k*ds.length
 | [],_=>TM _
 | d::ds,h=>by
  have h2:=GK λe he=>h e (Re _ he);show szD d+1+B7 ds<=k*(ds.length+1)
  grind
theorem FV{B:Nat}{xs:List D}(h:∀d∈xs,fine B d):fine B (.tup xs):=fines_iff.mpr h
theorem item_str{x:Str}(h1:x.length<=8)(h2:∀c∈cs x,c<1114112):item (.str x):=⟨h2,by show x.length<=450; omega,TM _⟩
theorem Cp{x:Str}(h:D9 x):item (.str x):=item_str h.2.1 λc a=>by have:=h.2.2 c a; omega
theorem OZ{a b:Str}{l:Int}(ha:item (.str a))(c:item (.str b))(la:a.length<=8)(lb:b.length<=8)(e:l.natAbs<=1000001):item (.tup [.str a,.str b,.int l]):=by
 refine⟨FV λd hd=>?_,?_,?_⟩
 ·simp at hd
  rcases hd with rfl | rfl | rfl
  ·exact ha.1
  ·exact c.1
  ·exact e
 ·show a.length+1+(b.length+1+(200+1+0))<=450
  omega
 ·show max 0 (max 0 (max 0 0))+1<=1
  decide
theorem J1{N:Net}(ok:N.Ok):∀d∈N.ts.map Aa,item d:=λd hd=>by
 obtain⟨t,ht,rfl⟩:=Rs.mp hd;obtain⟨h1,h2,_,h3,h4⟩:=ok.tin t ht;have n1:=ok.names _ h1;have n2:=ok.names _ h2;exact OZ (Cp n1) (Cp n2) n1.2.1 n2.2.1 (by omega)
theorem Q0{N:Net}(ok:N.Ok):∀d∈N.ps.map D.str,item d:=λd hd=>by
 obtain⟨x,a,rfl⟩:=Rs.mp hd;exact Cp (ok.names x a)
theorem Xq{xs ys:List D}(a:∀d∈xs,item d)(hy:∀d∈ys,item d)(lx:xs.length<=26)(ly:ys.length<=80):fine 1000001 (.tup [.tup xs,.tup ys])/\szD (.tup [.tup xs,.tup ys])<=48000/\Cr (.tup [.tup xs,.tup ys])<=3:=by
 have s1:=GK λd hd=>fw (a d hd).2.1;have s2:=GK λd hd=>fw (hy d hd).2.1;have d1:=dps_le.mpr λd hd=>(a d hd).2.2;have d2:=dps_le.mpr λd hd=>(hy d hd).2.2;refine⟨FV λd hd=>?_,?_,?_⟩
 ·simp at hd
  rcases hd with rfl | rfl
  ·exact FV λd hd=>(a d hd).1
  ·exact FV λd hd=>(hy d hd).1
 ·show B7 xs+1+(B7 ys+1+0)<=48000
  omega
 ·show max (C9 xs+1) (max (C9 ys+1) 0)+1<=3
  omega
theorem Fh{p:D->Prop}{xs:List D}(h:∀d∈xs,p d){o:Int}(h0:0<=o)(h1:o<(xs.length:Int)):∃z,atI xs o=some z/\p z:=by
 obtain⟨k,rfl⟩:∃k:Nat,o=k:=⟨o.toNat,by omega⟩;have a:k<xs.length:=by omega
 exact⟨_,AO (No a),h _ (dX a)⟩
theorem Kg:∀{xs:List D},xs.Pairwise (λa b=>He a b=some true)->Kh xs=true
 | [],_=>rfl
 | [x],_=>rfl
 | x::y::r,h=>by
  rw [dm] at h;show ((He x y==some _)&&Kh _)=true;rw [h.1 y Op,Kg h.2];rfl
theorem DD(x:Str):¬cs x<cs x:=gN _
theorem Ud{N:Net}(ok:N.Ok)(l1:N.ps.length<=24)(l2:N.ts.length<=60):P1 (enc N)=true:=by
 show ((decide ((N.ps.map D.str).length<=24)&&((N.ps.map D.str).all CC&&Kh (N.ps.map D.str)))&&(decide ((N.ts.map Aa).length<=60)&&((N.ts.map Aa).all IT&&((N.ts.map Aa).all (EA (strsOf (N.ps.map D.str)))&&Kh ((N.ts.map Aa).map FY)))))=true;rw [B9,Go,Go,decide_eq_true l1,decide_eq_true l2];simp only [fM,cq,d9];refine⟨⟨λd hd=>?_,Kg ?_⟩,λd hd=>?_,λd hd=>?_,Kg ?_⟩
 ·obtain⟨x,c,rfl⟩:=Rs.mp hd
  exact nameB_iff.mpr ⟨x,rfl,ok.names x c⟩
 ·rw [fK]
  refine ok.rise.imp λ{a b} h=>?_;rw [Iw,decide_eq_true h]
 ·obtain⟨t,ht,rfl⟩:=Rs.mp hd
  obtain⟨h1,h2,h3,h4,h5⟩:=ok.tin t ht;show ((CC (.str t.a)&&CC (.str t.b))&&((He (.str t.a) (.str t.b)==some true)&&(decide (1<=t.len)&&decide (t.len<=1000000))))=true;rw [nameB_iff.mpr ⟨_,rfl,ok.names _ h1⟩,nameB_iff.mpr ⟨_,rfl,ok.names _ h2⟩,Iw,decide_eq_true h3,decide_eq_true h4,decide_eq_true h5];rfl
 ·obtain⟨t,ht,rfl⟩:=Rs.mp hd
  obtain⟨h1,h2,_⟩:=ok.tin t ht;show (N.ps.any (·==t.a)&&N.ps.any (·==t.b))=true;rw [cq,em,em];exact⟨⟨_,h1,beq_self_eq_true _⟩,⟨_,h2,beq_self_eq_true _⟩⟩
 ·rw [fA,fK]
  refine ok.trise.imp λ{s t} h=>?_;show (if (true&&(true&&true))=true then some (GY [.inr s.a,.inr s.b] [.inr t.a,.inr t.b]) else none)=some true;rw [if_pos (show (true&&(true&&true))=true from rfl)]
  congr 1
  show (if (fH s.a:Key)=.inr t.a then (if (fH s.b:Key)=.inr t.b then false else decide (cs s.b<cs t.b)) else decide (cs s.a<cs t.a))=true
  rcases h with h | ⟨h,h'⟩
  ·rw [if_neg (λe=>DD s.a (by rw [fT e] at h ⊢; exact h)),decide_eq_true h]
  ·rw [if_pos (by rw [h]),if_neg (λe=>DD s.b (by rw [fT e] at h' ⊢; exact h')),decide_eq_true h']
theorem z1:1<=sizeLine:=by decide
theorem z2:2<=sizeLine:=by decide
theorem z3:3<=sizeLine:=by decide
theorem z0:0<=sizeLine:=TM _
theorem bj:Ik 10 6:=⟨by decide,by decide,by decide⟩
def ZU(s t:BP):Decidable (s=t) :=
 if h:s.a=t.a/\s.b=t.b/\s.len=t.len then .isTrue (by obtain⟨a,b,l⟩:=s; obtain⟨a',b',l'⟩:=t; obtain⟨h1,h2,h3⟩:=h; simp only at h1 h2 h3; subst h1 h2 h3; rfl) else .isFalse λe=>h (by rw [e]; exact⟨rfl,rfl,rfl⟩)
instance:DecidableEq BP:=ZU
abbrev EF(Pd:D->Nat->Prop):E2:={ nx:=λn _=>Kd.fr=.sh/\Pd .non n,rt:=Pd }
def Jd(t:BP):List Key:=[.inl t.len,.inr t.a,.inr t.b]
def Fc(ts:List BP):Prop:=ts.Pairwise λs t=>Cg (Jd t) (Jd s)=false
def N3:D->D
 | .tup [x,y,z]=>.tup [z,x,y]
 | d=>d
abbrev RP:W2:=λss n P=>∃x y z:D,ss=[.sh (.tup [x,y,z])]/\P (.tup [z,x,y]) n
def Dg:W2:=λss n P=>∃(d:D) (ts:List BP),ss=[.sh d]/\IU d=some (ts.map Aa)/\ts.length<64/\∀a:List BP,a.Perm ts->Fc a->P (.lst (a.map Aa)) n
def Ss:Aj:=(Au (BN (AF (AU A8 (AB 0) (wC (D.int 2))) (AF (AU A8 (AB 0) (wC (D.int 0))) (AF (AU A8 (AB 0) (wC (D.int 1))) AT)))))
def KZ:Aj:=(Au (TB RP (AB 0)))
theorem Tt{s t:BP}(h:Jd s=Jd t):s=t:=by
 obtain⟨a,b,l⟩:=s;obtain⟨a',b',l'⟩:=t;unfold Jd at h
 grind
theorem MX{α:Type}{R:α->α->Prop}(c:∀a b,R a b->R b a->a=b):∀{l1 l2:List α},l1.Perm l2->l1.Pairwise R->l2.Pairwise R->l1=l2
 | [],l2,p,_,_=>(List.nil_perm.mp p).symm
 | a::l1,[],p,_,_=>absurd (List.perm_nil.mp p) (gR _ _)
 | a::l1,b::l2,p,h1,h2=>by
  have e:a=b:=by
   rcases T0.mp (p.mem_iff.mp Op) with e | h
   ·exact e
   ·rcases T0.mp (p.mem_iff.mpr (Op)) with e | h'
    ·exact e.symm
    ·exact c a b ((dm.mp h1).1 b h') ((dm.mp h2).1 a h)
  subst e;rw [MX c ((List.perm_cons a).mp p) (dm.mp h1).2 (dm.mp h2).2]
theorem Hv{l1 l2:List BP}(p:l1.Perm l2)(h1:Fc l1)(h2:Fc l2):l1=l2:=MX (λa b x y=>Tt (DP _ _ y x)) p h1 h2
theorem TZ{α:Type}{f:α->D}{g:D->α}(hg:∀x,g (f x)=x){xs:List D}{ts:List α}(h:xs.Perm (ts.map f)):∃a:List α,a.Perm ts/\xs=a.map f:=by
 refine⟨xs.map g,?_,?_⟩
 ·have:=h.map g
  rw [fA,show g∘f=id from funext hg,g_] at this;exact this
 ·rw [fA]
  have:∀x∈xs,(f∘g) x=x:=λx b=>by
   obtain⟨t,_,rfl⟩:=Rs.mp (h.mem_iff.mp b)
   grind
  rw [iW this,List.map_id']
def aM:D->BP
 | .tup [.str a,.str b,.int l]=>⟨a,b,l⟩
 | _=>⟨"","",0⟩
section
variable {ss:List Slot}{n:Nat}{Pd:D->Nat->Prop}
theorem Pf(h:RP ss n Pd):Ss (EE Pd) n (ss++Uf 0 .no):=by
 obtain⟨x,y,z,rfl,p⟩:=h;exact⟨_,AO rfl,_,AO rfl,_,AO rfl,z3,p⟩
theorem UU{ts:List BP}(h:HH (λx=>D8 (N3 x)) (ts.map Aa)):Fc ts:=by
 unfold HH at h;rw [fK] at h;exact h.imp λ{s t} z=>z _ _ rfl rfl
theorem Nx(h:Dg ss n Pd):KZ (EF Pd) n (ss++Uf 0 .no):=by
 obtain⟨d,ts,rfl,hd,b,p⟩:=h;unfold KZ;refine⟨ts.map Aa,N3,hd,by rw [Go]; exact b,λx a Q hq=>?_,⟨λx a=>?_,λx a y hy ka kb ea eb=>?_⟩,λe hp ho=>?_⟩
 ·obtain⟨t,_,rfl⟩:=Rs.mp a
  exact⟨_,_,_,rfl,hq⟩
 ·obtain⟨t,_,rfl⟩:=Rs.mp a
  exact⟨Jd t,rfl,gR _ _⟩
 ·obtain⟨t,_,rfl⟩:=Rs.mp a
  obtain⟨u,_,rfl⟩:=Rs.mp hy;cases (show some (Jd t)=some ka from ea);cases (show some (Jd u)=some kb from eb);rfl
 ·obtain⟨c,h1,rfl⟩:=TZ (g:=aM) (λ_=>rfl) hp
  exact p c h1 (UU ho)
theorem P2{N:Net}(ok:N.Ok){x:Str}{p:Str×Int}(h:p∈Ex N.ts x):p.1∈N.ps/\1<=p.2/\p.2<=1000000/\∃t∈N.ts,t.len=p.2/\((t.a=x/\t.b=p.1)\/(t.b=x/\t.a=p.1)):=by
 obtain⟨t,ht,h⟩:=f6.mp h;obtain⟨m1,m2,m3,m4,m5⟩:=ok.tin t ht
 rcases cu.mp h with h | h
 ·split at h
  ·rename_i e
   rw [Tk.mp h];exact⟨m2,m4,m5,t,ht,rfl,.inl ⟨e,rfl⟩⟩
  ·cases h
 ·split at h
  ·rename_i e
   rw [Tk.mp h];exact⟨m1,m4,m5,t,ht,rfl,.inr ⟨e,rfl⟩⟩
  ·cases h
theorem Q8(s t:BP):GA (Aa s) (Aa t)=true↔s=t:=by
 obtain⟨a,b,l⟩:=s;obtain⟨a',b',l'⟩:=t;show (a==a'&&(b==b'&&(l==l'&&true)))=true↔_
 simp_all
theorem SQ{xs:List D}(h:∀d∈xs,item d):D7 (.lst xs):=by
 have d1:=dps_le.mpr λd hd=>(h d hd).2.2;exact CI (by decide) (fines_iff.mpr λd hd=>(h d hd).1) (by show C9 xs+1<=100; omega)
theorem Ll{α β:Type}(f:α->β):∀(l:List α) (i:Nat),(l.map f).eraseIdx i=(l.eraseIdx i).map f
 | [],i=>rfl
 | x::l,0=>rfl
 | x::l,i+1=>by
  show f x::(l.map f).eraseIdx i=f x::(l.eraseIdx i).map f;rw [Ll f l i]
theorem WI{N:Net}(ok:N.Ok){x o:Str}{s t:BP}(d:s∈N.ts)(ht:t∈N.ts)(e:Bw s t)(h1:(s.a=x/\s.b=o)\/(s.b=x/\s.a=o))(h2:(t.a=x/\t.b=o)\/(t.b=x/\t.a=o)):False:=by
 have ls:=(ok.tin s d).2.2.1;have lt:=(ok.tin t ht).2.2.1;have c:∀a,¬cs a<cs a:=λa=>gN _
 rcases h1 with ⟨a1,b1⟩ | ⟨a1,b1⟩ <;> rcases h2 with ⟨a2,b2⟩ | ⟨a2,b2⟩ <;> rw [a1,b1] at ls <;> rw [a2,b2] at lt
 ·rcases e with e | ⟨_,e⟩
  ·rw [a1,a2] at e; exact c _ e
  grind
 ·grind
 ·exact c _ (List.lt_trans ls lt)
 ·rcases e with e | ⟨_,e⟩
  ·rw [b1,b2] at e; exact c _ e
  grind
theorem SH{N:Net}(ok:N.Ok)(x:Str):((Ex N.ts x).map (·.1)).Nodup:=by
 have go:∀ts:List BP,(∀t∈ts,t∈N.ts)->ts.Pairwise Bw->((Ex ts x).map (·.1)).Nodup:=by
  intro ts
  induction ts with
  | nil=>intro _ _; exact e6
  | cons t ts ih =>
   intro c hp;have i1:=ih (λs d=>c s (Re _ d)) (dm.mp hp).2;have lt:=(ok.tin t (c t Op)).2.2.1
   have new:∀y,((t.a=x/\t.b=y)\/(t.b=x/\t.a=y))->y∉(Ex ts x).map (·.1):=λy hy hm=>by
    obtain⟨s,d,h⟩:=Mn hm;exact WI ok (c t Op) (c s (Re _ d)) ((dm.mp hp).1 s d) hy h
   have e:Ex (t::ts) x=((if t.a=x then [(t.b,t.len)] else [])++(if t.b=x then [(t.a,t.len)] else []))++Ex ts x:=by
    unfold Ex;rw [g0]
   rw [e]
   by_cases h1:t.a=x
   ·have h2:¬t.b=x:=λz=>by rw [h1,z] at lt; exact gN _ lt
    rw [if_pos h1,if_neg h2,dS,jj,dG,dM];exact⟨new _ (.inl ⟨h1,rfl⟩),i1⟩
   ·rw [if_neg h1,cy]
    by_cases h2:t.b=x
    ·rw [if_pos h2,jj,dG,dM]
     exact⟨new _ (.inr ⟨h2,rfl⟩),i1⟩
    ·rw [if_neg h2,cy]
     exact i1
 exact go N.ts (λ_ h=>h) ok.trise
end
theorem PY:∀c,97<=c->c<=122->iS 39 c=[c]:=by
 have:∀c<123,97<=c->iS 39 c=[c]:=by decide +kernel
 grind
theorem KA:∀(l:List Nat) (a:Array Nat),(∀c∈l,97<=c/\c<=122)->(l.foldl (λout c=>out++(iS 39 c).toArray) a).toList=a.toList++l
 | [],a,_=>by simp
 | c::l,a,h=>by
  have b:=h c Op;rw [List.foldl_cons,KA l _ λd hd=>h d (Re _ hd),PY c b.1 b.2];simp
theorem Bg{x:Str}(h:D9 x):∀c∈cs x,97<=c/\c<=122:=λc a=>by
 have:=h.2.2 c a
 omega
theorem JD{x:Str}(h:D9 x):cs (reprText x)=39::(cs x++[39]):=by
 have a:=Bg h
 have hq:reprQuote x=39:=by
  unfold reprQuote
  have:x.cps.contains 39=false:=by
   rw [d7];intro b
   have hm:39∈cs x:=by
    have:=Array.contains_iff_mem.mp b
    exact jk.mpr this
   grind
  grind
 unfold reprText;rw [hq];show ((x.cps.foldl _ #[39]).push 39).toList=_;rw [← Array.foldl_toList,Array.toList_push,KA x.cps.toList _ a];rfl
def Sy:List Str->List Nat->List Nat
 | [],f=>f
 | p::r,f=>44::32::39::(cs p++39::Sy r f)
theorem VG:cs (", ":Str)=[44,32]:=by decide +kernel
theorem CO:∀(p:Str) (r:List Str) (f:List Nat),(∀q∈p::r,D9 q)->cs (Str.join ", " ((p::r).map reprText))++f=39::(cs p++39::Sy r f)
 | p,[],f,h=>by
  show cs (reprText p)++f=_;rw [JD (h p Op)];simp [Sy]
 | p,q::r,f,h=>by
  show cs (reprText p ++ ", "++Str.join _ _)++f=_;rw [Cs,Cs,JD (h p Op),eR,CO q r f λz a=>h z (Re _ a),VG];simp [Sy]
theorem UM:∀{a b r r':List Nat},(∀c∈a,97<=c/\c<=122)->(∀c∈b,97<=c/\c<=122)->a++39::r=b++39::r'->a=b/\r=r'
 | [],[],r,r',_,_,h=>⟨rfl,(eQ h).2⟩
 | [],c::b,r,r',_,e,h=>by
  have:=e c Op
  grind
 | c::a,[],r,r',ha,_,h=>by
  simp_all
 | c::a,d::b,r,r',ha,e,h=>by
  obtain⟨e1,e2⟩:=UM (λz f=>ha z (Re _ f)) (λz f=>e z (Re _ f)) (eQ h).2
  grind
def Yf(f:List Nat):Prop:=f=[41]\/f=[44,41]
theorem QY:∀{r r':List Str} {f f':List Nat},(∀q∈r,D9 q)->(∀q∈r',D9 q)->Yf f->Yf f'->Sy r f=Sy r' f'->r=r'
 | [],[],_,_,_,_,_,_,_=>rfl
 | [],q::r',f,f',_,_,hf,_,h=>by
  have h:f=44::32::39::(cs q++39::Sy r' f'):=h
  rcases hf with e | e <;> rw [e] at h <;> simp at h
 | q::r,[],f,f',_,_,_,hf,h=>by
  have h:44::32::39::(cs q++39::Sy r f)=f':=h
  rcases hf with e | e <;> rw [e] at h <;> simp at h
 | q::r,q'::r',f,f',h1,h2,hf,a,h=>by
  have h:44::32::39::(cs q++39::Sy r f)=44::32::39::(cs q'++39::Sy r' f'):=h;have h:cs q++39::Sy r f=cs q'++39::Sy r' f':=by grind
  obtain⟨e1,e2⟩:=UM (Bg (h1 q Op)) (Bg (h2 q' Op)) h;rw [KQ e1,QY (λz b=>h1 z (Re _ b)) (λz b=>h2 z (Re _ b)) hf a e2]
theorem JR:∀ps:List Str,Bk (ps.map .str)=ps.map PyData.str
 | []=>rfl
 | p::r=>by
  show PyData.str p::Bk _=_;rw [JR r];rfl
theorem JV(ps:List Str):BF (.tup (ps.map .str))=tupleText (ps.map reprText):=by
 show (PyData.tuple _).shown=_;rw [JR,jx,PyData.shownAll_strs]
theorem Yu(b:Bool):cs ((if b=true then ",)" else ")" : String):Str)=if b=true then [44,41] else [41]:=by
 cases b
 ·decide +kernel
 ·decide +kernel
theorem KP(ts:List Str):cs (tupleText ts)=40::(cs (Str.join ", " ts)++(if (ts.length==1)=true then [44,41] else [41])):=by
 unfold tupleText;rw [Cs,Cs,Yu];rfl
theorem Uv(b:Bool):Yf (if b=true then [44,41] else [41]):=by
 cases b
 ·exact .inl rfl
 ·exact .inr rfl
theorem OI{ps qs:List Str}(h1:∀p∈ps,D9 p)(h2:∀q∈qs,D9 q)(h:BF (.tup (ps.map .str))=BF (.tup (qs.map .str))):ps=qs:=by
 rw [JV,JV] at h;have h:=congrArg cs h;rw [KP,KP,Go,Go] at h;have h:=(eQ h).2;cases ps with
 | nil =>
  cases qs with
  | nil=>rfl
  | cons q qs =>
   rw [CO q qs _ h2] at h;have h:[41]=39::_:=h;simp at h
 | cons p ps =>
  cases qs with
  | nil =>
   rw [CO p ps _ h1] at h;have h:39::_=[41]:=h;simp at h
  | cons q qs =>
   rw [CO q qs _ h2,CO p ps _ h1] at h;obtain⟨e1,e2⟩:=UM (Bg (h1 p Op)) (Bg (h2 q Op)) (eQ h).2;rw [KQ e1,QY (λz a=>h1 z (Re _ a)) (λz a=>h2 z (Re _ a)) (Uv _) (Uv _) e2]
theorem VH(n:Nat):cs ((toString (n:Int):String):Str)=(Nat.toDigits 10 n).map Char.toNat:=by
 rw [Str.ofString_eq_toList];show (toString _).toList.map _=_
 have:toString (n:Int)=Nat.repr n:=rfl
 simp_all
theorem VL{a b:Char}(h:a.toNat=b.toNat):a=b:=Char.ext (UInt32.toNat_inj.mp h)
theorem ON:∀{a b:List Char},a.map Char.toNat=b.map Char.toNat->a=b
 | [],[],_=>rfl
 | [],_::_,h=>by cases h
 | _::_,[],h=>by cases h
 | x::a,y::b,h=>by
  have h:=eQ h;rw [VL h.1,ON h.2]
theorem SY{i j:Int}(hi:0<=i)(hj:0<=j)(h:cs ((toString i:String):Str)=cs ((toString j:String):Str)):i=j:=by
 obtain⟨n,rfl⟩:=jV hi;obtain⟨m,rfl⟩:=jV hj;rw [VH,VH] at h
 have:=congrArg (λl=>Nat.ofDigitChars 10 l 0) (ON h)
 simp_all
theorem Ro(t:BP):BF (Aa t)=tupleText [reprText t.a,reprText t.b,((toString t.len:String):Str)]:=by
 show (PyData.tuple [.str _,.str _,.int _]).shown=_;simp [jx,PyData.shownAll]
theorem QG{t:BP}(ha:D9 t.a)(c:D9 t.b):cs (BF (Aa t))=40::39::(cs t.a++39::44::32::39::(cs t.b++39::44::32::(cs ((toString t.len:String):Str)++[41]))):=by
 rw [Ro,KP];show 40::(cs (reprText _ ++ ", "++(reprText _ ++ ", "++toString _))++[41])=_;rw [Cs,Cs,Cs,Cs,JD ha,JD c,VG];simp
theorem Rj{s t:BP}(h1:D9 s.a)(h2:D9 s.b)(h3:D9 t.a)(h4:D9 t.b)(h5:0<=s.len)(h6:0<=t.len)(h:BF (Aa s)=BF (Aa t)):s=t:=by
 have h:=congrArg cs h;rw [QG h1 h2,QG h3 h4] at h;obtain⟨e1,e2⟩:=UM (Bg h1) (Bg h3) (eQ (eQ h).2).2;obtain⟨e3,e4⟩:=UM (Bg h2) (Bg h4) (eQ (eQ (eQ e2).2).2).2;have e5:=SY h5 h6 (List.append_cancel_right (eQ (eQ e4).2).2);obtain⟨a,b,l⟩:=s;obtain⟨a',b',l'⟩:=t;have e1:=KQ e1;have e3:=KQ e3
 grind
def E8(t:BP):List Key:=[.inr t.a,.inr t.b,.inl t.len]
def Sk(t:BP):List Key:=[.inr t.a,.inr t.b]
def O2(ts:List BP):Prop:=ts.Pairwise λs t=>Cg (E8 t) (E8 s)=false
def NX(N:Net)(d:D):Prop:=∃ts:List BP,d=.tup [.tup (N.ps.map .str),.tup (ts.map Aa)]/\(∀t∈ts,t∈N.ts)/\ts.Pairwise Bw
noncomputable def thinB(N:Net)(d:D):Bool:=@decide (NX N d) (gv _)
theorem thinB_iff{N:Net}{d:D}:thinB N d=true↔NX N d:=by
 unfold thinB
 grind
theorem Oi{N:Net}{d:D}{b:Bool}(h:b=true↔NX N d):b=thinB N d:=by
 rw [e_,thinB_iff];exact h
def ZS(N:Net)(d:D):Prop:=∃s∈N.ts,d=Aa s
noncomputable def JQ(N:Net)(d:D):Bool:=@decide (ZS N d) (gv _)
theorem tofB_iff{N:Net}{d:D}:JQ N d=true↔ZS N d:=by
 unfold JQ
 grind
theorem XQ{a:Str}{x:D}(h:GA (.str a) x=true):x=.str a:=by
 cases x with
 | str b =>
  have h:(a==b)=true:=h
  grind
 | _=>cases h
theorem aK{a:Str}{x:D}(h:GA x (.str a)=true):x=.str a:=by
 cases x with
 | str b =>
  have h:(b==a)=true:=h
  grind
 | _=>cases h
theorem ID:∀{xs:List D} {ps:List Str},iz (Bk xs) (Bk (ps.map .str))=true->xs=ps.map .str
 | [],[],_=>rfl
 | [],_::_,h=>by cases h
 | _::_,[],h=>by cases h
 | x::xs,p::ps,h=>by
  have h:(eW _ _&&iz _ _)=true:=h;rw [cq] at h;rw [aK h.1,ID h.2];rfl
theorem eqvAll_refl:∀ps:List Str,iz (Bk (ps.map .str)) (Bk (ps.map .str))=true
 | []=>rfl
 | p::ps=>by
  show ((p==p)&&iz _ _)=true;rw [beq_self_eq_true,eqvAll_refl ps];rfl
theorem eqD_strs{p:D}{ps:List Str}:GA p (.tup (ps.map .str))=true↔p=.tup (ps.map .str):=by
 constructor
 ·intro h
  cases p with
  | tup xs=>rw [ID h]
  | _=>cases h
 ·rintro rfl
  exact eqvAll_refl ps
theorem Sj{s:BP}{d:D}(h:GA (Aa s) d=true):∃z,d=.tup [.str s.a,.str s.b,z]/\∀i,z=.int i->i=s.len:=by
 cases d with
 | tup xs =>
  match xs,h with
  | [x,y,z],h =>
   have h:(eW (toPy (.str s.a)) (toPy x)&&(eW (toPy (.str s.b)) (toPy y)&&(eW (.int s.len) (toPy z)&&true)))=true:=h;rw [Bool.and_true,cq,cq] at h;refine⟨z,by rw [XQ (a:=s.a) (x:=x) h.1,XQ (a:=s.b) (x:=y) h.2.1],λi e=>?_⟩;subst e;have h3:(s.len==i)=true:=h.2.2
   grind
  | [],h=>cases h
  | [x],h=>exact absurd h (by show ¬((eW (toPy (.str s.a)) (toPy x)&&false)=true); simp)
  | [x,y],h=>exact absurd h (by show ¬((eW (toPy (.str s.a)) (toPy x)&&(eW (toPy (.str s.b)) (toPy y)&&false))=true); simp)
  | x::y::z::u::r,h=>exact absurd h (by show ¬((eW (toPy (.str s.a)) (toPy x)&&(eW (toPy (.str s.b)) (toPy y)&&(eW (.int s.len) (toPy z)&&false)))=true); simp)
 | _=>cases h
theorem JE{f:BP->D}{k:BP->List Key}(b:∀s t,He (f s) (f t)=some (Cg (k s) (k t))):∀{ts:List BP},Kh (ts.map f)=true↔ts.Pairwise λs t=>Cg (k s) (k t)=true
 | []=>⟨λ_=>.nil,λ_=>rfl⟩
 | [t]=>⟨λ_=>gu _ _,λ_=>rfl⟩
 | s::t::r=>by
  show ((He _ _==some _)&&Kh ((t::r).map f))=true↔_;rw [cq,JE b (ts:=t::r),b,dm (a:=s)];constructor
  ·rintro ⟨h1,h2⟩
   have h1:=cv (eq_of_beq h1);refine⟨λu hu=>?_,h2⟩
   rcases T0.mp hu with rfl | hu
   ·exact h1
   ·exact DN _ _ _ h1 ((dm.mp h2).1 u hu)
  simp_all
theorem P8(s t:BP):He (Aa s) (Aa t)=some (Cg (E8 s) (E8 t)):=by
 show (if (true&&(true&&(true&&true)))=true then some (GY (E8 s) (E8 t)) else none)=_;rw [if_pos (show (true&&(true&&(true&&true)))=true from rfl),Iy _ _ rfl]
theorem V6(s t:BP):He (FY (Aa s)) (FY (Aa t))=some (Cg (Sk s) (Sk t)):=by
 show (if (true&&(true&&true))=true then some (GY (Sk s) (Sk t)) else none)=_;rw [if_pos (show (true&&(true&&true))=true from rfl),Iy _ _ rfl]
theorem ekey_iff{s t:BP}:Cg (Sk s) (Sk t)=true↔Bw s t:=by
 show (if fH _=.inr _ then (if fH _=.inr _ then false else decide (cs _<cs _)) else decide (cs _<cs _))=true↔(cs _<cs _\/(s.a=t.a/\cs _<cs _))
 by_cases h1:s.a=t.a
 ·rw [if_pos (by rw [h1])]
  by_cases h2:s.b=t.b
  ·simp_all
  ·rw [if_neg (λe=>h2 (fT e)),decide_eq_true_eq,h1]
   constructor
   ·intro h; simp_all
   grind
 simp_all
theorem K_(s:BP):¬Bw s s:=by
 rintro (h | ⟨_,h⟩) <;> exact DD _ h
theorem QZ{s t:BP}(h:Bw s t):Cg (E8 s) (E8 t)=true:=by
 show (if fH _=.inr _ then (if fH _=.inr _ then (if jF _=.inl _ then false else decide _) else decide (cs _<cs _)) else decide (cs _<cs _))=true
 rcases h with h | ⟨h,h'⟩
 ·rw [if_neg (λe=>DD s.a (by simp_all)),decide_eq_true h]
 ·rw [if_pos (by rw [h]),if_neg (λe=>DD s.b (by grind)),decide_eq_true h']
theorem LQ:∀{ts:List BP},ts.Pairwise Bw->∀s∈ts,∀t∈ts,s.a=t.a->s.b=t.b->s=t
 | [],_,s,c,_,_,_,_=>by cases c
 | x::ts,h,s,c,t,ht,e1,e2=>by
  have h:=dm.mp h
  rcases T0.mp c with es | c
  ·rcases T0.mp ht with et | ht
   ·rw [es,et]
   ·rcases h.1 t ht with h | ⟨_,h⟩
    ·grind
    grind
  ·rcases T0.mp ht with et | ht
   ·rcases h.1 s c with h | ⟨_,h⟩
    ·rw [← et,e1] at h; exact absurd h (DD _)
    grind
   ·exact LQ h.2 s c t ht e1 e2
theorem WH{N:Net}(ok:N.Ok){s t:BP}(c:s∈N.ts)(ht:t∈N.ts)(h:Cg (E8 s) (E8 t)=true):Bw s t:=by
 have h:(if fH _=.inr _ then (if fH _=.inr _ then (if jF _=.inl _ then false else decide _) else decide _) else decide _)=true:=h
 by_cases h1:s.a=t.a
 ·rw [if_pos (by rw [h1])] at h
  by_cases h2:s.b=t.b
  ·rw [if_pos (by rw [h2]),if_pos (by rw [LQ ok.trise s c t ht h1 h2])] at h
   cases h
  ·rw [if_neg (λe=>h2 (fT e)),decide_eq_true_eq] at h
   exact .inr ⟨h1,h⟩
 ·rw [if_neg (λe=>h1 (fT e)),decide_eq_true_eq] at h
  exact .inl h
theorem CD{ts:List BP}(h:ts.Pairwise Bw):ts.Nodup:=h.imp λ{s t} h e=>by rw [e] at h; exact K_ _ h
theorem sub_len{l m:List BP}(a:l.Nodup)(hm:m.Nodup)(h:∀t∈l,t∈m):l.length<=m.length:=by
 have:l.Perm (m.filter λt=>decide (t∈l)):=(i4 a (hm.filter _)).mpr λt=>by
  simp_all
 rw [this.length_eq];exact eM _ _
theorem PV{N:Net}(ok:N.Ok){ts:List BP}(h:∀t∈ts,t∈N.ts)(hp:ts.Pairwise Bw):Net.Ok ⟨N.ps,ts⟩:=⟨ok.names,ok.rise,λt ht=>ok.tin t (h t ht),hp⟩
theorem HL{P:BP->Prop}:∀{xs:List D},(∀d∈xs,∃s,P s/\d=Aa s)->∃ts:List BP,xs=ts.map Aa/\∀t∈ts,P t
 | [],_=>⟨[],rfl,λt h=>by cases h⟩
 | d::xs,h=>by
  obtain⟨s,a,rfl⟩:=h d Op;obtain⟨ts,rfl,ht⟩:=HL λe he=>h e (Re _ he);refine⟨s::ts,rfl,λt z=>?_⟩
  grind
theorem Nh{N:Net}{xs:List D}(h:xs.all (JQ N)=true):∃ts:List BP,xs=ts.map Aa/\∀t∈ts,t∈N.ts :=
 HL λd hd=>by
  obtain⟨s,a,e⟩:=tofB_iff.mp (d9.mp h d hd);exact⟨s,a,e⟩
theorem Rk{N:Net}(ok:N.Ok)(p:D)(xs:List D):(GA p (.tup (N.ps.map .str))&&(xs.all (JQ N)&&Kh xs))=thinB N (.tup [p,.tup xs]):=by
 refine Oi ⟨λh=>?_,λh=>?_⟩
 ·rw [cq,cq] at h
  obtain⟨ts,rfl,a⟩:=Nh h.2.1;refine⟨ts,by rw [eqD_strs.mp h.1],a,?_⟩
  have:=(JE P8).mp h.2.2
  exact this.imp_of_mem λ{s t} b ht z=>WH ok (a s b) (a t ht) z
 ·obtain⟨ts,e,a,hp⟩:=h
  cases e;rw [cq,cq];refine⟨eqD_strs.mpr rfl,d9.mpr λd hd=>?_,(JE P8).mpr (hp.imp λ{s t} z=>QZ z)⟩;obtain⟨t,ht,rfl⟩:=Rs.mp hd;exact tofB_iff.mpr ⟨t,a t ht,rfl⟩
theorem Ng{N:Net}{d:D}(h:∀p xs,d≠.tup [p,.tup xs]):thinB N d=false:=by
 rw [d7];intro z;obtain⟨ts,e,_⟩:=thinB_iff.mp z;exact h _ _ e
theorem Ub{d:D}(h:P1 d=true):∃(ps:List Str) (ts:List BP),d=.tup [.tup (ps.map .str),.tup (ts.map Aa)]/\(∀p∈ps,D9 p)/\ps.length<=24/\ts.length<=60/\(∀t∈ts,D9 t.a/\D9 t.b/\1<=t.len/\t.len<=1000000)/\ts.Pairwise Bw:=by
 cases h2:tupleOfB 2 d with
 | false=>rw [Z4 h2] at h; cases h
 | true =>
  obtain⟨p,t,rfl⟩:=Xr h2;have h':(Iu p&&PN p t)=true:=h;rw [cq] at h';cases p with
  | tup xs =>
   have h1:(decide (xs.length<=24)&&(xs.all CC&&Kh xs))=true:=h'.1;rw [cq,cq,decide_eq_true_eq] at h1;obtain⟨ps,rfl,c⟩:=OJ h1.2.1;have h3:Ww (strsOf (ps.map .str)) t=true:=h'.2;rw [B9] at h3;cases t with
   | tup ys =>
    have h3:(decide (ys.length<=60)&&(ys.all IT&&(ys.all (EA ps)&&Kh (ys.map FY))))=true:=h3;rw [cq,cq,cq,decide_eq_true_eq] at h3
    obtain⟨ts,rfl,e⟩:=HL (P:=λt=>D9 t.a/\D9 t.b/\1<=t.len/\t.len<=1000000) (xs:=ys) λd hd=>by
     obtain⟨x,y,l,rfl,g,hy,_,l1,l2⟩:=MC (d9.mp h3.2.1 d hd);exact⟨⟨x,y,l⟩,⟨g,hy,l1,l2⟩,rfl⟩
    refine⟨ps,ts,rfl,c,by have:=h1.1; rw [Go] at this; exact this,by have:=h3.1; rw [Go] at this; exact this,e,?_⟩;have h4:=h3.2.2.2;rw [fA] at h4;exact((JE (f:=FY∘Aa) V6).mp h4).imp λ{s t} z=>ekey_iff.mp z
   | _=>cases h3
  | _=>cases h'.1
theorem Te{N:Net}(ok:N.Ok){ps:List Str}{ts:List BP}(c:∀p∈ps,D9 p)(f:∀t∈ts,D9 t.a/\D9 t.b/\1<=t.len/\t.len<=1000000)(hp:ts.Pairwise Bw) :
  ((BF (.tup (ps.map .str))==BF (.tup (N.ps.map .str)))&&(ts.map Aa).all λd=>(N.ts.map Aa).any λe=>BF e==BF d)=thinB N (.tup [.tup (ps.map .str),.tup (ts.map Aa)]):=by
 refine Oi ⟨λh=>?_,λh=>?_⟩
 ·rw [cq] at h
  have e:=OI c ok.names (eq_of_beq h.1);subst e;refine⟨ts,rfl,λt ht=>?_,hp⟩
  have:=d9.mp h.2 (Aa t) (Rs.mpr ⟨t,ht,rfl⟩)
  obtain⟨e,he,z⟩:=em.mp this;obtain⟨s,i,rfl⟩:=Rs.mp he;obtain⟨m1,m2,_,m3,_⟩:=ok.tin s i;obtain⟨k1,k2,k3,_⟩:=f t ht;rw [← Rj (ok.names _ m1) (ok.names _ m2) k1 k2 (by omega) (by omega) (eq_of_beq z)];exact i
 ·obtain⟨us,e,g,_⟩:=h
  have e1:ps.map D.str=N.ps.map D.str:=by injection e with e; injection e with e; injection e
  have e2:ts.map Aa=us.map Aa:=by injection e with e; injection e with _ e; injection e with e; injection e
  rw [cq,e1,beq_self_eq_true];refine⟨rfl,d9.mpr λd hd=>?_⟩;rw [e2] at hd;obtain⟨u,hu,rfl⟩:=Rs.mp hd;exact em.mpr ⟨Aa u,Rs.mpr ⟨u,g u hu,rfl⟩,beq_self_eq_true _⟩
theorem Td{N:Net}{d:D}(ok:N.Ok)(l1:N.ps.length<=24)(l2:N.ts.length<=60)(h:NX N d):P1 d=true:=by
 obtain⟨ts,rfl,a,hp⟩:=h;exact Ud (PV ok a hp) l1 (cx (sub_len (CD hp) (CD ok.trise) a) l2)
end Nt
namespace L2
open PySem.W
end L2
namespace Dp
open L2
end Dp
namespace Nt
open L2 Dp
def look(ts:List BP)(x y:Str):Option Int:=((Ex ts x).find? λz=>decide (z.1=y)).map (·.2)
def FS(ts:List BP):Str->List Str->Int->Option Int
 | _,[],s=>some s
 | x,y::r,s=>match look ts x y with
  | some l=>FS ts y r (s+l)
  | none=>none
def MO:Option Int->D
 | some i=>.int i
 | none=>.non
def Cq:D->Bool
 | .str _=>true
 | _=>false
def Uj(N:Net):List Str->D
 | x::r=>if x∈N.ps then MO (FS N.ts x r 0) else .non
 | []=>.non
def Mr(N:Net):D->D
 | .tup xs=>if xs.all Cq then Uj N (strsOf xs) else .non
 | _=>.non
def K9(d:D):Prop:=fine (10 ^ 30) d/\szD d<=160000/\Cr d<=50
abbrev LG:W2:=λss n P=>∃(N:Net) (d:D),ss=[.sh (enc N),.sh d]/\N.Ok/\N.ps.length<=26/\N.ts.length<=60/\K9 d/\P (Mr N d) n
def O3:Aj:=(Ac (BG (CG (Be (AR (Eh "tuple" (AB 1)))) (AR (AU (D_ false) (B8 Ce (AF (AB 1) AT)) (wC (D.int 0))))) (Au (wC D.non)) Av)
 (Ac (BG (Be (AR (B8 Oh (AF (BR [none] (BI (AB 1)) (Af 0) CW (Eh "str" (AB 0))) AT)))) (Au (wC D.non)) Av)
 (Ac (Az 2 (AZ QQ (AE (AI (AB 0)) AY)))
 (Ac (BG (AR (AU (M8 true) (AU A8 (AB 1) (wC (D.int 0))) (AB 2))) (Au (wC D.non)) Av)
 (Ac (Az 3 (wC (D.int 0)))
 (Ac (E6 (VX (AF (AB 1) (AF (F5 CJ (AB 1) (BK (wC (D.int 1))) A6) AT))) (E9 2 (Ay (Af 4) (Ay (Af 5) Cj))) (Ac (BG (AR (AU (M8 true) (AB 5) (AU EW (AB 2) (AB 4)))) (Au (wC D.non)) Av)
 (TU 3 (AU EW (AU EW (AB 2) (AB 4)) (AB 5)))))
 (Au (AB 3))))))))
def QL:Aj:=(Ac (BG (CG (Be (AR (Eh "tuple" (AB 1)))) (CG (AR (AU (D_ false) (B8 Ce (AF (AB 1) AT)) (wC (D.int 0)))) (AR (AU (DV false) (wC (D.bl false)) (BR [none] (BI (AB 1)) (Af 0) CW (Eh "str" (AB 0))))))) (Au (wC D.non)) Av)
 (Ac (BG (AR (AU (DV false) (wC (D.bl false)) (BR [some 0,none] (BI (AB 1)) (Af 1) CW (AU (DV false) (AB 1) (AU A8 (AB 0) (wC (D.int 0))))))) (Au (wC D.non)) Av)
 (Ac (Az 2 (wC (D.int 0)))
 (Ac (E6 (TC (AF (wC (D.int 1)) (AF (B8 Ce (AF (AB 1) AT)) AT))) (Af 3) (Ac (ZR (F5 CJ (AB 1) (BK (AU IC (AB 3) (wC (D.int 1)))) (BK (AU Aq (AB 3) (wC (D.int 1))))) (E9 2 (Ay (Af 4) (Ay (Af 5) Cj))))
 (Ac (Az 6 (BR [some 4,some 5,none] (BI (AU A8 (AB 0) (wC (D.int 1)))) (Af 2) (Gk (AR (AU (D_ true) (AB 0) (AB 1))) (Gk (AR (AU (DV false) (AB 0) (F5 CJ (AB 2) A6 (BK (wC (D.int 2)))))) (AR (AU (DV false) (AB 1) (F5 CJ (AB 2) A6 (BK (wC (D.int 2)))))))) (AU A8 (AB 2) (wC (D.int 2)))))
 (Ac (BG (AR (AU Uy (AB 6) (DA AT))) (Au (wC D.non)) Av)
 (Az 2 (AU Aq (AB 2) (AU A8 (AB 6) (wC (D.int 0)))))))))
 (Au (AB 2))))))
theorem Gp:∀{xs:List D},xs.all Cq=true->∃ys:List Str,xs=ys.map .str
 | [],_=>⟨[],rfl⟩
 | d::r,h=>by
  rw [fB,cq] at h;obtain⟨ys,e⟩:=Gp h.2;cases d with
  | str x=>exact⟨x::ys,by grind⟩
  | _=>cases h.1
theorem MA{g:Str->D}{x:Str}:∀{ps:List Str},Bv (ps.map .inr) (ps.map g) (.inr x)=if x∈ps then some (g x) else none
 | []=>rfl
 | p::ps=>by
  show (if fH p=.inr x then some _ else Bv _ _ _)=_;rw [MA]
  grind
theorem MB{y:Str}:∀{xs:List (Str×Int)},Bv (xs.map λx=>.inr x.1) (xs.map λx=>.int x.2) (.inr y)=((xs.find? λz=>decide (z.1=y)).map (·.2)).map .int
 | []=>rfl
 | p::ps=>by
  show (if fH _=.inr y then some _ else Bv _ _ _)=_;rw [MB]
  by_cases e:p.1=y
  ·simp_all
  simp_all
theorem Jw{N:Net}(ok:N.Ok){x y:Str}{l:Int}(h:look N.ts x y=some l):y∈N.ps/\1<=l/\l<=1000000:=by
 unfold look at h;cases c:(Ex N.ts x).find? λz=>decide (z.1=y) with
 | none=>grind
 | some z =>
  have h1:=List.find?_some c;obtain⟨t,ht,a⟩:=f6.mp (jE c);obtain⟨m1,m2,_,m3,m4⟩:=ok.tin t ht
  rcases cu.mp a with a | a
  ·simp_all
  simp_all
section
variable {ss:List Slot}{n:Nat}{Pd:D->Nat->Prop}
theorem OQ{N:Net}(ok:N.Ok){D2:E2}{b0 b1:Slot}:∀(r:List Str) (x:Str) (s:Int) (s4 s5:Slot),x∈N.ps->(match FS N.ts x r s with | some l=>∀s4 s5,D2.nx n [b0,b1,.sh (HM N),.sh (.int l),s4,s5] | none=>D2.rt .non n) ->
  Bm (E9 2 (Ay (Af 4) (Ay (Af 5) Cj))) (Ac (BG (AR (AU (M8 true) (AB 5) (AU EW (AB 2) (AB 4)))) (Au (wC D.non)) Av) (TU 3 (AU EW (AU EW (AB 2) (AB 4)) (AB 5)))) D2 (Gi ((x::r).map .str) (r.map .str)) n [b0,b1,.sh (HM N),.sh (.int s),s4,s5]
 | [],x,s,s4,s5,a,h=>h s4 s5
 | y::r,x,s,s4,s5,a,h=>by
  have v1:Bv (N.ps.map .inr) (N.ps.map (Z6 N.ts)) (.inr x)=some (Z6 N.ts x):=by rw [MA,if_pos a]
  refine⟨rfl,rfl,?_⟩;refine⟨_,_,.inr x,_,rfl,rfl,v1,_,_,.inr y,rfl,rfl,?_⟩;rw [MB];unfold FS at h;have b:((Ex N.ts x).find? λz=>decide (z.1=y)).map (·.2)=look N.ts x y:=rfl;rw [b];cases c:look N.ts x y with
  | none=>rw [c] at h; exact Bi h
  | some l =>
   rw [c] at h;have v2:Bv ((Ex N.ts x).map λz=>.inr z.1) ((Ex N.ts x).map λz=>.int z.2) (.inr y)=some (.int l):=by rw [MB,b,c]; rfl
   refine BQ ⟨s,rfl,_,_,.inr x,_,rfl,rfl,v1,_,_,.inr y,_,rfl,rfl,v2,l,rfl,?_⟩;exact OQ ok r y (s+l) _ _ (Jw ok c).1 h
theorem MP(h0:LG ss n Pd):O3 (EE Pd) n (ss++Uf 4 .no):=by
 obtain⟨N,d,rfl,ok,lp,lt,fd,p⟩:=h0;cases d with
 | tup xs =>
  have b:=BU xs;have f:B7 xs<=160000:=fd.2.1;have p':Pd (if xs.all Cq then Uj N (strsOf xs) else .non) n:=p;refine⟨_,_,rfl,rfl,?_⟩;show if ((xs.length:Int)==0)=true then _ else _
  cases xs with
  | nil=>exact Bi p'
  | cons x0 r0 =>
   rw [show (((x0::r0).length:Int)==0)=false from beq_eq_false_iff_ne.mpr (by rw [ZB]; omega)];refine BQ ⟨by omega,?_⟩;refine BO (λd=>.bl (Cq d)) (λρ=>∃s,ρ=[s]) _ _ _ _ ?_ ⟨_,rfl⟩ ?_
   ·rintro d hd ρ m nx ⟨s,rfl⟩ a
    have:=a [.sh d] ⟨_,rfl⟩
    cases d <;> exact this
   rw [cy];refine⟨_,_,rfl,HB Cq (x0::r0),?_⟩;rw [VO];show if (!(x0::r0).all Cq)=true then _ else _
   cases ha:(x0::r0).all Cq with
   | false=>rw [ha] at p'; exact Bi p'
   | true =>
    rw [ha] at p';obtain⟨ys,e⟩:=Gp ha;rw [e,B9] at p';cases ys with
    | nil=>cases e
    | cons y r =>
     rw [dG] at e;cases e;refine BQ ⟨N,rfl,ok,by omega,by omega,?_⟩;refine⟨.str y,AO (j:=0) rfl,_,_,.inr y,rfl,rfl,?_⟩;show if (!(Bv (N.ps.map .inr) (N.ps.map (Z6 N.ts)) (.inr y)).isSome)=true then _ else _
     rw [MA];have p2:Pd (if y∈N.ps then MO (FS N.ts y r 0) else .non) n:=p'
     by_cases hy:y∈N.ps
     ·rw [if_pos hy] at p2 ⊢
      refine BQ ⟨_,_,(y::r).map .str,r.map .str,rfl,rfl,by show some (Dp.cutD (D.str y::r.map .str) (some 1) none)=_; rw [Ys]; rfl,?_⟩;refine OQ ok r y 0 _ _ hy ?_;cases c:FS N.ts y r 0 with
      | none=>rw [c] at p2; exact p2
      | some l=>rw [c] at p2; exact λ_ _=>p2
     ·rw [if_neg hy] at p2 ⊢
      exact Bi p2
 | _=>exact p
theorem Cw{b:BW}{tt:HI}{te:DW}{P:List D->Nat->Prop}(c:D->Bool)(g:D->D)(I:List Slot->Prop):∀(ds e:List D) (n:Nat) (ρ:List Slot),
  (∀d∈ds,∀(ρ:List Slot) (n:Nat) (nx:D->Nat->List Slot->Prop) (sk:Nat->List Slot->Prop),I ρ->(∀zY,I zY->c d=true->nx (g d) n zY)->(∀zY,I zY->c d=false->sk n zY)->b d ρ λzU=>tt n zU λc n1=>if c=true then te n1 zU λy n2=>nx y n2 zU else sk n1 zU)->I ρ->P (e++(ds.filter c).map g) n->Ci b tt te P ds e n ρ
 | [],e,n,ρ,_,_,h=>by rw [List.filter_nil,jP,dS] at h; exact h
 | d::ds,e,n,ρ,ht,hρ,h=>ht d Op ρ n _ _ hρ
  (λzY a f=>Cw c g I ds _ n _ (λd hd=>ht d (Re _ hd)) a (by simp_all))
  (λzY a f=>Cw c g I ds _ n _ (λd hd=>ht d (Re _ hd)) a (by grind))
def Ez(x y:Str):D->Bool
 | .tup [.str a,.str b,_]=>!(x==y)&&((a==x||b==x)&&(a==y||b==y))
 | _=>false
def Ul:D->D
 | .tup [_,_,l]=>l
 | d=>d
theorem J0{x y:Str}:∀{ts:List BP},(∀t∈ts,t.a≠t.b)->(((ts.map Aa).filter (Ez x y)).map Ul).head?=(look ts x y).map .int
 | [],_=>rfl
 | t::ts,h=>by
  have ih:=J0 (x:=x) (y:=y) (ts:=ts) λs d=>h s (Re _ d);have c:=h t Op;have ej:Ez x y (Aa t)=(!(x==y)&&((t.a==x||t.b==x)&&(t.a==y||t.b==y))):=rfl;have el:look (t::ts) x y=((((if t.a=x then [(t.b,t.len)] else [])++(if t.b=x then [(t.a,t.len)] else []))++Ex ts x).find? λz=>decide (z.1=y)).map (·.2):=rfl;rw [dG,el]
  by_cases ax:t.a=x
  ·have bx:t.b≠x:=λe=>c (ax.trans e.symm)
   rw [if_pos ax,if_neg bx,dS]
   by_cases e:t.b=y
   ·have xy:x≠y:=λz=>bx (e.trans z.symm)
    have:Ez x y (Aa t)=true:=by rw [ej,beq_eq_false_iff_ne.mpr xy,beq_iff_eq.mpr ax,beq_iff_eq.mpr e]; simp
    rw [jW this,f7,jd (by exact decide_eq_true e)];rfl
   ·have:Ez x y (Aa t)=false:=by
     rw [ej]
     by_cases xy:x=y
     ·rw [beq_iff_eq.mpr xy]; rfl
     ·rw [beq_eq_false_iff_ne.mpr e,beq_eq_false_iff_ne.mpr (show t.a≠y from λz=>xy (ax.symm.trans z))]; simp
    rw [gw (by rw [this]; decide),f7,je (by rw [decide_eq_true_eq]; exact e)];exact ih
  ·rw [if_neg ax,cy]
   by_cases bx:t.b=x
   ·rw [if_pos bx]
    by_cases e:t.a=y
    ·have xy:x≠y:=λz=>ax (e.trans z.symm)
     have:Ez x y (Aa t)=true:=by rw [ej,beq_eq_false_iff_ne.mpr xy,beq_iff_eq.mpr bx,beq_iff_eq.mpr e]; simp
     rw [jW this,f7,jd (by exact decide_eq_true e)];rfl
    ·have:Ez x y (Aa t)=false:=by
      rw [ej]
      by_cases xy:x=y
      ·rw [beq_iff_eq.mpr xy]; rfl
      ·rw [beq_eq_false_iff_ne.mpr e,beq_eq_false_iff_ne.mpr (show t.b≠y from λz=>xy (bx.symm.trans z))]; simp
     rw [gw (by rw [this]; decide),f7,je (by rw [decide_eq_true_eq]; exact e)];exact ih
   ·have:Ez x y (Aa t)=false:=by rw [ej,beq_eq_false_iff_ne.mpr ax,beq_eq_false_iff_ne.mpr bx]; simp
    rw [if_neg bx,cy,gw (by rw [this]; decide)];exact ih
theorem OU{N:Net}(ok:N.Ok):∀{r:List Str} {x:Str} {s:Int},(∃y∈r,y∉N.ps)->FS N.ts x r s=none
 | [],x,s,h=>by grind
 | z::r,x,s,h=>by
  unfold FS;cases c:look _ x z with
  | none=>rfl
  | some l =>
   have a:=(Jw ok c).1;obtain⟨y,hy,hn⟩:=h
   rcases T0.mp hy with rfl | hy
   ·grind
   ·exact OU ok ⟨y,hy,hn⟩
theorem Wf{ys:List Str}{k:Nat}{x y:Str}{r:List Str}(h:ys.drop k=x::y::r):Dp.cutD (ys.map D.str) (some (1+(k:Int) - 1)) (some (1+(k:Int)+1))=[.str x,.str y]:=by
 have a:=congrArg fo h;rw [fu,ZB,ZB] at a;unfold Dp.cutD;rw [show (1+k - 1)=(k:Int) by omega,show (1+k+1)=((k+2:Nat):Int) by omega,HT.sIx_nat,HT.sIx_nat,Go,gj (by omega),gj (by omega),← List.map_drop,h,show k+2 - k=2 by omega];rfl
theorem Ph(h0:LG ss n Pd):QL (EE Pd) n (ss++Uf 5 .no):=by
 obtain⟨N,d,rfl,ok,lp,lt,fd,p⟩:=h0;cases d with
 | tup xs =>
  have K:=BU xs;have g:B7 xs<=160000:=fd.2.1;have p':Pd (if xs.all Cq then Uj N (strsOf xs) else .non) n:=p;refine⟨_,_,rfl,rfl,?_⟩;show if ((xs.length:Int)==0)=true then _ else _
  cases xs with
  | nil=>exact Bi p'
  | cons x0 r0 =>
   rw [show (((x0::r0).length:Int)==0)=false from beq_eq_false_iff_ne.mpr (by rw [ZB]; omega)];refine BQ ⟨by omega,?_⟩;refine BO (λd=>.bl (Cq d)) (λρ=>∃s,ρ=[s]) _ _ _ _ ?_ ⟨_,rfl⟩ ?_
   ·rintro d hd ρ m nx ⟨s,rfl⟩ f
    have:=f [.sh d] ⟨_,rfl⟩
    cases d <;> exact this
   rw [cy];refine ES ?_;show if (!(x0::r0).all Cq)=true then _ else _
   cases ha:(x0::r0).all Cq with
   | false=>rw [ha] at p'; exact Bi p'
   | true =>
    rw [ha] at p';obtain⟨ys,e⟩:=Gp ha;rw [e,B9] at p';cases ys with
    | nil=>cases e
    | cons y r =>
     rw [dG] at e;cases e;have p2:Pd (if y∈N.ps then MO (FS N.ts y r 0) else .non) n:=p'
     have k:∀z∈y::r,D7 (.str z):=λz g=>by
      refine CI (B:=10 ^ 30) (by decide) ?_ (TM _);exact fines_iff.mp fd.1 _ (Rs.mpr ⟨z,g,rfl⟩:D.str z∈(y::r).map D.str)
     refine BQ ⟨by omega,?_⟩;refine BO (λd=>.bl (match d with | .str z=>N.ps.any (·==z) | _=>false)) (λρ=>∃s,ρ=[.sh (enc N),s]) _ _ _ _ ?_ ⟨_,rfl⟩ ?_
     ·rintro d hd ρ m nx ⟨s,rfl⟩ f
      obtain⟨z,g,rfl⟩:=Rs.mp (show d∈(y::r).map D.str from hd);refine⟨_,AO (j:=0) rfl,k z g,ER ok.names,_,rfl,?_⟩
      have:=f [.sh (enc N),.sh (.str z)] ⟨_,rfl⟩
      have e1:((N.ps.map D.str).any λu=>GA u (.str z))=N.ps.any (·==z):=by rw [jQ]; rfl
      have this:nx (.bl (N.ps.any (·==z))) m [.sh (enc N),.sh (.str z)]:=this;rw [← e1] at this;exact this
     rw [cy];refine ES (l:=(y::r).map D.str) (p:=fun(d:D)=>match d with | .str z=>N.ps.any (·==z) | _=>false) ?_;show if (!((y::r).map D.str).all _)=true then _ else _
     rw [jO]
     have v:((y::r).all ((fun(d:D)=>match d with | .str z=>N.ps.any (·==z) | _=>false)∘D.str))=true↔∀z∈y::r,z∈N.ps:=by
      rw [d9];refine forall_congr' λz=>forall_congr' λg=>?_;show (N.ps.any (·==z))=true↔_;rw [em];exact⟨fun⟨u,hu,e⟩=>by rw [← eq_of_beq e]; exact hu,λh=>⟨z,h,beq_self_eq_true _⟩⟩
     by_cases q:∀z∈y::r,z∈N.ps
     ·rw [v.mpr q]
      rw [if_pos (q y Op)] at p2;refine BQ ⟨_,_,rfl,rfl,_,_,rfl,⟨by decide,by decide,by omega,by omega⟩,?_⟩;have F:∀t∈N.ts,t.a≠t.b:=λt ht e=>by have:=(ok.tin t ht).2.2.1; rw [e] at this; exact gN _ this
      have w:(((y::r).map D.str).length:Int) - 1=(r.length:Int):=by rw [Go,ZB]; omega
      refine EO (all:=Cu 1 ((((y::r).map D.str).length:Int) - 1).toNat) (λpre m ρ=>∃(x:Str) (rest:List Str) (s:Int) (s3 s4 s5 s6:Slot),(y::r).drop pre.length=x::rest/\m=n/\Pd (MO (FS N.ts x rest s)) n/\ρ=[.sh (enc N),.sh (.tup ((y::r).map .str)),.sh (.int s),s3,s4,s5,s6]) ?_ ?_ _ [] _ _ rfl ⟨y,r,0,_,_,_,_,rfl,rfl,p2,rfl⟩
      ·rintro m ρ ⟨x,rest,s,s3,s4,s5,s6,hd,rfl,hp,rfl⟩
       rw [By,w] at hd
       have:=congrArg fo hd
       rw [fu,ZB,ZB] at this;have hr:rest=[]:=f_.mp (by omega);rw [hr] at hp;exact hp
      ·rintro pre d post m ρ nx C ⟨x,rest,s,s3,s4,s5,s6,hd,rfl,hp,rfl⟩ f
       obtain⟨rfl,H⟩:=Iq C;rw [w] at H;have A:=congrArg fo hd;rw [fu,ZB,ZB] at A;cases rest with
       | nil=>rw [eE] at A; omega
       | cons z rest =>
        rw [XV,dB] at f;have hd2:(y::r).drop (pre.length+1)=z::rest:=by rw [← List.drop_drop,hd]; rfl
        have I:x∈y::r:=gS (i:=pre.length) (by rw [hd]; exact Op);have g:z∈y::r:=gS (i:=pre.length) (by rw [hd]; exact Re _ Op);have ec:=Wf hd;show E9 2 (Ay (Af 4) (Ay (Af 5) Cj)) (D.tup (Dp.cutD ((y::r).map D.str) (some (1+(pre.length:Int) - 1)) (some (1+(pre.length:Int)+1)))) _ _;rw [ec];refine⟨rfl,rfl,?_⟩;refine⟨.tup (N.ts.map Aa),AO (j:=1) rfl,by rw [Go]; omega,?_⟩;refine Cw (Ez x z) Ul (λρ=>∃s,ρ=[.sh (.str x),.sh (.str z),s]) _ _ _ _ ?_ ⟨_,rfl⟩ ?_
        ·rintro d hd ρ m nx sk ⟨s,rfl⟩ h1 h2
         obtain⟨t,ht,rfl⟩:=Rs.mp hd;obtain⟨m1,m2,_⟩:=ok.tin t ht
         have l2:D7 (.tup [.str t.a,.str t.b]):=ER (ps:=[t.a,t.b]) λp hp=>by
          simp only [T0,c6,or_false] at hp
          rcases hp with rfl | rfl
          ·exact ok.names _ m1
          ·exact ok.names _ m2
         have k1:=h1 [.sh (.str x),.sh (.str z),.sh (Aa t)] ⟨_,rfl⟩;have k2:=h2 [.sh (.str x),.sh (.str z),.sh (Aa t)] ⟨_,rfl⟩;have ej:Ez x z (Aa t)=(!(x==z)&&((t.a==x||t.b==x)&&(t.a==z||t.b==z))):=rfl;have a1:∀x:Str,([D.str t.a,D.str t.b].any λu=>GA u (.str x))=(t.a==x||t.b==x):=λx=>by show (t.a==x||(t.b==x||false))=_; rw [Bool.or_false]
         rw [ej] at k1 k2;show if (!(x==z))=true then _ else _
         cases e1:(x==z) with
         | true=>rw [e1] at k2; exact BQ (BQ (k2 rfl))
         | false =>
          refine Bi ⟨k x I,l2,_,rfl,?_⟩;show if ([D.str t.a,D.str t.b].any λu=>GA u (.str x))=true then _ else _
          rw [a1];cases e2:(t.a==x||t.b==x) with
          | false=>rw [e1,e2] at k2; exact BQ (BQ (k2 rfl))
          | true =>
           refine Bi ⟨k z g,l2,_,rfl,?_⟩;show if ([D.str t.a,D.str t.b].any λu=>GA u (.str z))=true then _ else _
           rw [a1];cases e3:(t.a==z||t.b==z) with
           | false=>rw [e1,e2,e3] at k2; exact BQ (k2 rfl)
           | true=>rw [e1,e2,e3] at k1; exact Bi ⟨_,AO (j:=2) rfl,k1 rfl⟩
        ·rw [cy]
         have hj:=J0 (x:=x) (y:=z) F
         have o:∀d∈((N.ts.map Aa).filter (Ez x z)).map Ul,fine 1000000 d:=λd hd=>by
          obtain⟨e,he,rfl⟩:=Rs.mp hd;obtain⟨t,ht,rfl⟩:=Rs.mp (eU.mp he).1;obtain⟨_,_,_,m3,m4⟩:=ok.tin t ht;show t.len.natAbs<=1000000;omega
         have E:∀d∈((N.ts.map Aa).filter (Ez x z)).map Ul,Cr d<=0:=λd hd=>by
          obtain⟨e,he,rfl⟩:=Rs.mp hd;obtain⟨t,ht,rfl⟩:=Rs.mp (eU.mp he).1;exact On _
         generalize ((N.ts.map Aa).filter (Ez x z)).map Ul=L at hj o E;have J:C9 L<=0:=dps_le.mpr E;refine⟨z0,CI (B:=1000000) (by decide) (fines_iff.mpr o) (by show C9 L+1<=100; omega),⟨rfl,rfl,by decide⟩,?_⟩;unfold FS at hp;cases L with
         | nil =>
          have G:look N.ts x z=none:=by
           cases c:look N.ts x z with
           | none=>rfl
           | some l=>rw [c] at hj; cases hj
          rw [G] at hp;exact Bi hp
         | cons a L =>
          cases c:look N.ts x z with
          | none=>rw [c] at hj; cases hj
          | some l =>
           rw [c] at hj hp;cases hj;exact BQ ⟨_,AO (j:=0) rfl,f _ _ ⟨z,rest,s+l,_,_,_,_,hd2,rfl,hp,rfl⟩⟩
     ·rw [d7.mpr (λh=>q (v.mp h))]
      have:(if y∈N.ps then MO (FS N.ts y r 0) else .non)=D.non:=by
       by_cases hy:y∈N.ps
       ·rw [if_pos hy,OU ok]
        ·rfl
        ·refine gi λG=>q λz g=>?_
         rcases T0.mp g with rfl | g
         ·exact hy
         ·exact gi λhn=>G ⟨z,g,hn⟩
       ·rw [if_neg hy]
      rw [this] at p2;exact Bi p2
 | _=>exact p
end
def Wi:W2:=λss n P=>∃(N:Net) (d:D),ss=[.sh (enc N),.sh d]/\N.Ok/\D7 d/\P (.bl (JQ N d)) n
def IS:W2:=λss n P=>∃(N:Net) (d:D),ss=[.sh (enc N),.sh d]/\N.Ok/\N.ps.length<=24/\N.ts.length<=60/\fine (10 ^ 41) d/\szD d<=200000/\Cr d<=90/\P (.bl (thinB N d)) n
def PF:W2:=λss n P=>∃(N:Net) (ts:List BP),ss=[.sh (enc N),.sh (enc ⟨N.ps,ts⟩)]/\N.Ok/\N.ts.length<64/\(∀t∈ts,t∈N.ts)/\∀a:List BP,a.Perm (N.ts.filter λt=>decide (t∉ts))->Fc a->P (.lst (a.map Aa)) n
def II:Aj:=(Au (HJ (AU (DV false) (AB 1) (AU A8 (AB 0) (wC (D.int 1)))) (AZ NS (AE (AI (AU A8 (AB 1) (wC (D.int 2)))) AY))))
def Lz:Aj:=(Ac (BG (CG (Be (AR (AZ Fq (AE (AI (wC (D.int 2))) (AE (AI (AB 1)) AY))))) (Be (AR (Eh "tuple" (AU A8 (AB 1) (wC (D.int 1))))))) (Au (wC (D.bl false))) Av)
 (Au (HJ (AU Uy (AU A8 (AB 1) (wC (D.int 0))) (AU A8 (AB 0) (wC (D.int 0)))) (HJ (B8 Oh (AF (BR [some 0,none] (BI (AU A8 (AB 1) (wC (D.int 1)))) (Af 1) CW (AZ Wi (AE (AI (AB 0)) (AE (AI (AB 1)) AY)))) AT)) (AZ DB (AE (AI (AU A8 (AB 1) (wC (D.int 1)))) AY))))))
def Ka:Aj:=(Au (AZ Dg (AE (AI (BR [some 1,none] (BI (AU A8 (AB 0) (wC (D.int 1)))) (Af 1) (AR (AU (DV true) (AB 1) (AU A8 (AB 0) (wC (D.int 1))))) (AB 1))) AY)))
def E3:Aj:=(Au (BR [none,none,none] (BI (B8 Hk (AF (BR [none] (BI (AB 0)) (Af 0) CW (BN (AF (AU A8 (AB 0) (wC (D.int 2))) (AF (AU A8 (AB 0) (wC (D.int 0))) (AF (AU A8 (AB 0) (wC (D.int 1))) AT))))) AT))) (E9 3 (Ay (Af 0) (Ay (Af 1) (Ay (Af 2) Cj)))) CW (BN (AF (AB 1) (AF (AB 2) (AF (AB 0) AT))))))
theorem Vw{ts:List BP}(h:HH D8 (ts.map Aa)):O2 ts:=by
 unfold HH at h;rw [fK] at h;exact h.imp λ{s t} z=>z _ _ rfl rfl
theorem EQ{N:Net}(ok:N.Ok){ts:List BP}(h:∀t∈ts,t∈N.ts):D7 (.tup (ts.map Aa))/\D7 (.lst (ts.map Aa)):=by
 have it:∀d∈ts.map Aa,item d:=λd hd=>by
  obtain⟨t,ht,rfl⟩:=Rs.mp hd;exact J1 ok _ (Rs.mpr ⟨t,h t ht,rfl⟩)
 have d1:C9 (ts.map Aa)<=1:=dps_le.mpr λd hd=>(it d hd).2.2;exact⟨CI (B:=1000001) (by decide) (fines_iff.mpr λd hd=>(it d hd).1) (by show C9 (ts.map Aa)+1<=100; omega),SQ it⟩
theorem Iz{N:Net}(ok:N.Ok){t:BP}(h:t∈N.ts):D7 (Aa t):=by
 have it:=J1 ok _ (Rs.mpr ⟨t,h,rfl⟩);exact CI (B:=1000001) (by decide) it.1 (by have:=it.2.2; omega)
theorem NP{ts:List BP}{t:BP}:((ts.map Aa).any λy=>GA y (Aa t))=decide (t∈ts):=by
 rw [e_,em,decide_eq_true_eq];constructor
 ·rintro ⟨d,hd,e⟩
  obtain⟨s,a,rfl⟩:=Rs.mp hd;rw [← (Q8 s t).mp e];exact a
 ·intro h
  exact⟨Aa t,Rs.mpr ⟨t,h,rfl⟩,(Q8 t t).mpr rfl⟩
theorem Qx:∀xs:List D,xs.length<=B7 xs
 | []=>TM _
 | x::xs=>by
  have:=Qx xs
  show xs.length+1<=szD x+1+B7 xs;omega
theorem OT:∀ts:List BP,200*ts.length<=B7 (ts.map Aa)
 | []=>TM _
 | t::ts=>by
  have:=OT ts
  show 200*(ts.length+1)<=t.a.length+1+(t.b.length+1+(200+1+0))+1+B7 (ts.map Aa);omega
theorem Hu{t:BP}(h1:D9 t.a)(h2:D9 t.b):∀c∈cs (BF (Aa t)),c<1114112:=by
 rw [QG h1 h2];intro c d;simp only [T0,cu,c6,or_false] at d;have a1:c∈cs t.a->c<1114112:=λh=>by have:=Bg h1 c h; omega
 have a2:c∈cs t.b->c<1114112:=λh=>by have:=Bg h2 c h; omega
 have a3:=Li t.len c
 rcases d with h | h | h | h | h | h | h | h | h | h | h | h | h
 all_goals first | exact a1 h | exact a2 h | exact a3 h | omega
section
variable {ss:List Slot}{n:Nat}{Pd:D->Nat->Prop}
theorem MT(h:Wi ss n Pd):II (EE Pd) n (ss++Uf 0 .no):=by
 obtain⟨N,d,rfl,ok,g,p⟩:=h;unfold II;refine⟨_,AO (j:=1) rfl,g,(EQ ok λ_ h=>h).1,_,rfl,?_⟩;cases c:(N.ts.map Aa).any λy=>GA y d with
 | false =>
  have:JQ N d=false:=by
   rw [d7];intro z;obtain⟨s,f,rfl⟩:=tofB_iff.mp z;rw [NP,decide_eq_true f] at c;cases c
  rw [this] at p;exact p
 | true =>
  obtain⟨e,he,q⟩:=em.mp c;obtain⟨s,f,rfl⟩:=Rs.mp he;obtain⟨z,rfl,k⟩:=Sj q;refine⟨_,AO (j:=2) rfl,[z],rfl,rfl,?_⟩
  have:JQ N (.tup [.str s.a,.str s.b,z])=S6 z:=by
   rw [e_,tofB_iff];constructor
   ·rintro ⟨t,_,e⟩
    have e:z=.int t.len:=by injection e with e; injection e with _ e; injection e with _ e; injection e
    rw [e];rfl
   ·intro hw
    cases z with
    | int i=>exact⟨s,f,by rw [k i rfl]; rfl⟩
    | _=>cases hw
  rw [this] at p;exact p
theorem Pj(h:IS ss n Pd):Lz (EE Pd) n (ss++Uf 0 .no):=by
 obtain⟨N,d,rfl,ok,l1,l2,hf,f,hd,p⟩:=h;unfold Lz;refine⟨2,d,rfl,?_⟩;cases h2:tupleOfB 2 d with
 | false =>
  rw [Ng (λp xs e=>by rw [e] at h2; cases h2)] at p;exact Bi p
 | true =>
  obtain⟨x,y,rfl⟩:=Xr h2;refine BQ ⟨_,AO (j:=1) rfl,?_⟩;cases y with
  | tup xs =>
   rw [← Rk ok] at p;have f1:fine (10 ^ 41) x:=hf.1;have f2:EU (10 ^ 41) xs:=hf.2.1;have g:max (Cr x) (max (C9 xs+1) 0)+1<=90:=hd;have i:szD x+1+(B7 xs+1+0)<=200000:=f;refine BQ ⟨_,AO (j:=0) rfl,_,AO (j:=0) rfl,CI (B:=10 ^ 41) (by decide) f1 (by omega),ER ok.names,?_⟩;refine Kf (b1:=GA x (.tup (N.ps.map .str))) (b2:=xs.all (JQ N)&&Kh xs) (P:=Pd) (n:=n) (k:=λP=>_) (λ_ hp=>?_) p;refine⟨_,AO (j:=1) rfl,by show xs.length<=10000000; have:=Qx xs; omega,?_⟩;refine BO (λd=>.bl (JQ N d)) (λρ=>∃s,ρ=[.sh (enc N),s]) _ _ _ _ ?_ ⟨_,rfl⟩ ?_
   ·rintro e he ρ m nx ⟨s,rfl⟩ c
    have dx:C9 xs<=88:=by omega
    exact⟨N,e,rfl,ok,CI (B:=10 ^ 41) (by decide) (fines_iff.mp f2 e he) (by have:=dps_le.mp dx e he; omega),c _ ⟨_,rfl⟩⟩
   rw [cy];refine⟨_,_,rfl,HB (JQ N) xs,?_⟩;rw [VO];refine Kf (b1:=xs.all (JQ N)) (b2:=Kh xs) (P:=Pd) (n:=n) (k:=λP=>_) (λha hp=>?_) hp;obtain⟨ts,rfl,l⟩:=Nh ha
   have:=OT ts
   refine⟨_,AO (j:=1) rfl,_,_,rfl,rfl,by rw [Go]; omega,λa ha b o=>?_,hp⟩;obtain⟨s,_,rfl⟩:=Rs.mp ha;obtain⟨t,_,rfl⟩:=Rs.mp o;exact⟨_,P8 s t⟩
  | _ =>
   rw [Ng (λp xs e=>by cases e)] at p;exact Bi p
theorem Ny(h:PF ss n Pd):Ka (EF Pd) n (ss++Uf 0 .no):=by
 obtain⟨N,ts,rfl,ok,a,b,p⟩:=h;unfold Ka;refine⟨_,AO (j:=1) rfl,by show (N.ts.map Aa).length<=10000000; rw [Go]; omega,?_⟩;refine Cw (λd=>!((ts.map Aa).any λy=>GA y d)) id (λρ=>∃s,ρ=[.sh (enc ⟨N.ps,ts⟩),s]) _ _ _ _ ?_ ⟨_,rfl⟩ ?_
 ·rintro d hd ρ m nx sk ⟨s,rfl⟩ h1 h2
  obtain⟨t,ht,rfl⟩:=Rs.mp hd;refine⟨_,AO (j:=1) rfl,Iz ok ht,(EQ ok b).1,_,rfl,?_⟩;exact B3 (λc=>h1 _ ⟨_,rfl⟩ c) λc=>h2 _ ⟨_,rfl⟩ (d7.mpr c)
 ·rw [cy,g_]
  have e:(N.ts.map Aa).filter (λd=>!((ts.map Aa).any λy=>GA y d))=(N.ts.filter λt=>decide (t∉ts)).map Aa:=by
   rw [List.filter_map]
   congr 1
   refine List.filter_congr λt _=>?_;show (!((ts.map Aa).any λy=>GA y (Aa t)))=decide (t∉ts);rw [NP,decide_not]
  rw [e];exact⟨_,_,rfl,rfl,fD (eM _ _) a,p⟩
theorem IX(h:Dg ss n Pd):E3 (EF Pd) n (ss++Uf 0 .no):=by
 obtain⟨d,ts,rfl,hd,o,p⟩:=h;have r:=PySem.sizeLine_eq;unfold E3
 have go:(ts.map Aa).length<=10000000/\Ci (Af 0) CW (BN (AF (AU A8 (AB 0) (wC (D.int 2))) (AF (AU A8 (AB 0) (wC (D.int 0))) (AF (AU A8 (AB 0) (wC (D.int 1))) AT)))) (λe n2=>Hk [.lst e] λz=>BI (wC z) n2 [] λds n1=>ds.length<=10000000/\Ci (E9 3 (Ay (Af 0) (Ay (Af 1) (Ay (Af 2) Cj)))) CW (BN (AF (AB 1) (AF (AB 2) (AF (AB 0) AT)))) (λe n2=>Pd (.lst e) n2) ds [] n1 [.no,.no,.no]) (ts.map Aa) [] n [.no]:=by
  refine⟨by rw [Go]; omega,?_⟩;refine BO N3 (λρ=>∃s,ρ=[s]) _ _ _ _ ?_ ⟨_,rfl⟩ ?_
  ·rintro d hd ρ m nx ⟨s,rfl⟩ i
   obtain⟨t,ht,rfl⟩:=Rs.mp hd;exact⟨_,AO (j:=2) rfl,_,AO (j:=0) rfl,_,AO (j:=1) rfl,z3,i _ ⟨_,rfl⟩⟩
  rw [cy,fA];refine⟨_,_,rfl,rfl,by rw [Go]; exact o,⟨λx q=>?_,λx q y hy ka kb ea eb=>?_⟩,λv hp ho=>?_⟩
  ·obtain⟨t,_,rfl⟩:=Rs.mp q
   exact⟨Jd t,rfl,gR _ _⟩
  ·obtain⟨t,_,rfl⟩:=Rs.mp q
   obtain⟨u,_,rfl⟩:=Rs.mp hy;cases (show some (Jd t)=some ka from ea);cases (show some (Jd u)=some kb from eb);rfl
  ·obtain⟨k,h1,rfl⟩:=TZ (f:=N3∘Aa) (g:=λd=>match d with | .tup [.int l,.str a,.str b]=>⟨a,b,l⟩ | _=>⟨"","",0⟩) (λ_=>rfl) hp
   have ho:Fc k:=by
    unfold HH at ho;rw [fK] at ho;exact ho.imp λ{s t} z=>z _ _ rfl rfl
   refine⟨by show (k.map (N3∘Aa)).length<=10000000; rw [Go,h1.length_eq]; omega,?_⟩;refine BO (λd=>match d with | .tup [l,a,b]=>.tup [a,b,l] | d=>d) (λρ=>∃a b c,ρ=[a,b,c]) _ _ _ _ ?_ ⟨_,_,_,rfl⟩ ?_
   ·rintro d hd ρ m nx ⟨a,b,c,rfl⟩ i
    obtain⟨t,ht,rfl⟩:=Rs.mp hd;exact⟨rfl,rfl,z3,i _ ⟨_,_,_,rfl⟩⟩
   ·rw [cy,fA]
    exact p k h1 ho
 cases d with
 | lst ys=>cases hd; exact go
 | tup ys=>cases hd; exact go
 | _=>cases hd
end
theorem Tc{s t:BP}(h:E8 s=E8 t):s=t:=by
 obtain⟨a,b,l⟩:=s;obtain⟨a',b',l'⟩:=t;unfold E8 at h;simp only [List.cons.injEq,Sum.inl.injEq,Sum.inr.injEq,and_true] at h;obtain⟨rfl,rfl,rfl⟩:=h;rfl
theorem PP{l1 l2:List BP}(p:l1.Perm l2)(h1:O2 l1)(h2:O2 l2):l1=l2:=MX (λa b x y=>Tc (DP _ _ y x)) p h1 h2
theorem QJ{ts:List BP}(h:ts.Pairwise Bw):O2 ts:=h.imp λ{s t} z=>by
 cases e:Cg (E8 t) (E8 s) with
 | false=>rfl
 | true =>
  have:=DN _ _ _ (QZ z) e
  rw [FQ] at this;cases this
def NT:W2:=λss n P=>ss=[.fd]/\3<=n/\∀(t b:Int) (n':Nat),1<=b->b<=t->t<=1000000->n - 3<=n'->P (.tup [.int t,.int b]) n'
def JF:W2:=λss n P=>∃l t b x:Int,ss=[.sh (.int l),.sh (.tup [.int t,.int b]),.sh (.int x)]/\1<=b/\b<=1000000/\1<=t/\t<=1000000/\P (.bl (decide (l*b<=x*t))) n
def O4:Aj:=(Au (AU Sg (AU C8 (AB 0) (AU A8 (AB 1) (wC (D.int 1)))) (AU C8 (AB 2) (AU A8 (AB 1) (wC (D.int 0))))))
def NN:Aj:=(Ac (Az 1 (DA (AF (BN (AF (wC (D.int 2)) (AF (wC (D.int 1)) AT))) (AF (BN (AF (wC (D.int 3)) (AF (wC (D.int 2)) AT))) (AF (BN (AF (wC (D.int 1)) (AF (wC (D.int 1)) AT))) (AF (BN (AF (wC (D.int 3)) (AF (wC (D.int 1)) AT))) (AF (BN (AF (wC (D.int 5)) (AF (wC (D.int 2)) AT))) (AF (BN (AF (wC (D.int 1000)) (AF (wC (D.int 999)) AT))) (AF (BN (AF (AU (PK Ik λi j=>D.int (i ^ j.toNat)) (wC (D.int 10)) (wC (D.int 6))) (AF (wC (D.int 1)) AT))) (AF (BN (AF (AU (PK Ik λi j=>D.int (i ^ j.toNat)) (wC (D.int 10)) (wC (D.int 6))) (AF (AU (PK Ik λi j=>D.int (i ^ j.toNat)) (wC (D.int 10)) (wC (D.int 6))) AT))) AT))))))))))
 (Ac (Az 2 (AZ BA (AE (Aw 0) (AE (AI (wC (D.int 12))) AY))))
 (Ac (BG (AR (AU EV (AB 2) (wC (D.int 8)))) (Au (AU A8 (AB 1) (AB 2))) Av)
 (Ac (Az 3 (AU Aq (wC (D.int 1)) (AZ BA (AE (Aw 0) (AE (AI (wC (D.int 20))) AY)))))
 (Au (BN (AF (AU Aq (AB 3) (AZ BA (AE (Aw 0) (AE (AI (AU C8 (wC (D.int 3)) (AB 3))) AY)))) (AF (AB 3) AT))))))))
section
variable {ss:List Slot}{n:Nat}{Pd:D->Nat->Prop}
theorem cA{i j:Int}(h0:0<=j)(h1:j<=1000000):CMul i j:=.inr ⟨by omega,by omega⟩
theorem cV{i j:Int}(h0:0<=i)(h1:i<=1000000):CMul i j:=.inl ⟨by omega,by omega⟩
theorem MS(h:JF ss n Pd):O4 (EE Pd) n (ss++Uf 0 .no):=by
 obtain⟨l,t,b,x,rfl,b0,b1,t0,t1,p⟩:=h;exact⟨_,AO rfl,cA (by omega) b1,_,AO rfl,cA (by omega) t1,p⟩
theorem MR(h:NT ss n Pd):NN (EE Pd) n (ss++Uf 3 .no):=by
 obtain⟨rfl,hn,p⟩:=h;refine⟨z2,z2,z2,z2,z2,z2,bj,z2,bj,bj,z2,by decide,?_⟩;refine⟨12,rfl,by decide,by decide,by omega,λr r0 r1=>?_⟩;refine B3 (λc=>?_) λc=>?_
 ·have c:r<8:=of_decide_eq_true c
  obtain⟨z,a,t,b,rfl,b0,bt,t1⟩:=Fh (p:=λd=>∃t b:Int,d=.tup [.int t,.int b]/\1<=b/\b<=t/\t<=1000000) (xs:=[.tup [.int 2,.int 1],.tup [.int 3,.int 2],.tup [.int 1,.int 1],.tup [.int 3,.int 1],.tup [.int 5,.int 2],.tup [.int 1000,.int 999],.tup [.int ((10:Int) ^ (6:Int).toNat),.int 1],.tup [.int ((10:Int) ^ (6:Int).toNat),.int ((10:Int) ^ (6:Int).toNat)]]) (λd hd=>by
   simp only [T0,or_false] at hd
   grind) r0 (by omega)
  exact⟨_,a,p t b _ b0 bt t1 (by omega)⟩
 ·refine⟨20,rfl,by decide,by decide,by omega,λs s0 s1=>?_⟩
  refine⟨cV (by decide) (by decide),_,rfl,by omega,by omega,by omega,λu u0 u1=>⟨z2,p _ _ _ (by omega) (by omega) (by omega) (by omega)⟩⟩
end
def Ed(N:Net)(x y:Str)(l:Int):Prop:=(y,l)∈Ex N.ts x
inductive Wk (N:Net) (s:Str):Str->Int->Prop
 | nil:Wk N s s 0
 | snoc {x y:Str} {d l:Int}:Wk N s x d->Ed N x y l->Wk N s y (d+l)
def Least(N:Net)(s x:Str)(d:Int):Prop:=Wk N s x d/\∀d',Wk N s x d'->d<=d'
theorem Ed.pos{N:Net}(ok:N.Ok){x y:Str}{l:Int}(h:Ed N x y l):1<=l/\l<=1000000:=by
 obtain⟨_,h1,h2,_⟩:=P2 ok h
 simp_all
theorem Ed.ins{N:Net}(ok:N.Ok){x y:Str}{l:Int}(h:Ed N x y l):y∈N.ps:=(P2 ok h).1
theorem Wk.pos{N:Net}(ok:N.Ok){s x:Str}{d:Int}(h:Wk N s x d):0<=d:=by
 induction h with
 | nil=>omega
 | snoc _ he ih=>have:=he.pos ok; omega
theorem Least.unique{N:Net}{s x:Str}{d d':Int}(h:Least N s x d)(h':Least N s x d'):d=d':=by
 have:=h.2 d' h'.1
 have:=h'.2 d h.1
 omega
theorem NG{N:Net}{s:Str}{F:Str->Option Int}(h0:∃d,F s=some d/\d<=0)(hw:∀x d,F x=some d->Wk N s x d)(a:∀x d y l,F x=some d->Ed N x y l->∃d',F y=some d'/\d'<=d+l) :
  (∀x d,F x=some d->Least N s x d)/\∀x d,Wk N s x d->F x≠none:=by
 have main:∀x d,Wk N s x d->∃d',F x=some d'/\d'<=d:=by
  intro x d h
  induction h with
  | nil=>exact h0
  | snoc _ he ih =>
   grind
 refine⟨λx d e=>⟨hw x d e,λd' h=>?_⟩,λx d h e=>?_⟩
 ·obtain⟨d1,e1,h1⟩:=main x d' h
  simp_all
 ·obtain⟨d1,e1,_⟩:=main x d h
  grind
theorem WJ{N:Net}{t:BP}(ht:t∈N.ts):Ed N t.a t.b t.len/\Ed N t.b t.a t.len:=by
 constructor
 ·exact f6.mpr ⟨t,ht,eo _ (by simp_all)⟩
 ·exact f6.mpr ⟨t,ht,dH _ (by simp_all)⟩
theorem Ed.tie{N:Net}(ok:N.Ok){x y:Str}{l:Int}(h:Ed N x y l):∃t∈N.ts,t.len=l/\((t.a=x/\t.b=y)\/(t.b=x/\t.a=y)):=by
 obtain⟨_,_,_,t,ht,e,h⟩:=P2 ok h;exact⟨t,ht,e,h⟩
structure Dmap (ks:List Key) (ds:List D) (enc:α->D) (F:Str->Option α):Prop where
 len:ks.length=ds.length
 at_:∀x:Str,Bv ks ds (.inr x)=(F x).map enc
 dom:∀k∈ks,∃x:Str,k=.inr x
 nd:ks.Nodup
theorem Dmap.mem{α:Type}{ks:List Key}{ds:List D}{enc:α->D}{F:Str->Option α}(h:Dmap ks ds enc F)(x:Str):(.inr x∈ks)↔F x≠none:=by
 constructor
 ·intro hm e
  obtain⟨z,a⟩:=LK h.len hm;rw [h.at_,e] at a;cases a
 ·intro hn
  by_cases hm:fH x∈ks
  ·exact hm
  ·have:=LL (ds:=ds) hm
   rw [h.at_] at this
   simp_all
theorem Dmap.one{α:Type}{enc:α->D}{s:Str}{a:α}:Dmap [.inr s] [enc a] enc (λx=>if x=s then some a else none):=by
 refine⟨rfl,λx=>?_,λk b=>⟨s,Tk.mp b⟩,dM.mpr ⟨c6,e6⟩⟩;show (if fH s=.inr x then some _ else none)=(if x=s then some a else none).map _
 by_cases e:x=s
 ·simp_all
 ·rw [if_neg e,if_neg (λz=>e (fT z).symm)]; rfl
def Rp{α:Type}(F:Str->Option α)(x:Str)(a:α):Str->Option α:=λy=>if y=x then some a else F y
theorem Fv{α:Type}{F:Str->Option α}{x:Str}{a:α}:Rp F x a x=some a:=if_pos rfl
theorem Gs{α:Type}{F:Str->Option α}{x y:Str}{a:α}(h:y≠x):Rp F x a y=F y:=if_neg h
theorem Dmap.put{α:Type}{ks:List Key}{ds:List D}{enc:α->D}{F:Str->Option α}(h:Dmap ks ds enc F)(x:Str)(a:α):Dmap (Dn ks (.inr x)) (EL ks ds (.inr x) (enc a)) enc (Rp F x a):=by
 refine⟨Qi h.len,λy=>?_,λk c=>?_,?_⟩
 ·rw [TY h.len]
  unfold Rp
  by_cases e:y=x
  ·rw [if_pos e,if_pos (by rw [e])]; rfl
  ·rw [if_neg e,if_neg (λz=>e (fT z)),h.at_]
 ·unfold Dn at c
  split at c
  ·exact h.dom k c
  ·rcases cu.mp c with c | c
   ·exact h.dom k c
   simp_all
 ·unfold Dn
  split
  ·exact h.nd
  ·rename_i hn
   rw [fL];refine⟨h.nd,dM.mpr ⟨c6,e6⟩,λa ha b d e=>hn (hasK_iff.mpr ?_)⟩
   grind
theorem Dmap.le{α:Type}{ks:List Key}{ds:List D}{enc:α->D}{F:Str->Option α}(h:Dmap ks ds enc F){ps:List Str}(hp:∀x,F x≠none->x∈ps):ks.length<=ps.length:=by
 have:∀(ks:List Key) (ps:List Str),ks.Nodup->(∀k∈ks,∃x:Str,k=.inr x/\x∈ps)->ks.length<=ps.length:=by
  intro ks
  induction ks with
  | nil=>simp_all
  | cons k ks ih =>
   intro ps hn hm;obtain⟨x,rfl,b⟩:=hm k Op;have hn:=dM.mp hn
   have h1:=ih (ps.erase x) hn.2 λj hj=>by
    obtain⟨y,rfl,hy⟩:=hm j (Re _ hj)
    grind
   grind
 refine this ks ps h.nd λk a=>?_;obtain⟨x,rfl⟩:=h.dom k a;exact⟨x,rfl,hp x ((h.mem x).mp a)⟩
abbrev bA:=Str->Option (Int×Option Str)
structure Dj (N:Net) (s:Str) (F:bA) (Wt:List Str):Prop where
 start:F s=some (0,none)
 ins:∀x,F x≠none->x∈N.ps
 wk:∀x d p,F x=some (d,p)->Wk N s x d
 prev:∀x d p,F x=some (d,p)->(p=none/\x=s)\/∃y dy q l,p=some y/\F y=some (dy,q)/\y∉Wt/\Ed N y x l/\d=dy+l
 wfound:∀x∈Wt,F x≠none
 nd:Wt.Nodup
 done:∀x d p y l,F x=some (d,p)->x∉Wt->Ed N x y l->∃dy q,F y=some (dy,q)/\dy<=d+l
 near:∀x d p y dy q,F x=some (d,p)->x∉Wt->F y=some (dy,q)->y∈Wt->d<=dy
structure Dm (N:Net) (s:Str) (F:bA) (Wt:List Str) (v:Str) (dv:Int) (seen:List (Str×Int)):Prop where
 start:F s=some (0,none)
 ins:∀x,F x≠none->x∈N.ps
 wk:∀x d p,F x=some (d,p)->Wk N s x d
 prev:∀x d p,F x=some (d,p)->(p=none/\x=s)\/∃y dy q l,p=some y/\F y=some (dy,q)/\y∉Wt/\Ed N y x l/\d=dy+l
 wfound:∀x∈Wt,F x≠none
 nd:Wt.Nodup
 done:∀x d p y l,F x=some (d,p)->x∉Wt->x≠v->Ed N x y l->∃dy q,F y=some (dy,q)/\dy<=d+l
 near:∀x d p y dy q,F x=some (d,p)->x∉Wt->F y=some (dy,q)->y∈Wt->d<=dy
 here:∃p,F v=some (dv,p)
 out:v∉Wt
 least:∀x d p,F x=some (d,p)->x∉Wt->d<=dv
 gone:∀y l,(y,l)∈seen->∃dy q,F y=some (dy,q)/\dy<=dv+l
structure Told (N:Net) (s:Str) (F:bA):Prop where
 start:F s=some (0,none)
 ins:∀x,F x≠none->x∈N.ps
 least:∀x d p,F x=some (d,p)->Least N s x d
 all:∀x d,Wk N s x d->F x≠none
 prev:∀x d p,F x=some (d,p)->(p=none/\x=s)\/∃y dy q l,p=some y/\F y=some (dy,q)/\Ed N y x l/\d=dy+l
abbrev Kn:=Str->Option Int
structure Bf (N:Net) (s:Str) (c:Nat) (K:Kn):Prop where
 start:∃d,K s=some d/\d<=0
 ins:∀x,K x≠none->x∈N.ps
 wk:∀x d,K x=some d->Wk N s x d
 top:∀x d,K x=some d->d<=1000000*(c:Int)
def big:Nat:=27000001
def wt(K:Kn)(x:Str):Nat:=match K x with
 | some d=>d.toNat
 | none=>big
def Sz(ps:List Str)(K:Kn):Nat:=(ps.map (wt K)).sum
theorem Tl{f g:Str->Nat}:∀{ps:List Str},(∀x∈ps,f x<=g x)->(ps.map f).sum<=(ps.map g).sum
 | [],_=>On _
 | x::ps,h=>by
  have h2:=Tl λy hy=>h y (Re _ hy)
  grind
theorem Tj{f g:Str->Nat}:∀{ps:List Str},(∀x∈ps,f x<=g x)->(∃x∈ps,f x<g x)->(ps.map f).sum<(ps.map g).sum
 | [],_,⟨x,a,_⟩=>by cases a
 | x::ps,h,⟨y,hy,b⟩=>by
  have h1:=h x Op;rw [dG,dG,jm,jm]
  rcases T0.mp hy with rfl | hy
  ·have h2:=Tl λy hy=>h y (Re _ hy)
   omega
  ·have h2:=Tj (λy hy=>h y (Re _ hy)) ⟨y,hy,b⟩
   omega
theorem Bf.put {N : Net} (ok : N.Ok) {s : Str} {c c' : Nat} {K : Kn} (h : Bf N s c K) (i : c' ≤ 26) (g : c ≤ c') {x y : Str} {d l : Int} (b : K x = some d) (he : Ed N x y l) (hn : K y = none → c' = c + 1) (a : ∀ d', K y = some d' → d + l < d') : Bf N s c' (Rp K y (d + l)) ∧ Sz N.ps (Rp K y (d + l)) < Sz N.ps K := by
  have hp := he.pos ok;have hd := (h.wk x d b).pos ok;have hw : Wk N s y (d + l) := .snoc (h.wk x d b) he;have td := h.top x d b
  have ht : d + l ≤ 1000000 * (c' : Int) := by
    cases e : K y with
    | none => rw [hn e]; have : ((c + 1 : Nat) : Int) = (c : Int) + 1 := by omega
              rw [this, Int.mul_add]; omega
    | some d' =>
      have h1 := a d' e;have h2 := h.top y d' e;have : (1000000 : Int) * (c : Int) ≤ 1000000 * (c' : Int) := iT (by omega) (by omega);omega
  refine ⟨⟨?_, λz f => ?_, λz dz e => ?_, λz dz e => ?_⟩, Tj (λz _ => ?_) ⟨y, he.ins ok, ?_⟩⟩
  · obtain ⟨d0, e0, h0⟩ := h.start
    by_cases z : s = y
    · have := a d0 (by rw [← z]; exact e0)
      omega
    · exact ⟨d0, by rw [Gs z]; exact e0, h0⟩
  · by_cases e : z = y
    · rw [e]; exact he.ins ok
    · rw [Gs e] at f; exact h.ins z f
  · by_cases w : z = y
    · rw [w, Fv] at e; cases e; rw [w]; exact hw
    · rw [Gs w] at e; exact h.wk z dz e
  · by_cases w : z = y
    · rw [w, Fv] at e; cases e; exact ht
    · rw [Gs w] at e
      have h2 := h.top z dz e;have : (1000000 : Int) * (c : Int) ≤ 1000000 * (c' : Int) := iT (by omega) (by omega);omega
  · unfold wt
    by_cases w : z = y
    · rw [w, Fv]
      cases e : K y with
      | none => show (d + l).toNat ≤ big; unfold big; omega
      | some d' => show (d + l).toNat ≤ d'.toNat; have := a d' e; omega
    · rw [Gs w]
      exact On _
  · unfold wt
    rw [Fv];cases e : K y with
    | none => show (d + l).toNat < big; unfold big; omega
    | some d' => show (d + l).toNat < d'.toNat; have := a d' e; omega
theorem Bf.init{N:Net}{s:Str}(a:s∈N.ps):Bf N s 1 (λx=>if x=s then some 0 else none):=by
 have iff:∀x d,(if x=s then some (0:Int) else none)=some d->x=s/\d=0:=λx d e=>by
  grind
 refine⟨⟨0,if_pos rfl,Int.le_refl _⟩,λx e=>by grind,λx d e=>?_,λx d e=>?_⟩
 ·obtain⟨rfl,rfl⟩:=iff x d e
  exact .nil
 ·obtain⟨rfl,rfl⟩:=iff x d e
  decide
def JS(K:Kn)(e:Str×Str×Int):Prop:=∀d,K e.1=some d->∃d',K e.2.1=some d'/\d'<=d+e.2.2
structure LTold (N:Net) (s:Str) (K:Kn):Prop where
 ins:∀x,K x≠none->x∈N.ps
 least:∀x d,K x=some d->Least N s x d
 all:∀x d,Wk N s x d->K x≠none
 top:∀x d,K x=some d->d<=30000000
theorem Bf.told{N:Net}(ok:N.Ok){s:Str}{c:Nat}{K:Kn}(h:Bf N s c K)(f:c<=26)(ht:∀t∈N.ts,JS K (t.a,t.b,t.len)/\JS K (t.b,t.a,t.len)):LTold N s K:=by
 have cl:=NG h.start h.wk (λx d y l e he=>by
  obtain⟨t,hm,e1,h2⟩:=he.tie ok;subst e1
  rcases h2 with ⟨rfl,rfl⟩ | ⟨rfl,rfl⟩
  ·exact(ht t hm).1 d e
  ·exact(ht t hm).2 d e)
 exact⟨h.ins,cl.1,cl.2,λx d e=>by have:=h.top x d e; omega⟩
def walk(N:Net):List Str->Int->Prop
 | [],_=>False
 | [_],d=>d=0
 | x::y::r,d=>∃l e,Ed N x y l/\walk N (y::r) e/\d=l+e
def cb(N:Net)(a b:Str):Option Int->Prop
 | some d=>Least N a b d
 | none=>∀d,¬Wk N a b d
theorem LTold.far{N:Net}{s:Str}{K:Kn}(h:LTold N s K)(x:Str):cb N s x (K x):=by
 cases e:K x with
 | none=>exact λd hw=>h.all x d hw e
 | some d=>exact h.least x d e
def bS:Option Int->D
 | some y=>.int y
 | none=>.non
def okN(N:Net):Prop:=N.Ok/\N.ps.length<=25/\N.ts.length<=60
section
theorem Cd(x:Str):keyOf (.str x)=some (.inr x):=rfl
theorem Xl{N:Net}{Wt:List Str}(hn:Wt.Nodup)(h:∀x∈Wt,x∈N.ps):Wt.length<=N.ps.length:=by
 have:∀(xs ps:List Str),xs.Nodup->(∀x∈xs,x∈ps)->xs.length<=ps.length:=by
  intro xs
  induction xs with
  | nil=>grind
  | cons x xs ih =>
   intro ps hn hm;have a:=hm x Op;have hn:=dM.mp hn;have h1:=ih (ps.erase x) hn.2 λj hj=>(List.mem_erase_of_ne λe=>hn.1 (by simp_all)).mpr (hm j (Re _ hj))
   grind
 simp_all
theorem UA(ks:List Key)(k:Key):(Dn ks k).length=if J_ ks k=true then ks.length else ks.length+1:=by
 unfold Dn
 split
 ·rfl
 simp_all
theorem Dmap.has{α:Type}{ks:List Key}{ds:List D}{enc:α->D}{F:Str->Option α}(h:Dmap ks ds enc F){x:Str}:(F x=none->J_ ks (.inr x)=false)/\(F x≠none->J_ ks (.inr x)=true):=by
 constructor
 ·intro e
  cases c:J_ ks _ with
  | false=>rfl
  | true=>exact absurd e ((h.mem x).mp (hasK_iff.mp c))
 ·intro e
  exact hasK_iff.mpr ((h.mem x).mpr e)
end
structure cY (N:Net) (F:bA) (b:Str) (db:Int) (acc:List Str) (pl:Option Str):Prop where
 st:(acc=[]/\pl=some b)\/∃z r dz,acc.reverse=z::r/\F z=some (dz,pl)/\walk N acc.reverse (db - dz)/\acc.reverse.getLast?=some b
 nd:acc.Nodup
 ins:∀x∈acc,x∈N.ps
 less:∀y dy q,pl=some y->F y=some (dy,q)->∀x∈acc,∃dx qx,F x=some (dx,qx)/\dy<dx
 fnd:∀y,pl=some y->F y≠none
theorem Ms{w:List Str}{b:Str}(h:w.getLast?=some b):atI (w.map D.str) (-1)=some (.str b):=by
 obtain⟨ys,rfl⟩:=List.getLast?_eq_some_iff.mp h;rw [de];exact VN _ _
theorem WC{ks:List Key}{ds:List D}{K:Kn}(M:Dmap ks ds D.int K)(x:Str):(Bv ks ds (.inr x)).getD .non=bS (K x):=by
 rw [M.at_];cases K x <;> rfl
theorem PU{N:Net}(a:okN N):fine 1000001 (enc N)/\szD (enc N)<=48000/\Cr (enc N)<=3:=Xq (Q0 a.1) (J1 a.1) (by rw [Go]; have:=a.2.1; omega) (by rw [Go]; have:=a.2.2; omega)
def sub(N:Net)(kept:List BP):Net:=⟨N.ps,N.ts.filter λu=>decide (u∈kept)⟩
def XG(N:Net)(t b:Int)(u:BP):Prop:=∃d,Least N u.a u.b d/\d*b<=u.len*t
noncomputable def LW(N:Net)(t b:Int)(u:BP):Bool:=@decide (XG N t b u) (gv _)
theorem nearB_iff{N:Net}{t b:Int}{u:BP}:LW N t b u=true↔XG N t b u:=by
 unfold LW
 grind
noncomputable def Ey(N:Net)(t b:Int):List BP->List BP->List BP
 | kept,[]=>kept
 | kept,u::r=>if LW (sub N kept) t b u=true then Ey N t b kept r else Ey N t b (kept++[u]) r
def HF:W2:=λss n P=>∃(N:Net) (t b:Int),ss=[.sh (enc N),.sh (.tup [.int t,.int b])]/\okN N/\1<=b/\b<=1000000/\1<=t/\t<=1000000/\∀ord:List BP,ord.Perm N.ts->Fc ord->P (enc (sub N (Ey N t b [] ord))) n
def Dh:W2:=λss n P=>∃(N:Net) (s:Str) (z:D) (us:List BP),ss=[.br z,.sh (.str s)]/\IU z=some (us.map Aa)/\(∀u,u∈us↔u∈N.ts)/\okN N/\s∈N.ps/\∀(ks:List Key) (ds:List D) (K:Kn),Dmap ks ds D.int K->LTold N s K->P (.dic ks ds) n
def Fe:Aj:=(Ac (EI 2 (TN (AB 1) (wC (D.int 0))))
 (Ac (Az 3 (wC (D.bl true)))
 (Ac (L9 (AR (AB 3)) (Ac (Az 3 (wC (D.bl false)))
 (Wv 0 (E9 3 (Ay (Af 4) (Ay (Af 5) (Ay (Af 6) Cj)))) (E6 (BI (DA (AF (BN (AF (AB 4) (AF (AB 5) AT))) (AF (BN (AF (AB 5) (AF (AB 4) AT))) AT)))) (E9 2 (Ay (Af 7) (Ay (Af 8) Cj))) (BG (AR (AU (M8 false) (AB 7) (BE 2))) (Ac (Az 9 (AU Aq (AU EW (BE 2) (AB 7)) (AB 6)))
 (BG (AR (AU EV (AB 9) (QT (BE 2) (AB 8) (AU Aq (AB 9) (wC (D.int 1)))))) (Ac (NZ 2 (AB 8) (AB 9))
 (Az 3 (wC (D.bl true)))) Av)) Av)))))
 (TD 2))))
def EY:Aj:=(Ac (EI 2 (DA AT))
 (Ac (E6 (BI (AZ Dg (AE (AI (AU A8 (AB 0) (wC (D.int 1)))) AY))) (Af 3) (Ac (Az 4 (QU (AZ Dh (AE (JM (BE 2)) (AE (AI (AU A8 (AB 3) (wC (D.int 0)))) AY))) (AU A8 (AB 3) (wC (D.int 1)))))
 (BG (CG (AR (AU (G4 false) (AB 4) (wC D.non))) (AR (AU (f2 λi j=>D.bl (decide (j<i))) (AU C8 (AB 4) (AU A8 (AB 1) (wC (D.int 1)))) (AU C8 (AU A8 (AB 3) (wC (D.int 2))) (AU A8 (AB 1) (wC (D.int 0))))))) (TF 2 "list" KH (AF (AB 3) AT)) Av)))
 (Au (BN (AF (AU A8 (AB 0) (wC (D.int 0))) (AF (B8 B6 (AF (B8 Hk (AF (BE 2) AT)) AT)) AT))))))
theorem sub_mem{N:Net}{kept:List BP}{u:BP}:u∈(sub N kept).ts↔u∈N.ts/\u∈kept:=by
 show u∈N.ts.filter _↔_
 simp_all
theorem Qe{N:Net}(a:okN N)(kept:List BP):okN (sub N kept):=⟨PV a.1 (λt h=>(sub_mem.mp h).1) (a.1.trise.filter _),a.2.1,cx (eM _ _) a.2.2⟩
theorem X0{N:Net}(ok:N.Ok){kept ts:List BP}(b:∀t∈kept,t∈N.ts)(nd:kept.Nodup)(hp:ts.Perm kept)(a:O2 ts):(⟨N.ps,ts⟩:Net)=sub N kept:=by
 congr 1
 refine PP ((i4 (hp.nodup_iff.mpr nd) ((CD ok.trise).filter _)).mpr λt=>?_) a (QJ (ok.trise.filter _));rw [hp.mem_iff]
 simp_all
theorem P_{N:Net}{t b:Int}{kept r:List BP}{u:BP}:Ey N t b kept (u::r)=if LW (sub N kept) t b u=true then Ey N t b kept r else Ey N t b (kept++[u]) r:=rfl
theorem Ju{α β:Type}:∀{l:List (α×β)},(l.map (·.1)).Nodup->∀{p q:α×β},p∈l->q∈l->p.1=q.1->p=q
 | a::l,nd,p,q,hp,hq,e=>by
  rw [dG,dM] at nd
  rcases T0.mp hp with b | b <;> rcases T0.mp hq with c | c
  ·rw [b,c]
  ·grind
  ·exact absurd (Rs.mpr ⟨p,b,by rw [e,c]⟩) nd.1
  ·exact Ju nd.2 b c e
theorem V7{N:Net}(ok:N.Ok){x y:Str}{l:Int}(h:Ed N x y l):look N.ts x y=some l:=by
 unfold look;cases e:(Ex _ x).find? _ with
 | none=>exact absurd (List.find?_eq_none.mp e _ h) (by simp)
 | some q =>
  have e1:=of_decide_eq_true (List.find?_some (p:=λz=>decide _) e);rw [Ju (SH ok x) (jE e) h e1];rfl
theorem LI{N:Net}{B:Nat}(ok:N.Ok):∀{w:List Str},(∀x∈w,x∈N.ps)->EU B (w.map .str)/\B7 (w.map .str)<=9*w.length/\C9 (w.map .str)<=0
 | [],_=>⟨trivial,On _,On _⟩
 | x::r,h=>by
  obtain⟨a,b,c⟩:=LI ok λy hy=>h y (Re _ hy);have d:=ok.names x (h x Op);refine⟨⟨λch e=>by have:=d.2.2 ch e; omega,a⟩,?_,?_⟩
  ·show x.length+1+B7 _<=9*(r.length+1)
   have:=d.2.1
   omega
  assumption
section
variable {ss:List Slot}{n:Nat}{Pd:D->Nat->Prop}
theorem Je(h:Dh ss n Pd):Fe (EF Pd) n (ss++Uf 8 .no):=by
 obtain⟨N,s,zz,us,rfl,v,j,k,G,p⟩:=h;have H:=PySem.sizeLine_eq;have ok:=k.1;have I:=k.2.1;unfold Fe;refine⟨_,Cd s,?_⟩
 have step:∀(D3:E2) (x y:Str) (l:Int),Ed N x y l->∀(ks:List Key) (ds:List D) (K:Kn) (g:Bool) (s4 s5 s7 s8 s9:Slot),Dmap ks ds D.int K->Bf N s ks.length K ->
   (∀(i:List Key) (o:List D) (K':Kn) (g':Bool) (t7 t8 t9:Slot),Dmap i o D.int K'->Bf N s i.length K'->((g'=g/\K'=K/\JS K (x,y,l))\/(g'=true/\Sz N.ps K'<Sz N.ps K)) ->
    D3.nx n [.br zz,.sh (.str s),.ow (.dic i o),.sh (.bl g'),s4,s5,.sh (.int l),t7,t8,t9]) ->
   (BG (AR (AU (M8 false) (AB 7) (BE 2))) (Ac (Az 9 (AU Aq (AU EW (BE 2) (AB 7)) (AB 6)))
 (BG (AR (AU EV (AB 9) (QT (BE 2) (AB 8) (AU Aq (AB 9) (wC (D.int 1)))))) (Ac (NZ 2 (AB 8) (AB 9))
 (Az 3 (wC (D.bl true)))) Av)) Av) D3 n [.br zz,.sh (.str s),.ow (.dic ks ds),.sh (.bl g),s4,s5,.sh (.int l),.sh (.str x),.sh (.str y),s9]:=by
  intro D3 x y l he ks ds K g s4 s5 s7 s8 s9 M B hD;have kl:=M.le B.ins;refine⟨ks,ds,_,rfl,Cd x,?_⟩;show if ((Bv ks ds (.inr x)).isSome)=true then _ else _
  cases ex:K x with
  | none =>
   rw [M.at_,ex];exact BQ (hD ks ds K g _ _ _ M B (.inl ⟨rfl,rfl,λd e=>by rw [show K x=some d from e] at ex; cases ex⟩))
  | some d =>
   rw [M.at_,ex];refine Bi ⟨ks,ds,_,_,rfl,Cd x,by rw [M.at_,ex]; rfl,?_⟩;refine⟨ks,ds,rfl,_,Cd y,?_⟩
   have put:(K y=none\/∃d',K y=some d'/\d+l<d')->(Ac (NZ 2 (AB 8) (AB 9)) (Az 3 (wC (D.bl true)))) D3 n [.br zz,.sh (.str s),.ow (.dic ks ds),.sh (.bl g),s4,s5,.sh (.int l),.sh (.str x),.sh (.str y),.sh (.int (d+l))]:=λhy=>by
    refine⟨ks,ds,rfl,_,Cd y,by omega,?_⟩;have f:=UA ks (.inr y)
    have key:=B.put ok (c':=(Dn ks (.inr y)).length) (by rw [f]; split <;> omega) (by rw [f]; split <;> omega) ex he (λe=>by rw [f,if_neg (by rw [(M.has (x:=y)).1 e]; decide)]) (λd' e=>by
     rcases hy with hy | ⟨d2,hy,q⟩
     ·rw [e] at hy; cases hy
     ·rw [e] at hy; cases hy; exact q)
    exact hD _ _ _ true _ _ _ (M.put y (d+l)) key.1 (.inr ⟨rfl,key.2⟩)
   rw [M.at_];cases ey:K y with
   | none =>
    show if decide (d+l<d+l+1)=true then _ else _
    rw [decide_eq_true (by omega)];exact Bi (put (.inl ey))
   | some d' =>
    show if decide (d+l<d')=true then _ else _
    by_cases c:d+l<d'
    ·rw [decide_eq_true c]
     exact Bi (put (.inr ⟨d',ey,c⟩))
    ·rw [decide_eq_false c]
     refine BQ (hD ks ds K g _ _ _ M B (.inl ⟨rfl,rfl,λd2 e=>?_⟩));rw [show K x=some d2 from e] at ex;cases ex;exact⟨d',ey,by show d'<=d+l; omega⟩
 refine Rb (λm n' ρ=>n'=n/\∃(ks:List Key) (ds:List D) (K:Kn) (g:Bool) (s4 s5 s6 s7 s8 s9:Slot),ρ=[.br zz,.sh (.str s),.ow (.dic ks ds),.sh (.bl g),s4,s5,s6,s7,s8,s9]/\Dmap ks ds D.int K/\Bf N s ks.length K/\((g=true/\m=Sz N.ps K+1)\/(g=false/\m=0/\∀t∈N.ts,JS K (t.a,t.b,t.len)/\JS K (t.b,t.a,t.len)))) _ ⟨rfl,_,_,_,true,_,_,_,_,_,_,rfl,Dmap.one (enc:=D.int) (a:=(0:Int)),Bf.init G,.inl ⟨rfl,rfl⟩⟩ ?_ ?_
 ·rintro m n' ρ N' ⟨rfl,ks,ds,K,g,s4,s5,s6,s7,s8,s9,rfl,M,B,hg⟩ hN
  rcases hg with ⟨rfl,hm⟩ | ⟨rfl,_,ht⟩
  ·have outer:∀(rest done:List BP) (ks:List Key) (ds:List D) (K':Kn) (g:Bool) (s4 s5 s6 s7 s8 s9:Slot),done++rest=us->Dmap ks ds D.int K'->Bf N s ks.length K'->((g=true/\Sz N.ps K'<Sz N.ps K)\/(g=false/\Sz N.ps K'<=Sz N.ps K/\∀t∈done,JS K' (t.a,t.b,t.len)/\JS K' (t.b,t.a,t.len))) ->
     Bm (E9 3 (Ay (Af 4) (Ay (Af 5) (Ay (Af 6) Cj)))) (E6 (BI (DA (AF (BN (AF (AB 4) (AF (AB 5) AT))) (AF (BN (AF (AB 5) (AF (AB 4) AT))) AT)))) (E9 2 (Ay (Af 7) (Ay (Af 8) Cj))) (BG (AR (AU (M8 false) (AB 7) (BE 2))) (Ac (Az 9 (AU Aq (AU EW (BE 2) (AB 7)) (AB 6)))
 (BG (AR (AU EV (AB 9) (QT (BE 2) (AB 8) (AU Aq (AB 9) (wC (D.int 1)))))) (Ac (NZ 2 (AB 8) (AB 9))
 (Az 3 (wC (D.bl true)))) Av)) Av)) { EF Pd with nx:=N',ct:=N',bk:=TD 2 (EF Pd) } (rest.map Aa) n' [.br zz,.sh (.str s),.ow (.dic ks ds),.sh (.bl g),s4,s5,s6,s7,s8,s9]:=by
    intro rest
    induction rest with
    | nil =>
     intro done ks ds K' g s4 s5 s6 s7 s8 s9 e M B hg;rw [dS] at e;subst e
     rcases hg with ⟨rfl,q⟩ | ⟨rfl,_,ht⟩
     ·exact hN (Sz N.ps K'+1) _ _ (by omega) ⟨rfl,ks,ds,K',true,_,_,_,_,_,_,rfl,M,B,.inl ⟨rfl,rfl⟩⟩
     ·exact hN 0 _ _ (by omega) ⟨rfl,ks,ds,K',false,_,_,_,_,_,_,rfl,M,B,.inr ⟨rfl,rfl,λt h=>ht t ((j t).mpr h)⟩⟩
    | cons t rest ih =>
     intro done ks ds K' g s4 s5 s6 s7 s8 s9 e M B hg;have r:t∈N.ts:=(j t).mp (by rw [← e]; exact dH _ Op);have e':(done++[t])++rest=us:=by rw [eR]; exact e
     have ed:=WJ r;refine⟨rfl,rfl,z2,z2,z2,?_⟩;refine⟨rfl,rfl,?_⟩;refine step _ t.a t.b t.len ed.1 ks ds K' g _ _ s7 s8 s9 M B λw A K1 g1 t7 t8 t9 M1 B1 h1=>?_;refine⟨rfl,rfl,?_⟩;refine step _ t.b t.a t.len ed.2 w A K1 g1 _ _ t7 t8 t9 M1 B1 λC E K2 g2 u7 u8 u9 M2 B2 h2=>?_;refine ih (done++[t]) C E K2 g2 _ _ _ _ _ _ e' M2 B2 ?_
     rcases h1 with ⟨rfl,rfl,t1⟩ | ⟨rfl,J⟩
     ·rcases h2 with ⟨rfl,rfl,t2⟩ | ⟨rfl,F⟩
      ·rcases hg with z | ⟨z1,z2,z3⟩
       ·exact .inl z
       ·refine .inr ⟨z1,z2,λu hu=>?_⟩
        rcases cu.mp hu with hu | hu
        ·exact z3 u hu
        ·rw [Tk.mp hu]; exact⟨t1,t2⟩
      ·refine .inl ⟨rfl,?_⟩
       rcases hg with ⟨_,z⟩ | ⟨_,z,_⟩ <;> omega
     ·have base:Sz N.ps K1<Sz N.ps K:=by rcases hg with ⟨_,z⟩ | ⟨_,z,_⟩ <;> omega
      rcases h2 with ⟨rfl,rfl,t2⟩ | ⟨rfl,F⟩
      ·exact .inl ⟨rfl,base⟩
      ·exact .inl ⟨rfl,by omega⟩
   exact⟨zz,_,rfl,v,outer us [] ks ds K false _ _ _ _ _ _ rfl M B (.inr ⟨rfl,On _,λt h=>by cases h⟩)⟩
  ·exact⟨_,rfl,p ks ds K M (B.told ok (by have:=M.le B.ins; omega) ht)⟩
 ·rintro n' ρ P Q hPQ h
  unfold AR AB at h ⊢
  split at h
  ·rename_i d hd
   cases d with
   | bl b=>exact hPQ _ _ h
   | _=>exact h.elim
  ·exact h.elim
theorem HV(h:HF ss n Pd):EY (EE Pd) n (ss++Uf 3 .no):=by
 obtain⟨N,t,b,rfl,k,b1,b2,t1,t2,p⟩:=h;have ok:=k.1;have w:=k.2.2;have A:=PySem.sizeLine_eq;unfold EY;refine⟨z0,_,AO (j:=1) rfl,_,N.ts,rfl,rfl,by omega,λord o1 o2=>?_⟩;have m:ord.Nodup:=o1.nodup_iff.mpr (CD ok.trise)
 have go:∀(rest done kept:List BP) (s3 s4:Slot),done++rest=ord->(∀u∈kept,u∈done)->kept.Nodup->Ey N t b kept rest=Ey N t b [] ord ->
   Bm (Af 3) (Ac (Az 4 (QU (AZ Dh (AE (JM (BE 2)) (AE (AI (AU A8 (AB 3) (wC (D.int 0)))) AY))) (AU A8 (AB 3) (wC (D.int 1)))))
 (BG (CG (AR (AU (G4 false) (AB 4) (wC D.non))) (AR (AU (f2 λi j=>D.bl (decide (j<i))) (AU C8 (AB 4) (AU A8 (AB 1) (wC (D.int 1)))) (AU C8 (AU A8 (AB 3) (wC (D.int 2))) (AU A8 (AB 1) (wC (D.int 0))))))) (TF 2 "list" KH (AF (AB 3) AT)) Av)) { EE Pd with nx:=Au (BN (AF (AU A8 (AB 0) (wC (D.int 0))) (AF (B8 B6 (AF (B8 Hk (AF (BE 2) AT)) AT)) AT))) (EE Pd) } (rest.map Aa) n [.sh (enc N),.sh (.tup [.int t,.int b]),.ow (.lst (kept.map Aa)),s3,s4]:=by
  intro rest
  induction rest with
  | nil =>
   intro done kept s3 s4 e h1 h2 h3;rw [dS] at e;subst e;have f:∀u∈kept,u∈N.ts:=λu hu=>o1.mem_iff.mp (h1 u hu);have q:=sub_len h2 (CD ok.trise) f;refine⟨_,AO (j:=0) rfl,_,_,rfl,rfl,by rw [Go]; omega,⟨λx o=>?_,λx o y hy ka kb ea eb=>?_⟩,λB hp ho=>?_⟩
   ·obtain⟨t,_,rfl⟩:=Rs.mp o
    exact⟨E8 t,rfl,gR _ _⟩
   ·obtain⟨t,_,rfl⟩:=Rs.mp o
    obtain⟨u,_,rfl⟩:=Rs.mp hy;cases (show some (E8 t)=some ka from ea);cases (show some (E8 u)=some kb from eb);rfl
   ·obtain⟨C,p1,rfl⟩:=TZ (g:=aM) (λ_=>rfl) hp
    refine⟨z2,?_⟩;have es:=X0 ok f h2 p1 (Vw ho)
    have:Pd (enc (sub N kept)) n:=by rw [show kept=Ey N t b [] done from h3]; exact p done o1 o2
    rw [← es] at this;exact this
  | cons u rest ih =>
   intro done kept s3 s4 e h1 h2 h3;have f:∀v∈kept,v∈N.ts:=λv hv=>o1.mem_iff.mp (by rw [← e]; exact eo _ (h1 v hv));have q:=sub_len h2 (CD ok.trise) f;have hu:u∈N.ts:=o1.mem_iff.mp (by rw [← e]; exact dH _ Op)
   have r:u∉done:=by
    rw [← e,fL] at m;exact λz=>m.2.2 u z u Op rfl
   have e':(done++[u])++rest=ord:=by rw [eR]; exact e
   obtain⟨m1,m2,_⟩:=ok.tin u hu;rw [P_] at h3;have keep:LW (sub N kept) t b u=false->∀l,(TF 2 "list" KH (AF (AB 3) AT)) { nx:=Bm (Af 3) (Ac (Az 4 (QU (AZ Dh (AE (JM (BE 2)) (AE (AI (AU A8 (AB 3) (wC (D.int 0)))) AY))) (AU A8 (AB 3) (wC (D.int 1)))))
 (BG (CG (AR (AU (G4 false) (AB 4) (wC D.non))) (AR (AU (f2 λi j=>D.bl (decide (j<i))) (AU C8 (AB 4) (AU A8 (AB 1) (wC (D.int 1)))) (AU C8 (AU A8 (AB 3) (wC (D.int 2))) (AU A8 (AB 1) (wC (D.int 0))))))) (TF 2 "list" KH (AF (AB 3) AT)) Av)) { EE Pd with nx:=Au (BN (AF (AU A8 (AB 0) (wC (D.int 0))) (AF (B8 B6 (AF (B8 Hk (AF (BE 2) AT)) AT)) AT))) (EE Pd) } (rest.map Aa),rt:=Pd } n [.sh (enc N),.sh (.tup [.int t,.int b]),.ow (.lst (kept.map Aa)),.sh (Aa u),l]:=λc l=>by
    rw [c,if_neg (by decide)] at h3;refine⟨_,rfl,rfl,_,_,rfl,rfl,by rw [Go]; omega,?_⟩
    have:=ih (done++[u]) (kept++[u]) (.sh (Aa u)) l e' (λv hv=>by
     rcases cu.mp hv with hv | hv
     ·exact eo _ (h1 v hv)
     ·exact dH _ hv) (by
     rw [fL];exact⟨h2,dM.mpr ⟨c6,e6⟩,λx o y hy z=>r (by rw [← Tk.mp hy,← z]; exact h1 x o)⟩) h3
    rw [de] at this;exact this
   refine⟨_,AO (j:=0) rfl,sub N kept,u.a,_,kept,rfl,rfl,λv=>⟨λhv=>sub_mem.mpr ⟨f v hv,hv⟩,λhv=>(sub_mem.mp hv).2⟩,Qe k kept,m1,λks ds K M T=>?_⟩;refine⟨ks,ds,rfl,_,AO (j:=1) rfl,_,Cd u.b,?_⟩;rw [WC M];have hf:=T.far u.b;cases ek:K u.b with
   | none =>
    rw [ek] at hf;refine⟨rfl,?_⟩
    exact keep (by
     rw [d7];intro z;obtain⟨d,hd,_⟩:=nearB_iff.mp z;exact hf d hd.1) _
   | some d =>
    rw [ek] at hf
    have en:LW (sub N kept) t b u=decide (d*b<=u.len*t):=by
     rw [e_,nearB_iff,decide_eq_true_eq];constructor
     ·rintro ⟨d',s,h2⟩
      rw [Least.unique (show Least (sub N kept) u.a u.b d from hf) s];exact h2
     ·intro h2
      exact⟨d,hf,h2⟩
    refine⟨rfl,?_⟩;refine⟨_,AO (j:=1) rfl,.inr ⟨by omega,by omega⟩,_,AO (j:=2) rfl,_,AO (j:=0) rfl,.inr ⟨by omega,by omega⟩,?_⟩;show if decide (u.len*t<d*b)=true then _ else _
    by_cases c:u.len*t<d*b
    ·rw [decide_eq_true c]
     exact Bi (keep (by rw [en]; exact decide_eq_false (by omega)) _)
    ·rw [decide_eq_false c]
     rw [en,decide_eq_true (by omega),if_pos rfl] at h3;exact BQ (ih (done++[u]) kept _ _ e' (λv hv=>eo _ (h1 v hv)) h2 h3)
 exact go ord [] [] _ _ rfl (λu h=>by cases h) e6 rfl
end
def thn(N:Net)(ts:List BP):Prop:=(∀t∈ts,t∈N.ts)/\ts.Pairwise Bw
def OW(N:Net)(ts:List BP):List BP:=N.ts.filter λt=>decide (t∉ts)
abbrev S8(w:List Str):D:=.tup (w.map .str)
def ZT(t b:Int):Prop:=1<=b/\b<=1000000/\1<=t/\t<=1000000
def NU:W2:=λss n P=>∃(N:Net) (t b:Int),ss=[.fd,.sh (enc N),.sh (.tup [.int t,.int b])]/\okN N/\ZT t b/\N.ts.length+2<=n/\∀(ts:List BP) (n':Nat),thn N ts->n - (N.ts.length+2)<=n'->P (enc ⟨N.ps,ts⟩) n'
def Eb:Aj:=(Ac (BG (CG (Be (AR (AZ RR (AE (AI (AB 1)) AY)))) (AR (AU (D_ true) (B8 DU (AF (AU A8 (AB 1) (wC (D.int 0))) AT)) (B8 DU (AF (AU A8 (AB 0) (wC (D.int 0))) AT))))) (Au (wC (D.bl false))) Av)
 (Ac (Az 2 (BR [none] (BI (AU A8 (AB 0) (wC (D.int 1)))) (Af 0) CW (B8 DU (AF (AB 0) AT))))
 (Au (AU (DV true) (wC (D.bl false)) (BR [some 2,none] (BI (AU A8 (AB 1) (wC (D.int 1)))) (Af 1) CW (AU (DV false) (B8 DU (AF (AB 1) AT)) (AB 0)))))))
def F2:Aj:=(Ac (BG (Gk (AR (AU (D_ false) (AB 4) (wC (D.int 1)))) (AR (AU aH (BE 5) (DA AT)))) (Wq 5 (AZ BA (AE (Aw 0) (AE (AI (B8 Ce (AF (BE 5) AT))) AY)))) Av)
 (Au (BN (AF (AU A8 (AB 1) (wC (D.int 0))) (AF (B8 B6 (AF (BE 5) AT)) AT)))))
def Dd:Aj:=(Ac (Az 3 (AZ HF (AE (AI (AB 1)) (AE (AI (AB 2)) AY))))
 (Ac (Az 4 (AZ BA (AE (Aw 0) (AE (AI (wC (D.int 4))) AY))))
 (Ac (BG (AR (AU (D_ false) (AB 4) (wC (D.int 0)))) (Au (BN (AF (AU A8 (AB 1) (wC (D.int 0))) (AF (B8 B6 (AF (BR [some 0,none] (BI (AU A8 (AB 1) (wC (D.int 1)))) (Af 1) (AR (AU (f2 λi j=>D.bl (decide (j<i))) (AZ BA (AE (Aw 0) (AE (AI (wC (D.int 3))) AY))) (wC (D.int 0)))) (AB 1)) AT)) AT)))) Av)
 (Ac (EI 5 (BR [some 3,some 0,none] (BI (AU A8 (AB 1) (wC (D.int 1)))) (Af 2) (CG (AR (AU (DV false) (AB 2) (AU A8 (AB 0) (wC (D.int 1))))) (AR (AU (D_ false) (AZ BA (AE (Aw 1) (AE (AI (wC (D.int 3))) AY))) (wC (D.int 0))))) (AB 2)))
 F2))))
theorem Ra{N:Net}(ok:N.Ok){w:List Str}(d:w.length<=1000)(h:∀x∈w,x∈N.ps):K9 (.tup (w.map .str)):=by
 obtain⟨a,b,c⟩:=LI ok h;exact⟨a,by show B7 _<=160000; omega,by show C9 _+1<=50; omega⟩
theorem thn.okN{N:Net}(a:okN N){ts:List BP}(h:thn N ts):okN ⟨N.ps,ts⟩:=⟨PV a.1 h.1 h.2,a.2.1,by
 have:=sub_len (CD h.2) (CD a.1.trise) h.1
 have:=a.2.2
 grind⟩
theorem thn.thinB{N:Net}{ts:List BP}(h:thn N ts):thinB N (enc ⟨N.ps,ts⟩)=true:=thinB_iff.mpr ⟨ts,rfl,h.1,h.2⟩
section
variable {ss:List Slot}{n:Nat}{Pd:D->Nat->Prop}
theorem HW(h:IS ss n Pd):Eb (EE Pd) n (ss++Uf 1 .no):=by
 obtain⟨N,d,rfl,ok,l1,l2,hf,C,hd,p⟩:=h;have w:=PySem.sizeLine_eq;unfold Eb;refine⟨[d],rfl,rfl,?_⟩;show if (!P1 d)=true then _ else _
 cases c:P1 d with
 | false =>
  have:thinB N d=false:=by
   rw [d7];intro z;rw [Td ok l1 l2 (thinB_iff.mp z)] at c;cases c
  rw [this] at p;exact Bi p
 | true =>
  obtain⟨ps,ts,rfl,o,k1,k2,f,hp⟩:=Ub c;rw [← Te ok o f hp] at p
  have r:∀(qs:List Str),(∀q∈qs,D9 q)->qs.length<=24->Gr (.tup (qs.map .str)):=λqs hq E=>by
   have it:∀d∈qs.map D.str,item d:=λd hd=>by
    obtain⟨x,A,rfl⟩:=Rs.mp hd;exact Cp (hq x A)
   have s1:=GK (k:=451) λd hd=>fw (it d hd).2.1;have d1:C9 (qs.map D.str)<=1:=dps_le.mpr λd hd=>(it d hd).2.2;rw [Go] at s1;exact Ip (B:=1000001) (by decide) (fines_iff.mpr λd hd=>(it d hd).1) (by show C9 (qs.map D.str)+1<=100; omega) (by show B7 (qs.map D.str)<=200000; omega)
  have v:∀t:BP,D9 t.a/\D9 t.b/\1<=t.len/\t.len<=1000000->Gr (Aa t):=λt ht=>by
   have it:=OZ (Cp ht.1) (Cp ht.2.1) ht.1.2.1 ht.2.1.2.1 (l:=t.len) (by omega);exact Ip (B:=1000001) (by decide) it.1 (by have:=it.2.2; show Cr (Aa t)<=100; unfold Aa; omega) (by have:=it.2.1; show szD (Aa t)<=200000; unfold Aa; omega)
  have g:∀t∈N.ts,D9 t.a/\D9 t.b/\1<=t.len/\t.len<=1000000:=λt ht=>by
   obtain⟨m1,m2,_,m4,m5⟩:=ok.tin t ht;exact⟨ok.names _ m1,ok.names _ m2,m4,m5⟩
  refine BQ ⟨_,AO (j:=0) rfl,_,rfl,r ps o k1,_,AO (j:=0) rfl,_,rfl,r N.ps ok.names l1,?_⟩;show if (!(BF (.tup (ps.map .str))==BF (.tup (N.ps.map .str))))=true then _ else _
  cases e:BF (.tup (ps.map .str))==BF (.tup (N.ps.map .str)) with
  | false=>rw [e] at p; exact Bi p
  | true =>
   rw [e,fM] at p;refine BQ ⟨_,AO (j:=1) rfl,by show (N.ts.map Aa).length<=10000000; rw [Go]; omega,?_⟩;refine BO (λd=>.str (BF d)) (λρ=>∃s,ρ=[s]) _ _ _ _ ?_ ⟨_,rfl⟩ ?_
   ·rintro d hd ρ m nx ⟨s,rfl⟩ i
    obtain⟨u,hu,rfl⟩:=Rs.mp hd;exact⟨_,rfl,v u (g u hu),i _ ⟨_,rfl⟩⟩
   rw [cy]
   have layL:D7 (.lst ((N.ts.map Aa).map λd=>.str (BF d))):=by
    refine CI (B:=0) (by decide) (fines_iff.mpr λd hd=>?_) ?_
    ·obtain⟨e,he,rfl⟩:=Rs.mp hd
     obtain⟨u,hu,rfl⟩:=Rs.mp he;exact Hu (g u hu).1 (g u hu).2.1
    ·have:C9 ((N.ts.map Aa).map λd=>D.str (BF d))<=0:=dps_le.mpr λd hd=>by
      obtain⟨e,he,rfl⟩:=Rs.mp hd;exact On _
     show C9 _+1<=100;omega
   refine⟨_,AO (j:=1) rfl,by show (ts.map Aa).length<=10000000; rw [Go]; omega,?_⟩;refine BO (λd=>.bl ((N.ts.map Aa).any λe=>BF e==BF d)) (λρ=>∃s,ρ=[.sh (.lst ((N.ts.map Aa).map λd=>.str (BF d))),s]) _ _ _ _ ?_ ⟨_,rfl⟩ ?_
   ·rintro d hd ρ m nx ⟨s,rfl⟩ i
    obtain⟨t,ht,rfl⟩:=Rs.mp hd;refine⟨_,rfl,v t (f t ht),CI (B:=0) (d:=.str _) (by decide) (Hu (f t ht).1 (f t ht).2.1) (TM _),layL,_,rfl,?_⟩;show nx (.bl (((N.ts.map Aa).map λd=>.str (BF d)).any λy=>GA y (.str (BF (Aa t))))) m _;rw [jQ];exact i _ ⟨_,rfl⟩
   ·rw [cy]
    refine ES ?_;exact p
theorem Qd{N:Net}(a:okN N){ts:List BP}(h:ts.Sublist N.ts):thn N ts:=⟨λt ht=>h.subset ht,a.1.trise.sublist h⟩
theorem GU(h:NU ss n Pd):Dd (EE Pd) n (ss++Uf 3 .no):=by
 obtain⟨N,t,b,rfl,d,⟨b1,b2,t1,t2⟩,hn,p⟩:=h;have w:=d.2.2;have x:=PySem.sizeLine_eq;unfold Dd;have f:(N.ts.map Aa).length<=10000000:=by rw [Go]; omega
 refine⟨N,t,b,rfl,d,b1,b2,t1,t2,λord o1 o2=>?_⟩;have g:=Qe d (Ey N t b [] ord);have hg:∀u∈(sub N (Ey N t b [] ord)).ts,u∈N.ts:=λu hu=>(sub_mem.mp hu).1;revert g hg;generalize eG:sub N (Ey N t b [] ord)=G;intro g hg;refine⟨4,rfl,by decide,by decide,by omega,λway w0 w1=>?_⟩;refine B3 (λ_=>?_) λ_=>?_
 ·refine⟨_,AO (j:=0) rfl,_,AO (j:=1) rfl,f,?_⟩
  have go:∀(rest done a:List BP) (m:Nat) (s:Slot),done++rest=N.ts->a.Sublist done->n - 1 - done.length<=m ->
    Ci (Af 1) (AR (AU (f2 λi j=>D.bl (decide (j<i))) (AZ BA (AE (Aw 0) (AE (AI (wC (D.int 3))) AY))) (wC (D.int 0)))) (AB 1) (λa n2=>[D.tup (N.ps.map .str),.tup a].length<=sizeLine/\Pd (.tup [.tup (N.ps.map .str),.tup a]) n2) (rest.map Aa) (a.map Aa) m [.fd,s]:=by
   intro rest
   induction rest with
   | nil =>
    intro done a m s e h1 h2;rw [dS] at e;subst e;exact⟨z2,p a m (Qd d h1) (by omega)⟩
   | cons t rest ih =>
    intro done a m s e h1 h2;have y:done.length+(rest.length+1)=N.ts.length:=by rw [← e,XV,ZB]
    have e':(done++[t])++rest=N.ts:=by rw [eR]; exact e
    refine⟨3,rfl,by decide,by decide,by omega,λr r0 r1=>B3 (λ_=>?_) λ_=>?_⟩
    ·have:=ih (done++[t]) (a++[t]) (m - 1) (.sh (Aa t)) e' (h1.append (g7 [t])) (by rw [XV,dB]; omega)
     rw [de] at this;exact this
    ·exact ih (done++[t]) a (m - 1) (.sh (Aa t)) e' (h1.trans (jT _ _)) (by rw [XV,dB]; omega)
  exact go N.ts [] [] _ _ rfl (g7 _) (by simp)
 ·refine⟨_,AO (j:=1) rfl,f,?_⟩
  have fin:∀(more:List BP) (m:Nat),more.Sublist N.ts->n - (N.ts.length+2)<=m->(Au (BN (AF (AU A8 (AB 1) (wC (D.int 0))) (AF (B8 B6 (AF (BE 5) AT)) AT)))) (EE Pd) m [.fd,.sh (enc N),.sh (.tup [.int t,.int b]),.sh (enc G),.sh (.int way),.ow (.lst (more.map Aa))]:=λmore m h1 h2 =>
   ⟨_,AO (j:=0) rfl,z2,p more m (Qd d h1) h2⟩
  have behind:∀(more:List BP) (m:Nat),more.Sublist N.ts->n - (N.ts.length+1)<=m->F2 (EE Pd) m [.fd,.sh (enc N),.sh (.tup [.int t,.int b]),.sh (enc G),.sh (.int way),.ow (.lst (more.map Aa))]:=λmore m h1 h2=>by
   refine B3 (λ_=>?_) λ_=>BQ (fin more m h1 (by omega));refine⟨z0,(EQ d.1 λt ht=>h1.subset ht).2,CI (B:=0) (by decide) trivial (by decide),?_⟩;refine B3 (λc=>?_) λ_=>fin more m h1 (by omega)
   have l:more≠[]:=λz=>by
    rw [z] at c;exact absurd c (by decide)
   have A:1<=more.length:=by
    cases more with
    | nil=>exact absurd rfl l
    | cons _ _=>rw [ZB]; omega
   have C:(more.map Aa).length=more.length:=Go ..;have q:=h1.length_le;refine⟨_,rfl,_,_,rfl,rfl,_,rfl,by omega,by omega,by omega,λr r0 r1=>?_⟩;obtain⟨k,rfl⟩:∃k:Nat,r=(k:Int):=⟨r.toNat,by omega⟩;have e1:more[k]?=some more[k]:=No (by omega);refine⟨k,Aa more[k],rfl,by rw [dR,e1]; rfl,by omega,?_⟩;rw [Ll];exact fin _ _ ((List.eraseIdx_sublist _ _).trans h1) (by omega)
  have go:∀(rest done a:List BP) (m:Nat) (s:Slot),done++rest=N.ts->a.Sublist done->n - 1 - done.length<=m ->
    Ci (Af 2) (CG (AR (AU (DV false) (AB 2) (AU A8 (AB 0) (wC (D.int 1))))) (AR (AU (D_ false) (AZ BA (AE (Aw 1) (AE (AI (wC (D.int 3))) AY))) (wC (D.int 0))))) (AB 2) (λa n2=>F2 (EE Pd) n2 [.fd,.sh (enc N),.sh (.tup [.int t,.int b]),.sh (enc G),.sh (.int way),.ow (.lst a)]) (rest.map Aa) (a.map Aa) m [.sh (enc G),.fd,s]:=by
   intro rest
   induction rest with
   | nil =>
    intro done a m s e h1 h2;rw [dS] at e;subst e;exact behind a m h1 (by omega)
   | cons v rest ih =>
    intro done a m s e h1 h2;have y:done.length+(rest.length+1)=N.ts.length:=by rw [← e,XV,ZB]
    have e':(done++[v])++rest=N.ts:=by rw [eR]; exact e
    have hv:v∈N.ts:=by rw [← e]; exact dH _ Op
    have add:∀m',n - 1 - (done.length+1)<=m'->Ci (Af 2) (CG (AR (AU (DV false) (AB 2) (AU A8 (AB 0) (wC (D.int 1))))) (AR (AU (D_ false) (AZ BA (AE (Aw 1) (AE (AI (wC (D.int 3))) AY))) (wC (D.int 0))))) (AB 2) (λa n2=>F2 (EE Pd) n2 [.fd,.sh (enc N),.sh (.tup [.int t,.int b]),.sh (enc G),.sh (.int way),.ow (.lst a)]) (rest.map Aa) (a.map Aa++[Aa v]) m' [.sh (enc G),.fd,.sh (Aa v)]:=λm' o=>by
     have:=ih (done++[v]) (a++[v]) m' (.sh (Aa v)) e' (h1.append (g7 [v])) (by rw [XV,dB]; exact o)
     rw [de] at this;exact this
    refine⟨_,AO (j:=1) rfl,Iz d.1 hv,(EQ d.1 hg).1,_,rfl,?_⟩;refine B3 (λ_=>add m (by omega)) λ_=>?_;refine⟨3,rfl,by decide,by decide,by omega,λr r0 r1=>B3 (λ_=>add (m - 1) (by omega)) λ_=>?_⟩;exact ih (done++[v]) a (m - 1) (.sh (Aa v)) e' (h1.trans (jT _ _)) (by rw [XV,dB]; omega)
  exact go N.ts [] [] _ _ rfl (g7 _) (by simp)
end
def Vg:D->List Str
 | .tup xs=>strsOf xs
 | _=>[]
def YU(M:Net)(a b:Str)(d:D):D:=match Mr M d with
 | .int l=>if ((Vg d).head?==some a&&(Vg d).getLast?==some b)=true then .int l else .non
 | _=>.non
def S7(M:Net)(t b:Int)(u:BP)(d:D):D:=match YU M u.a u.b d with
 | .int l=>if l*b<=u.len*t then .non else .str "far"
 | _=>.str "way"
def OG(w:Str)(k:Nat):D:=.tup [.str w,.int (k:Int)]
def Hl(M:Net)(t b:Int):Nat->List BP->List D->D
 | k,u::us,d::ds=>match S7 M t b u d with
  | .str w=>OG w k
  | _=>Hl M t b (k+1) us ds
 | _,_,_=>.non
def QD(M:Net)(t b:Int)(lo:List BP):D->D
 | .tup ds=>if ds.length=lo.length then Hl M t b 0 lo ds else OG "shape" 0
 | _=>OG "shape" 0
def Tf(r:D)(P:D->Nat->Prop)(Pr:PX)(n:Nat):Prop:=match r with
 | .tup [.str w,.int k]=>Pr "NoPaper" ["word","number"] [.str w,.int k] n
 | _=>P (.bl true) n
def Yy(d:D):Prop:=fine (10 ^ 41) d/\szD d<=200000/\Cr d<=90
def RT:W2:=λss n P=>∃(M:Net) (a b:Str) (d:D),ss=[.sh (enc M),.sh (.str a),.sh (.str b),.sh d]/\okN M/\K9 d/\P (YU M a b d) n
def PD:W2:=λss n P=>∃(M:Net) (t b:Int) (u:BP) (d:D),ss=[.sh (enc M),.sh (.tup [.int t,.int b]),.sh (Aa u),.sh d]/\okN M/\ZT t b/\K9 d/\P (S7 M t b u d) n
def ZH(N:Net)(t b:Int)(d p:D)(Q:D->Prop):Prop:=okN N/\N.ps.length<=24/\ZT t b/\Yy d/\K9 p/\(thinB N d=false\/(∀ds,p≠.tup ds)->Q (OG "shape" 0))/\∀ts lo:List BP,d=enc ⟨N.ps,ts⟩->thn N ts->lo.Perm (OW N ts)->Fc lo->Q (QD ⟨N.ps,ts⟩ t b lo p)
def JI:WX:=λss n P Pr=>∃(N:Net) (t b:Int) (d p:D),ss=[.sh (enc N),.sh (.tup [.int t,.int b]),.sh d,.sh p]/\ZH N t b d p λr=>Tf r P Pr n
def NW:W2:=λss n P=>∃(N:Net) (t b:Int) (d p:D),ss=[.sh (enc N),.sh (.tup [.int t,.int b]),.sh d,.sh p]/\ZH N t b d p λr=>P r n
def NV:W2:=λss n P=>∃(a:Ch) (w:Str) (k:Int),ss=[.ex a "NoPaper" ["word","number"] [.str w,.int k]]/\P (.tup [.str w,.int k]) n
def EH:W2:=λss n P=>∃(N:Net) (t b:Int) (d p:D),ss=[.sh (enc N),.sh (.tup [.int t,.int b]),.sh d,.sh p]/\okN N/\N.ps.length<=24/\ZT t b/\Yy d/\K9 p/\szD (enc N)+szD d+szD p<=260000/\P (.bl true) n
def Kp:W2:=λss n P=>∃(M:Net) (a b:Str),ss=[.sh (enc M),.sh (.str a),.sh (.str b)]/\okN M/\a∈M.ps/\b∈M.ps/\2<=M.ps.length/\∀(x:Str) (r:List Str),(x::r).length<=M.ps.length->(∀y∈x::r,y∈M.ps)->P (S8 (x::r)) n
def isWy(d:D):Prop:=∃xs:List D,d=.tup xs/\(∀i∈xs,item i)/\1<=xs.length/\xs.length<=7
def RQ:W2:=λss n P=>∃(N:Net) (xs:List D),ss=[.fd,.sh (enc N),.sh (.tup xs)]/\N.Ok/\1<=N.ps.length/\N.ps.length<=7/\xs.length<=12/\(∀d∈xs,isWy d)/\14<=n/\∀(e:D) (n':Nat),fine 2000001 e->szD e<=77000->Cr e<=10->n - 14<=n'->P e n'
abbrev Kq:W2:=Hq 4
def DZ:Aj:=(Ac (Az 4 (AZ LG (AE (AI (AB 0)) (AE (AI (AB 3)) AY))))
 (Ac (BG (CG (AR (AU (G4 false) (AB 4) (wC D.non))) (CG (AR (AU (D_ true) (AU A8 (AB 3) (wC (D.int 0))) (AB 1))) (AR (AU (D_ true) (AU A8 (AB 3) (Eg (wC (D.int 1)))) (AB 2))))) (Au (wC D.non)) Av)
 (Au (AB 4))))
def GB:Aj:=(Ac (Az 4 (AZ RT (AE (AI (AB 0)) (AE (AI (AU A8 (AB 2) (wC (D.int 0)))) (AE (AI (AU A8 (AB 2) (wC (D.int 1)))) (AE (AI (AB 3)) AY))))))
 (Ac (BG (AR (AU (G4 false) (AB 4) (wC D.non))) (Au (wC (D.str "way"))) Av)
 (Au (VY (AR (AZ JF (AE (AI (AB 4)) (AE (AI (AB 1)) (AE (AI (AU A8 (AB 2) (wC (D.int 2)))) AY))))) (wC D.non) (wC (D.str "far"))))))
def EC(Pr:PX):Aj:=(Ac (BG (CG (Be (AR (AZ IS (AE (AI (AB 0)) (AE (AI (AB 2)) AY))))) (Be (AR (AZ Fq (AE (AI (B8 Ce (AF (AZ PF (AE (AI (AB 0)) (AE (AI (AB 2)) AY))) AT))) (AE (AI (AB 3)) AY)))))) (λD2=>(L_ "NoPaper" ["word","number"] (AF (wC (D.str "shape")) (AF (wC (D.int 0)) AT))) D2 Pr) Av)
 (Ac (E6 (QV (AZ PF (AE (AI (AB 0)) (AE (AI (AB 2)) AY)))) (E9 2 (Ay (Af 4) (Ay (Af 5) Cj))) (Ac (Az 6 (AZ PD (AE (AI (AB 2)) (AE (AI (AB 1)) (AE (AI (AB 5)) (AE (AI (AU A8 (AB 3) (AB 4))) AY))))))
 (BG (AR (AU (G4 true) (AB 6) (wC D.non))) (λD2=>(L_ "NoPaper" ["word","number"] (AF (AB 6) (AF (AB 4) AT))) D2 Pr) Av)))
 (Au (wC (D.bl true)))))
def NL:Aj:=(Ac (Az 7 (AZ LG (AE (AI (AB 2)) (AE (AI (AU A8 (AB 3) (AB 5))) AY))))
 (Ac (BG (CG (AR (AU (G4 false) (AB 7) (wC D.non))) (CG (AR (AU (D_ true) (AU A8 (AU A8 (AB 3) (AB 5)) (wC (D.int 0))) (AU A8 (AB 6) (wC (D.int 0))))) (AR (AU (D_ true) (AU A8 (AU A8 (AB 3) (AB 5)) (Eg (wC (D.int 1)))) (AU A8 (AB 6) (wC (D.int 1))))))) (Au (BN (AF (wC (D.str "way")) (AF (AB 5) AT)))) Av)
 (BG (AR (AU (f2 λi j=>D.bl (decide (j<i))) (AU C8 (AB 7) (AU A8 (AB 1) (wC (D.int 1)))) (AU C8 (AU A8 (AB 6) (wC (D.int 2))) (AU A8 (AB 1) (wC (D.int 0)))))) (Au (BN (AF (wC (D.str "far")) (AF (AB 5) AT)))) Av)))
def Dv:Aj:=(Ac (BG (CG (Be (AR (AZ IS (AE (AI (AB 0)) (AE (AI (AB 2)) AY))))) (Be (AR (Eh "tuple" (AB 3))))) (Au (BN (AF (wC (D.str "shape")) (AF (wC (D.int 0)) AT)))) Av)
 (Ac (Az 4 (AZ Dg (AE (AI (BR [some 2,none] (BI (AU A8 (AB 0) (wC (D.int 1)))) (Af 1) (AR (AU (DV true) (AB 1) (AU A8 (AB 0) (wC (D.int 1))))) (AB 1))) AY)))
 (Ac (BG (AR (AU (D_ true) (B8 Ce (AF (AB 3) AT)) (B8 Ce (AF (AB 4) AT)))) (Au (BN (AF (wC (D.str "shape")) (AF (wC (D.int 0)) AT)))) Av)
 (Ac (E6 (QV (AB 4)) (E9 2 (Ay (Af 5) (Ay (Af 6) Cj))) NL)
 (Au (wC D.non))))))
def EZ:Aj:=(Ac (Az 1 (S9 0 ["NoLine","NoPlace","NoRow","NoTie","TooMany","Twice"]))
 (Ac (BG (CG (AR (AB 1)) (CG (Be (AR (Xm 0 "NoPaper"))) (Be (AR (S_ 0))))) (Au (BN (AF (wC (D.str "other")) (AF (wC (D.int 0)) AT)))) Av)
 (Au (BN (AF (aj 0 "word") (AF (aj 0 "number") AT))))))
def Ea:Aj:=(Ac (Az 3 (Wu (AZ Dh (AE (JM (AU A8 (AB 0) (wC (D.int 1)))) (AE (AI (AB 1)) AY)))))
 (Ac (EI 4 (DA (AF (AB 2) AT)))
 (Ac (L9 (Gk (AR (AU (D_ true) (AU A8 (BE 4) (Eg (wC (D.int 1)))) (AB 1))) (AR (AU (M8 false) (AU A8 (BE 4) (Eg (wC (D.int 1)))) (AB 3)))) (Ac (Az 5 (BR [some 0,some 4,none] (Ws (AB 3)) (Af 2) (AR (AU (G4 true) (AZ LG (AE (AI (AB 0)) (AE (AI (BN (AF (AB 2) (AF (AU A8 (BE 1) (Eg (wC (D.int 1)))) AT)))) AY))) (wC D.non))) (AB 2)))
 (Ac (Az 5 (BR [some 3,some 0,some 4,none] (BI (AB 5)) (Af 3) (AR (AU (D_ false) (AU Aq (AU EW (AB 0) (AB 3)) (AZ LG (AE (AI (AB 1)) (AE (AI (BN (AF (AB 3) (AF (AU A8 (BE 2) (Eg (wC (D.int 1)))) AT)))) AY)))) (AU EW (AB 0) (AU A8 (BE 2) (Eg (wC (D.int 1))))))) (AB 3)))
 (TF 4 "list" KH (AF (AU A8 (AB 5) (wC (D.int 0))) AT)))))
 (Au (VY (AR (AU (D_ false) (AU A8 (BE 4) (Eg (wC (D.int 1)))) (AB 1))) (B8 B6 (AF (Rc (BE 4) (Eg (wC (D.int 1)))) AT)) (BN (AF (AB 1) (AF (AB 2) AT))))))))
def Fg:Aj:=(Ac (Az 4 (wC D.non))
 (Ac (Az 5 (B8 DU (AF (BN (AF (AB 0) (AF (AB 2) (AF (AB 3) AT)))) AT)))
 (Ac (ZQ (Wp 4 (TQ JI (AE (AI (AB 0)) (AE (AI (AB 1)) (AE (AI (AB 2)) (AE (AI (AB 3)) AY))))))
 (TL "ThinError" 7 (λa=>(Az 4 (TR a 7 NV (AE (TV 7) AY))))
 TK))
 (Ac (Az 6 (AZ NW (AE (AI (AB 0)) (AE (AI (AB 1)) (AE (AI (AB 2)) (AE (AI (AB 3)) AY))))))
 (Au (HJ (AU (D_ false) (B8 DU (AF (AB 4) AT)) (B8 DU (AF (VY (AR (AU (G4 false) (AB 6) (wC D.non))) (wC (D.bl true)) (AB 6)) AT))) (AU (D_ false) (B8 DU (AF (BN (AF (AB 0) (AF (AB 2) (AF (AB 3) AT)))) AT)) (AB 5))))))))
def C_:Aj:=(Ac (BG (CG (AR (AU Uy (AB 2) (BN AT))) (AR (AU (D_ false) (AZ BA (AE (Aw 0) (AE (AI (wC (D.int 4))) AY))) (wC (D.int 0))))) (Au (AZ Kq (AE (Aw 0) (AE (AI (AB 2)) (AE (AI (wC (D.int 3))) AY))))) Av)
 (Ac (Az 3 (AZ BA (AE (Aw 0) (AE (AI (B8 Ce (AF (AB 2) AT))) AY))))
 (Ac (Az 4 (AU A8 (AB 2) (AB 3)))
 (Ac (Az 5 (DA (AF (Rc (AB 4) (Eg (wC (D.int 1)))) (AF (AU Aq (F5 CJ (AB 4) A6 (BK (wC (D.int 2)))) (AB 4)) (AF (AU Aq (AB 4) (F5 CJ (AB 4) (BK (Eg (wC (D.int 2)))) A6)) (AF (F5 CJ (AB 4) A6 (BK (Eg (wC (D.int 1))))) (AF (F5 CJ (AB 4) (BK (wC (D.int 1))) A6) (AF (B8 M6 (AF (AB 4) AT)) (AF (BN (AF (AU A8 (AB 4) (wC (D.int 0))) (AF (AU A8 (AB 4) (Eg (wC (D.int 1)))) AT))) (AF (wC D.non) (AF (BN AT) AT)))))))))))
 (Ac (Az 5 (AU Aq (AB 5) (DA (AF (AU A8 (AB 2) (AZ BA (AE (Aw 0) (AE (AI (B8 Ce (AF (AB 2) AT))) AY)))) (AF (AU Aq (AU Aq (F5 CJ (AB 4) A6 (BK (wC (D.int 1)))) (BN (AF (AU A8 (AU A8 (AB 1) (wC (D.int 0))) (AZ BA (AE (Aw 0) (AE (AI (B8 Ce (AF (AU A8 (AB 1) (wC (D.int 0))) AT))) AY)))) AT))) (F5 CJ (AB 4) (BK (wC (D.int 1))) A6)) AT)))))
 (Ac (Az 6 (AU A8 (AB 5) (AZ BA (AE (Aw 0) (AE (AI (B8 Ce (AF (AB 5) AT))) AY)))))
 (Ac (Az 7 (DA (AF (AU Aq (AU Aq (F5 CJ (AB 2) A6 (BK (AB 3))) (BN (AF (AB 6) AT))) (F5 CJ (AB 2) (BK (AU Aq (AB 3) (wC (D.int 1)))) A6)) (AF (AU Aq (F5 CJ (AB 2) A6 (BK (AB 3))) (F5 CJ (AB 2) (BK (AU Aq (AB 3) (wC (D.int 1)))) A6)) (AF (AU Aq (AB 2) (BN (AF (AB 4) AT))) (AF (Rc (AB 2) (Eg (wC (D.int 1)))) AT))))))
 (Au (AU A8 (AB 7) (AU A8 (DA (AF (wC (D.int 0)) (AF (wC (D.int 0)) (AF (wC (D.int 0)) (AF (wC (D.int 0)) (AF (wC (D.int 1)) (AF (wC (D.int 2)) (AF (wC (D.int 3)) AT)))))))) (AZ BA (AE (Aw 0) (AE (AI (wC (D.int 7))) AY)))))))))))))
def Ly:Aj:=(Ac (Az 2 (AZ Wj (AE (Aw 1) (AE (AI (wC (D.int 7))) (AE (AI (wC (D.int 12))) AY)))))
 (Ac (Az 3 (AZ NT (AE (Aw 1) AY)))
 (Ac (E6 (EJ (AF (wC (D.int 3)) AT)) (Af 4) (Ac (Az 5 (AZ NU (AE (Aw 1) (AE (AI (AB 2)) (AE (AI (AB 3)) AY)))))
 (Ac (Az 6 (AZ Dg (AE (AI (BR [some 5,none] (BI (AU A8 (AB 2) (wC (D.int 1)))) (Af 1) (AR (AU (DV true) (AB 1) (AU A8 (AB 0) (wC (D.int 1))))) (AB 1))) AY)))
 (Ac (Az 7 (B8 B6 (AF (BR [some 5,none] (BI (AB 6)) (Af 1) CW (AZ Kp (AE (AI (AB 0)) (AE (AI (AU A8 (AB 1) (wC (D.int 0)))) (AE (AI (AU A8 (AB 1) (wC (D.int 1)))) AY))))) AT)))
 (Ac (BG (Be (AR (AZ EH (AE (AI (AB 2)) (AE (AI (AB 3)) (AE (AI (AB 5)) (AE (AI (AB 7)) AY))))))) (Au (wC (D.bl false))) Av)
 (E6 (EJ (AF (wC (D.int 4)) AT)) (Af 8) (Ac (Az 9 (AZ RQ (AE (Aw 1) (AE (AI (AB 2)) (AE (AI (AB 7)) AY)))))
 (Ac (BG (AR (AU (D_ false) (AZ BA (AE (Aw 1) (AE (AI (wC (D.int 4))) AY))) (wC (D.int 0)))) (Az 9 (AZ Kq (AE (Aw 1) (AE (AI (AB 9)) (AE (AI (wC (D.int 3))) AY))))) Av)
 (Ac (BG (Be (AR (AZ EH (AE (AI (AB 2)) (AE (AI (AB 3)) (AE (AI (AB 5)) (AE (AI (AB 9)) AY))))))) (Au (wC (D.bl false))) Av)
 (BG (Be (AR (AZ EH (AE (AI (AB 2)) (AE (AI (AB 3)) (AE (AI (AZ Kq (AE (Aw 1) (AE (AI (AB 5)) (AE (AI (wC (D.int 4))) AY))))) (AE (AI (AB 7)) AY))))))) (Au (wC (D.bl false))) Av))))))))))
 (Ac (E6 (BI (DA (AF (wC D.non) (AF (wC (D.bl true)) (AF (BN AT) (AF (DA AT) (AF (wC (D.int 0)) (AF (BN (AF (BN AT) AT)) (AF (BN (AF (wC D.non) AT)) (AF (AB 2) AT)))))))))) (Af 10) (BG (CG (Be (AR (AZ EH (AE (AI (AB 2)) (AE (AI (AB 3)) (AE (AI (AB 10)) (AE (AI (BN AT)) AY))))))) (Be (AR (AZ EH (AE (AI (AB 2)) (AE (AI (AB 3)) (AE (AI (AB 2)) (AE (AI (AB 10)) AY)))))))) (Au (wC (D.bl false))) Av))
 (Au (wC (D.bl true)))))))
theorem La(M:Net)(d:D):Mr M d=.non\/∃(x:Str) (r:List Str) (l:Int),d=S8 (x::r)/\Mr M d=.int l:=by
 cases d with
 | tup xs =>
  by_cases ha:xs.all Cq=true
  ·obtain⟨ys,rfl⟩:=Gp ha
   have e:Mr M (.tup (ys.map .str))=Uj M ys:=by
    show (if (ys.map D.str).all Cq then Uj M (strsOf (ys.map .str)) else .non)=_;rw [if_pos ha,B9]
   rw [e];cases ys with
   | nil=>exact .inl rfl
   | cons x r =>
    show (if x∈M.ps then Nt.MO (FS M.ts x r 0) else .non)=.non\/_
    by_cases a:x∈M.ps
    ·rw [if_pos a]
     cases c:FS M.ts x r 0 with
     | none=>exact .inl rfl
     | some l=>exact .inr ⟨x,r,l,rfl,by show (if x∈M.ps then Nt.MO (FS M.ts x r 0) else .non)=_; rw [if_pos a,c]; rfl⟩
    ·rw [if_neg a]; exact .inl rfl
  ·exact .inl (if_neg ha)
 | _=>exact .inl rfl
theorem SO(M:Net)(a b:Str)(d:D):YU M a b d=.non\/∃l,YU M a b d=.int l:=by
 unfold YU
 split
 ·split
  ·exact .inr ⟨_,rfl⟩
  ·exact .inl rfl
 ·exact .inl rfl
theorem Q3{xs:List D}(h:K9 (.tup xs)){d:D}(hd:d∈xs):K9 d:=by
 have h1:B7 xs<=160000:=h.2.1;have h2:C9 xs+1<=50:=h.2.2
 have:=MD hd
 have:=dps_le.mp (On (C9 xs)) d hd
 exact⟨fines_iff.mp h.1 d hd,by omega,by omega⟩
theorem OV{N:Net}{ts:List BP}:(N.ts.map Aa).filter (λd=>!((ts.map Aa).any λy=>GA y d))=(OW N ts).map Aa:=by
 unfold OW;rw [List.filter_map]
 congr 1
 refine List.filter_congr λt _=>?_;show (!((ts.map Aa).any λy=>GA y (Aa t)))=decide (t∉ts);rw [NP,decide_not]
section
variable {ss:List Slot}{n:Nat}{Pd:D->Nat->Prop}{Pr:PX}
theorem Vk(h:RT ss n Pd):DZ (EE Pd) n (ss++Uf 1 .no):=by
 obtain⟨M,a,b,d,rfl,c,hd,p⟩:=h;unfold DZ;refine⟨M,d,rfl,c.1,by have:=c.2.1; omega,c.2.2,hd,?_⟩;unfold YU at p
 rcases La M d with e | ⟨x,r,l,rfl,e⟩
 ·rw [e] at p ⊢
  exact⟨rfl,p⟩
 ·rw [e] at p ⊢
  have f:Vg (S8 (x::r))=x::r:=B9 _;simp only [f] at p;obtain⟨y,hy⟩:∃y,(x::r).getLast?=some y:=⟨_,iU (by simp)⟩;refine⟨rfl,.str x,AO (j:=0) rfl,?_⟩;show if (!(x==a))=true then _ else _
  rw [hy] at p;have p:Pd (if (some x==some a&&some y==some b)=true then .int l else .non) n:=p;rw [gX,gX] at p;cases c1:x==a with
  | false=>rw [c1] at p; exact Bi p
  | true =>
   rw [c1] at p;refine BQ ⟨1,rfl,.str y,Ms hy,?_⟩;show if (!(y==b))=true then _ else _
   cases c2:y==b with
   | false=>rw [c2] at p; exact Bi p
   | true=>rw [c2] at p; exact BQ p
theorem Vi(h:PD ss n Pd):GB (EE Pd) n (ss++Uf 1 .no):=by
 obtain⟨M,t,b,u,d,rfl,f,⟨b1,b2,t1,t2⟩,hd,p⟩:=h;unfold GB;unfold S7 at p;refine⟨_,AO (j:=0) rfl,_,AO (j:=1) rfl,M,u.a,u.b,d,rfl,f,hd,?_⟩
 rcases SO M u.a u.b d with e | ⟨l,e⟩
 ·rw [e] at p ⊢
  exact⟨rfl,p⟩
 ·rw [e] at p ⊢
  refine⟨rfl,_,AO (j:=2) rfl,l,t,b,u.len,rfl,b1,b2,t1,t2,?_⟩;have p:Pd (if l*b<=u.len*t then .non else .str "far") n:=p;show if decide (l*b<=u.len*t)=true then _ else _
  by_cases c:l*b<=u.len*t
  ·rw [if_pos c] at p; rw [decide_eq_true c]; exact Bi p
  ·rw [if_neg c] at p; rw [decide_eq_false c]; exact BQ p
theorem RZ(M:Net)(t b:Int)(u:BP)(d:D):S7 M t b u d=.non\/∃w,S7 M t b u d=.str w:=by
 unfold S7
 split
 ·split
  ·exact .inl rfl
  ·exact .inr ⟨_,rfl⟩
 ·exact .inr ⟨_,rfl⟩
theorem Rv(h:JI ss n Pd Pr):EC Pr (EE Pd) n (ss++Uf 3 .no):=by
 obtain⟨N,t,b,d,p,rfl,a,l,tm,⟨f1,f2,f3⟩,fp,q0,q⟩:=h;have m:=a.2.2;have r:=PySem.sizeLine_eq;unfold EC;refine⟨N,d,rfl,a.1,l,m,f1,f2,f3,?_⟩;show if (!thinB N d)=true then _ else _
 cases c:thinB N d with
 | false=>exact Bi (.inr ⟨rfl,rfl,q0 (.inl c)⟩)
 | true =>
  obtain⟨ts,rfl,ht⟩:=thinB_iff.mp c;have ht:thn N ts:=ht;have o:=ht.okN a;refine BQ ⟨N,ts,rfl,a.1,by omega,ht.1,λlo p1 p2=>⟨_,_,rfl,rfl,?_⟩⟩;refine⟨_,_,rfl,?_⟩;have q':=q ts lo rfl ht p1 p2;show if (!(tupleOfB ((lo.map Aa).length:Int) p))=true then _ else _
  have i:(lo.map Aa).length=lo.length:=Go ..;rw [i];cases p with
  | tup ds =>
   have q':Tf (if ds.length=lo.length then Hl ⟨N.ps,ts⟩ t b 0 lo ds else OG "shape" 0) Pd Pr n:=q';show if (!((ds.length:Int)==(lo.length:Int)))=true then _ else _
   by_cases k:ds.length=lo.length
   ·rw [if_pos k] at q'
    rw [show ((ds.length:Int)==(lo.length:Int))=true by rw [k]; exact beq_self_eq_true _];refine BQ ⟨N,ts,rfl,a.1,by omega,ht.1,λs p3 p4=>⟨_,rfl,?_⟩⟩;rw [Hv (p3.trans p1.symm) p4 p2]
    have go:∀(us:List BP) (d1 d2:List D) (s4 s5 s6:Slot),d1++d2=ds->d2.length=us.length->Tf (Hl ⟨N.ps,ts⟩ t b d1.length us d2) Pd Pr n ->
      Bm (E9 2 (Ay (Af 4) (Ay (Af 5) Cj))) (Ac (Az 6 (AZ PD (AE (AI (AB 2)) (AE (AI (AB 1)) (AE (AI (AB 5)) (AE (AI (AU A8 (AB 3) (AB 4))) AY))))))
 (BG (AR (AU (G4 true) (AB 6) (wC D.non))) (λD2=>(L_ "NoPaper" ["word","number"] (AF (AB 6) (AF (AB 4) AT))) D2 Pr) Av)) { EE Pd with nx:=Au (wC (D.bl true)) (EE Pd) } (FW d1.length (us.map Aa)) n [.sh (enc N),.sh (.tup [.int t,.int b]),.sh (enc ⟨N.ps,ts⟩),.sh (.tup ds),s4,s5,s6]:=by
     intro us
     induction us with
     | nil=>intro d1 d2 s4 s5 s6 _ f g; cases d2 with
      | nil=>exact g
      | cons _ _=>cases f
     | cons u us ih =>
      intro d1 d2 s4 s5 s6 e f g
      match d2,f,g with
      | w::d2,f,g =>
       have j:ds[d1.length]?=some w:=by rw [← e,eB (On _),Nat.sub_self]; rfl
       refine⟨rfl,rfl,_,AO j,⟨N.ps,ts⟩,t,b,u,w,rfl,o,tm,Q3 fp (dj j),?_⟩;unfold Hl at g
       rcases RZ ⟨N.ps,ts⟩ t b u w with e1 | ⟨x,e1⟩
       ·rw [e1] at g ⊢
        refine⟨rfl,?_⟩
        have:=ih (d1++[w]) d2 (.sh (.int (d1.length:Int))) (.sh (Aa u)) (.sh .non) (by rw [eR]; exact e) (jy f)
        rw [XV,dB] at this;exact this g
       ·rw [e1] at g ⊢
        exact⟨rfl,.inr ⟨rfl,rfl,g⟩⟩
    exact go lo [] ds _ _ _ rfl k q'
   ·rw [if_neg k] at q'
    rw [show ((ds.length:Int)==(lo.length:Int))=false by rw [beq_eq_false_iff_ne]; omega];exact Bi (.inr ⟨rfl,rfl,q'⟩)
  | _=>exact Bi (.inr ⟨rfl,rfl,q'⟩)
theorem Z9(d e:D):fR ("word":Str) ((["word","number"]:List Str).zip [d,e])=some d:=rfl
theorem Z8(d e:D):fR ("number":Str) ((["word","number"]:List Str).zip [d,e])=some e:=by simp [fR]; rw [show (("number":Str) == "word")=false by decide]
theorem Tv(h:NV ss n Pd):EZ (EE Pd) n (ss++Uf 1 .no):=by
 obtain⟨a,w,k,rfl,p⟩:=h;unfold EZ;exact⟨_,Z9 _ _,_,Z8 _ _,z2,p⟩
theorem Tx(h:NW ss n Pd):Dv (EE Pd) n (ss++Uf 4 .no):=by
 obtain⟨N,t,b,d,p,rfl,g,A,⟨b1,b2,t1,t2⟩,⟨f1,f2,f3⟩,fp,q0,q⟩:=h;have B:=g.2.2;have E:=PySem.sizeLine_eq;unfold Dv;refine⟨N,d,rfl,g.1,A,B,f1,f2,f3,?_⟩;show if (!thinB N d)=true then _ else _
 cases c:thinB N d with
 | false=>exact Bi ⟨z2,q0 (.inl c)⟩
 | true =>
  obtain⟨ts,rfl,ht⟩:=thinB_iff.mp c;have ht:thn N ts:=ht;have o:=ht.okN g;have fin:∀ds,p=.tup ds->(Ac (Az 4 (AZ Dg (AE (AI (BR [some 2,none] (BI (AU A8 (AB 0) (wC (D.int 1)))) (Af 1) (AR (AU (DV true) (AB 1) (AU A8 (AB 0) (wC (D.int 1))))) (AB 1))) AY)))
 (Ac (BG (AR (AU (D_ true) (B8 Ce (AF (AB 3) AT)) (B8 Ce (AF (AB 4) AT)))) (Au (BN (AF (wC (D.str "shape")) (AF (wC (D.int 0)) AT)))) Av)
 (Ac (E6 (QV (AB 4)) (E9 2 (Ay (Af 5) (Ay (Af 6) Cj))) NL)
 (Au (wC D.non))))) (EE Pd) n [.sh (enc N),.sh (.tup [.int t,.int b]),.sh (enc ⟨N.ps,ts⟩),.sh p,.no,.no,.no,.no]:=λds ep=>by
   refine⟨_,AO (j:=1) rfl,by show (N.ts.map Aa).length<=10000000; rw [Go]; omega,?_⟩;refine Cw (λd=>!((ts.map Aa).any λy=>GA y d)) id (λρ=>∃s,ρ=[.sh (enc ⟨N.ps,ts⟩),s]) _ _ _ _ ?_ ⟨_,rfl⟩ ?_
   ·rintro d hd ρ m nx sk ⟨s,rfl⟩ h1 h2
    obtain⟨t,C,rfl⟩:=Rs.mp hd;refine⟨_,AO (j:=1) rfl,Iz g.1 C,(EQ g.1 ht.1).1,_,rfl,?_⟩;exact B3 (λc=>h1 _ ⟨_,rfl⟩ c) λc=>h2 _ ⟨_,rfl⟩ (d7.mpr c)
   rw [cy,g_,OV];refine⟨_,OW N ts,rfl,rfl,fD (eM _ _) (by omega),λlo p1 p2=>?_⟩;have q':=q ts lo rfl ht p1 p2;subst ep;have q':Pd (if ds.length=lo.length then Hl ⟨N.ps,ts⟩ t b 0 lo ds else OG "shape" 0) n:=q';refine⟨_,_,rfl,rfl,_,_,rfl,rfl,?_⟩;show if (!((ds.length:Int)==((lo.map Aa).length:Int)))=true then _ else _
   rw [Go]
   by_cases v:ds.length=lo.length
   ·rw [if_pos v] at q'
    rw [v,beq_self_eq_true];refine BQ ⟨_,rfl,?_⟩
    have go:∀(us:List BP) (d1 d2:List D) (s5 s6 s7:Slot),d1++d2=ds->d2.length=us.length->Pd (Hl ⟨N.ps,ts⟩ t b d1.length us d2) n ->
      Bm (E9 2 (Ay (Af 5) (Ay (Af 6) Cj))) NL { EE Pd with nx:=Au (wC D.non) (EE Pd) } (FW d1.length (us.map Aa)) n [.sh (enc N),.sh (.tup [.int t,.int b]),.sh (enc ⟨N.ps,ts⟩),.sh (.tup ds),.sh (.lst (lo.map Aa)),s5,s6,s7]:=by
     intro us
     induction us with
     | nil=>intro d1 d2 s4 s5 s6 _ i f; cases d2 with
      | nil=>exact f
      | cons _ _=>cases i
     | cons u us ih =>
      intro d1 d2 s5 s6 s7 e i f
      match d2,i,f with
      | w::d2,i,f =>
       have k:ds[d1.length]?=some w:=by rw [← e,eB (On _),Nat.sub_self]; rfl
       refine⟨rfl,rfl,_,AO k,⟨N.ps,ts⟩,w,rfl,o.1,by have:=o.2.1; omega,o.2.2,Q3 fp (dj k),?_⟩;unfold Hl S7 YU at f
       rcases La ⟨N.ps,ts⟩ w with e1 | ⟨x,r,l,rfl,e1⟩
       ·rw [e1] at f ⊢
        exact⟨rfl,z2,f⟩
       ·rw [e1] at f ⊢
        have F:Vg (S8 (x::r))=x::r:=B9 _;simp only [F] at f;obtain⟨y,hy⟩:∃y,(x::r).getLast?=some y:=⟨_,iU (by simp)⟩;rw [hy,show ((x::r).head?==some u.a)=(x==u.a) from gX,show (some y==some u.b)=(y==u.b) from gX] at f;refine⟨rfl,_,AO k,.str x,AO (j:=0) rfl,_,AO (j:=0) rfl,?_⟩;show if (!(x==u.a))=true then _ else _
        cases c1:x==u.a with
        | false=>rw [c1] at f; exact Bi ⟨z2,f⟩
        | true =>
         rw [c1] at f;refine BQ ⟨_,AO k,1,rfl,.str y,Ms hy,_,AO (j:=1) rfl,?_⟩;show if (!(y==u.b))=true then _ else _
         cases c2:y==u.b with
         | false=>rw [c2] at f; exact Bi ⟨z2,f⟩
         | true =>
          rw [c2] at f;refine BQ ⟨_,AO (j:=1) rfl,.inr ⟨by omega,by omega⟩,_,AO (j:=2) rfl,_,AO (j:=0) rfl,.inr ⟨by omega,by omega⟩,?_⟩;show if decide (u.len*t<l*b)=true then _ else _
          by_cases cc:l*b<=u.len*t
          ·rw [decide_eq_false (by omega)]
           have f:Pd (match (if l*b<=u.len*t then D.non else .str "far") with | .str w=>OG w d1.length | _=>Hl ⟨N.ps,ts⟩ t b (d1.length+1) us d2) n:=f;rw [if_pos cc] at f
           have:=ih (d1++[S8 (x::r)]) d2 (.sh (.int (d1.length:Int))) (.sh (Aa u)) (.sh (.int l)) (by rw [eR]; exact e) (jy i)
           rw [XV,dB] at this;exact BQ (this f)
          ·rw [decide_eq_true (by omega)]
           have f:Pd (match (if l*b<=u.len*t then D.non else .str "far") with | .str w=>OG w d1.length | _=>Hl ⟨N.ps,ts⟩ t b (d1.length+1) us d2) n:=f;rw [if_neg cc] at f;exact Bi ⟨z2,f⟩
    exact go lo [] ds _ _ _ rfl v q'
   ·rw [if_neg v] at q'
    rw [show ((ds.length:Int)==(lo.length:Int))=false by rw [beq_eq_false_iff_ne]; omega];exact Bi ⟨z2,q'⟩
  cases p with
  | tup ds=>exact BQ (fin ds rfl)
  | _=>exact BQ ⟨z2,q0 (.inr λ_ z=>by cases z)⟩
end
theorem Q9(M:Net)(t b:Int):∀(us:List BP) (ds:List D) (k:Nat),Hl M t b k us ds=.non\/∃w j,Hl M t b k us ds=OG w j/\(w = "way"\/w = "far")/\j<k+us.length
 | [],_,_=>.inl rfl
 | _::_,[],_=>.inl rfl
 | u::us,d::ds,k=>by
  have e:S7 M t b u d=.non\/S7 M t b u d=.str "far"\/S7 M t b u d=.str "way":=by
   unfold S7
   split
   ·split
    ·exact .inl rfl
    ·exact .inr (.inl rfl)
   ·exact .inr (.inr rfl)
  unfold Hl
  rcases e with e | e | e
  ·rw [e]
   rcases Q9 M t b us ds (k+1) with h | ⟨w,j,h,h1,h2⟩
   ·exact .inl h
   ·exact .inr ⟨w,j,h,h1,by rw [ZB]; omega⟩
  ·rw [e]; exact .inr ⟨_,k,rfl,.inr rfl,by rw [ZB]; omega⟩
  ·rw [e]; exact .inr ⟨_,k,rfl,.inl rfl,by rw [ZB]; omega⟩
theorem Nq{w:Str}{k:Nat}(hw:w = "way"\/w = "far"\/w = "shape")(a:k<=1000):Gr (OG w k):=by
 have hi:item (.str w):=by rcases hw with rfl | rfl | rfl <;> exact item_str (by decide) (by decide +kernel)
 refine Ip (B:=1000001) (by decide) ⟨hi.1,by show (k:Int).natAbs<=1000001; omega,trivial⟩ ?_ ?_
 ·have:=hi.2.2
  show max (Cr (.str w)) (max 0 0)+1<=100;omega
 ·have:=hi.2.1
  show szD (.str w)+1+(200+1+0)<=200000;omega
theorem WK(M:Net)(t b:Int)(lo:List BP)(p:D):QD M t b lo p=.non\/∃w j,QD M t b lo p=OG w j/\(w = "way"\/w = "far"\/w = "shape")/\j<=lo.length:=by
 unfold QD
 split
 ·split
  ·rcases Q9 M t b lo _ 0 with h | ⟨w,j,h,h1,h2⟩
   ·exact .inl h
   ·exact .inr ⟨w,j,h,by rcases h1 with h1 | h1 <;> simp [h1],by omega⟩
  ·exact .inr ⟨_,0,rfl,.inr (.inr rfl),TM _⟩
 ·exact .inr ⟨_,0,rfl,.inr (.inr rfl),TM _⟩
theorem Nf:∀{ts us:List BP},ts.map Aa=us.map Aa->ts=us
 | [],[],_=>rfl
 | t::ts,u::us,h=>by
  have h1:Aa t=Aa u:=by injection h
  have h2:ts.map Aa=us.map Aa:=by injection h
  rw [Nf h2];obtain⟨a,b,l⟩:=t;obtain⟨a',b',l'⟩:=u;unfold Aa at h1;injection h1 with h1
  injection h1 with e1 h1
  injection h1 with e2 h1
  injection h1 with e3 _
  injection e1 with e1
  injection e2 with e2
  injection e3 with e3
  subst e1 e2 e3;rfl
section
variable {ss:List Slot}{n:Nat}{Pd:D->Nat->Prop}
theorem Tz(h:EH ss n Pd):Fg (EE Pd) n (ss++Uf 4 .no):=by
 obtain⟨N,t,b,d,p,rfl,c,f,tm,hd,hp,o,q⟩:=h;have sz:=PU c;have i:=c.2.2
 have s3:Gr (.tup [enc N,d,p]):=by
  refine Np (B:=10 ^ 41) (by decide) ⟨sz.1.mono (by decide),hd.1,hp.1.mono (by decide),trivial⟩ ?_ ?_
  ·have:=sz.2.2
   have:=hd.2.2
   have:=hp.2.2
   show max (Cr (enc N)) (max (Cr d) (max (Cr p) 0))+1<=100;omega
  ·show szD (enc N)+1+(szD d+1+(szD p+1+0))<=270000
   omega
 unfold Fg;refine⟨(by decide:3<=sizeLine),_,rfl,s3,?_⟩;generalize eS:BF (.tup [enc N,d,p])=S
 have lastN:∀w k,Gr (OG w k)->(Au (HJ (AU (D_ false) (B8 DU (AF (AB 4) AT)) (B8 DU (AF (VY (AR (AU (G4 false) (AB 6) (wC D.non))) (wC (D.bl true)) (AB 6)) AT))) (AU (D_ false) (B8 DU (AF (BN (AF (AB 0) (AF (AB 2) (AF (AB 3) AT)))) AT)) (AB 5)))) (EE Pd) n [.sh (enc N),.sh (.tup [.int t,.int b]),.sh d,.sh p,.sh (OG w k),.sh (.str S),.sh (OG w k),.no]:=by
  intro w k hr;refine⟨_,rfl,hr,rfl,_,rfl,hr,?_⟩;generalize BF (OG w k)=Z;show (match (.bl (Z==Z):D) with | .bl true=>_ | .bl false=>_ | _=>False);rw [beq_self_eq_true];refine⟨(by decide:3<=sizeLine),_,rfl,s3,?_⟩;show Pd (.bl (BF (.tup [enc N,d,p])==S)) n;rw [eS,beq_self_eq_true];exact q
 have lastT:(Au (HJ (AU (D_ false) (B8 DU (AF (AB 4) AT)) (B8 DU (AF (VY (AR (AU (G4 false) (AB 6) (wC D.non))) (wC (D.bl true)) (AB 6)) AT))) (AU (D_ false) (B8 DU (AF (BN (AF (AB 0) (AF (AB 2) (AF (AB 3) AT)))) AT)) (AB 5)))) (EE Pd) n [.sh (enc N),.sh (.tup [.int t,.int b]),.sh d,.sh p,.sh (.bl true),.sh (.str S),.sh .non,.no]:=by
  have hr:Gr (.bl true):=Ip (B:=1) (by decide) trivial (TM _) (TM _);refine⟨_,rfl,hr,rfl,_,rfl,hr,?_⟩;generalize BF (.bl true)=Z;show (match (.bl (Z==Z):D) with | .bl true=>_ | .bl false=>_ | _=>False);rw [beq_self_eq_true];refine⟨(by decide:3<=sizeLine),_,rfl,s3,?_⟩;show Pd (.bl (BF (.tup [enc N,d,p])==S)) n;rw [eS,beq_self_eq_true];exact q
 have thinT:∀{ts:List BP},d=enc ⟨N.ps,ts⟩->thn N ts->thinB N d=true:=λe h=>by rw [e]; exact h.thinB
 refine⟨N,t,b,d,p,rfl,c,f,tm,hd,hp,λh0=>?_,λts lo e1 ht p1 p2=>?_⟩
 ·refine λa=>⟨⟨_,_,_,rfl⟩,a,_,_,rfl,?_⟩
  have hS:=Nq (w := "shape") (k:=0) (.inr (.inr rfl)) (TM _);refine⟨N,t,b,d,p,rfl,c,f,tm,hd,hp,λ_=>lastN _ _ hS,λts lo e1 ht p1 p2=>?_⟩
  rcases h0 with h0 | h0
  ·rw [thinT e1 ht] at h0; cases h0
  ·have e:QD ⟨N.ps,ts⟩ t b lo p=OG "shape" 0:=by
    cases p with
    | tup ds=>exact absurd rfl (h0 ds)
    | _=>rfl
   rw [e];exact lastN _ _ hS
 ·have s:lo.length<=60:=by rw [p1.length_eq]; exact cx (eM _ _) i
  have g:∀(r:D) (Q:D->Prop),r=QD ⟨N.ps,ts⟩ t b lo p->Q r->ZH N t b d p Q:=λr Q er hQ=>by
   refine⟨c,f,tm,hd,hp,λh0=>?_,λj l f1 m p3 p4=>?_⟩
   ·rcases h0 with h0 | h0
    ·rw [thinT e1 ht] at h0; cases h0
    ·have e:QD ⟨N.ps,ts⟩ t b lo p=OG "shape" 0:=by
      cases p with
      | tup ds=>exact absurd rfl (h0 ds)
      | _=>rfl
     rw [← e,← er];exact hQ
   ·have e2:ts.map Aa=j.map Aa:=by
     rw [e1] at f1;injection f1 with f1; injection f1 with _ f1; injection f1 with f1; injection f1
    have e3:=Nf e2;subst e3;rw [Hv (p3.trans p1.symm) p4 p2,← er];exact hQ
  rcases WK ⟨N.ps,ts⟩ t b lo p with er | ⟨w,k,er,hw,u⟩
  ·rw [er]
   exact⟨N,t,b,d,p,rfl,g _ _ er.symm lastT⟩
  ·rw [er]
   refine λa=>⟨⟨_,_,_,rfl⟩,a,_,_,rfl,?_⟩;exact⟨N,t,b,d,p,rfl,g _ _ er.symm (lastN _ _ (Nq hw (by omega)))⟩
end
theorem Mq{M:Net}{y x:Str}:Mr M (.tup [.str y,.str x])=if y∈M.ps then Nt.MO ((look M.ts y x).map (0+·)) else .non:=by
 show (if y∈M.ps then Nt.MO (FS M.ts y [x] 0) else .non)=_;unfold FS;cases look M.ts y x <;> rfl
def ZJ(M:Net)(x:Str)(d:D):Bool:=!Oc (Mr M (.tup [d,.str x]))
def Yw(M:Net)(K:Kn)(x:Str)(dx:Int):D->Bool
 | .str y=>match K y,look M.ts y x with
  | some dy,some l=>dy+(0+l)==dx
  | _,_=>false
 | _=>false
theorem QI{M:Net}{K:Kn}{x y:Str}{dx dy:Int}(ey:K y=some dy):Yw M K x dx (.str y)=match look M.ts y x with | some l=>dy+(0+l)==dx | none=>false:=by
 show (match K y,look M.ts y x with | some dy,some l=>dy+(0+l)==dx | _,_=>false)=_;rw [ey];cases look M.ts y x <;> rfl
theorem VP{M:Net}(ok:M.Ok){a x:Str}{K:Kn}(T:LTold M a K){dx:Int}(e:K x=some dx)(ne:x≠a):∃y dy l,K y=some dy/\look M.ts y x=some l/\dy+l=dx:=by
 obtain⟨h1,h2⟩:=T.least x dx e;cases h1 with
 | nil=>exact absurd rfl ne
 | @snoc y _ d l w f =>
  have b:=T.all y d w;cases ey:K y with
  | none=>exact absurd ey b
  | some dy =>
   obtain⟨g1,g2⟩:=T.least y dy ey;refine⟨y,dy,l,ey,V7 ok f,?_⟩
   have:=g2 d w
   have:=h2 _ (.snoc g1 f)
   omega
structure OwnI (M:Net) (K:Kn) (acc:List Str) (x:Str):Prop where
 lst:acc.getLast?=some x
 nd:acc.Nodup
 ins:∀u∈acc,u∈M.ps
 far:∀dx,K x=some dx->∀u∈acc,∃du,K u=some du/\dx<=du
theorem OwnI.step{M:Net}{a:Str}{K:Kn}(T:LTold M a K){b:List Str}{x y:Str}(J:OwnI M K b x){dx dy l:Int}(ex:K x=some dx)(ey:K y=some dy)(l1:1<=l)(e:dy+l=dx):OwnI M K (b++[y]) y:=by
 have hy:y∉b:=λh=>by
  obtain⟨du,e1,e2⟩:=J.far dx ex y h;rw [ey] at e1;cases e1;omega
 refine⟨by simp,fL.mpr ⟨J.nd,by simp,λu hu v hv=>by rw [Tk.mp hv]; exact λz=>hy (z▸hu)⟩,λu hu=>?_,λd' e' u hu=>?_⟩
 ·rcases cu.mp hu with hu | hu
  ·exact J.ins u hu
  ·rw [Tk.mp hu]; exact T.ins y (by rw [ey]; simp)
 ·rw [ey] at e'
  cases e'
  rcases cu.mp hu with hu | hu
  ·obtain⟨du,e1,e2⟩:=J.far dx ex u hu
   exact⟨du,e1,by omega⟩
  ·rw [Tk.mp hu]; exact⟨dy,ey,Int.le_refl _⟩
theorem LM:∀{ks:List Key} {ds:List D} {k:Key} {d:D} {i:Nat},ks.Nodup->ks[i]?=some k->ds[i]?=some d->Bv ks ds k=some d
 | [],_,_,_,_,_,h,_=>by simp at h
 | _::_,[],_,_,_,_,_,h=>by simp at h
 | a::ks,e::ds,k,d,0,_,h1,h2=>by
  show (if a=k then some e else Bv ks ds k)=some d;rw [if_pos (cv h1)];exact h2
 | a::ks,e::ds,k,d,i+1,nd,h1,h2=>by
  show (if a=k then some e else Bv ks ds k)=some d;rw [if_neg λz=>(dM.mp nd).1 (by rw [z]; exact dj h1)];exact LM (dM.mp nd).2 h1 h2
theorem V_{ks:List Key}{ds:List D}{K:Kn}(M:Dmap ks ds D.int K):CT ds=true:=by
 rw [P0,d9];intro d hd;obtain⟨i,hi⟩:=List.getElem?_of_mem hd;have il:=(cr.mp hi).1;have ik:i<ks.length:=by rw [M.len]; exact il
 obtain⟨x,ex⟩:=M.dom _ (dX ik)
 obtain⟨a,ea⟩:∃a,d=.int a:=by
  have hv:=LM M.nd (by rw [No ik,ex]) hi;rw [M.at_] at hv;cases e:K x with
  | none=>rw [e] at hv; cases hv
  | some a=>rw [e] at hv; exact⟨a,(cv hv).symm⟩
 rw [ea];rfl
section
variable {ss:List Slot}{n:Nat}{Pd:D->Nat->Prop}
theorem Tw(h:Kp ss n Pd):Ea (EE Pd) n (ss++Uf 3 .no):=by
 obtain⟨M,a,b,rfl,g,ha,F,l2,p⟩:=h;have G:=PySem.sizeLine_eq;have H:=g.2.1;unfold Ea;refine⟨_,AO (j:=1) rfl,M,a,_,M.ts,rfl,rfl,λ_=>Iff.rfl,g,ha,λks ds K Mp T=>⟨ks,ds,rfl,V_ Mp,?_⟩⟩;refine⟨z1,?_⟩
 refine⟨λm n' ρ=>n'=n/\∃(i:List Str) (x:Str) (s5:Slot),ρ=[.sh (enc M),.sh (.str a),.sh (.str b),.sh (.fdi ks ds),.ow (.lst (i.map .str)),s5]/\OwnI M K i x/\m=((K x).getD 0).toNat,
  ⟨_,rfl,[b],b,_,rfl,⟨rfl,by simp,λu hu=>by rw [Tk.mp hu]; exact F,λdx e u hu=>by rw [Tk.mp hu]; exact⟨dx,e,Int.le_refl _⟩⟩,rfl⟩,?_⟩
 rintro m n' ρ ⟨rfl,i,x,s5,rfl,J,rfl⟩;have v:i.length<=M.ps.length:=Xl J.nd J.ins;have f:=Ms J.lst;have B:x∈M.ps:=J.ins x (List.mem_of_getLast? J.lst);refine⟨1,rfl,.str x,f,?_⟩
 have done:(Au (VY (AR (AU (D_ false) (AU A8 (BE 4) (Eg (wC (D.int 1)))) (AB 1))) (B8 B6 (AF (Rc (BE 4) (Eg (wC (D.int 1)))) AT)) (BN (AF (AB 1) (AF (AB 2) AT))))) (EE Pd) n' [.sh (enc M),.sh (.str a),.sh (.str b),.sh (.fdi ks ds),.ow (.lst (i.map .str)),s5]:=by
  refine⟨1,rfl,.str x,f,?_⟩;show if (x==a)=true then _ else _
  cases c:x==a with
  | true =>
   refine Bi ⟨1,rfl,rfl,?_⟩;show Pd (.tup (i.map D.str).reverse) n';rw [← List.map_reverse]
   have t:i.reverse≠[]:=λz=>by
    have:=J.lst
    rw [List.reverse_eq_nil_iff.mp z] at this;cases this
   cases er:i.reverse with
   | nil=>exact absurd er t
   | cons z r=>exact p z r (by rw [← er,gg]; exact v) λy hy=>J.ins y (gU.mp (by rw [er]; exact hy))
  | false=>exact BQ ⟨z2,p a [b] l2 λy hy=>by
    rcases T0.mp hy with rfl | hy
    ·exact ha
    ·rw [Tk.mp hy]; exact F⟩
 show if (!(x==a))=true then _ else _
 cases c:x==a with
 | true=>exact BQ done
 | false =>
  have ne:x≠a:=λz=>by rw [z,beq_self_eq_true] at c; cases c
  refine Bi ⟨1,rfl,.str x,f,ks,ds,_,rfl,Cd x,?_⟩;show if (Bv ks ds (.inr x)).isSome=true then _ else _
  rw [Mp.at_];cases ex:K x with
  | none=>exact BQ done
  | some dx =>
   refine Bi ⟨_,λ_ _ z=>z,?_⟩
   have q:∀d∈ks.map XX,∃y dy,d=.str y/\K y=some dy/\y∈M.ps:=λd hd=>by
    obtain⟨k,q,rfl⟩:=Rs.mp hd;obtain⟨y,rfl⟩:=Mp.dom k q;have h1:=(Mp.mem y).mp q;cases ey:K y with
    | none=>exact absurd ey h1
    | some dy=>exact⟨y,dy,rfl,ey,T.ins y h1⟩
   have f2:∀{y:Str},y∈M.ps->K9 (.tup [.str y,.str x]):=λhy=>Ra g.1 (w:=[_,x]) (show 2<=1000 by decide) λz C=>by
    rcases T0.mp C with rfl | C
    ·exact hy
    ·rw [Tk.mp C]; exact B
   have kl:=Mp.le λy hy=>T.ins y hy;refine⟨ks,ds,rfl,λk q=>?_,by rw [Go]; omega,?_⟩
   ·obtain⟨y,rfl⟩:=Mp.dom k q
    have:=(g.1.names y (T.ins y ((Mp.mem y).mp q))).2.1
    show y.length<=sizeLine;omega
   refine Cw (ZJ M x) id (λρ=>∃s,ρ=[.sh (enc M),.br (.lst (i.map .str)),s]) _ _ _ _ ?_ ⟨_,rfl⟩ ?_
   ·rintro d hd ρ m nx sk ⟨s,rfl⟩ h1 h2
    obtain⟨y,dy,rfl,ey,hy⟩:=q d hd;refine⟨1,rfl,.str x,f,z2,M,.tup [.str y,.str x],rfl,g.1,by omega,g.2.2,f2 hy,rfl,?_⟩;exact B3 (λc=>h1 _ ⟨_,rfl⟩ c) λc=>h2 _ ⟨_,rfl⟩ (d7.mpr c)
   rw [cy,g_];refine⟨cx (eM _ _) (by rw [Go]; omega),?_⟩;refine Cw (Yw M K x dx) id (λρ=>∃s,ρ=[.sh (.fdi ks ds),.sh (enc M),.br (.lst (i.map .str)),s]) _ _ _ _ ?_ ⟨_,rfl⟩ ?_
   ·rintro d hd ρ m nx sk ⟨s,rfl⟩ h1 h2
    obtain⟨hd,A⟩:=eU.mp hd;obtain⟨y,dy,rfl,ey,hy⟩:=q d hd;have A:(!Oc (Mr M (.tup [.str y,.str x])))=true:=A
    have el:∃l,look M.ts y x=some l:=by
     rw [Mq,if_pos hy] at A;cases e:look M.ts y x with
     | none=>rw [e] at A; cases A
     | some l=>exact⟨l,rfl⟩
    obtain⟨l,el⟩:=el;have e2:Mr M (.tup [.str y,.str x])=.int (0+l):=by rw [Mq,if_pos hy,el]; rfl
    refine⟨ks,ds,_,.int dy,rfl,Cd y,by rw [Mp.at_,ey]; rfl,1,rfl,.str x,f,z2,M,.tup [.str y,.str x],rfl,g.1,by omega,g.2.2,f2 hy,?_⟩;rw [e2];refine⟨1,rfl,.str x,f,ks,ds,_,.int dx,rfl,Cd x,by rw [Mp.at_,ex]; rfl,?_⟩;have ec:Yw M K x dx (.str y)=(dy+(0+l)==dx):=by rw [QI ey,el]
    rw [ec] at h1 h2;exact B3 (λc=>h1 _ ⟨_,rfl⟩ c) λc=>h2 _ ⟨_,rfl⟩ (d7.mpr c)
   rw [cy,g_]
   have t:((ks.map XX).filter (ZJ M x)).filter (Yw M K x dx)≠[]:=λz=>by
    obtain⟨y,dy,l,ey,el,e⟩:=VP g.1 T ex ne;have E:=T.ins y (by rw [ey]; simp)
    have hm:D.str y∈((ks.map XX).filter (ZJ M x)).filter (Yw M K x dx):=by
     refine eU.mpr ⟨eU.mpr ⟨Rs.mpr ⟨.inr y,(Mp.mem y).mpr (by rw [ey]; simp),rfl⟩,?_⟩,?_⟩
     ·unfold ZJ; rw [Mq,if_pos E,el]; rfl
     ·rw [QI ey,el]; show (dy+(0+l)==dx)=true; rw [beq_iff_eq]; omega
    rw [z] at hm;cases hm
   cases eL:((ks.map XX).filter (ZJ M x)).filter (Yw M K x dx) with
   | nil=>exact absurd eL t
   | cons z0 r0 =>
    have h0:z0∈((ks.map XX).filter (ZJ M x)).filter (Yw M K x dx):=by rw [eL]; exact Op
    obtain⟨h0,o⟩:=eU.mp h0;obtain⟨y,dy,rfl,ey,hy⟩:=q z0 (eU.mp h0).1
    obtain⟨l,el,e⟩:∃l,look M.ts y x=some l/\dy+(0+l)=dx:=by
     rw [QI ey] at o;cases e:look M.ts y x with
     | none=>rw [e] at o; cases o
     | some l=>rw [e] at o; exact⟨l,rfl,eq_of_beq o⟩
    have l1:=(Jw g.1 el).2.1;have I:0<=dy:=(T.least y dy ey).1.pos g.1;refine⟨_,rfl,rfl,_,AO (j:=0) rfl,_,_,rfl,rfl,by rw [Go]; omega,?_⟩;refine⟨_,?_,rfl,i++[y],y,.sh (.lst (.str y::r0)),?_,J.step T ex ey l1 (by omega),rfl⟩
    ·rw [ey]
     show dy.toNat<dx.toNat
     omega
    ·rw [de]
     rfl
end
def gW(d:D):Prop:=fine 1000001 d/\szD d<=6765/\Cr d<=2
theorem F9{xs:List D}(h:∀i∈xs,item i)(a:xs.length<=15):gW (.tup xs)/\gW (.lst xs):=by
 have s1:=GK (k:=451) λd hd=>fw (h d hd).2.1;have d1:C9 xs<=1:=dps_le.mpr λd hd=>(h d hd).2.2;have f1:EU 1000001 xs:=fines_iff.mpr λd hd=>(h d hd).1;have s2:B7 xs<=6765:=by omega
 have d2:C9 xs+1<=2:=by omega
 exact⟨⟨f1,s2,d2⟩,f1,s2,d2⟩
theorem isWy.szD{d:D}(h:isWy d):fine 1000001 d/\Nt.szD d+1<=3158/\Cr d<=2:=by
 obtain⟨xs,rfl,h1,h2,h3⟩:=h;have g:=(F9 h1 (by omega)).1;have s1:=GK (k:=451) λd hd=>fw (h1 d hd).2.1;exact⟨g.1,by show B7 xs+1<=3158; omega,g.2.2⟩
theorem N9{xs:List D}(a:xs.length<=12)(h:∀d∈xs,isWy d):EU 1000001 xs/\B7 xs<=37896/\C9 xs<=2:=by
 have s1:=GK (k:=3158) λd hd=>(h d hd).szD.2.1;exact⟨fines_iff.mpr λd hd=>(h d hd).szD.1,by omega,dps_le.mpr λd hd=>(h d hd).szD.2.2⟩
section
variable {ss:List Slot}{n:Nat}{Pd:D->Nat->Prop}
theorem Vj(h:RQ ss n Pd):C_ (EE Pd) n (ss++Uf 5 .no):=by
 obtain⟨N,xs,rfl,ok,l1,l7,z,l,hn,p⟩:=h;have J:=PySem.sizeLine_eq;obtain⟨f1,f2,f3⟩:=N9 z l;have w:(N.ps.map D.str).length=N.ps.length:=Go ..;have g:∀m:Nat,n - 1<=m->Kq [.fd,.sh (.tup xs),.sh (.int 3)] m Pd:=λm hm=>⟨.tup xs,2000000,3,rfl,by decide,(show fine 1000001 (.tup xs) from f1).mono (by decide),by decide,by decide,by show B7 xs<=80000; omega,by omega,λe n' e1 e2 e3 e4=>p e n' e1 (by have e2:szD e<=2*B7 xs+250:=e2; omega) (by have e3:Cr e<=C9 xs+1+1:=e3; omega) (by omega)⟩;unfold C_;refine⟨z0,CI (B:=1000001) (by decide) f1 (by show C9 xs+1<=100; omega),CI (B:=0) (d:=.tup []) (by decide) trivial (by decide),?_⟩;cases xs with
 | nil=>exact g n (by omega)
 | cons x0 r0 =>
  refine B3 (λ_=>g n (by omega)) λ_=>?_;generalize eX:x0::r0=xs at *;have xl:1<=xs.length:=by rw [← eX,ZB]; omega
  refine⟨4,rfl,by decide,by decide,by omega,λr r0 r1=>?_⟩;refine B3 (λ_=>g (n - 1) (by omega)) λ_=>?_;refine⟨_,_,rfl,rfl,(xs.length:Int),rfl,by omega,by omega,by omega,λa a0 a1=>?_⟩;obtain⟨a,rfl⟩:∃k:Nat,a=(k:Int):=⟨a.toNat,by omega⟩;have ha:a<xs.length:=by omega
  have q:xs[a]∈xs:=dX ha;refine⟨xs[a],AO (No ha),?_⟩;obtain⟨is,t,hi,i1,i7⟩:=l _ q;have w0:=(l _ q).szD;rw [t]
  have cl:∀(xs:List D) lo hi,(Dp.cutD xs lo hi).length<=xs.length:=λxs lo hi=>by
   unfold Dp.cutD;rw [eg,fu];omega
  have c1:=cl is none (some 2);have c2:=cl is (some (-2)) none;have c3:=cl is none (some (-1));have c4:=cl is (some 1) none;have c5:=cl is none (some 1);have ci:∀lo hi,∀d∈Dp.cutD is lo hi,item d:=λlo K d hd=>hi d (BY hd);have i:∀{xs ys:List D},(∀d∈xs,item d)->(∀d∈ys,item d)->∀d∈xs++ys,item d:=λl hy d hd=>(cu.mp hd).elim (l d) (hy d);obtain⟨u0,x⟩:∃u,is[0]?=some u:=⟨_,No (by omega)⟩
  obtain⟨v0,A,C⟩:∃v,atI is (-1)=some v/\item v:=by
   refine⟨is[is.length - 1],?_,hi _ (dX _)⟩;unfold atI S0;rw [if_neg (by decide),if_pos (by omega)];show is[((is.length:Int)+-1).toNat]?=_;rw [show ((is.length:Int)+-1).toNat=is.length - 1 by omega,No]
  refine⟨1,rfl,rfl,by omega,2,rfl,by omega,1,rfl,_,AO (j:=0) x,1,rfl,v0,A,z2,z0,(by decide:9<=sizeLine),?_⟩;refine⟨_,_,rfl,rfl,(xs.length:Int),rfl,by omega,by omega,by omega,λb b0 b1=>?_⟩;obtain⟨zb,E,wb⟩:=Fh (p:=isWy) l b0 b1;refine⟨zb,E,.tup (N.ps.map .str),AO (j:=0) rfl,.tup (N.ps.map .str),AO (j:=0) rfl,_,_,rfl,rfl,(N.ps.length:Int),by rw [w],by omega,by omega,by omega,λc c0 cc=>?_⟩;obtain⟨zc,F,ic⟩:=Fh (p:=item) (xs:=N.ps.map D.str) (o:=c) (Q0 ok) c0 (by rw [w]; exact cc);have a1:(Dp.cutD is none (some 1)++[zc]).length=(Dp.cutD is none (some 1)).length+1:=XV;refine⟨zc,F,z1,by show _+1<=sizeLine; omega,by omega,z2,(by decide:9+2<=sizeLine),?_⟩;refine⟨_,_,rfl,rfl,11,rfl,by decide,by decide,by omega,λo o0 o1=>?_⟩
  have hW:∀d∈([.tup is.reverse,.tup (Dp.cutD is none (some 2)++is),.tup (is++Dp.cutD is (some (-2)) none),.tup (Dp.cutD is none (some (-1))),.tup (Dp.cutD is (some 1) none),.lst is,.tup [u0,v0],.non,.tup []]++[zb,.tup (Dp.cutD is none (some 1)++[zc]++Dp.cutD is (some 1) none)]:List D),gW d:=by
   intro d hd;simp only [T0,f7,cy,c6,or_false] at hd
   rcases hd with rfl | rfl | rfl | rfl | rfl | rfl | rfl | rfl | rfl | rfl | rfl
   ·exact(F9 (λd hd=>hi d (gU.mp hd)) (by rw [gg]; omega)).1
   ·exact(F9 (i (ci _ _) hi) (by rw [XV]; omega)).1
   ·exact(F9 (i hi (ci _ _)) (by rw [XV]; omega)).1
   ·exact(F9 (ci _ _) (by omega)).1
   ·exact(F9 (ci _ _) (by omega)).1
   ·exact(F9 hi (by omega)).2
   ·exact(F9 (λd hd=>by
     rcases T0.mp hd with rfl | hd
     ·exact hi _ (dj x)
     ·rw [Tk.mp hd]; exact C) (by show 2<=15; decide)).1
   ·exact⟨trivial,TM _,TM _⟩
   ·exact(F9 (λ_ h=>by cases h) (TM _)).1
   ·exact⟨wb.szD.1,by have:=wb.szD.2.1; omega,wb.szD.2.2⟩
   ·exact(F9 (i (i (ci _ _) λd hd=>by rw [Tk.mp hd]; exact ic) (ci _ _)) (by rw [XV]; omega)).1
  obtain⟨zo,G,go⟩:=Fh (p:=gW) hW o0 o1;refine⟨zo,G,?_⟩;have m1:=cl xs none (some (a:Int));have m2:=cl xs (some ((a:Int)+1)) none;have a2:(Dp.cutD xs none (some (a:Int))++[zo]).length=(Dp.cutD xs none (some (a:Int))).length+1:=XV;refine⟨z1,by show _+1<=sizeLine; omega,by omega,by omega,z1,by show _+1<=sizeLine; omega,1,rfl,rfl,(by decide:4<=sizeLine),(by decide:7<=sizeLine),7,rfl,by decide,by decide,by omega,λs s0 s1=>?_⟩;obtain⟨zs,H,es⟩:=Fh (p:=λd=>d=.int 0\/d=.int 1\/d=.int 2\/d=.int 3) (xs:=[.int 0,.int 0,.int 0,.int 0,.int 1,.int 2,.int 3]) (by simp) s0 s1;refine⟨zs,H,?_⟩
  have res:∀(ys:List D) (m:Nat),(∀y∈ys,y∈xs\/y=zo)->B7 ys<=77000->n - 14<=m->Pd (.tup ys) m:=λys m hy L hm=>by
   have f:∀y∈ys,fine 1000001 y/\Cr y<=2:=λy h=>(hy y h).elim (λh=>⟨(l y h).szD.1,(l y h).szD.2.2⟩) λh=>by rw [h]; exact⟨go.1,go.2.2⟩
   have d1:C9 ys<=2:=dps_le.mpr λy h=>(f y h).2;exact p _ m ((FV λy h=>(f y h).1).mono (by decide)) L (by show C9 ys+1<=10; omega) hm
  have I:=Pl ha zo;have q1:=B5 xs none (some (a:Int));have q2:=B5 xs (some ((a:Int)+1)) none;have g2:=go.2.1
  rcases es with rfl | rfl | rfl | rfl
  ·refine⟨_,AO (j:=0) rfl,res _ _ (λy hy=>?_) (by omega) (by omega)⟩
   rcases cu.mp hy with hy | hy
   ·rcases cu.mp hy with hy | hy
    ·exact .inl (BY hy)
    ·exact .inr (Tk.mp hy)
   ·exact .inl (BY hy)
  ·exact⟨_,AO (j:=1) rfl,res _ _ (λy hy=>.inl ((cu.mp hy).elim BY BY)) (by rw [Bl]; omega) (by omega)⟩
  ·refine⟨_,AO (j:=2) rfl,res _ _ (λy hy=>.inl ((cu.mp hy).elim id λhy=>?_)) ?_ (by omega)⟩
   ·rw [Tk.mp hy,← t]; exact q
   ·rw [Bl,← t]
    show B7 xs+(szD xs[a]+1+0)<=77000
    have:=w0.2.1
    omega
  ·exact⟨_,AO (j:=3) rfl,res _ _ (λy hy=>.inl (gU.mp hy)) (by rw [Io]; omega) (by omega)⟩
end
theorem Pg:Ly { nx:=λ_ _=>False,rt:=λd _=>d=.bl true } 3000 (.no::.fd::Uf 9 .no):=by
 have L:=PySem.sizeLine_eq;unfold Ly;refine⟨7,12,rfl,by decide,by decide,by decide,λN n0 ok l1 l7 B M=>?_⟩;have l:okN N:=⟨ok,by omega,by omega⟩;have sN:=PU l;refine⟨rfl,by omega,λt b C b0 bt tt J=>?_⟩;have tm:ZT t b:=⟨b0,by omega,by omega,tt⟩;have o:N.ps.length<=24:=by omega
 have ask:∀(d p:D),fine (10 ^ 30) d->szD d<=100000->Cr d<=40->fine (10 ^ 30) p->szD p<=160000->Cr p<=40->szD d+szD p<=210000->Yy d/\K9 p/\szD (enc N)+szD d+szD p<=260000 :=
  λd p d1 d2 d3 p1 p2 p3 s=>⟨⟨d1.mono (by decide),by omega,by omega⟩,⟨p1,p2,by omega⟩,by have:=sN.2.1; omega⟩
 refine⟨_,rfl,⟨by decide,by decide⟩,?_⟩;refine Hf (λk m ρ=>300*k<=m/\∃s4 s5 s6 s7 s8 s9 g,ρ=[.no,.fd,.sh (enc N),.sh (.tup [.int t,.int b]),s4,s5,s6,s7,s8,s9,g]) ?_ ?_ _ _ _ ⟨by rw [By]; show 300*3<=C; omega,_,_,_,_,_,_,_,rfl⟩
 ·rintro m ρ ⟨hm,s4,s5,s6,s7,s8,s9,g,rfl⟩
  refine⟨z0,z0,z0,z1,z1,(by decide:8<=sizeLine),?_⟩;refine LX (λk m ρ=>∃g,ρ=[.no,.fd,.sh (enc N),.sh (.tup [.int t,.int b]),s4,s5,s6,s7,s8,s9,g]) ?_ _ _ _ ?_ ⟨_,rfl⟩
  ·rintro m ρ ⟨g,rfl⟩
   rfl
  ·rintro k d m ρ nx hd ⟨g,rfl⟩ q
   have hf:fine (10 ^ 30) d/\szD d<=48000/\Cr d<=3:=by
    simp only [T0,c6,or_false] at hd
    rcases hd with rfl | rfl | rfl | rfl | rfl | rfl | rfl | rfl
    ·exact⟨trivial,by decide,by decide⟩
    ·exact⟨trivial,by decide,by decide⟩
    ·exact⟨trivial,by decide,by decide⟩
    ·exact⟨trivial,by decide,by decide⟩
    ·exact⟨TM _,by decide,by decide⟩
    ·exact⟨⟨trivial,trivial⟩,by decide,by decide⟩
    ·exact⟨⟨trivial,trivial⟩,by decide,by decide⟩
    ·exact⟨sN.1.mono (by decide),sN.2.1,sN.2.2⟩
   refine⟨z0,?_⟩;have a:=ask d (.tup []) hf.1 (by omega) (by omega) trivial (TM _) (by decide) (by have:szD (.tup [])=0:=rfl; omega);refine⟨N,t,b,_,_,rfl,l,o,tm,a.1,a.2.1,a.2.2,?_⟩;refine BQ ?_;have a:=ask (enc N) d (sN.1.mono (by decide)) (by omega) (by omega) hf.1 (by omega) (by omega) (by omega);refine⟨N,t,b,_,_,rfl,l,o,tm,a.1,a.2.1,a.2.2,?_⟩;exact BQ (q _ _ ⟨_,rfl⟩)
 rintro k d m ρ nx ⟨hm,s4,s5,s6,s7,s8,s9,g,rfl⟩ q;refine⟨N,t,b,rfl,l,tm,by omega,λts n1 ht O=>?_⟩;have w:=ht.okN l;have sT:=PU w;refine⟨_,AO (j:=1) rfl,by show (N.ts.map Aa).length<=10000000; rw [Go]; omega,?_⟩;refine Cw (λd=>!((ts.map Aa).any λy=>GA y d)) id (λρ=>∃s,ρ=[.sh (enc ⟨N.ps,ts⟩),s]) _ _ _ _ ?_ ⟨_,rfl⟩ ?_
 ·rintro d hd ρ m nx sk ⟨s,rfl⟩ h1 h2
  obtain⟨t,E,rfl⟩:=Rs.mp hd;refine⟨_,AO (j:=1) rfl,Iz l.1 E,(EQ l.1 ht.1).1,_,rfl,?_⟩;exact B3 (λc=>h1 _ ⟨_,rfl⟩ c) λc=>h2 _ ⟨_,rfl⟩ (d7.mpr c)
 rw [cy,g_,OV];refine⟨_,OW N ts,rfl,rfl,fD (eM _ _) (by omega),λlo p1 p2=>?_⟩;have Q:lo.length<=12:=by rw [p1.length_eq]; exact cx (eM _ _) B
 refine⟨by show (lo.map Aa).length<=10000000; rw [Go]; omega,?_⟩
 have go:∀(P:List D->Nat->Prop),(∀xs:List D,xs.length=lo.length->(∀d∈xs,isWy d)->P xs n1)->∀(rest:List BP) (n:List D) (s:Slot),(∀u∈rest,u∈N.ts)->(∀d∈n,isWy d)->n.length+rest.length=lo.length ->
   Ci (Af 1) CW (AZ Kp (AE (AI (AB 0)) (AE (AI (AU A8 (AB 1) (wC (D.int 0)))) (AE (AI (AU A8 (AB 1) (wC (D.int 1)))) AY)))) P (rest.map Aa) n n1 [.sh (enc ⟨N.ps,ts⟩),s]:=by
  intro P hP rest
  induction rest with
  | nil=>intro n s _ ha F; exact hP n F ha
  | cons u rest ih =>
   intro n s hu ha F;obtain⟨m1,m2,lt,_⟩:=l.1.tin u (hu u Op)
   have p2:2<=N.ps.length:=by
    match hps:N.ps with
    | []=>rw [hps] at m1; cases m1
    | [x] =>
     rw [hps] at m1 m2;rw [Tk.mp m1,Tk.mp m2] at lt;exact absurd lt (by simp)
    | x::y::r=>exact Nat.le_add_left 2 _
   refine⟨_,AO (j:=0) rfl,_,AO (j:=1) rfl,⟨N.ps,ts⟩,u.a,u.b,rfl,w,m1,m2,p2,λx r hr G=>?_⟩;refine ih _ _ (λv hv=>hu v (Re _ hv)) (λd hd=>?_) (by rw [XV]; rw [ZB] at F; show n.length+1+rest.length=_; omega)
   rcases cu.mp hd with hd | hd
   ·exact ha d hd
   ·rw [Tk.mp hd]
    have hr:(x::r).length<=N.ps.length:=hr;refine⟨_,rfl,λi hi=>?_,by rw [Go,ZB]; omega,by rw [Go]; omega⟩;obtain⟨y,hy,rfl⟩:=Rs.mp hi;exact Cp (ok.names y (G y hy))
 refine go _ (λxs xl K=>?_) lo [] _ (λu hu=>(eU.mp (p1.mem_iff.mp hu)).1) (λ_ h=>by cases h) (Nat.zero_add _);obtain⟨f1,f2,f3⟩:=N9 (by omega) K;have f1:fine (10 ^ 30) (.tup xs):=(show fine 1000001 (.tup xs) from f1).mono (by decide);have f2:szD (.tup xs)<=37896:=f2;have f3:Cr (.tup xs)<=3:=by show C9 xs+1<=3; omega
 have a:=ask (enc ⟨N.ps,ts⟩) (.tup xs) (sT.1.mono (by decide)) (by have:=sT.2.1; omega) (by have:=sT.2.2; omega) f1 (by omega) (by omega) (by have:=sT.2.1; omega);refine⟨N,t,b,_,_,rfl,l,o,tm,a.1,a.2.1,a.2.2,?_⟩;refine BQ ?_;refine⟨_,rfl,⟨by decide,by decide⟩,?_⟩;refine Hf (λk m ρ=>n1 - 200+40*k<=m/\∃s8 s9 g,ρ=[.no,.fd,.sh (enc N),.sh (.tup [.int t,.int b]),.sh d,.sh (enc ⟨N.ps,ts⟩),.sh (.lst (lo.map Aa)),.sh (.tup xs),s8,s9,g]) ?_ ?_ _ _ _ ⟨by rw [By]; show n1 - 200+40*4<=n1; omega,_,_,_,rfl⟩
 ·rintro m2 ρ ⟨H,s8,s9,g,rfl⟩
  exact q _ _ ⟨by omega,_,_,_,_,_,_,_,rfl⟩
 rintro k2 d2 m2 ρ z ⟨H,s8,s9,g,rfl⟩ A;refine⟨N,xs,rfl,ok,l1,l7,by omega,K,by omega,λe n2 e1 e2 e3 R=>?_⟩
 have rest:∀(e':D) (m':Nat),fine (10 ^ 30) e'->szD e'<=154250->Cr e'<=11->n1 - 200+40*k2+12<=m' ->
   (Ac (BG (Be (AR (AZ EH (AE (AI (AB 2)) (AE (AI (AB 3)) (AE (AI (AB 5)) (AE (AI (AB 9)) AY))))))) (Au (wC (D.bl false))) Av)
 (BG (Be (AR (AZ EH (AE (AI (AB 2)) (AE (AI (AB 3)) (AE (AI (AZ Kq (AE (Aw 1) (AE (AI (AB 5)) (AE (AI (wC (D.int 4))) AY))))) (AE (AI (AB 7)) AY))))))) (Au (wC (D.bl false))) Av)) { nx:=z,rt:=λd _=>d=.bl true,ct:=z,bk:=nx } m' [.no,.fd,.sh (enc N),.sh (.tup [.int t,.int b]),.sh d,.sh (enc ⟨N.ps,ts⟩),.sh (.lst (lo.map Aa)),.sh (.tup xs),.sh d2,.sh e',g]:=by
  intro e' m' g1 g2 g3 S;have t1:=sT.2.1;have t2:=sT.2.2;have a:=ask (enc ⟨N.ps,ts⟩) e' (sT.1.mono (by decide)) (by omega) (by omega) g1 (by omega) (by omega) (by omega);refine⟨N,t,b,_,_,rfl,l,o,tm,a.1,a.2.1,a.2.2,?_⟩;refine BQ ?_;refine⟨enc ⟨N.ps,ts⟩,2000000,4,rfl,by decide,sT.1.mono (by decide),by decide,by decide,by omega,by omega,λf n3 h1 h2 h3 I=>?_⟩;have a:=ask f (.tup xs) (h1.mono (by decide)) (by omega) (by omega) f1 (by omega) (by omega) (by omega);refine⟨N,t,b,_,_,rfl,l,o,tm,a.1,a.2.1,a.2.2,?_⟩;exact BQ (A _ _ ⟨by omega,_,_,_,rfl⟩)
 refine⟨4,rfl,by decide,by decide,by omega,λr r0 r1=>?_⟩;refine B3 (λ_=>?_) λ_=>?_
 ·exact⟨e,2000001,3,rfl,by decide,e1,by decide,by decide,by omega,by omega,λf n3 h1 h2 h3 I=>rest f n3 (h1.mono (by decide)) (by omega) (by omega) (by omega)⟩
 ·exact rest e (n2 - 1) (e1.mono (by decide)) (by omega) (by omega) (by omega)
end Nt
namespace K14
open L2 Dp Nt
section
variable (P:Program)(w:World)(K:Frag)(mg:Str->Option Value)(base:Heap)
abbrev Kl:Prop:=Got P w K mg base "is_whole" 1 ["thing"] .sh NS
abbrev ED:Prop:=Got P w K mg base "is_tuple_of" 1 ["count","thing"] .sh Fq
abbrev IQ:Prop:=Got P w K mg base "is_rising" 1 ["things"] .sh DB
abbrev L1:Prop:=Got P w K mg base "rank_of" 1 ["tie"] .sh RP
abbrev Kj:Prop:=Got P w K mg base "order_of" 4 ["ties"] .fr Dg
abbrev Ki:Prop:=Got P w K mg base "steps_of" 1 ["net"] .sh QQ
abbrev IP:Prop:=Got P w K mg base "is_tie_of" 2 ["net","thing"] .sh Wi
abbrev L3:Prop:=Got P w K mg base "is_thin" 3 ["net","thing"] .sh IS
abbrev Kk:Prop:=Got P w K mg base "left_out" 5 ["net","thin"] .fr PF
abbrev IM:Prop:=Got P w K mg base "length_of" 2 ["net","thing"] .sh LG
abbrev Ec:Prop:=Got P w K mg base "length_between" 3 ["net","a","b","thing"] .sh RT
abbrev IN:Prop:=Got P w K mg base "is_within" 1 ["length","times","number"] .sh JF
abbrev IK:Prop:=Got P w K mg base "way_fault" 4 ["net","times","tie","thing"] .sh PD
abbrev IL:Prop:=ZA P w K mg base "lets_ways" 6 ["net","times","thin","paper"] .sh JI
abbrev Bc:Prop:=Got P w K mg base "_law_next" 1 ["_law_feed_here","_law_many"] .sh BA
abbrev HC:Prop:=Got P w K mg base "_law_whole" 1 ["_law_thing","_law_least_here","_law_most"] .sh JH
abbrev GG:Prop:=Got P w K mg base "_law_places" 2 ["_law_feed_here","_law_many"] .fr JG
abbrev GH:Prop:=Got P w K mg base "_law_length" 2 ["_law_feed_here","_law_scale"] .sh Wl
abbrev Ko:Prop:=Got P w K mg base "_law_net" 3 ["_law_feed_here","_law_most","_law_ties"] .sh Wj
abbrev HD:Prop:=Got P w K mg base "_law_times" 2 ["_law_feed_here"] .sh NT
abbrev CQ:Prop:=Got P w K mg base "_law_in_order" 1 ["_law_ties"] .fr Dg
abbrev Et:Prop:=Got P w K mg base "_law_least" 1 ["_law_ties","_law_place"] .fr Dh
abbrev Fk:Prop:=Got P w K mg base "_law_thinned" 2 ["_law_net_here","_law_times_here"] .sh HF
abbrev Km:Prop:=Got P w K mg base "_law_odd" 2 ["_law_feed_here","_law_thing"] .sh VT
abbrev Fp:Prop:=Got P w K mg base "_law_bent" 7 ["_law_feed_here","_law_thing","_law_deep"] .sh (Hq 4)
abbrev Df:Prop:=Got P w K mg base "_law_is_name" 1 ["_law_thing"] .sh L4
abbrev GI:Prop:=Got P w K mg base "_law_is_tie" 2 ["_law_places_here","_law_thing"] .sh RS
abbrev IR:Prop:=Got P w K mg base "_law_rise" 1 ["_law_things"] .sh DB
abbrev GJ:Prop:=Got P w K mg base "_law_is_net" 3 ["_law_thing"] .sh RR
abbrev Fo:Prop:=Got P w K mg base "_law_is_thin" 4 ["_law_net_here","_law_thing"] .sh IS
abbrev EG:Prop:=Got P w K mg base "_law_walked" 1 ["_law_net_here","_law_way"] .sh LG
abbrev E4:Prop:=Got P w K mg base "_law_ways_due" 5 ["_law_net_here","_law_times_here","_law_thin","_law_paper"] .sh NW
abbrev Ee:Prop:=Got P w K mg base "_law_some_thin" 3 ["_law_feed_here","_law_net_here","_law_times_here"] .sh NU
abbrev Fl:Prop:=ZC P w K mg base "_law_refusal" 1 ["_law_e"] .sh NV
abbrev Fn:Prop:=Got P w K mg base "_law_own_way" 2 ["_law_thin","_law_one","_law_other"] .sh Kp
abbrev HE:Prop:=Got P w K mg base "_law_asked" 7 ["_law_net_here","_law_times_here","_law_thin","_law_paper"] .sh EH
abbrev Dw:Prop:=Got P w K mg base "_law_paper_bent" 8 ["_law_feed_here","_law_net_here","_law_paper"] .sh RQ
end
section
variable {P:Program}{w:World}{K:Frag}{mg:Str->Option Value}{base:Heap}
variable {f:Addr}{fd:FuncData}
theorem IW:Ai ["self","word","number"] ["self","word","number"] (AH B_):=by constructor <;> first | rfl | decide +kernel
theorem Ih{f C U:Ch}{fd:dU}(c:XC K "NoPaper" C U)(F:Fun K "__init__" "NoPaper.__init__" B_ f fd):BD P w K mg base CL 1 f fd ["self","word","number"] (HN C "word" "number"):=by
 refine F.ok IW (λvs H Q E h=>by obtain⟨a,v1,v2,rfl,_⟩:=h; rfl) (λe A outer s H vs Q E hr h=>?_);obtain⟨a,v1,v2,rfl,ha,hq⟩:=h;refine⟨_,BL (XA c c.nw (pv 0) (pv 1) rfl) (Cb (W_ c c.nn (pv 0) (pv 2) rfl)),?_⟩;refine⟨v1,rfl,V.ref a,rfl,a,rfl,ha,λd hd b=>⟨v2,rfl,V.ref a,rfl,a,d,[(("word":Str),v1)],rfl,AX,?_,(by decide:1<1000),?_⟩⟩
 ·rw [AQ b,AX]
 ·rw [show EM "number" v2 [(("word":Str),v1)]=[(("word":Str),v1),(("number":Str),v2)] from by unfold EM; rw [if_neg (by decide)]; rfl]
  exact hq d hd b
theorem Ja:Ai ["self","row","word"] ["self","row","word"] (AH CM):=by constructor <;> first | rfl | decide +kernel
theorem Js{f C U:Ch}{fd:dU}(c:XC K "NoLine" C U)(F:Fun K "__init__" "NoLine.__init__" CM f fd):BD P w K mg base CL 1 f fd ["self","row","word"] (HN C "row" "word"):=by
 refine F.ok Ja (λvs H Q E h=>by obtain⟨a,v1,v2,rfl,_⟩:=h; rfl) (λe A outer s H vs Q E hr h=>?_);obtain⟨a,v1,v2,rfl,ha,hq⟩:=h;refine⟨_,BL (XA c c.nr (pv 0) (pv 1) rfl) (Cb (W_ c c.nw (pv 0) (pv 2) rfl)),?_⟩;refine⟨v1,rfl,V.ref a,rfl,a,rfl,ha,λd hd b=>⟨v2,rfl,V.ref a,rfl,a,d,[(("row":Str),v1)],rfl,AX,?_,(by decide:1<1000),?_⟩⟩
 ·rw [AQ b,AX]
 ·rw [show EM "word" v2 [(("row":Str),v1)]=[(("row":Str),v1),(("word":Str),v2)] from by unfold EM; rw [if_neg (by decide)]; rfl]
  exact hq d hd b
theorem Nw:Ai ["thing"] ["thing"] (AH GQ):=by walk_at "s"
theorem OD(T:Txt K mg)(F:Fu K "is_whole" GQ f fd):BD P w K mg base CL 1 f fd ["thing"] (Di K .sh NS 1) :=
 F_ F Nw (λhr=>(AJ (Ab (EB (Bx Mu (dv 0) rfl T.Gaa rfl T.Gal (by decide +kernel)) (Gd (VA (Bx OY (dv 0) rfl T.Gaa rfl T.Gam (by decide +kernel)))))))) N0
theorem JW:Ai ["count","thing"] ["count","thing"] (AH Dx):=by walk_at "s"
theorem Jm(T:Txt K mg)(F:Fu K "is_tuple_of" Dx f fd):BD P w K mg base CL 1 f fd ["count","thing"] (Di K .sh Fq 2) :=
 F_ F JW (λhr=>(AJ (Ab (EB (Bx kit_tuple (dv 1) rfl T.Gaa rfl T.Gab (by decide +kernel)) (Gd (CF CB De (Ae As Bu rfl T.Gac PySem.boot_len (AM (dv 1) AV)) (dv 0) (Ag _))))))) Jg
theorem MJ:Ai ["things"] ["things"] (AH FJ):=by walk_at "s"
theorem Mi(T:Txt K mg)(F:Fu K "is_rising" FJ f fd):BD P w K mg base CL 1 f fd ["things"] (Di K .sh DB 1) :=
 F_ F MJ (λhr=>(AJ (Ab (Ae (G_ rfl) RN rfl T.Gai gQ (AM (Ks [("ahead":Str),("behind":Str)] [none,none] (WS rfl T.Gan (AM (dv 0) (AM (Bq Cf Br (dv 0) (Ax AD) BC) AV))) (FZ rfl (BM (Ah (i:=0) (show dQ [("ahead":Str),("behind":Str)] by decide +kernel) rfl (TW rfl)) (BM (Ah (i:=1) (show dQ [("ahead":Str),("behind":Str)] by decide +kernel) rfl (TW rfl)) Du))) Bh (CF (D6 hr) GF (dv 0) (dv 1) (Ag _)) (by kernel_rfl)) AV))))) MU
theorem Pb:Ai ["tie"] ["tie"] (AH HR):=by walk_at "s"
theorem Px(T:Txt K mg)(F:Fu K "rank_of" HR f fd):BD P w K mg base CL 1 f fd ["tie"] (Di K .sh RP 1) :=
 F_ F Pb (λhr=>(AJ (Ab (Ar (AC (AW AL Ao (dv 0) AD) (AC (AW AL Ao (dv 0) AD) (AC (AW AL Ao (dv 0) AD) AS))))))) Pf
theorem Nu:Ai ["ties"] ["ties"] (AH GO):=by walk_at "s"
theorem OB(T:Txt K mg)(j2:L1 P w K mg base)(F:Fu K "order_of" GO f fd):BD P w K mg base CL 4 f fd ["ties"] (Di K .fr Dg 1) :=
 F_ F Nu (λhr=>(AJ (Ab (U_ j2 (hr.mono (by decide)) rfl T.Gag rfl (dv 0))))) Nx
theorem j3:Ai ["net","steps","place","a","b","length"] ["net"] (AH GN):=⟨rfl,rfl,rfl,by decide +kernel,rfl,by decide +kernel,by decide +kernel⟩
theorem OA{f:Ch}{fd:dU}(F:Fun K "steps_of" "steps_of" GN f fd):BD P w K mg base CL 1 f fd ["net"] (Di K .sh QQ 1):=by
 refine F.ok (k:=0) j3 (λvs H Q E h=>h.1) (λa2 A outer s H vs Q E hr h=>?_);obtain⟨hl,F0,U,V',M,n,ss,Pd,ra,⟨N,rfl,ok,lp,lt,p⟩,q⟩:=h;obtain⟨O,fU,uV,vM,R,pa⟩:=ra;cases pa with
 | cons r1 pa =>
 cases pa;obtain⟨v,e1,h1⟩:=r1.1;cases e1;obtain⟨an,vs,rfl,hn,v1,r,rfl,hp,v2,r2,rfl,ht,e2⟩:=h1;cases (show r2=[] from e2);obtain⟨ap,us,rfl,S,D⟩:=hp;obtain⟨at_,ws,rfl,T,G⟩:=ht;have nd:=j3.nd;have hu:=J9 hr;have a3:=PySem.sizeLine_eq;have I:us.length=N.ps.length:=by rw [D.length,Go]
 have J:ws.length=N.ts.length:=by rw [G.length,Go]
 refine⟨_,BL (FO (i:=1) nd rfl (TW rfl) N7)
  (BL (Jh dY rfl (UJ (Eu ix_tup (pv 0) A_ (λ_ _=>rfl))) (Gx (i:=2) nd rfl (TW rfl)) (Cb (Ir hu (pv 1) (pv 2) N7 rfl)))
  (BL (Jh dY rfl (UJ (Eu ix_tup (pv 0) A_ (λ_ _=>rfl))) (UK rfl (Gw (Gx (i:=3) nd rfl (TW rfl)) (Gw (Gx (i:=4) nd rfl (TW rfl)) (Gw (Gx (i:=5) nd rfl (TW rfl)) Qp))))
   (BL (Ir hu (MY hu (pv 1) (pv 3) (λ_ _=>rfl)) (pv 4) (pv 5) rfl) (Cb (Ir hu (MY hu (pv 1) (pv 4) (λ_ _=>rfl)) (pv 3) (pv 5) rfl))))
  (Cb (GV (UO (pv 1)))))),?_⟩
 refine λd hd=>?_;have j:∀b o,H b=some o->A4 H d (.dK []) b=some o:=λb o e=>by rw [AQ (A0 e hd)]; exact e
 have SqN:∀H':Hp,(∀b o,H b=some o->H' b=some o)->SqT K H' an [.ref ap,.ref at_]:=λH' o=>SqT.of (o _ _ hn);have SqP:∀H':Hp,(∀b o,H b=some o->H' b=some o)->SqT K H' ap us:=λH' o=>SqT.of (o _ _ S);have SqW:∀H':Hp,(∀b o,H b=some o->H' b=some o)->SqT K H' at_ ws:=λH' o=>SqT.of (o _ _ T);refine⟨_,rfl,an,_,0,_,rfl,rfl,SqN _ j,rfl,ap,rfl,⟨_,SqP _ j⟩,?_⟩;refine Q2 (xs:=us) (λi σ H'=>∃(as:List (Str×Ch)) (x2 x3 x4 x5:Option V),σ=[some (.ref an),some (.ref d),x2,x3,x4,x5]/\as.map (·.1)=N.ps.take i/\Stp H d as (λ_=>[]) H') ?_ (λi σ H' hi ⟨as,x2,x3,x4,x5,e,hm,st⟩=>SqP _ st.old) ?_ ?_
 ·exact⟨[],_,_,_,_,rfl,rfl,j,hd,AX,(λx l=>by cases l),e6,e6⟩
 ·rintro i x σ H' l ⟨as,x2,x3,x4,x5,rfl,hm,st⟩
  have hi:i<N.ps.length:=by rw [← I]; exact(cr.mp l).1
  obtain⟨x',m,hAt⟩:=D.get (i:=i) (d:=.str N.ps[i]) (by rw [dR,No hi]; rfl);rw [l] at m;cases m;obtain⟨rfl,_⟩:=hAt;intro q hq;have a4:as.length<=i:=by have:=congrArg fo hm; rw [Go,eg] at this; omega
  have nq:d≠q:=λe=>by rw [← e,st.top] at hq; cases hq
  have a1:(as.map λx=>((.inr x.1:Key),V.ref x.2)).length=as.length:=Go ..;refine⟨_,rfl,_,rfl,d,_,rfl,DPut.k (k:=.inr N.ps[i]) (by rw [AQ nq]; exact st.top) (by omega),?_⟩;refine⟨as++[(N.ps[i],q)],_,_,_,_,rfl,?_,st.more hq ?_ rfl⟩
  ·rw [de,hm,List.take_succ,No hi]; rfl
  ·rw [hm]; exact Pz (MM ok.rise) hi
 ·rintro σ H' ⟨as,x2,x3,x4,x5,rfl,hm,st⟩
  rw [I,hZ] at hm;refine⟨_,rfl,an,_,1,_,rfl,rfl,SqN _ st.old,rfl,at_,rfl,⟨_,SqW _ st.old⟩,?_⟩;refine Q2 (xs:=ws) (λi σ H'=>∃(x2 x3 x4 x5:Option V),σ=[some (.ref an),some (.ref d),x2,x3,x4,x5]/\Stp H d as (λp=>(Ex (N.ts.take i) p).map kv) H') ⟨_,_,_,_,rfl,st⟩ (λi σ H' hi ⟨x2,x3,x4,x5,e,st⟩=>SqW _ st.old) ?_ ?_
  ·rintro i x σ H' l ⟨x2,x3,x4,x5,rfl,st⟩
   have hi:i<N.ts.length:=by rw [← J]; exact(cr.mp l).1
   obtain⟨x',m,hAt⟩:=G.get (i:=i) (d:=Aa N.ts[i]) (by rw [dR,No hi]; rfl);rw [l] at m;cases m;have z:N.ts[i]∈N.ts:=dX hi;have c:N.ts.take (i+1)=N.ts.take i++[N.ts[i]]:=by rw [List.take_succ,No hi]; rfl
   have B:(N.ts.take (i+1)).Pairwise Bw:=ok.trise.sublist (List.take_sublist _ _);have C:∀s∈N.ts.take (i+1),cs s.a<cs s.b:=λs hs=>(ok.tin s (iR hs)).2.2.1;rw [c] at B C;have new:=U2 B C;have W:(N.ts.take i).length<=1000:=by rw [eg]; omega
   generalize N.ts[i]=t at hAt z c new;generalize N.ts.take i=ts at c new st W;obtain⟨m1,m2,m3,_⟩:=ok.tin t z;have u:t.a≠t.b:=λe=>by rw [e] at m3; exact gN _ m3
   obtain⟨ta,tb,tl⟩:=t;obtain⟨tt,a5,rfl,X,hit⟩:=hAt;obtain⟨va,r3,rfl,⟨rfl,_⟩,vb,r4,rfl,⟨rfl,_⟩,vl,r5,rfl,rfl,e5⟩:=hit;cases (show r5=[] from e5);rw [← hm] at m1 m2;obtain⟨⟨xa,pa⟩,ha,ea⟩:=Rs.mp m1;obtain⟨⟨xb,pb⟩,L,eb⟩:=Rs.mp m2;have Y:ta=xa:=ea.symm;have Z:tb=xb:=eb.symm;subst Y Z;clear ea eb;replace u:ta≠tb:=u;replace new:tb∉(Ex ts ta).map (·.1)/\ta∉(Ex ts tb).map (·.1):=new;have ga:=DGet.k (k:=.inr ta) st.top;rw [Il st.nms ha] at ga;have l1:=Qv ts ta;refine⟨tt,_,rfl,SqT.of (st.old _ _ X),rfl,_,_,rfl,_,_,rfl,_,_,rfl,rfl,?_⟩;refine⟨_,rfl,_,rfl,_,rfl,d,_,rfl,ga,_,rfl,pa,_,rfl,DPut.k (k:=.inr tb) (st.inn _ ha).2.2 (by show ((Ex ts ta).map kv).length<sizeLine; rw [Go]; omega),?_⟩;have y:=st.put (tb2:=λp=>(Ex ts p++if ta=p then [(tb,tl)] else []).map kv) ha (kvs:=putK ((Ex ts ta).map kv) (.inr tb) (.int tl)) (by rw [Qj new.1,if_pos rfl]) (λq hq=>by rw [if_neg (eF hq),dS]);have gb:=DGet.k (k:=.inr tb) y.top;rw [Il y.nms L] at gb;have l2:=Qv ts tb;have ib:=(y.inn _ L).2.2;simp only [if_neg u,dS] at ib;refine⟨_,rfl,_,rfl,_,rfl,d,_,rfl,gb,_,rfl,pb,_,rfl,DPut.k (k:=.inr ta) ib (by rw [Go]; omega),?_⟩;refine⟨_,_,_,_,rfl,y.put L ?_ λq hq=>?_⟩
   ·show (Ex (N.ts.take (i+1)) tb).map kv=_
    rw [c,OH,Qj new.2];show ((Ex ts tb++((if ta=tb then [(tb,tl)] else [])++if tb=tb then [(ta,tl)] else [])).map kv)=_;rw [if_neg u,if_pos rfl]; rfl
   ·show (Ex (N.ts.take (i+1)) q).map kv=_
    rw [c,OH];show ((Ex ts q++((if ta=q then [(tb,tl)] else [])++if tb=q then [(ta,tl)] else [])).map kv)=_;rw [if_neg (eF hq),dS]
  ·rintro σ H' ⟨x2,x3,x4,x5,rfl,st⟩
   rw [J,hZ] at st
   have old:∀(f:Ch->Obj) b o,H b=some o->F3 H' (as.map (·.2)) f b=some o:=λf b o e=>by
    rw [DR (λhm=>by obtain⟨x,l,e2⟩:=Rs.mp hm; have:=(st.inn x l).1; rw [e2,e] at this; cases this)];exact st.old b o e
   refine⟨_,rfl,(as.map fun(x:Str×Ch)=>x.2),λb L=>?_,λf=>q (.ref d) (F3 H' (as.map fun(x:Str×Ch)=>x.2) f) (HM N) n (λb o e=>⟨o,old f b o e,λ_=>rfl,λ_ _=>rfl⟩) (λg hg=>?_) (show At K M (F3 H' (as.map fun(x:Str×Ch)=>x.2) f) (HM N) (.ref d) from st.at_ O hm f) p⟩
   ·obtain⟨x,l,rfl⟩:=Rs.mp L
    exact⟨_,(st.inn x l).2.2⟩
   ·obtain⟨a,r,cells,hf,a0,hc,rest⟩:=R g hg
    exact⟨a,r,cells,old f _ _ hf,a0,⟨hc.1,old f _ _ hc.2⟩,rest⟩
theorem MI:Ai ["net","thing"] ["net","thing"] (AH FI):=by walk_at "s"
theorem Mh(T:Txt K mg)(j4:Kl P w K mg base)(F:Fu K "is_tie_of" FI f fd):BD P w K mg base CL 2 f fd ["net","thing"] (Di K .sh Wi 2) :=
 F_ F MI (λhr=>(AJ (Ab (EB (CF (C5 hr) C1 (dv 1) (AW AL Ao (dv 0) AD) (by with_unfolding_all rfl)) (Gd (cg hr j4 (AA (AN (AW AL Ao (dv 1) AD)) AK))))))) MT
theorem Pc:Ai ["net","thing"] ["net","thing"] (AH HS):=by walk_at "s"
theorem Py(T:Txt K mg)(j5:IQ P w K mg base)(j6:IP P w K mg base)(j7:ED P w K mg base)(F:Fu K "is_thin" HS f fd):BD P w K mg base CL 3 f fd ["net","thing"] (Di K .sh IS 2) :=
 F_ F Pc (λhr=>(AG (A9 (DTW.dt (Ba (BH (A2 (cg hr j7 (AA (AN AD) (AA (AN (dv 1)) AK))))) (Bo (BH (A2 (Bx kit_tuple (AW AL Ao (dv 1) AD) rfl T.Gaa rfl T.Gab (by decide +kernel))))))) (AJ (Ab Bt)) Al)
 (AJ (Ab (EB (CF (Mb hr) RM (AW AL Ao (dv 1) AD) (AW AL Ao (dv 0) AD) (Ag _)) (EB (Ae (G_ rfl) RN rfl T.Gai gQ (AM (Ks [("net":Str),("tie":Str)] [some 0,none] (BS (AW AL Ao (dv 1) AD)) (Ah (i:=1) (show dQ [("net":Str),("tie":Str)] by decide +kernel) rfl (TW rfl)) Bh (cg hr j6 (AA (AN (dv 0)) (AA (AN (dv 1)) AK))) (by kernel_rfl)) AV)) (Gd (cg hr j5 (AA (AN (AW AL Ao (dv 1) AD)) AK))))))))) Pj
theorem Nv:Ai ["net","thin"] ["net","thin"] (AH GP):=by walk_at "s"
theorem OC(T:Txt K mg)(j8:Kj P w K mg base)(F:Fu K "left_out" GP f fd):BD P w K mg base CL 5 f fd ["net","thin"] (Di K .fr PF 2) :=
 F_ F Nv (λhr=>(AJ (Ab (cg hr j8 (AA (AN (Ks [("thin":Str),("tie":Str)] [some 1,none] (BS (AW AL Ao (dv 0) AD)) (Ah (i:=1) (show dQ [("thin":Str),("tie":Str)] by decide +kernel) rfl (TW rfl)) (Dt (Ad (EN hr) C1 (dv 1) (AW AL Ao (dv 0) AD) (by with_unfolding_all rfl))) (dv 1) (by a))) AK))))) Ny
theorem j9:Ai ["net","thing","steps","length","here","there"] ["net","thing"] (AH FG):=by walk_at "s"
theorem Mf(T:Txt K mg)(j_:Ki P w K mg base)(F:Fu K "length_of" FG f fd):BD P w K mg base CL 2 f fd ["net","thing"] (Di K .sh LG 2) :=
 F_ F j9 (λhr=>(AG (A9 (DTW.dt (Ba (BH (A2 (Bx kit_tuple (dv 1) rfl T.Gaa rfl T.Gab (by decide +kernel)))) (Bo (Ad CB De (Ae As Bu rfl T.Gac PySem.boot_len (AM (dv 1) AV)) AD (Ag _))))) (AJ (Ab Bj)) Al)
 (AG (A9 (BH (A2 (Ae (G_ rfl) RN rfl T.Gai gQ (AM (Ks [("place":Str)] [none] (BS (dv 1)) (Ah (i:=0) (show dQ [("place":Str)] by decide +kernel) rfl (TW rfl)) Bh (Bx Mt (dv 0) rfl T.Gaa rfl T.Gaj (by decide +kernel)) (by kernel_rfl)) AV)))) (AJ (Ab Bj)) Al)
 (AG (An (i:=2) j9.nd rfl (TW rfl) (cg hr j_ (AA (AN (dv 0)) AK)))
 (AG (A9 (Ad (LV hr) PB (AW AL Ao (dv 1) AD) (dv 2) (by with_unfolding_all rfl)) (AJ (Ab Bj)) Al)
 (AG (An (i:=3) j9.nd rfl (TW rfl) AD)
 (AG (DX dY rfl (Yk rfl T.Gan (AC (dv 1) (AC (Bq Cf Br (dv 1) (Ax AD) BC) AS))) (FZ rfl (BM (Ah (i:=4) j9.nd rfl (TW rfl)) (BM (Ah (i:=5) j9.nd rfl (TW rfl)) Du))) (AG (A9 (Ad (LV hr) PB (dv 5) (Fz hr (dv 2) (dv 4)) (by with_unfolding_all rfl)) (AJ (Ab Bj)) Al)
 (AJ (WR (i:=3) j9.nd rfl (TW rfl) (Fz hr (Fz hr (dv 2) (dv 4)) (dv 5))))))
 (AJ (Ab (dv 3)))))))))) MP
theorem kA:Ai ["net","a","b","thing","length"] ["net","a","b","thing"] (AH Ck):=by walk_at "s"
theorem Gy(T:Txt K mg)(kC:IM P w K mg base)(F:Fu K "length_between" Ck f fd):BD P w K mg base CL 3 f fd ["net","a","b","thing"] (Di K .sh RT 4) :=
 F_ F kA (λhr=>(AG (An (i:=4) kA.nd rfl (TW rfl) (cg hr kC (AA (AN (dv 0)) (AA (AN (dv 3)) AK))))
 (AG (A9 (DTW.dt (Ba (Ad Jk O9 (dv 4) Bj (Ag _)) (Ba (Ad F7 LF (AW AL Ao (dv 3) AD) (dv 1) (Ag _)) (Bo (Ad F7 LF (AW AL Ao (dv 3) (CK AD)) (dv 2) (Ag _)))))) (AJ (Ab Bj)) Al)
 (AJ (Ab (dv 4)))))) Vk
theorem MH:Ai ["length","times","number"] ["length","times","number"] (AH FH):=by walk_at "s"
theorem Mg(T:Txt K mg)(F:Fu K "is_within" FH f fd):BD P w K mg base CL 1 f fd ["length","times","number"] (Di K .sh JF 3) :=
 F_ F MH (λhr=>(AJ (Ab (CF MZ RL (Am Do Fj (dv 0) (AW AL Ao (dv 1) AD)) (Am Do Fj (dv 2) (AW AL Ao (dv 1) AD)) (Ag _))))) MS
theorem kE:Ai ["net","times","tie","thing","length"] ["net","times","tie","thing"] (AH FE):=by walk_at "s"
theorem Md(T:Txt K mg)(kF:IN P w K mg base)(kG:Ec P w K mg base)(F:Fu K "way_fault" FE f fd):BD P w K mg base CL 4 f fd ["net","times","tie","thing"] (Di K .sh PD 4) :=
 F_ F kE (λhr=>(AG (An (i:=4) kE.nd rfl (TW rfl) (cg hr kG (AA (AN (dv 0)) (AA (AN (AW AL Ao (dv 2) AD)) (AA (AN (AW AL Ao (dv 2) AD)) (AA (AN (dv 3)) AK))))))
 (AG (A9 (Ad Jk O9 (dv 4) Bj (Ag _)) (AJ (Ab BJ)) Al)
 (AJ (Ab (Lq (A2 (cg hr kF (AA (AN (dv 4)) (AA (AN (dv 1)) (AA (AN (AW AL Ao (dv 2) AD)) AK))))) Bj BJ)))))) Vi
theorem kH:Ai ["net","times","thin","paper","number","tie","fault"] ["net","times","thin","paper"] (AH FF):=by walk_at "s"
theorem Me(T:Txt K mg)(kI:L3 P w K mg base)(j7:ED P w K mg base)(kJ:Kk P w K mg base)(kL:IK P w K mg base)(GX_NoPaper:Ij P w K mg base "NoPaper" ["word","number"] 1)(F:Fu K "lets_ways" FF f fd):BD P w K mg base (RX P w) 6 f fd ["net","times","thin","paper"] (am K .sh JI 4):=by
 exact fnX (wb:=λPr=>EC Pr) F kH (by decide) (λa A outer s H E Pr F0 U M l hr=>(Hm (U6 (DTW.dt (Ba (BH (A2 (Bn kI (hr.mono (by decide)) rfl (AA (AN (dv 0)) (AA (AN (dv 2)) AK))))) (Bo (BH (A2 (Bn j7 (hr.mono (by decide)) rfl (AA (AN (Ae As Bu rfl T.Gac PySem.boot_len (AM (Bn kJ (hr.mono (by decide)) rfl (AA (AN (dv 0)) (AA (AN (dv 2)) AK))) AV))) (AA (AN (dv 3)) AK)))))))) (G5 (KI N8 l (λ_ h=>h) (Lo GX_NoPaper (hr.mono (by decide)) rfl (AC BJ (AC AD AS))))) (Q_ Al))
 (Hm (WM (λ_ _ h=>h) Vv rfl (RA rfl T.Gah (Bn kJ (hr.mono (by decide)) rfl (AA (AN (dv 0)) (AA (AN (dv 2)) AK)))) (FZ rfl (BM (Ah (i:=4) kH.nd rfl (TW rfl)) (BM (Ah (i:=5) kH.nd rfl (TW rfl)) Du))) (Hm (U5 (An (i:=6) kH.nd rfl (TW rfl) (Bn kL (hr.mono (by decide)) rfl (AA (AN (dv 2)) (AA (AN (dv 1)) (AA (AN (dv 5)) (AA (AN (AW AL Ao (dv 3) (dv 4))) AK)))))))
 (G5 (U6 (Ad Qu VQ (dv 6) Bj (Ag _)) (G5 (KI N8 l (λ_ h=>h) (Lo GX_NoPaper (hr.mono (by decide)) rfl (AC (dv 6) (AC (dv 4) AS))))) (Q_ Al)))))
 (G5 (U5 (Ab Bt)))))) (λss n Pd Pr b hw=>Rv hw)
theorem Kv:Ai ["_law_thing","_law_least_here","_law_most"] ["_law_thing","_law_least_here","_law_most"] (AH Ei):=by walk_at "s"
theorem Kz(T:Txt K mg)(F:Fu K "_law_whole" Ei f fd):BD P w K mg base CL 1 f fd ["_law_thing","_law_least_here","_law_most"] (Di K .sh JH 3) :=
 F_ F Kv (λhr=>(AJ (Ab (EB (Bx Mu (dv 0) rfl T.Gaa rfl T.Gal (by decide +kernel)) (EB (VA (Bx OY (dv 0) rfl T.Gaa rfl T.Gam (by decide +kernel))) (Gd (VD MZ RL MZ RL (dv 1) (dv 0) (dv 2)))))))) MQ
theorem kM:Ai ["_law_feed_here","_law_many","_law_way","_law_words","_law_first","_law_letters","_law_word","_law_at","_law_names","_law_k","_law_sign"] ["_law_feed_here","_law_many"] (AH Dz):=by walk_at "s"
theorem Jo(T:Txt K mg)(kN:Bc P w K mg base)(F:Fu K "_law_places" Dz f fd):BD P w K mg base CL 2 f fd ["_law_feed_here","_law_many"] (Di K .fr JG 2) :=
 F_ F kM (λhr=>(AG (An (i:=2) kM.nd rfl (TW rfl) (cg hr kN (AA (A5 0) (AA (AN AD) AK))))
 (AG (An (i:=3) kM.nd rfl (dZ rfl) (Bp (AC BJ (AC BJ (AC BJ (AC BJ (AC BJ (AC BJ (AC BJ (AC BJ (AC BJ (AC BJ (AC BJ (AC BJ AS))))))))))))))
 (AG (A9 (DTW.dt (Gc (Ad CB De (dv 2) AD (Ag _)) (Fx (Ad (D6 hr) GF (dv 1) AD (Ag _))))) (AG (An (i:=4) kM.nd rfl (dZ rfl) (cg hr kN (AA (A5 0) (AA (AN AD) AK))))
 (AJ (Ab (Ae KY RJ rfl T.Gag ie (AM (Ks [("_law_words":Str),("_law_first":Str),("_law_k":Str)] [some 3,some 4,none] (DI.c (CU rfl T.Gad (AM (dv 1) AV))) (Ah (i:=2) (show dQ [("_law_words":Str),("_law_first":Str),("_law_k":Str)] by decide +kernel) rfl (TW rfl)) Bh (AW AL Ao (dv 0) (Am D5 C6 (Am Ak Ap (dv 1) (dv 2)) AD)) (by kernel_rfl)) AV))))) Al)
 (AG (An (i:=5) kM.nd rfl (dZ rfl) BJ)
 (AG (An (i:=6) kM.nd rfl (dZ rfl) (aN PySem.F.plainAttrs_str PySem.F.slot_str_join PySem.F.type_str_join V2 Y1 BJ (AM (Ks [("_law_letters":Str),("_law_feed_here":Str),("_law_k":Str)] [some 5,some 0,none] (DI.c (CU rfl T.Gad (AM AD AV))) (Ah (i:=2) (show dQ [("_law_letters":Str),("_law_feed_here":Str),("_law_k":Str)] by decide +kernel) rfl (TW rfl)) Bh (AW AL Ao (dv 0) (cg hr kN (AA (A5 1) (AA (AN AD) AK)))) (by kernel_rfl)) AV)))
 (AG (A9 (DTW.dt (Gc (Ad CB De (dv 2) AD (Ag _)) (Fx (Ad (D6 hr) GF (dv 1) AD (Ag _))))) (AJ (Ab (Ks [("_law_word":Str),("_law_k":Str)] [some 6,none] (DI.c (CU rfl T.Gad (AM (dv 1) AV))) (Ah (i:=1) (show dQ [("_law_word":Str),("_law_k":Str)] by decide +kernel) rfl (TW rfl)) Bh (Bq Cf Br (dv 0) BC (Ax (Am Ak Ap AD (dv 1)))) (by kernel_rfl)))) Al)
 (AG (An (i:=7) kM.nd rfl (TW rfl) (cg hr kN (AA (A5 0) (AA (AN AD) AK))))
 (AG (An (i:=4) kM.nd rfl (dZ rfl) (cg hr kN (AA (A5 0) (AA (AN AD) AK))))
 (AG (Dr (i:=8) kM.nd rfl (TW rfl) (Bp AS))
 (AG (DX dY rfl (CU rfl T.Gad (AM (dv 1) AV)) (Ah (i:=9) kM.nd rfl (TW rfl)) (AG (An (i:=10) kM.nd rfl (TW rfl) (AW AL Ao (dv 5) (Am D5 C6 (Am Ak Ap (dv 4) (dv 9)) AD)))
 (AJ (Om 8 PySem.F.plainAttrs_list PySem.F.slot_list_append PySem.F.type_list_append DC PC (pv 8) (AC (Am Ak Ap (Am Ak Ap (Am Ak Ap (Bq Cf Br (dv 6) BC (Ax (dv 7))) (dv 10)) (Bq Cf Br (dv 6) (Ax (Am Ak Ap (dv 7) AD)) (Ax AD))) (Am Do Fj BJ (Am D5 C6 (dv 9) AD))) AS)))))
 (AJ (Ab (Ae KY RJ rfl T.Gag ie (AM (Kr 8) AV))))))))))))))) Ru
theorem JX:Ai ["_law_feed_here","_law_scale"] ["_law_feed_here","_law_scale"] (AH D0):=by walk_at "s"
theorem Jp(T:Txt K mg)(kN:Bc P w K mg base)(F:Fu K "_law_length" D0 f fd):BD P w K mg base CL 2 f fd ["_law_feed_here","_law_scale"] (Di K .sh Wl 2) :=
 F_ F JX (λhr=>(AG (A9 (Ad CB De (dv 1) AD (Ag _)) (AJ (Ab (Am Ak Ap AD (cg hr kN (AA (A5 0) (AA (AN AD) AK)))))) Al)
 (AG (A9 (Ad CB De (dv 1) AD (Ag _)) (AJ (Ab (Am Ak Ap AD (cg hr kN (AA (A5 0) (AA (AN AD) AK)))))) Al)
 (AJ (Ab (Lq (Ad CB De (dv 1) AD (Ag _)) (Am En Ge (Am Eo C6 AD AD) (cg hr kN (AA (A5 0) (AA (AN AD) AK)))) (Am Ak Ap AD (cg hr kN (AA (A5 0) (AA (AN (Am Eo C6 AD AD)) AK)))))))))) Rw
theorem kO:Ai ["_law_feed_here","_law_most","_law_ties","_law_places_here","_law_few","_law_scale","_law_found","_law_one","_law_other"] ["_law_feed_here","_law_most","_law_ties"] (AH GS):=by walk_at "s"
theorem OF(T:Txt K mg)(kP:GH P w K mg base)(kN:Bc P w K mg base)(kQ:GG P w K mg base)(F:Fu K "_law_net" GS f fd):BD P w K mg base CL 3 f fd ["_law_feed_here","_law_most","_law_ties"] (Di K .sh Wj 3) :=
 F_ F kO (λhr=>(AG (An (i:=3) kO.nd rfl (TW rfl) (cg hr kQ (AA (A5 0) (AA (AN (Am Ak Ap AD (cg hr kN (AA (A5 0) (AA (AN (dv 1)) AK))))) AK))))
 (AG (An (i:=4) kO.nd rfl (TW rfl) (Am Ak Ap AD (cg hr kN (AA (A5 0) (AA (AN AD) AK)))))
 (AG (An (i:=5) kO.nd rfl (TW rfl) (cg hr kN (AA (A5 0) (AA (AN AD) AK))))
 (AG (Dr (i:=6) kO.nd rfl (TW rfl) (Bp AS))
 (AG (DX dY rfl (CU rfl T.Gad (AM (Ae As Bu rfl T.Gac PySem.boot_len (AM (dv 3) AV)) AV)) (Ah (i:=7) kO.nd rfl (TW rfl)) (AJ (DX dY rfl (Lp rfl T.Gad (AM (Am Ak Ap (dv 7) AD) (AM (Ae As Bu rfl T.Gac PySem.boot_len (AM (dv 3) AV)) AV))) (Ah (i:=8) kO.nd rfl (TW rfl)) (AJ (A9 (DTW.dt (Gc (Ad MZ RL (cg hr kN (AA (A5 0) (AA (AN AD) AK))) (dv 4) (Ag _)) (Fx (Ad (D6 hr) GF (Ae As Bu rfl T.Gac PySem.boot_len (AM (Kr 6) AV)) (dv 2) (Ag _))))) (AJ (Om 6 PySem.F.plainAttrs_list PySem.F.slot_list_append PySem.F.type_list_append DC PC (pv 6) (AC (Ar (AC (AW AL Ao (dv 3) (dv 7)) (AC (AW AL Ao (dv 3) (dv 8)) (AC (cg hr kP (AA (A5 0) (AA (AN (dv 5)) AK))) AS)))) AS))) Al)))))
 (AJ (Ab (Ar (AC (Bs Bb Cz rfl T.Gab gY (AM (dv 3) AV)) (AC (Bs Bb Cz rfl T.Gab gY (AM (Kr 6) AV)) AS))))))))))) X6
theorem kR:Ai ["_law_feed_here","_law_some","_law_at","_law_bottom"] ["_law_feed_here"] (AH Ej):=by walk_at "s"
theorem K0(T:Txt K mg)(kN:Bc P w K mg base)(F:Fu K "_law_times" Ej f fd):BD P w K mg base CL 2 f fd ["_law_feed_here"] (Di K .sh NT 1) :=
 F_ F kR (λhr=>(AG (An (i:=1) kR.nd rfl (TW rfl) (Bp (AC (Ar (AC AD (AC AD AS))) (AC (Ar (AC AD (AC AD AS))) (AC (Ar (AC AD (AC AD AS))) (AC (Ar (AC AD (AC AD AS))) (AC (Ar (AC AD (AC AD AS))) (AC (Ar (AC AD (AC AD AS))) (AC (Ar (AC (Am Eo C6 AD AD) (AC AD AS))) (AC (Ar (AC (Am Eo C6 AD AD) (AC (Am Eo C6 AD AD) AS))) AS))))))))))
 (AG (An (i:=2) kR.nd rfl (TW rfl) (cg hr kN (AA (A5 0) (AA (AN AD) AK))))
 (AG (A9 (Ad (D6 hr) GF (dv 2) AD (Ag _)) (AJ (Ab (AW AL Ao (dv 1) (dv 2)))) Al)
 (AG (An (i:=3) kR.nd rfl (TW rfl) (Am Ak Ap AD (cg hr kN (AA (A5 0) (AA (AN AD) AK)))))
 (AJ (Ab (Ar (AC (Am Ak Ap (dv 3) (cg hr kN (AA (A5 0) (AA (AN (Am Do Fj AD (dv 3))) AK)))) (AC (dv 3) AS)))))))))) MR
theorem HQ:Ai ["_law_ties"] ["_law_ties"] (AH C4):=by walk_at "s"
theorem Hb(T:Txt K mg)(F:Fu K "_law_in_order" C4 f fd):BD P w K mg base CL 1 f fd ["_law_ties"] (Di K .fr Dg 1) :=
 F_ F HQ (λhr=>(AJ (Ab (Ks [("_law_length_here":Str),("_law_one":Str),("_law_other":Str)] [none,none,none] (BS (Ae KW RI rfl T.Gag ie (AM (Ks [("_law_tie":Str)] [none] (BS (dv 0)) (Ah (i:=0) (show dQ [("_law_tie":Str)] by decide +kernel) rfl (TW rfl)) Bh (Ar (AC (AW AL Ao (dv 0) AD) (AC (AW AL Ao (dv 0) AD) (AC (AW AL Ao (dv 0) AD) AS)))) (by kernel_rfl)) AV))) (FZ rfl (BM (Ah (i:=0) (show dQ [("_law_length_here":Str),("_law_one":Str),("_law_other":Str)] by decide +kernel) rfl (TW rfl)) (BM (Ah (i:=1) (show dQ [("_law_length_here":Str),("_law_one":Str),("_law_other":Str)] by decide +kernel) rfl (TW rfl)) (BM (Ah (i:=2) (show dQ [("_law_length_here":Str),("_law_one":Str),("_law_other":Str)] by decide +kernel) rfl (TW rfl)) Du)))) Bh (Ar (AC (dv 1) (AC (dv 2) (AC (dv 0) AS)))) (by kernel_rfl))))) IX
theorem kT:Ai ["_law_ties","_law_place","_law_known","_law_going","_law_one","_law_other","_law_length_here","_law_here","_law_there","_law_reach"] ["_law_ties","_law_place"] (AH Ek):=by walk_at "s"
theorem K3(T:Txt K mg)(F:Fu K "_law_least" Ek f fd):BD P w K mg base CL 1 f fd ["_law_ties","_law_place"] (Di K .fr Dh 2) :=
 F_ F kT (λhr=>(AG (Dr (i:=2) kT.nd rfl (TW rfl) (VC (dv 1) AD))
 (AG (An (i:=3) kT.nd rfl (TW rfl) Bt)
 (AG (Ol dY (A2 (dv 3)) (AG (An (i:=3) kT.nd rfl (TW rfl) Bt)
 (AJ (WP dY rfl (pv 0) (FZ rfl (BM (Ah (i:=4) kT.nd rfl (TW rfl)) (BM (Ah (i:=5) kT.nd rfl (TW rfl)) (BM (Ah (i:=6) kT.nd rfl (TW rfl)) Du)))) (AJ (DX dY rfl (QF (Bp (AC (Ar (AC (dv 4) (AC (dv 5) AS))) (AC (Ar (AC (dv 5) (AC (dv 4) AS))) AS)))) (FZ rfl (BM (Ah (i:=7) kT.nd rfl (TW rfl)) (BM (Ah (i:=8) kT.nd rfl (TW rfl)) Du))) (AJ (A9 (Ad (UW hr) Xb (dv 7) (Kr 2) (by with_unfolding_all rfl)) (AG (An (i:=9) kT.nd rfl (TW rfl) (Am Ak Ap (Fz hr (Kr 2) (dv 7)) (dv 6)))
 (AJ (A9 (Ad (D6 hr) GF (dv 9) (WZ hr (Kr 2) (dv 8) (Am Ak Ap (dv 9) AD)) (Ag _)) (AG (WQ (i:=2) hr (pv 2) (dv 8) (dv 9))
 (AJ (An (i:=3) kT.nd rfl (TW rfl) Bt))) Al))) Al))))))))
 (AJ (WN 2 (pv 2))))))) Je
theorem kU:Ai ["_law_net_here","_law_times_here","_law_kept","_law_tie","_law_least_here"] ["_law_net_here","_law_times_here"] (AH DF):=by walk_at "s"
theorem IZ(T:Txt K mg)(kW:CQ P w K mg base)(kX:Et P w K mg base)(F:Fu K "_law_thinned" DF f fd):BD P w K mg base CL 2 f fd ["_law_net_here","_law_times_here"] (Di K .sh HF 2) :=
 F_ F kU (λhr=>(AG (Dr (i:=2) kU.nd rfl (TW rfl) (Bp AS))
 (AG (DX dY rfl (QF (cg hr kW (AA (AN (AW AL Ao (dv 0) AD)) AK))) (Ah (i:=3) kU.nd rfl (TW rfl)) (AG (An (i:=4) kU.nd rfl (TW rfl) (Wa hr (cg hr kX (AA (XW (Kr 2)) (AA (AN (AW AL Ao (dv 3) AD)) AK))) (AW AL Ao (dv 3) AD)))
 (AJ (A9 (DTW.dt (Ba (Ad Jk O9 (dv 4) Bj (Ag _)) (Bo (Ad Jl O_ (Am Do Fj (dv 4) (AW AL Ao (dv 1) AD)) (Am Do Fj (AW AL Ao (dv 3) AD) (AW AL Ao (dv 1) AD)) (Ag _))))) (AJ (Om 2 PySem.F.plainAttrs_list PySem.F.slot_list_append PySem.F.type_list_append DC PC (pv 2) (AC (dv 3) AS))) Al))))
 (AJ (Ab (Ar (AC (AW AL Ao (dv 0) AD) (AC (Bs Bb Cz rfl T.Gab gY (AM (Ae KW RI rfl T.Gag ie (AM (Kr 2) AV)) AV)) AS)))))))) HV
theorem kY:Ai ["_law_feed_here","_law_thing","_law_some","_law_at"] ["_law_feed_here","_law_thing"] (AH GR):=by walk_at "s"
theorem OE(T:Txt K mg)(kN:Bc P w K mg base)(F:Fu K "_law_odd" GR f fd):BD P w K mg base CL 2 f fd ["_law_feed_here","_law_thing"] (Di K .sh VT 2) :=
 F_ F kY (λhr=>(AG (Dr (i:=2) kY.nd rfl (TW rfl) (Bp (AC Bj (AC Bt (AC AD (AC AD (AC (CK AD) (AC BJ (AC BJ (AC (Ar AS) (AC (Bp AS) (AC (Am Eo C6 AD AD) (AC (Am Ak Ap (Am Eo C6 AD AD) AD) (AC BJ (AC BJ (AC (dv 1) AS))))))))))))))))
 (AG (A9 (A2 (ND kit_tuple FU (dv 1) rfl T.Gaa rfl T.Gab (by decide +kernel) rfl T.Gae (by decide +kernel))) (AG (An (i:=3) kY.nd rfl (TW rfl) (cg hr kN (AA (A5 0) (AA (AN (Am Ak Ap (Ae As Bu rfl T.Gac PySem.boot_len (AM (dv 1) AV)) AD)) AK))))
 (AG (Dr (i:=2) kY.nd rfl (TW rfl) (Am Mc Ho (Kr 2) (Bp (AC (Bs Es RK rfl T.Gae boot_list (AM (dv 1) AV)) (AC (Bs Bb Cz rfl T.Gab gY (AM (dv 1) AV)) (AC (NC (dv 1) (CK AD)) (AC (Am Ak Ap (Bq Cf Br (dv 1) BC (Ax (dv 3))) (Bq Cf Br (dv 1) (Ax (Am Ak Ap (dv 3) AD)) BC)) AS)))))))
 (AJ (Om 2 PySem.F.plainAttrs_list PySem.F.slot_list_append PySem.F.type_list_append DC PC (pv 2) (AC (Am Ak Ap (Am Ak Ap (Bq Cf Br (dv 1) BC (Ax (dv 3))) (Bq Cf Br (dv 1) (Ax (dv 3)) (Ax (Am Ak Ap (dv 3) AD)))) (Bq Cf Br (dv 1) (Ax (dv 3)) BC)) AS))))) Al)
 (AG (A9 (A2 (Bx Mu (dv 1) rfl T.Gaa rfl T.Gal (by decide +kernel))) (AJ (Dr (i:=2) kY.nd rfl (TW rfl) (Am Mc Ho (Kr 2) (Bp (AC (Am Ak Ap (dv 1) AD) (AC (Am En Ge (dv 1) AD) (AC (CF (Mb hr) RM (dv 1) AD (Ag _)) (AC (Bs Sq Y0 rfl T.Gaj boot_str (AM (dv 1) AV)) (AC (Am En Ge AD (dv 1)) AS))))))))) Al)
 (AJ (Ab (AW AL Ao (Kr 2) (cg hr kN (AA (A5 0) (AA (AN (Ae As Bu rfl T.Gac PySem.boot_len (AM (Kr 2) AV))) AK)))))))))) X5
theorem kZ:Ai ["_law_feed_here","_law_thing","_law_deep","_law_at","_law_part"] ["_law_feed_here","_law_thing","_law_deep"] (AH FN):=by walk_at "s"
theorem G0(T:Txt K mg)(kN:Bc P w K mg base)(kc:Km P w K mg base)(F:Fu K "_law_bent" FN f fd)(m:mg "_law_bent"=some (.ref f))(b:Binds K fd ["_law_feed_here","_law_thing","_law_deep"] []):∀j,BD P w K mg base CL (3+j) f fd ["_law_feed_here","_law_thing","_law_deep"] (Di K .sh (Hq j) 3)
 | 0=>by
  have kd:Got P w K mg base "_law_bent" 2 ["_law_feed_here","_law_thing","_law_deep"] .sh (λ_ _ _=>False):=QC F m b (λ_ _ _ h=>h.elim) (F.ok (k:=1) kZ (λvs H Q E h=>h.1) (λa A outer s H vs Q E hr h=>by obtain⟨_,_,_,_,_,_,_,_,_,hw,_⟩:=h; exact hw.elim));exact be (k:=2) F kZ (by decide) (λa A outer s H E hr=>(AG (A9 (DTW.dt (Ba (BH (A2 (ND kit_tuple FU (dv 1) rfl T.Gaa rfl T.Gab (by decide +kernel) rfl T.Gae (by decide +kernel)))) (Ba (Ad CB De (Ae As Bu rfl T.Gac PySem.boot_len (AM (dv 1) AV)) AD (Ag _)) (Ba (Ad CB De (dv 2) AD (Ag _)) (Bo (Ad CB De (Bn kN (hr.mono (by omega)) rfl (AA (A5 0) (AA (AN AD) AK))) AD (Ag _))))))) (AJ (Ab (Bn kc (hr.mono (by omega)) rfl (AA (A5 0) (AA (AN (dv 1)) AK))))) Al)
 (AG (An (i:=3) kZ.nd rfl (TW rfl) (Bn kN (hr.mono (by omega)) rfl (AA (A5 0) (AA (AN (Ae As Bu rfl T.Gac PySem.boot_len (AM (dv 1) AV))) AK))))
 (AG (An (i:=4) kZ.nd rfl (TW rfl) (Bn kd (hr.mono (On _)) rfl (AA (A5 0) (AA (AN (AW AL Ao (dv 1) (dv 3))) (AA (AN (Am En Ge (dv 2) AD)) AK)))))
 (AJ (Ab (Am Ak Ap (Am Ak Ap (Bq Cf Br (dv 1) BC (Ax (dv 3))) (Lq (A2 (Bx FU (dv 1) rfl T.Gaa rfl T.Gae (by decide +kernel))) (DE.sh (Bp (AC (dv 4) AS))) (Ar (AC (dv 4) AS)))) (Bq Cf Br (dv 1) (Ax (Am Ak Ap (dv 3) AD)) BC)))))))) (λss n Pd c hw=>Qf (λ_ _ _ h _=>absurd rfl h) hw)
 | j+1=>by
  have kd:Got P w K mg base "_law_bent" (3+j) ["_law_feed_here","_law_thing","_law_deep"] .sh (Hq j):=QC F m b (λ_ _ _ h=>by obtain⟨_,_,_,e,_⟩:=h; rw [e]; rfl) (G0 T kN kc F m b j);exact be (k:=3+j) F kZ (by decide) (λa A outer s H E hr=>(AG (A9 (DTW.dt (Ba (BH (A2 (ND kit_tuple FU (dv 1) rfl T.Gaa rfl T.Gab (by decide +kernel) rfl T.Gae (by decide +kernel)))) (Ba (Ad CB De (Ae As Bu rfl T.Gac PySem.boot_len (AM (dv 1) AV)) AD (Ag _)) (Ba (Ad CB De (dv 2) AD (Ag _)) (Bo (Ad CB De (Bn kN (hr.mono (by omega)) rfl (AA (A5 0) (AA (AN AD) AK))) AD (Ag _))))))) (AJ (Ab (Bn kc (hr.mono (by omega)) rfl (AA (A5 0) (AA (AN (dv 1)) AK))))) Al)
 (AG (An (i:=3) kZ.nd rfl (TW rfl) (Bn kN (hr.mono (by omega)) rfl (AA (A5 0) (AA (AN (Ae As Bu rfl T.Gac PySem.boot_len (AM (dv 1) AV))) AK))))
 (AG (An (i:=4) kZ.nd rfl (TW rfl) (Bn kd (hr.mono (On _)) rfl (AA (A5 0) (AA (AN (AW AL Ao (dv 1) (dv 3))) (AA (AN (Am En Ge (dv 2) AD)) AK)))))
 (AJ (Ab (Am Ak Ap (Am Ak Ap (Bq Cf Br (dv 1) BC (Ax (dv 3))) (Lq (A2 (Bx FU (dv 1) rfl T.Gaa rfl T.Gae (by decide +kernel))) (DE.sh (Bp (AC (dv 4) AS))) (Ar (AC (dv 4) AS)))) (Bq Cf Br (dv 1) (Ax (Am Ak Ap (dv 3) AD)) BC)))))))) (λss n Pd c hw=>Qf (j:=j+1) (λ_ _ _ _ h=>h) hw)
theorem IV:Ai ["_law_thing"] ["_law_thing"] (AH DM):=by walk_at "s"
theorem Ig(T:Txt K mg)(F:Fu K "_law_is_name" DM f fd):BD P w K mg base CL 1 f fd ["_law_thing"] (Di K .sh L4 1) :=
 F_ F IV (λhr=>(AG (A9 (DTW.dt (Ba (BH (A2 (Bx Mt (dv 0) rfl T.Gaa rfl T.Gaj (by decide +kernel)))) (Bo (BH (U3 (D6 hr) GF (D6 hr) GF AD (Ae As Bu rfl T.Gac PySem.boot_len (AM (dv 0) AV)) AD))))) (AJ (Ab Bt)) Al)
 (AJ (Ab (Ae (G_ rfl) RN rfl T.Gai gQ (AM (Ks [("_law_sign":Str)] [none] (BS (dv 0)) (Ah (i:=0) (show dQ [("_law_sign":Str)] by decide +kernel) rfl (TW rfl)) Bh (CF YO aR (dv 0) BJ (by with_unfolding_all rfl)) (by a)) AV)))))) Jf
theorem JY:Ai ["_law_places_here","_law_thing"] ["_law_places_here","_law_thing"] (AH D1):=by walk_at "s"
theorem Jq(T:Txt K mg)(ke:Df P w K mg base)(kg:HC P w K mg base)(F:Fu K "_law_is_tie" D1 f fd):BD P w K mg base CL 2 f fd ["_law_places_here","_law_thing"] (Di K .sh RS 2) :=
 F_ F JY (λhr=>(AG (A9 (DTW.dt (Ba (BH (A2 (Bx kit_tuple (dv 1) rfl T.Gaa rfl T.Gab (by decide +kernel)))) (Ba (Ad F7 LF (Ae As Bu rfl T.Gac PySem.boot_len (AM (dv 1) AV)) AD (Ag _)) (Bo (BH (A2 (cg hr kg (AA (AN (AW AL Ao (dv 1) AD)) (AA (AN AD) (AA (AN (Am Eo C6 AD AD)) AK)))))))))) (AJ (Ab Bt)) Al)
 (AG (A9 (DTW.dt (Ba (BH (A2 (cg hr ke (AA (AN (AW AL Ao (dv 1) AD)) AK)))) (Bo (BH (A2 (cg hr ke (AA (AN (AW AL Ao (dv 1) AD)) AK))))))) (AJ (Ab Bt)) Al)
 (AJ (Ab (EB (CF (C5 hr) C1 (AW AL Ao (dv 1) AD) (dv 0) (by a rfl)) (EB (CF (C5 hr) C1 (AW AL Ao (dv 1) AD) (dv 0) (by a rfl)) (Gd (CF (D6 hr) GF (AW AL Ao (dv 1) AD) (AW AL Ao (dv 1) AD) (Ag _)))))))))) Kw
theorem MK:Ai ["_law_things"] ["_law_things"] (AH FK):=by walk_at "s"
theorem Mj(T:Txt K mg)(F:Fu K "_law_rise" FK f fd):BD P w K mg base CL 1 f fd ["_law_things"] (Di K .sh DB 1) :=
 F_ F MK (λhr=>(AJ (Ab (CF (EN hr) C1 Bt (Ks [("_law_things":Str),("_law_k":Str)] [some 0,none] (DI.c (CU rfl T.Gad (AM (Am En Ge (Ae As Bu rfl T.Gac PySem.boot_len (AM (dv 0) AV)) AD) AV))) (Ah (i:=1) (show dQ [("_law_things":Str),("_law_k":Str)] by decide +kernel) rfl (TW rfl)) Bh (CF (D6 hr) GF (AW AL Ao (dv 0) (dv 1)) (AW AL Ao (dv 0) (Am Ak Ap (dv 1) AD)) (Ag _)) (by kernel_rfl)) (by with_unfolding_all rfl))))) Nz
theorem JZ:Ai ["_law_thing"] ["_law_thing"] (AH D4):=by walk_at "s"
theorem Jr(T:Txt K mg)(ke:Df P w K mg base)(kh:GI P w K mg base)(ki:IR P w K mg base)(F:Fu K "_law_is_net" D4 f fd):BD P w K mg base CL 3 f fd ["_law_thing"] (Di K .sh RR 1) :=
 F_ F JZ (λhr=>(AG (A9 (DTW.dt (Ba (BH (A2 (Bx kit_tuple (dv 0) rfl T.Gaa rfl T.Gab (by decide +kernel)))) (Ba (Ad F7 LF (Ae As Bu rfl T.Gac PySem.boot_len (AM (dv 0) AV)) AD (Ag _)) (Bo (BH (A2 (Bx kit_tuple (AW AL Ao (dv 0) AD) rfl T.Gaa rfl T.Gab (by decide +kernel)))))))) (AJ (Ab Bt)) Al)
 (AG (A9 (DTW.dt (Ba (BH (A2 (Bx kit_tuple (AW AL Ao (dv 0) AD) rfl T.Gaa rfl T.Gab (by decide +kernel)))) (Ba (Ad Jl O_ (Ae As Bu rfl T.Gac PySem.boot_len (AM (AW AL Ao (dv 0) AD) AV)) AD (Ag _)) (Bo (Ad Jl O_ (Ae As Bu rfl T.Gac PySem.boot_len (AM (AW AL Ao (dv 0) AD) AV)) AD (Ag _)))))) (AJ (Ab Bt)) Al)
 (AG (A9 (DTW.dt (Ba (Ad (C5 hr) C1 Bt (Ks [("_law_one":Str)] [none] (BS (AW AL Ao (dv 0) AD)) (Ah (i:=0) (show dQ [("_law_one":Str)] by decide +kernel) rfl (TW rfl)) Bh (cg hr ke (AA (AN (dv 0)) AK)) (by kernel_rfl)) (by with_unfolding_all rfl)) (Bo (BH (A2 (cg hr ki (AA (AN (AW AL Ao (dv 0) AD)) AK))))))) (AJ (Ab Bt)) Al)
 (AG (A9 (Ad (C5 hr) C1 Bt (Ks [("_law_thing":Str),("_law_tie":Str)] [some 0,none] (BS (AW AL Ao (dv 0) AD)) (Ah (i:=1) (show dQ [("_law_thing":Str),("_law_tie":Str)] by decide +kernel) rfl (TW rfl)) Bh (cg hr kh (AA (AN (AW AL Ao (dv 0) AD)) (AA (AN (dv 1)) AK))) (by kernel_rfl)) (by with_unfolding_all rfl)) (AJ (Ab Bt)) Al)
 (AJ (Ab (cg hr ki (AA (AN (Ks [("_law_tie":Str)] [none] (BS (AW AL Ao (dv 0) AD)) (Ah (i:=0) (show dQ [("_law_tie":Str)] by decide +kernel) rfl (TW rfl)) Bh (Bq Cf Br (dv 0) BC (Ax AD)) (by kernel_rfl))) AK))))))))) Kx
theorem kj:Ai ["_law_net_here","_law_thing","_law_there"] ["_law_net_here","_law_thing"] (AH DL):=by walk_at "s"
theorem Ie(T:Txt K mg)(km:GJ P w K mg base)(F:Fu K "_law_is_thin" DL f fd):BD P w K mg base CL 4 f fd ["_law_net_here","_law_thing"] (Di K .sh IS 2) :=
 F_ F kj (λhr=>(AG (A9 (DTW.dt (Ba (BH (A2 (cg hr km (AA (AN (dv 1)) AK)))) (Bo (Ad F7 LF (Ae (CV hr) Fi rfl T.Gaf gp (AM (AW AL Ao (dv 1) AD) AV)) (Ae (CV hr) Fi rfl T.Gaf gp (AM (AW AL Ao (dv 0) AD) AV)) (Ag _))))) (AJ (Ab Bt)) Al)
 (AG (An (i:=2) kj.nd rfl (dZ rfl) (Ks [("_law_tie":Str)] [none] (BS (AW AL Ao (dv 0) AD)) (Ah (i:=0) (show dQ [("_law_tie":Str)] by decide +kernel) rfl (TW rfl)) Bh (Ae (CV hr) Fi rfl T.Gaf gp (AM (dv 0) AV)) (by b)))
 (AJ (Ab (CF (EN hr) C1 Bt (Ks [("_law_there":Str),("_law_tie":Str)] [some 2,none] (BS (AW AL Ao (dv 1) AD)) (Ah (i:=1) (show dQ [("_law_there":Str),("_law_tie":Str)] by decide +kernel) rfl (TW rfl)) Bh (CF (C5 hr) C1 (Ae (CV hr) Fi rfl T.Gaf gp (AM (dv 1) AV)) (dv 0) (by a rfl)) (by b)) (by a rfl))))))) HW
theorem kn:Ai ["_law_net_here","_law_way","_law_sum_of","_law_k","_law_here","_law_there","_law_steps"] ["_law_net_here","_law_way"] (AH Dy):=by walk_at "s"
theorem Jn(T:Txt K mg)(F:Fu K "_law_walked" Dy f fd):BD P w K mg base CL 1 f fd ["_law_net_here","_law_way"] (Di K .sh LG 2) :=
 F_ F kn (λhr=>(AG (A9 (DTW.dt (Ba (BH (A2 (Bx kit_tuple (dv 1) rfl T.Gaa rfl T.Gab (by decide +kernel)))) (Ba (Ad CB De (Ae As Bu rfl T.Gac PySem.boot_len (AM (dv 1) AV)) AD (Ag _)) (Bo (Ad (C5 hr) C1 Bt (Ks [("_law_one":Str)] [none] (BS (dv 1)) (Ah (i:=0) (show dQ [("_law_one":Str)] by decide +kernel) rfl (TW rfl)) Bh (Bx Mt (dv 0) rfl T.Gaa rfl T.Gaj (by decide +kernel)) (by b)) (by a rfl)))))) (AJ (Ab Bj)) Al)
 (AG (A9 (Ad (C5 hr) C1 Bt (Ks [("_law_net_here":Str),("_law_one":Str)] [some 0,none] (BS (dv 1)) (Ah (i:=1) (show dQ [("_law_net_here":Str),("_law_one":Str)] by decide +kernel) rfl (TW rfl)) Bh (CF (C5 hr) C1 (dv 1) (AW AL Ao (dv 0) AD) (by a rfl)) (by b)) (by a rfl)) (AJ (Ab Bj)) Al)
 (AG (An (i:=2) kn.nd rfl (TW rfl) AD)
 (AG (DX dY rfl (Lp rfl T.Gad (AM AD (AM (Ae As Bu rfl T.Gac PySem.boot_len (AM (dv 1) AV)) AV))) (Ah (i:=3) kn.nd rfl (TW rfl)) (AG (Yj (Bq Cf Br (dv 1) (Ax (Am En Ge (dv 3) AD)) (Ax (Am Ak Ap (dv 3) AD))) (FZ rfl (BM (Ah (i:=4) kn.nd rfl (dZ rfl)) (BM (Ah (i:=5) kn.nd rfl (dZ rfl)) Du))))
 (AG (M_ (i:=6) kn.nd rfl (TW rfl) rfl [("_law_here":Str),("_law_there":Str),("_law_tie":Str)] [some 4,some 5,none] (BS (AW AL Ao (dv 0) AD)) (λ_ _ _ _ _=>(Ah (i:=2) (show dQ [("_law_here":Str),("_law_there":Str),("_law_tie":Str)] by decide +kernel) rfl (TW rfl))) (λ_ _ _ _ _=>(Dt (DTW.dt (Gc (Ad F7 LF (dv 0) (dv 1) (Ag _)) (Gc (Ad (C5 hr) C1 (dv 0) (Bq Cf Br (dv 2) BC (Ax AD)) (by a rfl)) (Fx (Ad (C5 hr) C1 (dv 1) (Bq Cf Br (dv 2) BC (Ax AD)) (by a rfl)))))))) (λ_ _ _ _ _=>(AW AL Ao (dv 2) AD)) (by b))
 (AG (A9 (Ad (Mb hr) RM (dv 6) (Bp AS) (Ag _)) (AJ (Ab Bj)) Al)
 (AJ (An (i:=2) kn.nd rfl (TW rfl) (Am Ak Ap (dv 2) (AW AL Ao (dv 6) AD))))))))
 (AJ (Ab (dv 2)))))))) Ph
theorem ko:Ai ["_law_net_here","_law_times_here","_law_thin","_law_paper","_law_left","_law_number","_law_tie","_law_length_here"] ["_law_net_here","_law_times_here","_law_thin","_law_paper"] (AH C3):=by walk_at "s"
theorem HZ(T:Txt K mg)(kW:CQ P w K mg base)(kr:Fo P w K mg base)(ku:EG P w K mg base)(F:Fu K "_law_ways_due" C3 f fd):BD P w K mg base CL 5 f fd ["_law_net_here","_law_times_here","_law_thin","_law_paper"] (Di K .sh NW 4) :=
 F_ F ko (λhr=>(AG (A9 (DTW.dt (Ba (BH (A2 (cg hr kr (AA (AN (dv 0)) (AA (AN (dv 2)) AK))))) (Bo (BH (A2 (Bx kit_tuple (dv 3) rfl T.Gaa rfl T.Gab (by decide +kernel))))))) (AJ (Ab (Ar (AC BJ (AC AD AS))))) Al)
 (AG (An (i:=4) ko.nd rfl (TW rfl) (cg hr kW (AA (AN (Ks [("_law_thin":Str),("_law_tie":Str)] [some 2,none] (BS (AW AL Ao (dv 0) AD)) (Ah (i:=1) (show dQ [("_law_thin":Str),("_law_tie":Str)] by decide +kernel) rfl (TW rfl)) (Dt (Ad (EN hr) C1 (dv 1) (AW AL Ao (dv 0) AD) (by with_unfolding_all rfl))) (dv 1) (by a))) AK)))
 (AG (A9 (Ad F7 LF (Ae As Bu rfl T.Gac PySem.boot_len (AM (dv 3) AV)) (Ae As Bu rfl T.Gac PySem.boot_len (AM (dv 4) AV)) (Ag _)) (AJ (Ab (Ar (AC BJ (AC AD AS))))) Al)
 (AG (DX dY rfl (RA rfl T.Gah (dv 4)) (FZ rfl (BM (Ah (i:=5) ko.nd rfl (TW rfl)) (BM (Ah (i:=6) ko.nd rfl (TW rfl)) Du))) (AG (An (i:=7) ko.nd rfl (TW rfl) (cg hr ku (AA (AN (dv 2)) (AA (AN (AW AL Ao (dv 3) (dv 5))) AK))))
 (AG (A9 (DTW.dt (Ba (Ad Jk O9 (dv 7) Bj (Ag _)) (Ba (Ad F7 LF (AW AL Ao (AW AL Ao (dv 3) (dv 5)) AD) (AW AL Ao (dv 6) AD) (Ag _)) (Bo (Ad F7 LF (AW AL Ao (AW AL Ao (dv 3) (dv 5)) (CK AD)) (AW AL Ao (dv 6) AD) (Ag _)))))) (AJ (Ab (Ar (AC BJ (AC (dv 5) AS))))) Al)
 (AJ (A9 (Ad Jl O_ (Am Do Fj (dv 7) (AW AL Ao (dv 1) AD)) (Am Do Fj (AW AL Ao (dv 6) AD) (AW AL Ao (dv 1) AD)) (Ag _)) (AJ (Ab (Ar (AC BJ (AC (dv 5) AS))))) Al)))))
 (AJ (Ab Bj))))))) Tx
theorem kx:Ai ["_law_feed_here","_law_net_here","_law_times_here","_law_thin","_law_way","_law_more"] ["_law_feed_here","_law_net_here","_law_times_here"] (AH Cm):=by walk_at "s"
theorem Gz(T:Txt K mg)(kN:Bc P w K mg base)(ky:Fk P w K mg base)(F:Fu K "_law_some_thin" Cm f fd):BD P w K mg base CL 3 f fd ["_law_feed_here","_law_net_here","_law_times_here"] (Di K .sh NU 3) :=
 F_ F kx (λhr=>(AG (An (i:=3) kx.nd rfl (dZ rfl) (cg hr ky (AA (AN (dv 1)) (AA (AN (dv 2)) AK))))
 (AG (An (i:=4) kx.nd rfl (TW rfl) (cg hr kN (AA (A5 0) (AA (AN AD) AK))))
 (AG (A9 (Ad CB De (dv 4) AD (Ag _)) (AJ (Ab (Ar (AC (AW AL Ao (dv 1) AD) (AC (Bs Bb Cz rfl T.Gab gY (AM (Ks [("_law_feed_here":Str),("_law_tie":Str)] [some 0,none] (BS (AW AL Ao (dv 1) AD)) (Ah (i:=1) (show dQ [("_law_feed_here":Str),("_law_tie":Str)] by decide +kernel) rfl (TW rfl)) (Dt (Ad Jl O_ (cg hr kN (AA (A5 0) (AA (AN AD) AK))) AD (Ag _))) (dv 1) (by kernel_rfl)) AV)) AS))))) Al)
 (AG (U7 (i:=5) kx.nd rfl (TW rfl) rfl [("_law_thin":Str),("_law_feed_here":Str),("_law_tie":Str)] [some 3,some 0,none] (BS (AW AL Ao (dv 1) AD)) (λ_ _ _ _ _=>(Ah (i:=2) (show dQ [("_law_thin":Str),("_law_feed_here":Str),("_law_tie":Str)] by decide +kernel) rfl (TW rfl))) (λ_ _ _ _ _=>(Dt (DTW.dt (Ba (Ad (C5 hr) C1 (dv 2) (AW AL Ao (dv 0) AD) (by with_unfolding_all rfl)) (Bo (Ad CB De (cg hr kN (AA (A5 1) (AA (AN AD) AK))) AD (Ag _))))))) (λ_ _ _ _ _=>(dv 2)) (by kernel_rfl))
 (AG (A9 (DTW.dt (Gc (Ad CB De (dv 4) AD (Ag _)) (Fx (Ad (YM hr) aQ (Kr 5) (Bp AS) (Ag _))))) (AJ (WO (i:=5) (pv 5) (cg hr kN (AA (A5 0) (AA (AN (Ae As Bu rfl T.Gac PySem.boot_len (AM (Kr 5) AV))) AK))))) Al)
 (AJ (Ab (Ar (AC (AW AL Ao (dv 1) AD) (AC (Bs Bb Cz rfl T.Gab gY (AM (Kr 5) AV)) AS))))))))))) GU
theorem kz:Ai ["_law_e","_law_strange"] ["_law_e"] (AH DJ):=by walk_at "s"
theorem Ib(T:Txt K mg)(F:Fu K "_law_refusal" DJ f fd):L7 P w K mg base 1 f fd ["_law_e"] (Di K .sh NV 1):=by
 obtain⟨C_NoLine,U_NoLine,xc_NoLine,xm_NoLine⟩:=T.x_NoLine;obtain⟨C_NoPaper,U_NoPaper,xc_NoPaper,xm_NoPaper⟩:=T.x_NoPaper;obtain⟨C_NoPlace,U_NoPlace,xc_NoPlace,xm_NoPlace⟩:=T.x_NoPlace;obtain⟨C_NoRow,U_NoRow,xc_NoRow,xm_NoRow⟩:=T.x_NoRow;obtain⟨C_NoTie,U_NoTie,xc_NoTie,xm_NoTie⟩:=T.x_NoTie;obtain⟨C_TooMany,U_TooMany,xc_TooMany,xm_TooMany⟩:=T.x_TooMany;obtain⟨C_Twice,U_Twice,xc_Twice,xm_Twice⟩:=T.x_Twice;exact bd F kz (by decide) (λa A outer s H E hr b=>(AG (An (i:=1) kz.nd rfl (TW rfl) (WW (i:=0) (F1 (by decide) xc_NoLine rfl xm_NoLine (F1 (by decide) xc_NoPlace rfl xm_NoPlace (F1 (by decide) xc_NoRow rfl xm_NoRow (F1 (by decide) xc_NoTie rfl xm_NoTie (F1 (by decide) xc_TooMany rfl xm_TooMany (F1 (by decide) xc_Twice rfl xm_Twice Yv)))))) (by decide) rfl T.Gaa))
 (AG (A9 (DTW.dt (Ba (A2 (dv 1)) (Ba (BH (A2 (Ym (i:=0) (by decide) xc_NoPaper rfl xm_NoPaper rfl T.Gaa))) (Bo (BH (A2 (WY (i:=0) rfl T.Gak rfl T.Gaa))))))) (AJ (Ab (Ar (AC BJ (AC AD AS))))) Al)
 (AJ (Ab (Ar (AC (XU (i:=0) (by decide)) (AC (XU (i:=0) (by decide)) AS)))))))) (λss n Pd c hw=>Tv hw)
theorem k4:Ai ["_law_thin","_law_one","_law_other","_law_known","_law_way","_law_ahead"] ["_law_thin","_law_one","_law_other"] (AH DK):=by walk_at "s"
theorem Ic(T:Txt K mg)(kX:Et P w K mg base)(ku:EG P w K mg base)(F:Fu K "_law_own_way" DK f fd):BD P w K mg base CL 2 f fd ["_law_thin","_law_one","_law_other"] (Di K .sh Kp 3) :=
 F_ F k4 (λhr=>(AG (An (i:=3) k4.nd rfl (dZ rfl) (Yn (cg hr kX (AA (XW (AW AL Ao (dv 0) AD)) (AA (AN (dv 1)) AK)))))
 (AG (Dr (i:=4) k4.nd rfl (dZ rfl) (Bp (AC (dv 2) AS)))
 (AG (Ol dY (DTW.dt (Gc (Ad F7 LF (AW AL Ao (Kr 4) (CK AD)) (dv 1) (Ag _)) (Fx (Ad (UW hr) Xb (AW AL Ao (Kr 4) (CK AD)) (dv 3) (by with_unfolding_all rfl))))) (AG (M_ (i:=5) k4.nd rfl (TW rfl) rfl [("_law_thin":Str),("_law_way":Str),("_law_here":Str)] [some 0,some 4,none] (DI.c (WT (dv 3))) (λ_ _ _ _ _=>(Ah (i:=2) (show dQ [("_law_thin":Str),("_law_way":Str),("_law_here":Str)] by decide +kernel) rfl (TW rfl))) (λ_ _ _ _ _=>(Dt (Ad Qu VQ (cg hr ku (AA (AN (dv 0)) (AA (AN (Ar (AC (dv 2) (AC (AW AL Ao (Kr 1) (CK AD)) AS)))) AK))) Bj (Ag _)))) (λ_ _ _ _ _=>(dv 2)) (by kernel_rfl))
 (AG (M_ (i:=5) k4.nd rfl (TW rfl) rfl [("_law_known":Str),("_law_thin":Str),("_law_way":Str),("_law_here":Str)] [some 3,some 0,some 4,none] (BS (dv 5)) (λ_ _ _ _ _=>(Ah (i:=3) (show dQ [("_law_known":Str),("_law_thin":Str),("_law_way":Str),("_law_here":Str)] by decide +kernel) rfl (TW rfl))) (λ_ _ _ _ _=>(Dt (Ad CB De (Am Ak Ap (Fz hr (dv 0) (dv 3)) (cg hr ku (AA (AN (dv 1)) (AA (AN (Ar (AC (dv 3) (AC (AW AL Ao (Kr 2) (CK AD)) AS)))) AK)))) (Fz hr (dv 0) (AW AL Ao (Kr 2) (CK AD))) (Ag _)))) (λ_ _ _ _ _=>(dv 3)) (by kernel_rfl))
 (AJ (Om 4 PySem.F.plainAttrs_list PySem.F.slot_list_append PySem.F.type_list_append DC PC (pv 4) (AC (AW AL Ao (dv 5) AD) AS))))))
 (AJ (Ab (Lq (Ad CB De (AW AL Ao (Kr 4) (CK AD)) (dv 1) (Ag _)) (Bs Bb Cz rfl T.Gab gY (AM (NC (Kr 4) (CK AD)) AV)) (Ar (AC (dv 1) (AC (dv 2) AS)))))))))) Tw
theorem k6:Ai ["_law_net_here","_law_times_here","_law_thin","_law_paper","_law_found","_law_stays","_law_due","_law_e"] ["_law_net_here","_law_times_here","_law_thin","_law_paper"] (AH El):=by walk_at "s"
theorem K4(T:Txt K mg)(k7:Fl P w K mg base)(k8:E4 P w K mg base)(GR_lets_ways:IL P w K mg base)(F:Fu K "_law_asked" El f fd):BD P w K mg base CL 7 f fd ["_law_net_here","_law_times_here","_law_thin","_law_paper"] (Di K .sh EH 4):=by
 obtain⟨C_ThinError,xi_ThinError,xm_ThinError,xk_ThinError⟩:=T.x_ThinError;exact F_ F k6 (λhr=>(AG (An (i:=4) k6.nd rfl (TW rfl) Bj)
 (AG (An (i:=5) k6.nd rfl (TW rfl) (Ae (CV hr) Fi rfl T.Gaf gp (AM (Ar (AC (dv 0) (AC (dv 2) (AC (dv 3) AS)))) AV)))
 (AG (Yi rfl rfl (λ_ _ h=>h) (U4 (WL (i:=4) k6.nd rfl (TW rfl) (U9 GR_lets_ways (hr.mono (by decide)) rfl (AA (AN (dv 0)) (AA (AN (dv 1)) (AA (AN (dv 2)) (AA (AN (dv 3)) AK)))))))
 (WU (i:=7) k6.nd rfl rfl rfl xm_ThinError xk_ThinError (TW ⟨rfl,xi_ThinError⟩) rfl rfl (λa=>(AJ (An (i:=4) k6.nd rfl (TW rfl) (VE (a:=a) 7 rfl k7 ((hr.held (some (.ref a))).mono (by decide)) rfl (AA (aO 7) AK)))))
 Yl))
 (AG (An (i:=6) k6.nd rfl (TW rfl) (cg hr k8 (AA (AN (dv 0)) (AA (AN (dv 1)) (AA (AN (dv 2)) (AA (AN (dv 3)) AK))))))
 (AJ (Ab (EB (CF CB De (Ae (CV hr) Fi rfl T.Gaf gp (AM (dv 4) AV)) (Ae (CV hr) Fi rfl T.Gaf gp (AM (Lq (Ad Jk O9 (dv 6) Bj (Ag _)) Bt (dv 6)) AV)) (Ag _)) (Gd (CF CB De (Ae (CV hr) Fi rfl T.Gaf gp (AM (Ar (AC (dv 0) (AC (dv 2) (AC (dv 3) AS)))) AV)) (dv 5) (Ag _))))))))))) Tz
theorem k9:Ai ["_law_feed_here","_law_net_here","_law_paper","_law_at","_law_way","_law_more","_law_other","_law_some"] ["_law_feed_here","_law_net_here","_law_paper"] (AH CY):=by walk_at "s"
theorem GW(T:Txt K mg)(kd:Fp P w K mg base)(kN:Bc P w K mg base)(F:Fu K "_law_paper_bent" CY f fd):BD P w K mg base CL 8 f fd ["_law_feed_here","_law_net_here","_law_paper"] (Di K .sh RQ 3) :=
 F_ F k9 (λhr=>(AG (A9 (DTW.dt (Ba (Ad (Mb hr) RM (dv 2) (Ar AS) (Ag _)) (Bo (Ad CB De (cg hr kN (AA (A5 0) (AA (AN AD) AK))) AD (Ag _))))) (AJ (Ab (cg hr kd (AA (A5 0) (AA (AN (dv 2)) (AA (AN AD) AK)))))) Al)
 (AG (An (i:=3) k9.nd rfl (TW rfl) (cg hr kN (AA (A5 0) (AA (AN (Ae As Bu rfl T.Gac PySem.boot_len (AM (dv 2) AV))) AK))))
 (AG (An (i:=4) k9.nd rfl (TW rfl) (AW AL Ao (dv 2) (dv 3)))
 (AG (An (i:=5) k9.nd rfl (TW rfl) (Bp (AC (NC (dv 4) (CK AD)) (AC (Am Ak Ap (Bq Cf Br (dv 4) BC (Ax AD)) (dv 4)) (AC (Am Ak Ap (dv 4) (Bq Cf Br (dv 4) (Ax (CK AD)) BC)) (AC (Bq Cf Br (dv 4) BC (Ax (CK AD))) (AC (Bq Cf Br (dv 4) (Ax AD) BC) (AC (Bs Es RK rfl T.Gae boot_list (AM (dv 4) AV)) (AC (Ar (AC (AW AL Ao (dv 4) AD) (AC (AW AL Ao (dv 4) (CK AD)) AS))) (AC Bj (AC (Ar AS) AS)))))))))))
 (AG (An (i:=5) k9.nd rfl (TW rfl) (Am Ak Ap (dv 5) (Bp (AC (AW AL Ao (dv 2) (cg hr kN (AA (A5 0) (AA (AN (Ae As Bu rfl T.Gac PySem.boot_len (AM (dv 2) AV))) AK)))) (AC (Am Ak Ap (Am Ak Ap (Bq Cf Br (dv 4) BC (Ax AD)) (Ar (AC (AW AL Ao (AW AL Ao (dv 1) AD) (cg hr kN (AA (A5 0) (AA (AN (Ae As Bu rfl T.Gac PySem.boot_len (AM (AW AL Ao (dv 1) AD) AV))) AK)))) AS))) (Bq Cf Br (dv 4) (Ax AD) BC)) AS)))))
 (AG (An (i:=6) k9.nd rfl (TW rfl) (AW AL Ao (dv 5) (cg hr kN (AA (A5 0) (AA (AN (Ae As Bu rfl T.Gac PySem.boot_len (AM (dv 5) AV))) AK)))))
 (AG (An (i:=7) k9.nd rfl (TW rfl) (Bp (AC (Am Ak Ap (Am Ak Ap (Bq Cf Br (dv 2) BC (Ax (dv 3))) (Ar (AC (dv 6) AS))) (Bq Cf Br (dv 2) (Ax (Am Ak Ap (dv 3) AD)) BC)) (AC (Am Ak Ap (Bq Cf Br (dv 2) BC (Ax (dv 3))) (Bq Cf Br (dv 2) (Ax (Am Ak Ap (dv 3) AD)) BC)) (AC (Am Ak Ap (dv 2) (Ar (AC (dv 4) AS))) (AC (NC (dv 2) (CK AD)) AS))))))
 (AJ (Ab (AW AL Ao (dv 7) (AW AL Ao (Bp (AC AD (AC AD (AC AD (AC AD (AC AD (AC AD (AC AD AS)))))))) (cg hr kN (AA (A5 0) (AA (AN AD) AK))))))))))))))) Vj
end
section
variable {P:Program}{w:World}{K:Frag}{mg:Str->Option Value}{base:Heap}
theorem ML:Ai ["_law_script"] ["_law_script"] (AH FL):=by constructor <;> first | rfl | decide +kernel
theorem Ml{f:Ch}{fd:dU}(T:Txt K mg)(F:Fun K "_law_feed" "_law_feed" FL f fd):BD P w K mg base CL 1 f fd ["_law_script"] (ME K):=by
 refine F.ok ML (λvs H Q E h=>?_) (λd A outer s H vs Q E hr h=>?_)
 ·obtain⟨a,ns,rfl,_⟩:=h
  rfl
 ·obtain⟨a,ns,rfl,⟨e,hS⟩,q⟩:=h
  refine⟨_,Cb (GV (Pu (BB (LU Es rfl T.Gae boot_list (BB (N5 sl_list (pv 0) Qo (Qn A_)) B0)) (BB A_ (BB A_ B0))))),?_⟩;refine⟨_,rfl,63,rfl,a,_,rfl,hS,λp hp=>⟨p,_,rfl,.inl (SqL.of AX),λc i=>⟨by show 3<=sizeLine; decide,λg hg=>?_⟩⟩⟩;rw [aP e] at hg ⊢;have b:c≠g:=λz=>by rw [← z,AX] at hg; cases hg
  exact q c g _ b (by rw [AQ b,AX]) AX
theorem k_:Ai ["_law_script","_law_feed_here","_law_net_here","_law_times_here","_law_k","_law_thin","_law_left","_law_paper","_law_turn","_law_bent_here","_law_odd_here"] ["_law_script"] (AH Jb):=by walk_at "s"
theorem YQ{f ff:Ch}{fd b:dU}(T:Txt K mg)(Gf:BD P w K mg base CL 1 ff b ["_law_script"] (ME K))(mf:mg "_law_feed"=some (.ref ff))(kf:keepIn K (.ref ff)=true)(bf:Binds K b ["_law_script"] [])
  (lA:HE P w K mg base) (kd:Fp P w K mg base) (kW:CQ P w K mg base) (lB:Ko P w K mg base) (kN:Bc P w K mg base) (lC:Fn P w K mg base) (lD:Dw P w K mg base) (lE:Ee P w K mg base) (lF:HD P w K mg base) (F:Fun K "law" "law" Jb f fd):BD P w K mg base CL 9 f fd ["_law_script"] (Nn K):=by
 exact aF (n0:=3000) F k_ rfl (by decide) (λc A outer s H E hr=>FO (i:=1) k_.nd rfl (TW rfl) (Qr Gf (hr.mono (by decide)) rfl mf kf bf .nil XB (BB (pv 0) B0)))
  (λc A outer s H E hr=>(AG (An (i:=2) k_.nd rfl (TW rfl) (cg hr lB (AA (A5 1) (AA (AN AD) (AA (AN AD) AK)))))
 (AG (An (i:=3) k_.nd rfl (TW rfl) (cg hr lF (AA (A5 1) AK)))
 (AG (DX dY rfl (CU rfl T.Gad (AM AD AV)) (Ah (i:=4) k_.nd rfl (TW rfl)) (AG (An (i:=5) k_.nd rfl (dZ rfl) (cg hr lE (AA (A5 1) (AA (AN (dv 2)) (AA (AN (dv 3)) AK)))))
 (AG (An (i:=6) k_.nd rfl (TW rfl) (cg hr kW (AA (AN (Ks [("_law_thin":Str),("_law_tie":Str)] [some 5,none] (BS (AW AL Ao (dv 2) AD)) (Ah (i:=1) (show dQ [("_law_thin":Str),("_law_tie":Str)] by decide +kernel) rfl (TW rfl)) (Dt (Ad (EN hr) C1 (dv 1) (AW AL Ao (dv 0) AD) (by with_unfolding_all rfl))) (dv 1) (by a))) AK)))
 (AG (An (i:=7) k_.nd rfl (TW rfl) (Bs Bb Cz rfl T.Gab gY (AM (Ks [("_law_thin":Str),("_law_tie":Str)] [some 5,none] (BS (dv 6)) (Ah (i:=1) (show dQ [("_law_thin":Str),("_law_tie":Str)] by decide +kernel) rfl (TW rfl)) Bh (cg hr lC (AA (AN (dv 0)) (AA (AN (AW AL Ao (dv 1) AD)) (AA (AN (AW AL Ao (dv 1) AD)) AK)))) (by a)) AV)))
 (AG (A9 (BH (A2 (cg hr lA (AA (AN (dv 2)) (AA (AN (dv 3)) (AA (AN (dv 5)) (AA (AN (dv 7)) AK))))))) (AJ (Ab Bt)) Al)
 (AJ (DX dY rfl (CU rfl T.Gad (AM AD AV)) (Ah (i:=8) k_.nd rfl (TW rfl)) (AG (An (i:=9) k_.nd rfl (TW rfl) (cg hr lD (AA (A5 1) (AA (AN (dv 2)) (AA (AN (dv 7)) AK)))))
 (AG (A9 (Ad CB De (cg hr kN (AA (A5 1) (AA (AN AD) AK))) AD (Ag _)) (AJ (An (i:=9) k_.nd rfl (TW rfl) (cg hr kd (AA (A5 1) (AA (AN (dv 9)) (AA (AN AD) AK)))))) Al)
 (AG (A9 (BH (A2 (cg hr lA (AA (AN (dv 2)) (AA (AN (dv 3)) (AA (AN (dv 5)) (AA (AN (dv 9)) AK))))))) (AJ (Ab Bt)) Al)
 (AJ (A9 (BH (A2 (cg hr lA (AA (AN (dv 2)) (AA (AN (dv 3)) (AA (AN (cg hr kd (AA (A5 1) (AA (AN (dv 5)) (AA (AN AD) AK))))) (AA (AN (dv 7)) AK))))))) (AJ (Ab Bt)) Al))))))))))))
 (AG (DX dY rfl (QF (Bp (AC Bj (AC Bt (AC (Ar AS) (AC (Bp AS) (AC AD (AC (Ar (AC (Ar AS) AS)) (AC (Ar (AC Bj AS)) (AC (dv 2) AS)))))))))) (Ah (i:=10) k_.nd rfl (TW rfl)) (AJ (A9 (DTW.dt (Ba (BH (A2 (cg hr lA (AA (AN (dv 2)) (AA (AN (dv 3)) (AA (AN (dv 10)) (AA (AN (Ar AS)) AK))))))) (Bo (BH (A2 (cg hr lA (AA (AN (dv 2)) (AA (AN (dv 3)) (AA (AN (dv 2)) (AA (AN (dv 10)) AK)))))))))) (AJ (Ab Bt)) Al)))
 (AJ (Ab Bt))))))) Pg
end
theorem K8{β:Type}{n:Nat}(g k:List Cn->β)(us:List Cn)(h:us.length=n+1)(c:∀(a:Cn) (r:List Cn),r.length=n->g (a::r)=k (a::r)):g us=k us:=by
 cases us with
 | nil=>cases h
 | cons a r=>exact c a r (jy h)
theorem len0{β:Type}(g k:List Cn->β)(us:List Cn)(h:us.length=0)(c:g []=k []):g us=k us:=by
 cases us with
 | nil=>exact c
 | cons a r=>cases h
theorem cB{d:dU}{ps:List Str}(c:∀a0:Cn,bindArgs d ⟨[a0],[]⟩=pure (ps.zip [a0]))(us:List Cn)(h:us.length=1):bindArgs d ⟨us,[]⟩=pure (ps.zip us):=K8 (λr=>bindArgs d ⟨r,[]⟩) (λr=>pure (ps.zip (r))) us h λa0 r h=>len0 (λr=>bindArgs d ⟨a0::r,[]⟩) (λr=>pure (ps.zip (a0::r))) r h (c a0)
theorem cX{d:dU}{ps:List Str}(c:∀a0 a1:Cn,bindArgs d ⟨[a0,a1],[]⟩=pure (ps.zip [a0,a1]))(us:List Cn)(h:us.length=2):bindArgs d ⟨us,[]⟩=pure (ps.zip us):=K8 (λr=>bindArgs d ⟨r,[]⟩) (λr=>pure (ps.zip (r))) us h λa0 r h=>K8 (λr=>bindArgs d ⟨a0::r,[]⟩) (λr=>pure (ps.zip (a0::r))) r h λa1 r h=>len0 (λr=>bindArgs d ⟨a0::a1::r,[]⟩) (λr=>pure (ps.zip (a0::a1::r))) r h (c a0 a1)
theorem bn{d:dU}{ps:List Str}(c:∀a0 a1 a2:Cn,bindArgs d ⟨[a0,a1,a2],[]⟩=pure (ps.zip [a0,a1,a2]))(us:List Cn)(h:us.length=3):bindArgs d ⟨us,[]⟩=pure (ps.zip us):=K8 (λr=>bindArgs d ⟨r,[]⟩) (λr=>pure (ps.zip (r))) us h λa0 r h=>K8 (λr=>bindArgs d ⟨a0::r,[]⟩) (λr=>pure (ps.zip (a0::r))) r h λa1 r h=>K8 (λr=>bindArgs d ⟨a0::a1::r,[]⟩) (λr=>pure (ps.zip (a0::a1::r))) r h λa2 r h=>len0 (λr=>bindArgs d ⟨a0::a1::a2::r,[]⟩) (λr=>pure (ps.zip (a0::a1::a2::r))) r h (c a0 a1 a2)
theorem cW{d:dU}{ps:List Str}(c:∀a0 a1 a2 a3:Cn,bindArgs d ⟨[a0,a1,a2,a3],[]⟩=pure (ps.zip [a0,a1,a2,a3]))(us:List Cn)(h:us.length=4):bindArgs d ⟨us,[]⟩=pure (ps.zip us):=K8 (λr=>bindArgs d ⟨r,[]⟩) (λr=>pure (ps.zip (r))) us h λa0 r h=>K8 (λr=>bindArgs d ⟨a0::r,[]⟩) (λr=>pure (ps.zip (a0::r))) r h λa1 r h=>K8 (λr=>bindArgs d ⟨a0::a1::r,[]⟩) (λr=>pure (ps.zip (a0::a1::r))) r h λa2 r h=>K8 (λr=>bindArgs d ⟨a0::a1::a2::r,[]⟩) (λr=>pure (ps.zip (a0::a1::a2::r))) r h λa3 r h=>len0 (λr=>bindArgs d ⟨a0::a1::a2::a3::r,[]⟩) (λr=>pure (ps.zip (a0::a1::a2::a3::r))) r h (c a0 a1 a2 a3)
def Ht(K:Frag)(x:Str)(st:dE):Prop:=∃(f:Ch) (oc:Cn) (od an:Option Ch) (sl:Array (Option Cn)) (kV dc pm cd ct:Cn),nsIn K mainGlobals x=some (some (.ref f))/\K.lookup f=some ⟨oc,od,.func (fnOf x x (CP st) (BX st) (AH st) .none kV dc pm an cd ct),sl⟩/\codeIn K cd x=true/\keepIn K (.ref f)=true
def Hn(K:Frag)(x:Str):Prop:=nsIn K mainGlobals x=some none
theorem Ht.mk{K:Frag}{x:Str}{st:dE}{f:Ch}{oc:Cn}{od an:Option Ch}{sl:Array (Option Cn)}{kV dc pm cd ct:Cn}(a:nsIn K mainGlobals x=some (some (.ref f)))(l:K.lookup f=some ⟨oc,od,.func (fnOf x x (CP st) (BX st) (AH st) .none kV dc pm an cd ct),sl⟩)(c:codeIn K cd x=true)(k:keepIn K (.ref f)=true):Ht K x st:=⟨f,oc,od,an,sl,kV,dc,pm,cd,ct,a,l,c,k⟩
theorem Hn.mk{K:Frag}{x:Str}(a:nsIn K mainGlobals x=some none):Hn K x:=a
section
variable {P:Program}{w:World}{K:Frag}{mg:Str->Option Value}{h base:Heap}{x:Str}{st:Stmt}
theorem Ht.fn(X:K.In h)(G:h.Ns mainGlobals mg)(H:Ht K x st):∃f fd,mg x=some (.ref f)/\Fun K x x st f fd:=by
 obtain⟨f,oc,od,an,sl,kV,dc,pm,cd,ct,a,l,c,k⟩:=H;exact⟨f,_,mg_of X G a,Mx (st:=st) l c k⟩
theorem Ht.got{k:Nat}{ps:List Str}{κ:Kd}{W:W2}(X:K.In h)(G:h.Ns mainGlobals mg)(H:Ht K x st)(hW:∀ss n P,W ss n P->ss.length=ps.length)
  (c:∀(kV doc pm:Cn) (an:Option Ch) (a ct:Cn) (us:List Cn),us.length=ps.length->bindArgs (fnOf x x (CP st) (BX st) (AH st) .none kV doc pm an a ct) ⟨us,[]⟩=pure (ps.zip us))
  (ok:∀{f:Ch} {fd:dU},Fun K x x st f fd->mg x=some (.ref f)->Binds K fd ps []->BD P w K mg base CL k f fd ps (Di K κ W ps.length)):Got P w K mg base x k ps κ W:=by
 obtain⟨f,fd,m,F⟩:=H.fn X G;have b:=F.binds c;exact QC F m b hW (ok F m b)
end
theorem xc_mk{K:Frag}{nm q q2:Str}{C U N N2:Ch}{bs c sub a:List Cn}{sn d:List Str}{ab e hd2:Bool}{col b:Option Bool}{dd f:Option Ch}{k0 k1 k2 k3 k5 l0 l1 l2 l3 l5:Option Cn}(at_:nsIn K mainGlobals nm=some (some (.ref C)))(atU:nsIn K mainGlobals "ThinError"=some (some (.ref U)))
  (o:K.lookup C=some (excClassObj nm q C N bs (.ref U::[.type "ValueError",.type "Exception",.type "BaseException",.type "object"]) true sn sub ab col dd k0 k1 k2 k3 k5 "ValueError.__new__"))
  (u:K.lookup U=some (excClassObj "ThinError" q2 U N2 c [.type "ValueError",.type "Exception",.type "BaseException",.type "object"] hd2 d a e b f l0 l1 l2 l3 l5 "ValueError.__new__"))
  (kp:keepIn K (.ref C)=true) (ga:PySem.W.findIn K (.ref C) "__getattribute__"=some (some (.builtin "BaseException.__getattribute__"))) (gt:PySem.W.findIn K (.ref C) "__getattr__"=some none) (sa:PySem.W.findIn K (.ref C) "__setattr__"=some (some (.builtin "object.__setattr__"))) (ca:PySem.W.findIn K (.ref C) "__class__"=some (some (.builtin "object.__class__")))
  (nw:PySem.W.findIn K (.ref C) "word"=some none) (nn:PySem.W.findIn K (.ref C) "number"=some none) (nr:PySem.W.findIn K (.ref C) "row"=some none):XC K nm C U :=
 ⟨⟨q,N,bs,sn,sub,ab,col,dd,k0,k1,k2,k3,k5,o⟩,⟨q2,N2,c,d,a,e,b,f,l0,l1,l2,l3,l5,hd2,u⟩,kp,ga,gt,sa,at_,atU,ca,nw,nn,nr⟩
def H0(K:Frag)(nm:Str):Prop:=∃C U,XC K nm C U/\PySem.W.findIn K (.ref C) "__init__"=some (some (.builtin "ValueError.__init__"))
def H2(K:Frag)(nm qual:Str)(st:dE):Prop:=∃C U,XC K nm C U/\∃(f:Ch) (oc:Cn) (od an:Option Ch) (sl:Array (Option Cn)) (kV dc pm cd ct:Cn),PySem.W.findIn K (.ref C) "__init__"=some (some (.ref f))/\PySem.W.typeIn K (.ref f)=some (.type "function")/\K.lookup f=some ⟨oc,od,.func (fnOf "__init__" qual (CP st) (BX st) (AH st) .none kV dc pm an cd ct),sl⟩/\codeIn K cd qual=true/\keepIn K (.ref f)=true
theorem H0.mk{K:Frag}{nm:Str}{C U:Ch}(c:XC K nm C U)(i:PySem.W.findIn K (.ref C) "__init__"=some (some (.builtin "ValueError.__init__"))):H0 K nm:=⟨C,U,c,i⟩
theorem H2.mk{K:Frag}{nm qual:Str}{st:dE}{C U f:Ch}{oc:Cn}{od an:Option Ch}{sl:Array (Option Cn)}{kV dc pm cd ct:Cn}(c:XC K nm C U)(i:PySem.W.findIn K (.ref C) "__init__"=some (some (.ref f)))(ty:PySem.W.typeIn K (.ref f)=some (.type "function"))
  (l:K.lookup f=some ⟨oc,od,.func (fnOf "__init__" qual (CP st) (BX st) (AH st) .none kV dc pm an cd ct),sl⟩) (cc:codeIn K cd qual=true) (k:keepIn K (.ref f)=true):H2 K nm qual st:=⟨C,U,c,f,oc,od,an,sl,kV,dc,pm,cd,ct,i,ty,l,cc,k⟩
section
variable {P:Program}{w:World}{K:Frag}{mg:Str->Option Value}{h base:Heap}{x:Str}{st:Stmt}
theorem H0.xm{nm:Str}(X:K.In h)(G:h.Ns mainGlobals mg)(H:H0 K nm):∃C U,XC K nm C U/\mg nm=some (.ref C):=let ⟨C,U,c,_⟩:=H; ⟨C,U,c,mg_of X G c.at_⟩
theorem H2.xm{nm qual:Str}(X:K.In h)(G:h.Ns mainGlobals mg)(H:H2 K nm qual st):∃C U,XC K nm C U/\mg nm=some (.ref C):=let ⟨C,U,c,_⟩:=H; ⟨C,U,c,mg_of X G c.at_⟩
theorem H2.u{nm qual:Str}(X:K.In h)(G:h.Ns mainGlobals mg)(H:H2 K nm qual st):∃U,ZO K U/\mg "ThinError"=some (.ref U)/\nsIn K mainGlobals "ThinError"=some (some (.ref U)):=let ⟨C,U,c,_⟩:=H; ⟨U,c.isU,mg_of X G c.atU,c.atU⟩
theorem H0.g{nm:Str}(X:K.In h)(G:h.Ns mainGlobals mg)(H:H0 K nm):Ij P w K mg base nm [] 1:=let ⟨C,U,c,i⟩:=H; ⟨C,U,c,mg_of X G c.at_,.inl ⟨rfl,i⟩⟩
theorem Ht.gotH{k:Nat}{ps:List Str}{κ:Kd}{W:W2}(X:K.In h)(G:h.Ns mainGlobals mg)(H:Ht K x st)(hW:∀ss n P,W ss n P->ss.length=ps.length)
  (b:∀(kV doc pm:Cn) (an:Option Ch) (a ct:Cn) (us:List Cn),us.length=ps.length->bindArgs (fnOf x x (CP st) (BX st) (AH st) .none kV doc pm an a ct) ⟨us,[]⟩=pure (ps.zip us))
  (ok:∀{f:Ch} {fd:dU},Fun K x x st f fd->L7 P w K mg base k f fd ps (Di K κ W ps.length)):ZC P w K mg base x k ps κ W:=by
 obtain⟨f,fd,m,F⟩:=H.fn X G;exact⟨f,fd,ok F,m,F.kp,F.binds b,hW⟩
theorem Ht.gotR{k:Nat}{ps:List Str}{κ:Kd}{W:WX}(X:K.In h)(G:h.Ns mainGlobals mg)(H:Ht K x st)(hW:∀ss n P Pr,W ss n P Pr->ss.length=ps.length)
  (b:∀(kV doc pm:Cn) (an:Option Ch) (a ct:Cn) (us:List Cn),us.length=ps.length->bindArgs (fnOf x x (CP st) (BX st) (AH st) .none kV doc pm an a ct) ⟨us,[]⟩=pure (ps.zip us))
  (ok:∀{f:Ch} {fd:dU},Fun K x x st f fd->BD P w K mg base (RX P w) k f fd ps (am K κ W ps.length)):ZA P w K mg base x k ps κ W:=by
 obtain⟨f,fd,m,F⟩:=H.fn X G;exact⟨f,fd,ok F,m,F.kp,F.binds b,hW⟩
end
theorem QB{P:cz}{w:dC}{K:Frag}{mg:Str->Option Cn}{h base:cw}(X:K.In h)(G:h.Ns mainGlobals mg)(H:H2 K "NoPaper" "NoPaper.__init__" B_):Ij P w K mg base "NoPaper" ["word","number"] 1:=by
 obtain⟨C,U,c,f,oc,od,an,sl,kV,dc,pm,cd,ct,i,ty,l,cc,k⟩:=H;have F:=Mx (st:=B_) l cc k;exact⟨C,U,c,mg_of X G c.at_,.inr ⟨_,_,f,_,_,_,_,rfl,i,ty,Ih c F,F.binds λ_ _ _ _ _ _=>bn λ_ _ _=>rfl⟩⟩
theorem Sd{P:cz}{w:dC}{K:Frag}{mg:Str->Option Cn}{h base:cw}(X:K.In h)(G:h.Ns mainGlobals mg)(H:H2 K "NoLine" "NoLine.__init__" CM):Ij P w K mg base "NoLine" ["row","word"] 1:=by
 obtain⟨C,U,c,f,oc,od,an,sl,kV,dc,pm,cd,ct,i,ty,l,cc,k⟩:=H;have F:=Mx (st:=CM) l cc k;exact⟨C,U,c,mg_of X G c.at_,.inr ⟨_,_,f,_,_,_,_,rfl,i,ty,Js c F,F.binds λ_ _ _ _ _ _=>bn λ_ _ _=>rfl⟩⟩
local macro_rules | `(tactic| walk_at "l")=>`(tactic| (intro _ _ _ h; repeat (first | (obtain⟨e,_⟩:=h; subst e; rfl) | (obtain⟨_,h⟩:=h))))
local macro_rules | `(tactic| walk_at "b")=>`(tactic| (intro _ _ _ _ _ _; first | exact cB λ_=>rfl | exact cX λ_ _=>rfl | exact bn λ_ _ _=>rfl | exact cW λ_ _ _ _=>rfl))
theorem all_mk{l:PySem.W.OpenLaw}{w:dC}{K:Frag}{h:cw}{mg:Str->Option Cn}{fa:Ch}(X:K.In h)(G:h.Ns mainGlobals mg)(d:mg "law"=some (.ref fa))
  (h0:Ht K "is_whole" GQ) (h1:Ht K "is_tuple_of" Dx) (h2:Ht K "is_rising" FJ) (h3:Ht K "rank_of" HR) (h4:Ht K "order_of" GO) (h5:Ht K "steps_of" GN) (h6:Ht K "is_tie_of" FI) (h7:Ht K "is_thin" HS) (h8:Ht K "left_out" GP) (h9:Ht K "length_of" FG) (i:Ht K "length_between" Ck) (j:Ht K "is_within" FH) (n:Ht K "way_fault" FE) (o:Ht K "lets_ways" FF) (p:Ht K "_law_feed" FL) (q:Ht K "_law_next" Dl) (r:Ht K "_law_whole" Ei) (t:Ht K "_law_places" Dz) (x:Ht K "_law_length" D0) (y:Ht K "_law_net" GS) (z:Ht K "_law_times" Ej) (A:Ht K "_law_in_order" C4) (B:Ht K "_law_least" Ek) (C:Ht K "_law_thinned" DF) (D:Ht K "_law_odd" GR) (E:Ht K "_law_bent" FN) (H:Ht K "_law_is_name" DM) (I:Ht K "_law_is_tie" D1) (J:Ht K "_law_rise" FK) (L:Ht K "_law_is_net" D4) (M:Ht K "_law_is_thin" DL) (N:Ht K "_law_walked" Dy) (O:Ht K "_law_ways_due" C3) (Q:Ht K "_law_some_thin" Cm) (R:Ht K "_law_refusal" DJ) (S:Ht K "_law_own_way" DK) (U:Ht K "_law_asked" El) (V:Ht K "_law_paper_bent" CY) (Y:Ht K "law" Jb)
  (z0:Hn K "ValueError") (z1:Hn K "all") (z2:Hn K "bool") (z3:Hn K "enumerate") (z4:Hn K "int") (z5:Hn K "isinstance") (z6:Hn K "len") (z7:Hn K "list") (z8:Hn K "range") (z9:Hn K "repr") (Z:Hn K "sorted") (a0:Hn K "str") (a1:Hn K "tuple") (a2:Hn K "zip") 
  (y0:H2 K "NoPaper" "NoPaper.__init__" B_) (y1:H2 K "NoLine" "NoLine.__init__" CM) (y2:H0 K "TooMany") (y3:H0 K "Twice") (y4:H0 K "NoPlace") (y5:H0 K "NoTie") (y6:H0 K "NoRow")
  : ∃fd:dU,(∀(s:FM) (v:Cn),iX s fd ⟨[v],[]⟩ [("_law_script",v)])/\∀base:cw,K.In base->base.Ns mainGlobals mg->BD l.prog w K mg base CL 9 fa fd ["_law_script"] (Nn K):=by
 have T:Txt K mg:=⟨mg_none_of X G z0,mg_none_of X G z1,mg_none_of X G z2,mg_none_of X G z3,mg_none_of X G z4,mg_none_of X G z5,mg_none_of X G z6,mg_none_of X G z7,mg_none_of X G z8,mg_none_of X G z9,mg_none_of X G Z,mg_none_of X G a0,mg_none_of X G a1,mg_none_of X G a2,y0.xm X G,y1.xm X G,y2.xm X G,y3.xm X G,y4.xm X G,y5.xm X G,y6.xm X G,y0.u X G⟩;obtain⟨ff,a3,mf,Ff⟩:=p.fn X G;have bf:=Ff.binds (ps:=["_law_script"]) λ_ _ _ _ _ _=>cB λ_=>rfl;obtain⟨f,oc,od,an,sl,kV,dc,pm,cd,ct,a,l',c,k⟩:=Y;have e:=d.symm.trans (mg_of X G a);cases e;refine⟨fnOf "law" "law" (CP Jb) (BX Jb) (AH Jb) .none kV dc pm an cd ct,λs v=>.of_eq rfl,λbase _ _=>?_⟩;have GX_NoPaper:Ij l.prog w K mg base "NoPaper" ["word","number"] 1:=QB X G y0;have GX_NoLine:Ij l.prog w K mg base "NoLine" ["row","word"] 1:=Sd X G y1;have GX_TooMany:Ij l.prog w K mg base "TooMany" [] 1:=y2.g X G;have GX_Twice:Ij l.prog w K mg base "Twice" [] 1:=y3.g X G;have GX_NoPlace:Ij l.prog w K mg base "NoPlace" [] 1:=y4.g X G;have GX_NoTie:Ij l.prog w K mg base "NoTie" [] 1:=y5.g X G;have GX_NoRow:Ij l.prog w K mg base "NoRow" [] 1:=y6.g X G;have j4:Kl l.prog w K mg base:=h0.got X G (λ_ _ _ h=>HY h) (by walk_at "b") λF m b=>OD T   F;have j7:ED l.prog w K mg base:=h1.got X G (by walk_at "l") (by walk_at "b") λF m b=>Jm T   F;have j5:IQ l.prog w K mg base:=h2.got X G (by walk_at "l") (by walk_at "b") λF m b=>Mi T   F;have j2:L1 l.prog w K mg base:=h3.got X G (by walk_at "l") (by walk_at "b") λF m b=>Px T   F;have j8:Kj l.prog w K mg base:=h4.got X G (by walk_at "l") (by walk_at "b") λF m b=>OB T j2  F;have j_:Ki l.prog w K mg base:=h5.got X G (by walk_at "l") (by walk_at "b") λF m b=>OA F;have j6:IP l.prog w K mg base:=h6.got X G (by walk_at "l") (by walk_at "b") λF m b=>Mh T j4  F;have kI:L3 l.prog w K mg base:=h7.got X G (by walk_at "l") (by walk_at "b") λF m b=>Py T j5 j6 j7  F;have kJ:Kk l.prog w K mg base:=h8.got X G (by walk_at "l") (by walk_at "b") λF m b=>OC T j8  F;have kC:IM l.prog w K mg base:=h9.got X G (by walk_at "l") (by walk_at "b") λF m b=>Mf T j_  F;have kG:Ec l.prog w K mg base:=i.got X G (by walk_at "l") (by walk_at "b") λF m b=>Gy T kC  F;have kF:IN l.prog w K mg base:=j.got X G (by walk_at "l") (by walk_at "b") λF m b=>Mg T   F;have kL:IK l.prog w K mg base:=n.got X G (by walk_at "l") (by walk_at "b") λF m b=>Md T kF kG  F;have GR_lets_ways:IL l.prog w K mg base:=o.gotR X G (λ_ _ _ _ h=>by obtain⟨_,_,_,_,_,e,_⟩:=h; rw [e]; rfl) (by walk_at "b") λF=>Me T kI j7 kJ kL GX_NoPaper F;have Gf:=Ml (P:=l.prog) (w:=w) (base:=base) T Ff;have kN:Bc l.prog w K mg base:=q.got X G (by walk_at "l") (by walk_at "b") λF m b=>Vz F T.Gac;have kg:HC l.prog w K mg base:=r.got X G (by walk_at "l") (by walk_at "b") λF m b=>Kz T   F;have kQ:GG l.prog w K mg base:=t.got X G (by walk_at "l") (by walk_at "b") λF m b=>Jo T kN  F;have kP:GH l.prog w K mg base:=x.got X G (by walk_at "l") (by walk_at "b") λF m b=>Jp T kN  F;have lB:Ko l.prog w K mg base:=y.got X G (by walk_at "l") (by walk_at "b") λF m b=>OF T kP kN kQ  F;have lF:HD l.prog w K mg base:=z.got X G (by walk_at "l") (by walk_at "b") λF m b=>K0 T kN  F;have kW:CQ l.prog w K mg base:=A.got X G (by walk_at "l") (by walk_at "b") λF m b=>Hb T   F;have kX:Et l.prog w K mg base:=B.got X G (by walk_at "l") (by walk_at "b") λF m b=>K3 T   F;have ky:Fk l.prog w K mg base:=C.got X G (by walk_at "l") (by walk_at "b") λF m b=>IZ T kW kX  F;have kc:Km l.prog w K mg base:=D.got X G (by walk_at "l") (by walk_at "b") λF m b=>OE T kN  F;have kd:Fp l.prog w K mg base:=E.got X G (by walk_at "l") (by walk_at "b") λF m b=>G0 T kN kc F m b 4;have ke:Df l.prog w K mg base:=H.got X G (λ_ _ _ h=>HY h) (by walk_at "b") λF m b=>Ig T   F;have kh:GI l.prog w K mg base:=I.got X G (by walk_at "l") (by walk_at "b") λF m b=>Jq T ke kg  F;have ki:IR l.prog w K mg base:=J.got X G (by walk_at "l") (by walk_at "b") λF m b=>Mj T   F;have km:GJ l.prog w K mg base:=L.got X G (λ_ _ _ h=>HY h) (by walk_at "b") λF m b=>Jr T ke kh ki  F;have kr:Fo l.prog w K mg base:=M.got X G (by walk_at "l") (by walk_at "b") λF m b=>Ie T km  F;have ku:EG l.prog w K mg base:=N.got X G (by walk_at "l") (by walk_at "b") λF m b=>Jn T   F;have k8:E4 l.prog w K mg base:=O.got X G (by walk_at "l") (by walk_at "b") λF m b=>HZ T kW kr ku  F;have lE:Ee l.prog w K mg base:=Q.got X G (by walk_at "l") (by walk_at "b") λF m b=>Gz T kN ky  F;have k7:Fl l.prog w K mg base:=R.gotH X G (by walk_at "l") (by walk_at "b") λF=>Ib T   F;have lC:Fn l.prog w K mg base:=S.got X G (by walk_at "l") (by walk_at "b") λF m b=>Ic T kX ku  F;have lA:HE l.prog w K mg base:=U.got X G (by walk_at "l") (by walk_at "b") λF m b=>K4 T k7 k8 GR_lets_ways  F;have lD:Dw l.prog w K mg base:=V.got X G (by walk_at "l") (by walk_at "b") λF m b=>GW T kd kN  F;exact YQ T Gf mf Ff.kp bf lA kd kW lB kN lC lD lE lF (Mx (st:=Jb) l' c k)
theorem walk{l:PySem.W.OpenLaw}{q:cz}{loose:List Str}{XP:(Str->Option Cn)->cw->Prop}{YP:dC->cw->Prop}{d:DefRec}{K:Params->Frag}(hn:l.most=some 63)(b:d.params.defaults=[])
  (hY:∀(w:dC) (h:cw),YP w h->(K w.params).In h)
  (F:∀(w:dC) (mg:Str->Option Cn) (fa:Ch) (h:cw),(K w.params).In h->h.Ns mainGlobals mg->mg d.name=some (.ref fa) ->
   ∃fd:dU,(∀(s:FM) (u:Cn),iX s fd ⟨[u],[]⟩ [("_law_script",u)])/\∀base:cw,(K w.params).In base->base.Ns mainGlobals mg->BD l.prog w (K w.params) mg base CL 9 fa fd ["_law_script"] (Nn (K w.params))) :
  PySem.W.WalkO q loose XP YP l.row.toRowW d [] (λf vs=>PySem.call f vs) :=
 L2.QS (n:=63) (k:=9) (x := "_law_script") (CX:=λ_=>CL) (sp:=λw=>Nn (K w.params)) hn (by decide) b ⟨rfl,by decide,by decide,rfl⟩ hY F (λ_ _ a ns c _ hS=>⟨a,ns,rfl,⟨c,hS⟩,λ_=>rfl⟩) λ_ _ _ _ _ z=>z
end K14
end _p
namespace PySem.W.Fast
theorem tw4231753100146204136:True:=⟨⟩
theorem tw11027855337460458591:True:=⟨⟩
theorem tw6753096401212991360:True:=⟨⟩
theorem tw265300609754517369:True:=⟨⟩
theorem tw6177657577556961422:True:=⟨⟩
theorem tw15154331589473716226:True:=⟨⟩
theorem tw6170852287392513767:True:=⟨⟩
theorem tw3056582209037262463:True:=⟨⟩
theorem tw9839649929579020736:True:=⟨⟩
theorem tw5154801705660338491:True:=⟨⟩
theorem tw1311594562579065026:True:=⟨⟩
theorem tw12732406508782138509:True:=⟨⟩
theorem tw5338331070489429912:True:=⟨⟩
theorem tw12027329136132054428:True:=⟨⟩
theorem tw11117708805149995110:True:=⟨⟩
theorem tw11554188197036679956:True:=⟨⟩
theorem tw616731747926742892:True:=⟨⟩
theorem tw1968023929686470379:True:=⟨⟩
theorem tw15176164609458934343:True:=⟨⟩
theorem tw16262267348310684747:True:=⟨⟩
theorem tw11612743433834823246:True:=⟨⟩
theorem tw8904845710594094475:True:=⟨⟩
theorem tw12619420585013953634:True:=⟨⟩
theorem tw3112003496526516291:True:=⟨⟩
theorem tw10966982587091935691:True:=⟨⟩
theorem tw16228948685602489134:True:=⟨⟩
theorem tw7640822036224888243:True:=⟨⟩
theorem tw2869595660739267169:True:=⟨⟩
end PySem.W.Fast
open _p
open PySem.W
set_option maxRecDepth 100000 in
set_option maxHeartbeats 0 in
theorem PySem.Challenge.cw_thinnet_k14_papers_of_ways_bent_holds : PySem.Challenge.rw_thinnet_k14_papers_of_ways_bent.Holds := by
 w_on; o_law; k_head; (case hw=>w_witness2)
 k_fill
 refine K14.walk (l:=PySem.Challenge.rw_thinnet_k14_papers_of_ways_bent) rfl rfl (λw h Y=>PySem.W.kIn_of Y) ?F
 case F =>
  intro w mg fa h KX G hmg
  refine' K14.all_mk KX G hmg ?_ ?_ ?_ ?_ ?_ ?_ ?_ ?_ ?_ ?_ ?_ ?_ ?_ ?_ ?_ ?_ ?_ ?_ ?_ ?_ ?_ ?_ ?_ ?_ ?_ ?_ ?_ ?_ ?_ ?_ ?_ ?_ ?_ ?_ ?_ ?_ ?_ ?_ ?_ ?_ ?_ ?_ ?_ ?_ ?_ ?_ ?_ ?_ ?_ ?_ ?_ ?_ ?_ ?_ ?_ ?_ ?_ ?_ ?_ ?_
  all_goals first
   | (refine' K14.Ht.mk ?a ?l ?c ?k; (case a=>k_is); (case l=>k_is); (case c=>k_is); (case k=>k_is))
   | (refine' K14.Hi.mk ?a; (case a=>k_is))
   | (refine' K14.Hn.mk ?a; (case a=>k_is))
   | skip
  ·(refine' K14.H2.mk ?c ?i ?ty ?l ?cc ?k; (case c=>(refine' K14.xc_mk ?at_ ?atU ?o ?u ?kp ?ga ?gt ?sa ?ca ?nw ?nn ?nr; (case at_=>k_is); (case atU=>k_is); (case o=>k_is); (case u=>k_is); (case kp=>k_is); (case ga=>k_is); (case gt=>k_is); (case sa=>k_is); (case ca=>k_is); (case nw=>k_is); (case nn=>k_is); (case nr=>k_is))); (case i=>k_is); (case ty=>k_is); (case l=>k_is); (case cc=>k_is); (case k=>k_is))
  ·(refine' K14.H2.mk ?c ?i ?ty ?l ?cc ?k; (case c=>(refine' K14.xc_mk ?at_ ?atU ?o ?u ?kp ?ga ?gt ?sa ?ca ?nw ?nn ?nr; (case at_=>k_is); (case atU=>k_is); (case o=>k_is); (case u=>k_is); (case kp=>k_is); (case ga=>k_is); (case gt=>k_is); (case sa=>k_is); (case ca=>k_is); (case nw=>k_is); (case nn=>k_is); (case nr=>k_is))); (case i=>k_is); (case ty=>k_is); (case l=>k_is); (case cc=>k_is); (case k=>k_is))
  ·(refine' K14.H0.mk ?c ?i; (case c=>(refine' K14.xc_mk ?at_ ?atU ?o ?u ?kp ?ga ?gt ?sa ?ca ?nw ?nn ?nr; (case at_=>k_is); (case atU=>k_is); (case o=>k_is); (case u=>k_is); (case kp=>k_is); (case ga=>k_is); (case gt=>k_is); (case sa=>k_is); (case ca=>k_is); (case nw=>k_is); (case nn=>k_is); (case nr=>k_is))); (case i=>k_is))
  ·(refine' K14.H0.mk ?c ?i; (case c=>(refine' K14.xc_mk ?at_ ?atU ?o ?u ?kp ?ga ?gt ?sa ?ca ?nw ?nn ?nr; (case at_=>k_is); (case atU=>k_is); (case o=>k_is); (case u=>k_is); (case kp=>k_is); (case ga=>k_is); (case gt=>k_is); (case sa=>k_is); (case ca=>k_is); (case nw=>k_is); (case nn=>k_is); (case nr=>k_is))); (case i=>k_is))
  ·(refine' K14.H0.mk ?c ?i; (case c=>(refine' K14.xc_mk ?at_ ?atU ?o ?u ?kp ?ga ?gt ?sa ?ca ?nw ?nn ?nr; (case at_=>k_is); (case atU=>k_is); (case o=>k_is); (case u=>k_is); (case kp=>k_is); (case ga=>k_is); (case gt=>k_is); (case sa=>k_is); (case ca=>k_is); (case nw=>k_is); (case nn=>k_is); (case nr=>k_is))); (case i=>k_is))
  ·(refine' K14.H0.mk ?c ?i; (case c=>(refine' K14.xc_mk ?at_ ?atU ?o ?u ?kp ?ga ?gt ?sa ?ca ?nw ?nn ?nr; (case at_=>k_is); (case atU=>k_is); (case o=>k_is); (case u=>k_is); (case kp=>k_is); (case ga=>k_is); (case gt=>k_is); (case sa=>k_is); (case ca=>k_is); (case nw=>k_is); (case nn=>k_is); (case nr=>k_is))); (case i=>k_is))
  ·(refine' K14.H0.mk ?c ?i; (case c=>(refine' K14.xc_mk ?at_ ?atU ?o ?u ?kp ?ga ?gt ?sa ?ca ?nw ?nn ?nr; (case at_=>k_is); (case atU=>k_is); (case o=>k_is); (case u=>k_is); (case kp=>k_is); (case ga=>k_is); (case gt=>k_is); (case sa=>k_is); (case ca=>k_is); (case nw=>k_is); (case nn=>k_is); (case nr=>k_is))); (case i=>k_is))
#print axioms PySem.Challenge.cw_thinnet_k14_papers_of_ways_bent_holds
